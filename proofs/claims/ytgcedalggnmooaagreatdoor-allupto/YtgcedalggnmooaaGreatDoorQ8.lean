import Derived.Test.YtgcedalggnmooaaGreatDoorQ1X
set_option linter.all false
set_option maxRecDepth 100000
set_option maxHeartbeats 6400000
namespace Go.Proofs.YtgcedalggnmooaaGreatDoor
open Go.RowKit
def UW(rj:List (Nat×Nat))(w:World)(R:Nat)(v:Value)(td:Nat)(rec:ByteArray)(fs:List Value)(ls:List L)(os:List O)(ro:Ro)(gn cap id gd count gate way:Nat):Prop:=RV os rj ro w R v td rec fs ls->Good os ls->NS w gn [id,gd,count,gate,way]->id<=2147483647->gd<=2147483647->count<=2147483647->gate<=2147483647->way<=3->os.any (λo=>o.id==id)=false->¬10<=os.length->¬(aU (zn rj td gd count gate way ls)=0\/(aU (zn rj td gd count gate way ls)<count/\Eg way=true)) ->
 Calls Tryz.prog 69 #[.pointer (some ⟨R,0,none⟩),.slice (some ⟨gn,0,none⟩) 5 cap] w λe w'=>Kp (λb=>b=R\/v.ownBlock=some b\/ro.ov.ownBlock=some b) w w'/\(∃ro',RV (os++[⟨id,gd,zr ls (zn rj td gd count gate way ls)⟩]) rj ro' w' R v td rec fs (Zv ls (zn rj td gd count gate way ls))/\∀b,OB ro' b->OB ro b\/w.heap.size<=b)/\∃g c,e=.returned (.tuple #[.slice (some ⟨g,0,none⟩) (zA ls (zn rj td gd count gate way ls)).length c,.int .i64 0])/\Rw w' g (zA ls (zn rj td gd count gate way ls))
def viQ{G:Prop}(h:G:=by
 unfold UW;intro h b5 hn h1 h2 h3 h4 h5 a9 k8 c8;obtain⟨i3,l6,n8,n9,o0⟩:=XT SS;obtain⟨io,l7,m5,m6,b8⟩:=XT JB;have n0:w.cell? ⟨gn,0,none⟩=some (.int .i64 id):=hn.2 0 (by simp);have n1:w.cell? ⟨gn,1,none⟩=some (.int .i64 gd):=hn.2 1 (by simp);have n2:w.cell? ⟨gn,2,none⟩=some (.int .i64 count):=hn.2 2 (by simp);have n3:w.cell? ⟨gn,3,none⟩=some (.int .i64 gate):=hn.2 3 (by simp);have n4:w.cell? ⟨gn,4,none⟩=some (.int .i64 way):=hn.2 4 (by simp);obtain⟨cs,f7⟩:=hn.1;have a3:=zc f7;have HO:=zb (cX h b5.olen b5.oid id h1);obtain⟨oa,c9,f9,_⟩:=h.ord.shape;have c2:=h.c2;rw[f9]at c2;have hx:¬Wy id os<os.length:=λq=>by rw[fZ.1 q]at a9;cases a9
 have HV:Ha (bE os id=-1):=by unfold Ha bE;rw[xg hx]
 rw[HV.o]at HO;have HL:=zb (uM (h.below (aA w)) b5 gd count gate way h2 h3 h4 h5);have HF:=zb (aT (rj:=rj) td gd count gate way ls h.room);have g3:aU (zn rj td gd count gate way ls)<=2147483647:=xj HF.2.2.2.2 h3;have h7:=Sp h5;have e3:os.length<10:=by omega
 have j7:=zb f7;have HP:=zb h;have g7:=zb b5.ids;have d0:=zb f9;have g1:=h.room;have M:0<(zn rj td gd count gate way ls).length:=by
  cases hq:zn rj td gd count gate way ls with
  |nil=>rw[hq]at c8;exact absurd (Or.inl rfl) c8
  |cons p r=>simp
 have K:0<ls.length:=by
  cases hq:zn rj td gd count gate way ls with
  |nil=>rw[hq]at M;simp at M
  |cons p r=>have:=HF.2.2.1 p (by rw[hq];simp);omega
 obtain⟨va,o2,hv,j6⟩:=h.shape;obtain⟨G,hG,d3,_⟩:=j6 K;subst hG;have a7:=zb hv;have D:=h.row;rw[hv]at D;obtain⟨k7,A⟩:=zh D rfl;have o4:=zb A;obtain⟨on,a6⟩:=Ww os.length;rw[<-a6.o]at c2 e3;have Q:¬(aU (zn rj td gd count gate way ls)<count)\/Eg way=false:=by
  by_cases hl:aU (zn rj td gd count gate way ls)<count
  ·right;cases hw:Eg way with
   |false=>rfl
   |true=>exact absurd (Or.inr ⟨hl,hw⟩) c8
  exact Or.inl hl
 have g5:((aU (zn rj td gd count gate way ls):Int)==0)=false:=by
  rw[xr];intro e;exact c8 (Or.inl (Int.natCast_eq_zero.1 e))
 generalize zn rj td gd count gate way ls=q at *;obtain⟨sq,k5⟩:=Ww (aU q);rw[<-k5.o]at g3 Q g5 HL hl;clear h b5 hn a9 f9 hx f7 HV k8 c8 hv j6 D A;go_enter Tryz.func69,Tryz.ntmps69;go_wp2_with (go_at_call 114;with_reducible refine(HO.o).mono ?_;rintro e w1 ⟨rfl,m9⟩;have n5:=m9.symm;subst n5);go_region_held3 (λw'=>w'.cell? ⟨gn,1,none⟩=some (.int .i64 gd)/\w'.cell? ⟨gn,2,none⟩=some (.int .i64 count)/\w'.cell? ⟨gn,3,none⟩=some (.int .i64 gate)/\w'.cell? ⟨gn,4,none⟩=some (.int .i64 way)) (go_keep)
  (first
   |(go_at_call 115;refine HL.mono ?_;rintro e w2 ⟨a2,lv,rfl,b8⟩;have m1:=(a2.cell (p:=⟨gn,1,none⟩) (by exact a3)).trans n1;have m2:=(a2.cell (p:=⟨gn,2,none⟩) (by exact a3)).trans n2;have m3:=(a2.cell (p:=⟨gn,3,none⟩) (by exact a3)).trans n3;have m4:=(a2.cell (p:=⟨gn,4,none⟩) (by exact a3)).trans n4))
 obtain⟨la,m,l9⟩:=zj b8;subst l9;have E:Below w.heap.size w w2:=(aA w).trans (a2.mono (aA w).size);have d1:Ha (TX w os rj ro R v td rec fs ls q (.slice la q.length m) (w2.alloc (.cells #[.int .i64 q.length] 3)) 0 (.slice (some ⟨w2.heap.size,0,none⟩) 1 1)):=by
  refine⟨?_,?_,?_,Wo (E.alloc E.size _),(E.alloc E.size _).size⟩
  ·exact HP.below (E.alloc E.size _)
  ·exact(zF b8 (xe _)).alloc _
  exact Yb w2 #[.int .i64 q.length] 1 E.size (by unfold maxLen;omega) rfl
 have o3:=zb E;clear b8 a2 E m1 m3 n2 n3 n4 HL HO
 first
 |(have i2:(bits .and .i64 (way:Int) 1==1)=false:=by rw[h7];exact Q.resolve_left (by omega))
 |skip
 clear Q h7;go_wp2_with fail;go_loopw [9,10,11] (λoo ii _ wr=>∃(k g c:Nat),ii=.int .i64 k/\k<=q.length/\oo=.slice (some ⟨g,0,none⟩) (1+k*2) c/\TX w os rj ro R v td rec fs ls q (.slice la q.length m) wr k (.slice (some ⟨g,0,none⟩) (1+k*2) c)) (λ_ ii _ _=>q.length-(intOf ii).toNat)
 case atStart=>exact⟨0,w2.heap.size,1,rfl,by omega,rfl,d1⟩
 clear d1 m2 m4;obtain⟨k,g,oc,rfl,hk,rfl,N⟩:=hrel;by_cases a4:k<q.length
 ·have g0:q.getD k (0,0)∈q:=by simp[Wc,a4]
  have et:q.take (k+1)=q.take k++[q.getD k (0,0)]:=by
   rw[xn a4];simp[Wc,a4]
  have hc:=HF.2.2.1 _ g0;have j1:=HF.2.2.2.1 _ g0;have T:(q.getD k (0,0)).1 ∉ (q.take k).map Prod.fst:=by
   have:=HF.2.1
   have e2:q.map Prod.fst=((q.take k).map Prod.fst++[(q.getD k (0,0)).1])++(q.drop (k+1)).map Prod.fst:=by
    conv=>lhs;rw[<-yu (k+1) q,et]
    simp
   rw[e2]at this;have:=(XP.1 (XP.1 this).1).2.2;intro hm;exact this _ hm _ (by simp) rfl
  have b6:(zr ls q).length=q.length:=by simp[zr]
  have i9:(zr ls q).getD k (0,0)=((ls.getD (q.getD k (0,0)).1 L0).id,(q.getD k (0,0)).2):=by simp[zr,Wc,a4]
  have C:=N.row;rw[<-b6]at C;obtain⟨Z,a0,d4,p1,p2⟩:=eU C k (by rw[b6];exact a4);rw[i9]at p1 p2;generalize m7:q.getD k (0,0)=p at *;obtain⟨c,n⟩:=p;simp only at *;subst a0;have B:=dX (q.take k) ls;have l:=fU (q.take k) ls T;have z:=N.rv;have a5:=z.ok _ (zf (k:=c) (by rw[B];exact hc));rw[l]at a5;have d8:Wj (ls.getD c L0).id (Zv ls (q.take k))=c:=by
   have:=oD (ls:=Zv ls (q.take k)) (λi j h1 h2 he=>g7 i j (by rw[<-B];exact h1) (by rw[<-B];exact h2) (by rw[cN,cN]at he;exact he)) (c:=c) (by rw[B];exact hc)
   rw[cN]at this;exact this
  have g6:=zb (cF z (ls.getD c L0).id a5.id);have d5:VF (Zv ls (q.take k)) (ls.getD c L0).id=(c:Int):=by unfold VF;rw[d8,xh (by rw[B];exact hc)]
  rw[d5]at g6;obtain⟨o9,o1,g4,J⟩:=z.shape;rw[B]at g4 J;have j5:=a7.symm.trans g4
  cases j5;obtain⟨G',k9,f1,f4⟩:=J (by omega)
  cases k9;have cR:=z.c1
  rw[a7.o]at cR;have e5:wr.cell? ⟨G,c*11+5,none⟩=some (.int .i64 ((ls.getD c L0).free:Int)):=by rw[f4 c hc 5 (by omega),l];rfl
  have e6:wr.cell? ⟨G,c*11+6,none⟩=some (.int .i64 ((ls.getD c L0).hd:Int)):=by rw[f4 c hc 6 (by omega),l];rfl
  have D:=z.row;rw[B,a7.o]at D;obtain⟨k7,A⟩:=zh D rfl;have f5:=ze A (c*11+5);have f6:=ze A (c*11+6);have l0:¬R=G:=zt z.store A (by decide);obtain⟨o8,b2⟩:=zh C rfl;have a0:¬Z=G:=zt b2 A (by decide);have h9:¬G=Z:=λe=>a0 e.symm
  have d7:(Value.slice (some ⟨g,0,none⟩) (1+k*2) oc).ownBlock≠some G:=eA N.owt A (by decide);have e0:(Value.slice (some ⟨Z,0,none⟩) q.length m).ownBlock≠some G:=eA N.row A (by decide);have j3:=a5.sum;have c7:=z.two (i:=c) (l':=qM (ls.getD c L0) n) (by rw[a7.o,B]) (by rw[B];exact hc) (EK a5 j1) (by rw[l];rfl) (by rw[l];rfl) (((ls.getD c L0).free:Int)-(n:Int)) (((ls.getD c L0).hd:Int)+(n:Int)) 5 6 (by omega) (by omega) (λf=>by
   rw[l];have x1:(((ls.getD c L0).free:Int)-(n:Int))=(((ls.getD c L0).free-n:Nat):Int):=by omega
   rw[x1];rfl)
  have j0:Zv ls (q.take (k+1))=(Zv ls (q.take k)).set c (qM (ls.getD c L0) n):=by rw[et,lH,l]
  rw[<-j0]at c7;have c6:=Ky (G:=G) (i:=c) (j:=5) (k:=6) (x:=((ls.getD c L0).free:Int)-(n:Int)) (y:=((ls.getD c L0).hd:Int)+(n:Int)) N.row e0;have b9:=Ky (G:=G) (i:=c) (j:=5) (k:=6) (x:=((ls.getD c L0).free:Int)-(n:Int)) (y:=((ls.getD c L0).hd:Int)+(n:Int)) N.owt d7;have d9:Kp (λb=>v.ownBlock=some b) w (Cj wr G c 5 6 (((ls.getD c L0).free:Int)-(n:Int)) (((ls.getD c L0).hd:Int)+(n:Int))):=N.kp.trans (Ee (Or.inl (by rw[a7.o];rfl)));have j8:Ha (aF ls (q.take (k+1))=aF ls (q.take k)++[(ls.getD c L0).id,n]):=by unfold Ha;rw[et,mC]
  have i8:=a5.id;have l2:(ls.getD c L0).free<=2147483647:=by omega
  have l5:(ls.getD c L0).hd+n<=2147483647:=by omega
  have k2:=zb c7;have h0:=zb c6;have f0:=zb b9;have k0:=zb d9;have e7:=N.sz;have s1:(Cj wr G c 5 6 (((ls.getD c L0).free:Int)-(n:Int)) (((ls.getD c L0).hd:Int)+(n:Int))).cell? ⟨Z,k*2,none⟩=some (.int .i64 ((ls.getD c L0).id:Int)):=(xo (a:=⟨Z,k*2,none⟩) (mE a0)).trans p1;have s2:(Cj wr G c 5 6 (((ls.getD c L0).free:Int)-(n:Int)) (((ls.getD c L0).hd:Int)+(n:Int))).cell? ⟨Z,k*2+1,none⟩=some (.int .i64 n):=(xo (a:=⟨Z,k*2+1,none⟩) (mE a0)).trans p2;generalize i5:(ls.getD c L0).free=fr at *;generalize i7:(ls.getD c L0).hd=hd at *;generalize f8:(ls.getD c L0).id=S at *;have l8:c<ls.length:=hc;have l4:(Value.slice (some ⟨g,0,none⟩) (1+k*2) oc).ownBlock≠some Z:=eA N.owt b2 (by decide);clear i5 i7 f8 g0 et T b6 i9 C m7 B l z a5 d8 d5 g4 J f4 D A b2 d7 e0 j3 c7 j0 c6 b9 d9 N hc;clear h1 h2 h3 h4 h5 g3 e3 g5 hl M K d3 n0 n1 c2 a3 j1 f1;try clear i2
  go_wp2_with (go_at_call 111;with_reducible refine(g6.o).mono ?_;rintro e w3 ⟨rfl,n6⟩;have n7:=n6.symm;subst n7)
  go_region
  go_wp2_with fail;go_region
  go_wp2_with fail;have b3:((wr.setCell ⟨G,c*11+5,none⟩ (.int .i64 ((fr:Int)-(n:Int)))).setCell ⟨G,c*11+6,none⟩ (.int .i64 ((hd:Int)+(n:Int)))).drew.drew=Cj wr G c 5 6 ((fr:Int)-(n:Int)) ((hd:Int)+(n:Int)):=rfl
  rw[b3];clear b3 e5 e6 f5 f6 p1 p2 cR;have f2:Z<(Cj wr G c 5 6 ((fr:Int)-(n:Int)) ((hd:Int)+(n:Int))).heap.size:=by rw[Ck];exact d4
  have j4:w.heap.size<=(Cj wr G c 5 6 ((fr:Int)-(n:Int)) ((hd:Int)+(n:Int))).heap.size:=by rw[Ck];exact e7
  generalize Cj wr G c 5 6 ((fr:Int)-(n:Int)) ((hd:Int)+(n:Int))=wt at *;have H:Below wt.heap.size wt (wt.alloc (.cells #[.int .i64 S,.int .i64 n] 3)).drew:=(VE wt _).drew;have b0:(wt.alloc (.cells #[.int .i64 S,.int .i64 n] 3)).drew.heap[wt.heap.size]?=some (.cells #[.int .i64 S,.int .i64 n] 3 (0,0)):=xp wt _;have P:∀u∈([.int .i64 S,.int .i64 n]:List Value),u.oneCell'=true:=by
   intro u hu;simp at hu;rcases hu with rfl|rfl<;>rfl
  have c5:=zg f0 H;have X:=zb H;have m8:q.length<=30:=HF.1;have f3:Z<wt.heap.size:=f2;have o5:=zb f3;clear l0 a0 h9 i8 l2 l5 l8 g1 e7 d4;go_region_held3 (λw'=>w'.cell? ⟨Z,k*2,none⟩=some (.int .i64 S)/\w'.cell? ⟨Z,k*2+1,none⟩=some (.int .i64 n))
   (first
    |go_keep
    |(go_split_ands;refine⟨?_,?_⟩<;>(rw[d.cell_far _ (by simp;omega) (Yl l4)];assumption)))
   ((refine YG _ (by rfl) _ _ _ (by rfl) w.heap.size 3 i3 (.int .i64 0) 1 8 Pv l6 n8 n9 o0 rfl (by decide) (.slice (some ⟨g,0,none⟩) (1+k*2) oc) (1+k*2) (I (q.length::aF ls (q.take k))) (by rfl) c5 ⟨wt.heap.size,0,none⟩ 2 2 [.int .i64 S,.int .i64 n] (by rfl) (by rfl) (yr b0) P (by decide) (by unfold maxLen;omega) (by omega) (by simp;omega) (wt.heap.size+1) (by simp) ?_;intro g2 cap2 w5 s d a1 b7))
  all_goals
   have e1:I (q.length::aF ls (q.take k))++[.int .i64 S,.int .i64 n]=I (q.length::aF ls (q.take (k+1))):=by rw[j8.o];simp[I]
   rw[e1]at s;have i0:∀b,b<wt.heap.size->(Value.slice (some ⟨g,0,none⟩) (1+k*2) oc).ownBlock≠some b->w5.heap[b]?=wt.heap[b]?:=λb hb m0=>(d.block b (xl hb X.size) (λe=>m0 e.symm)).trans (X.block b hb)
   have i6:∀b,(Value.slice (some ⟨g,0,none⟩) (1+k*2) oc).ownBlock=some b->w.heap.size<=b:=λb hb=>(f0.lt b hb).1
   have h8:TX w os rj ro R v td rec fs ls q (.slice (some ⟨Z,0,none⟩) q.length m) w5 (k+1) (.slice (some ⟨g2,0,none⟩) (1+(k+1)*2) cap2):=by
    have e4:∀(b:Nat) (cs:Array Value) (t:TypeId),wt.heap[b]?=some (.cells cs t (0,0))->t≠3->w5.heap[b]?=wt.heap[b]?:=λb cs t hb ht=>i0 b (zc hb) (λe=>by
     obtain⟨h6,b1⟩:=zh f0 e;exact zt hb b1 ht rfl)
    refine⟨k2.typed e4,zd h0 (λb hb=>by obtain⟨h6,b1⟩:=zh h0 hb;exact e4 b _ _ b1 (by decide)),by rw[show 1+(k+1)*2=1+k*2+2 by omega];exact s,?_,xj j4 (xj X.size d.size)⟩;exact k0.trans (Kp.before X ⟨d.os,d.tape,d.output,d.size,λb hb hz=>d.block b hb (λe=>hz (Or.inl (Or.inr (i6 b e.symm))))⟩)
   have j9:=zb h8;clear e1 s d a1 b7 i0 i6 h8 H b0 P c5 s1 s2;go_wp2_with fail;go_roundw
   case rel=>exact⟨k+1,g2,cap2,by go_num,by omega,by rw[show 1+(k+1)*2=1+k*2+2 by omega],j9⟩
   simp[intOf];omega
 obtain rfl:k=q.length:=by omega
 have z:=N.rv;rw[Xs]at z;have l:=N.owt;rw[Xs]at l;have C:=N.row;have b6:(zr ls q).length=q.length:=by simp[zr]
 have d6:v.ownBlock≠some gn:=λe=>by
  obtain⟨h6,b1⟩:=zh HP.row e;exact zt j7 b1 (by decide) rfl
 have b4:=N.kp.block gn a3 d6;have x0:wr.cell? ⟨gn,0,none⟩=some (.int .i64 id):=(xo (a:=⟨gn,0,none⟩) b4).trans n0;have x1:wr.cell? ⟨gn,1,none⟩=some (.int .i64 gd):=(xo (a:=⟨gn,1,none⟩) b4).trans n1;have x2:=z.c2;rw[d0.o,<-a6.o]at x2;have xf:=ze z.store 2;have a8:=zc z.store;have F:=z.ord.row;rw[d0.o,<-a6.o]at F;have j2:(Value.slice oa on c9).ownBlock≠some R:=eA F z.store (by decide);have H:Below wr.heap.size wr (wr.alloc (.cells #[.int .i64 id,.int .i64 gd,.slice la q.length m] 132)).drew:=(VE wr _).drew;have b0:(wr.alloc (.cells #[.int .i64 id,.int .i64 gd,.slice la q.length m] 132)).drew.heap[wr.heap.size]?=some (.cells #[.int .i64 id,.int .i64 gd,.slice la q.length m] 132 (0,0)):=xp wr _;have P:∀u∈([.int .i64 id,.int .i64 gd,.slice la q.length m]:List Value),u.oneCell'=true:=by
  intro u hu;simp at hu;rcases hu with rfl|rfl|rfl<;>rfl
 have i1:(wr.alloc (.cells #[.int .i64 id,.int .i64 gd,.slice la q.length m] 132)).drew.cell? ⟨R,2,none⟩=some (.slice oa on c9):=(H.cell (by exact a8)).trans x2;have i4:(wr.alloc (.cells #[.int .i64 id,.int .i64 gd,.slice la q.length m] 132)).drew.frozen? ⟨R,2,none⟩=false:=(H.frozen (by exact a8)).trans xf;have d2:Ha (R<(wr.alloc (.cells #[.int .i64 id,.int .i64 gd,.slice la q.length m] 132)).drew.heap.size):=xl a8 H.size;have g9:=zb (Yl j2);have k4:=zb z;have g8:=zb l;have k3:=zb C;have o6:=zb F;have X:=zb H;have k1:=zb N.kp;have o7:=zb N.sz;have W:=zg F H;clear z l C d6 b4 j2 F N g3 g5 hl M K d3 n0 n1 c2 h2 h3 h4 h5 b6 a4;try clear i2
 have k6:Ha ((zA ls q).length=1+q.length*2):=by unfold Ha;simp[zA,dF];omega
 have e9:=zb (λ(g2 cap2:Nat) (w5:World) d s a1=>PO (w5:=w5) (g2:=g2) (cap2:=cap2) (id:=id) (gd:=gd) k4 g8 k3 k1 X d s a1 (λb hb=>HP.ord.lt (Or.inr (Or.inr hb))));rw[d0.o,<-a6.o]at e9;go_wp2_with fail;go_region_law (refine YG _ (by rfl) _ _ _ (by rfl) 0 132 io (.agg #[.int .i64 0,.int .i64 0,.slice none 0 0]) 3 40 Pw l7 m5 m6 b8 rfl (by decide) (.slice oa on c9) on (bJ os ro.lvs) (by rfl) W ⟨wr.heap.size,0,none⟩ 1 1 [.int .i64 id,.int .i64 gd,.slice la q.length m] (by rfl) (by rfl) (yr b0) P (by decide) (by unfold maxLen;omega) (by omega) (Nat.zero_le _) (wr.heap.size+1) (by simp) ?_;intro g2 cap2 w5 s d a1 b7;have l1:=(d.cell_far ⟨R,2,none⟩ d2 g9).trans i1;have l3:=(d.frozen_far ⟨R,2,none⟩ d2 g9).trans i4)
 all_goals
  have e8:=zb (e9 g2 cap2 w5 d s a1);clear s d a1 b7 l1 l3 i1 i4 x0 x1 x2 xf H b0 P W e9;generalize w5.setCell ⟨R,2,none⟩ (.slice (some ⟨g2,0,none⟩) (on+1) cap2)=w6 at *;go_wp2_with fail;go_ret2;exact⟨by have hq:=e8.1;rw[a6.o,<-d0.o]at hq;exact hq,e8.2.1,g,oc,by rw[k6.o];rfl,e8.2.2⟩):G:=h
variable {R cap count gate gn gd id td way:Nat}{fs:List Value}{ls:List L}{os:List O}{rj:List (Nat×Nat)}{rec:ByteArray}{ro:Ro}{v:Value}{w:World}
def Sr(hl:aU (zn rj td gd count gate way ls)<count):UW rj w R v td rec fs ls os ro gn cap id gd count gate way:=viQ
def Sq(hl:¬aU (zn rj td gd count gate way ls)<count):UW rj w R v td rec fs ls os ro gn cap id gd count gate way:=viQ
def PN:UW rj w R v td rec fs ls os ro gn cap id gd count gate way:=by
 by_cases a:aU (zn rj td gd count gate way ls)<count
 ·exact Sr a
 exact Sq a
