import Derived.Test.YtgcedalggnmooaaGreatDoorQ1X
set_option linter.all false
set_option maxRecDepth 100000
set_option maxHeartbeats 6400000
namespace Go.Proofs.YtgcedalggnmooaaGreatDoor
open Go.RowKit
def PN{rj:List (Nat×Nat)}{w:World}{R:Nat}{v:Value}{td:Nat}{d3:ByteArray}{fs:List Value}{ls:List L}{os:List O}{ro:Ro}(h:RV os rj ro w R v td d3 fs ls)(b8:Good os ls)(M cap:Nat)(id gd d m s:Nat)(hn:NS w M [id,gd,d,m,s])(h1:id<=2147483647)(h2:gd<=2147483647)(h3:d<=2147483647)(h4:m<=2147483647)(h5:s<=3)
  (b2:os.any (λo=>o.id==id)=false) (l3:¬10<=os.length) (d1:¬(aU (zn rj td gd d m s ls)=0\/(aU (zn rj td gd d m s ls)<d/\Eg s=true))) :
  Calls Tryz.prog 69 #[.pointer (some ⟨R,0,none⟩),.slice (some ⟨M,0,none⟩) 5 cap] w λe w'=>Kp (λb=>b=R\/v.ownBlock=some b\/ro.ov.ownBlock=some b) w w' /\
   (∃k1,RV (os++[⟨id,gd,zr ls (zn rj td gd d m s ls)⟩]) rj k1 w' R v td d3 fs (Zv ls (zn rj td gd d m s ls))/\∀b,OB k1 b->OB ro b\/w.heap.size<=b) /\
   ∃g c,e=.returned (.tuple #[.slice (some ⟨g,0,none⟩) (zA ls (zn rj td gd d m s ls)).length c,.int .i64 0])/\Rw w' g (zA ls (zn rj td gd d m s ls)):=by
 by_cases hl:aU (zn rj td gd d m s ls)<d
 all_goals
  obtain⟨i3,m5,o3,o4,o5⟩:=XT SS;obtain⟨io,m6,n5,n6,c6⟩:=XT JB;have n0:w.cell? ⟨M,0,none⟩=some (.int .i64 id):=hn.2 0 (by simp);have n1:w.cell? ⟨M,1,none⟩=some (.int .i64 gd):=hn.2 1 (by simp);have n2:w.cell? ⟨M,2,none⟩=some (.int .i64 d):=hn.2 2 (by simp);have n3:w.cell? ⟨M,3,none⟩=some (.int .i64 m):=hn.2 3 (by simp);have n4:w.cell? ⟨M,4,none⟩=some (.int .i64 s):=hn.2 4 (by simp);obtain⟨cs,g1⟩:=hn.1;have a6:=zc g1;have HO:=zb (cX h b8.olen b8.oid id h1);obtain⟨oa,d2,g4,_⟩:=h.ord.shape;have c2:=h.c2;rw[g4]at c2;have hx:¬Wy id os<os.length:=λq=>by rw[fZ.1 q]at b2;cases b2
  have HV:Ha (bE os id=-1):=by unfold Ha bE;rw[xg hx]
  rw[HV.o]at HO;have HL:=zb (uM (h.below (aA w)) b8 gd d m s h2 h3 h4 h5);have HF:=zb (aT (rj:=rj) td gd d m s ls h.room);have g7:aU (zn rj td gd d m s ls)<=2147483647:=xj HF.2.2.2.2 h3;have i1:=Sp h5;have e9:os.length<10:=by omega
  have k2:=zb g1;have HP:=zb h;have h6:=zb b8.ids;have d4:=zb g4;have g6:=h.room;have S:0<(zn rj td gd d m s ls).length:=by
   cases hq:zn rj td gd d m s ls with
   |nil=>rw[hq]at d1;exact absurd (Or.inl rfl) d1
   |cons p r=>simp
  have Q:0<ls.length:=by
   cases hq:zn rj td gd d m s ls with
   |nil=>rw[hq]at S;simp at S
   |cons p r=>have:=HF.2.2.1 p (by rw[hq];simp);omega
  obtain⟨va,o7,hv,k0⟩:=h.shape;obtain⟨G,hG,d7,_⟩:=k0 Q;subst hG;have b0:=zb hv;have H:=h.row;rw[hv]at H;obtain⟨l2,D⟩:=zh H rfl;have o9:=zb D;obtain⟨on,a9⟩:=Ww os.length;rw[<-a9.o]at c2 e9;have X:¬(aU (zn rj td gd d m s ls)<d)\/Eg s=false:=by
   by_cases hl:aU (zn rj td gd d m s ls)<d
   ·right;cases hw:Eg s with
    |false=>rfl
    |true=>exact absurd (Or.inr ⟨hl,hw⟩) d1
   exact Or.inl hl
  have g9:((aU (zn rj td gd d m s ls):Int)==0)=false:=by
   rw[xr];intro e;exact d1 (Or.inl (Int.natCast_eq_zero.1 e))
  generalize zn rj td gd d m s ls=q at *;obtain⟨sq,l0⟩:=Ww (aU q);rw[<-l0.o]at g7 X g9 HL hl;clear h b8 hn b2 g4 hx g1 HV l3 d1 hv k0 H D;go_enter Tryz.func69,Tryz.ntmps69;go_wp2_with (go_at_call 114;with_reducible refine(HO.o).mono ?_;rintro e w1 ⟨rfl,n9⟩;have o0:=n9.symm;subst o0);go_region_held3 (λw'=>w'.cell? ⟨M,1,none⟩=some (.int .i64 gd)/\w'.cell? ⟨M,2,none⟩=some (.int .i64 d)/\w'.cell? ⟨M,3,none⟩=some (.int .i64 m)/\w'.cell? ⟨M,4,none⟩=some (.int .i64 s)) (go_keep)
   (first
    |(go_at_call 115;refine HL.mono ?_;rintro e w2 ⟨a5,lv,rfl,c6⟩;have m1:=(a5.cell (p:=⟨M,1,none⟩) (by exact a6)).trans n1;have m2:=(a5.cell (p:=⟨M,2,none⟩) (by exact a6)).trans n2;have m3:=(a5.cell (p:=⟨M,3,none⟩) (by exact a6)).trans n3;have m4:=(a5.cell (p:=⟨M,4,none⟩) (by exact a6)).trans n4))
  obtain⟨la,A,m8⟩:=zj c6;subst m8;have J:Below w.heap.size w w2:=(aA w).trans (a5.mono (aA w).size);have d5:Ha (TX w os rj ro R v td d3 fs ls q (.slice la q.length A) (w2.alloc (.cells #[.int .i64 q.length] 3)) 0 (.slice (some ⟨w2.heap.size,0,none⟩) 1 1)):=by
   refine⟨?_,?_,?_,Wo (J.alloc J.size _),(J.alloc J.size _).size⟩
   ·exact HP.below (J.alloc J.size _)
   ·exact(zF c6 (xe _)).alloc _
   exact Yb w2 #[.int .i64 q.length] 1 J.size (by unfold maxLen;omega) rfl
  have o8:=zb J;clear c6 a5 J m1 m3 n2 n3 n4 HL HO
  first
  |(have i7:(bits .and .i64 (s:Int) 1==1)=false:=by rw[i1];exact X.resolve_left (by omega))
  |skip
  clear X i1;go_wp2_with fail;go_loopw [9,10,11] (λoo ii _ wr=>∃(k g c:Nat),ii=.int .i64 k/\k<=q.length/\oo=.slice (some ⟨g,0,none⟩) (1+k*2) c/\TX w os rj ro R v td d3 fs ls q (.slice la q.length A) wr k (.slice (some ⟨g,0,none⟩) (1+k*2) c)) (λ_ ii _ _=>q.length-(intOf ii).toNat)
  case atStart=>exact⟨0,w2.heap.size,1,rfl,by omega,rfl,d5⟩
  clear d5 m2 m4;obtain⟨k,g,oc,rfl,hk,rfl,T⟩:=hrel;by_cases a7:k<q.length
  ·have g5:q.getD k (0,0)∈q:=by simp[Wc,a7]
   have et:q.take (k+1)=q.take k++[q.getD k (0,0)]:=by
    rw[xn a7];simp[Wc,a7]
   have hc:=HF.2.2.1 _ g5;have j5:=HF.2.2.2.1 _ g5;have a0:(q.getD k (0,0)).1 ∉ (q.take k).map Prod.fst:=by
    have:=HF.2.1
    have e2:q.map Prod.fst=((q.take k).map Prod.fst++[(q.getD k (0,0)).1])++(q.drop (k+1)).map Prod.fst:=by
     conv=>lhs;rw[<-yu (k+1) q,et]
     simp
    rw[e2]at this;have:=(XP.1 (XP.1 this).1).2.2;intro hm;exact this _ hm _ (by simp) rfl
   have b9:(zr ls q).length=q.length:=by simp[zr]
   have j3:(zr ls q).getD k (0,0)=((ls.getD (q.getD k (0,0)).1 L0).id,(q.getD k (0,0)).2):=by simp[zr,Wc,a7]
   have F:=T.row;rw[<-b9]at F;obtain⟨PG,a3,d8,p1,p2⟩:=eU F k (by rw[b9];exact a7);rw[j3]at p1 p2;generalize n7:q.getD k (0,0)=p at *;obtain⟨c,n⟩:=p;simp only at *;subst a3;have E:=dX (q.take k) ls;have z:=fU (q.take k) ls a0;have C:=T.rv;have a8:=C.ok _ (zf (k:=c) (by rw[E];exact hc));rw[z]at a8;have e4:Wj (ls.getD c L0).id (Zv ls (q.take k))=c:=by
    have:=oD (ls:=Zv ls (q.take k)) (λi j h1 h2 he=>h6 i j (by rw[<-E];exact h1) (by rw[<-E];exact h2) (by rw[cN,cN]at he;exact he)) (c:=c) (by rw[E];exact hc)
    rw[cN]at this;exact this
   have h0:=zb (cF C (ls.getD c L0).id a8.id);have d9:VF (Zv ls (q.take k)) (ls.getD c L0).id=(c:Int):=by unfold VF;rw[e4,xh (by rw[E];exact hc)]
   rw[d9]at h0;obtain⟨p6,o6,g8,P⟩:=C.shape;rw[E]at g8 P;have j9:=b0.symm.trans g8
   cases j9;obtain⟨G',l4,f7,g0⟩:=P (by omega)
   cases l4;have cR:=C.c1
   rw[b0.o]at cR;have e5:wr.cell? ⟨G,c*11+5,none⟩=some (.int .i64 ((ls.getD c L0).free:Int)):=by rw[g0 c hc 5 (by omega),z];rfl
   have e6:wr.cell? ⟨G,c*11+6,none⟩=some (.int .i64 ((ls.getD c L0).hd:Int)):=by rw[g0 c hc 6 (by omega),z];rfl
   have H:=C.row;rw[E,b0.o]at H;obtain⟨l2,D⟩:=zh H rfl;have f5:=ze D (c*11+5);have f6:=ze D (c*11+6);have l5:¬R=G:=zt C.store D (by decide);obtain⟨p5,b5⟩:=zh F rfl;have a3:¬PG=G:=zt b5 D (by decide);have i4:¬G=PG:=λe=>a3 e.symm
   have e3:(Value.slice (some ⟨g,0,none⟩) (1+k*2) oc).ownBlock≠some G:=eA T.owt D (by decide);have e8:(Value.slice (some ⟨PG,0,none⟩) q.length A).ownBlock≠some G:=eA T.row D (by decide);have j7:=a8.sum;have d0:=C.two (i:=c) (l':=qM (ls.getD c L0) n) (by rw[b0.o,E]) (by rw[E];exact hc) (EK a8 j5) (by rw[z];rfl) (by rw[z];rfl) (((ls.getD c L0).free:Int)-(n:Int)) (((ls.getD c L0).hd:Int)+(n:Int)) 5 6 (by omega) (by omega) (λf=>by
    rw[z];have x1:(((ls.getD c L0).free:Int)-(n:Int))=(((ls.getD c L0).free-n:Nat):Int):=by omega
    rw[x1];rfl)
   have j4:Zv ls (q.take (k+1))=(Zv ls (q.take k)).set c (qM (ls.getD c L0) n):=by rw[et,lH,z]
   rw[<-j4]at d0;have c9:=Ky (G:=G) (i:=c) (j:=5) (k:=6) (x:=((ls.getD c L0).free:Int)-(n:Int)) (y:=((ls.getD c L0).hd:Int)+(n:Int)) T.row e8;have c7:=Ky (G:=G) (i:=c) (j:=5) (k:=6) (x:=((ls.getD c L0).free:Int)-(n:Int)) (y:=((ls.getD c L0).hd:Int)+(n:Int)) T.owt e3;have e7:Kp (λb=>v.ownBlock=some b) w (Cj wr G c 5 6 (((ls.getD c L0).free:Int)-(n:Int)) (((ls.getD c L0).hd:Int)+(n:Int))):=T.kp.trans (Ee (Or.inl (by rw[b0.o];rfl)));have k3:Ha (aF ls (q.take (k+1))=aF ls (q.take k)++[(ls.getD c L0).id,n]):=by unfold Ha;rw[et,mC]
   have j2:=a8.id;have l7:(ls.getD c L0).free<=2147483647:=by omega
   have m0:(ls.getD c L0).hd+n<=2147483647:=by omega
   have k7:=zb d0;have h9:=zb c9;have f4:=zb c7;have k5:=zb e7;have f1:=T.sz;have s1:(Cj wr G c 5 6 (((ls.getD c L0).free:Int)-(n:Int)) (((ls.getD c L0).hd:Int)+(n:Int))).cell? ⟨PG,k*2,none⟩=some (.int .i64 ((ls.getD c L0).id:Int)):=(xo (a:=⟨PG,k*2,none⟩) (mE a3)).trans p1;have s2:(Cj wr G c 5 6 (((ls.getD c L0).free:Int)-(n:Int)) (((ls.getD c L0).hd:Int)+(n:Int))).cell? ⟨PG,k*2+1,none⟩=some (.int .i64 n):=(xo (a:=⟨PG,k*2+1,none⟩) (mE a3)).trans p2;generalize i9:(ls.getD c L0).free=fr at *;generalize j1:(ls.getD c L0).hd=hd at *;generalize g3:(ls.getD c L0).id=Z at *;have m7:c<ls.length:=hc;have l9:(Value.slice (some ⟨g,0,none⟩) (1+k*2) oc).ownBlock≠some PG:=eA T.owt b5 (by decide);clear i9 j1 g3 g5 et a0 b9 j3 F n7 E z C a8 e4 d9 g8 P g0 H D b5 e3 e8 j7 d0 j4 c9 c7 e7 T hc;clear h1 h2 h3 h4 h5 g7 e9 g9 hl S Q d7 n0 n1 c2 a6 j5 f7;try clear i7
   go_wp2_with (go_at_call 111;with_reducible refine(h0.o).mono ?_;rintro e w3 ⟨rfl,o1⟩;have o2:=o1.symm;subst o2)
   go_region
   go_wp2_with fail;go_region
   go_wp2_with fail;have b6:((wr.setCell ⟨G,c*11+5,none⟩ (.int .i64 ((fr:Int)-(n:Int)))).setCell ⟨G,c*11+6,none⟩ (.int .i64 ((hd:Int)+(n:Int)))).drew.drew=Cj wr G c 5 6 ((fr:Int)-(n:Int)) ((hd:Int)+(n:Int)):=rfl
   rw[b6];clear b6 e5 e6 f5 f6 p1 p2 cR;have f8:PG<(Cj wr G c 5 6 ((fr:Int)-(n:Int)) ((hd:Int)+(n:Int))).heap.size:=by rw[Ck];exact d8
   have j8:w.heap.size<=(Cj wr G c 5 6 ((fr:Int)-(n:Int)) ((hd:Int)+(n:Int))).heap.size:=by rw[Ck];exact f1
   generalize Cj wr G c 5 6 ((fr:Int)-(n:Int)) ((hd:Int)+(n:Int))=wt at *;have N:Below wt.heap.size wt (wt.alloc (.cells #[.int .i64 Z,.int .i64 n] 3)).drew:=(VE wt _).drew;have b3:(wt.alloc (.cells #[.int .i64 Z,.int .i64 n] 3)).drew.heap[wt.heap.size]?=some (.cells #[.int .i64 Z,.int .i64 n] 3 (0,0)):=xp wt _;have W:∀u∈([.int .i64 Z,.int .i64 n]:List Value),u.oneCell'=true:=by
    intro u hu;simp at hu;rcases hu with rfl|rfl<;>rfl
   have c8:=zg f4 N;have a2:=zb N;have n8:q.length<=30:=HF.1;have f9:PG<wt.heap.size:=f8;have p0:=zb f9;clear l5 a3 i4 j2 l7 m0 m7 g6 f1 d8;go_region_held3 (λw'=>w'.cell? ⟨PG,k*2,none⟩=some (.int .i64 Z)/\w'.cell? ⟨PG,k*2+1,none⟩=some (.int .i64 n))
    (first
     |go_keep
     |(go_split_ands;refine⟨?_,?_⟩<;>(rw[l.cell_far _ (by simp;omega) (Yl l9)];assumption)))
    ((refine YG _ (by rfl) _ _ _ (by rfl) w.heap.size 3 i3 (.int .i64 0) 1 8 Pv m5 o3 o4 o5 rfl (by decide) (.slice (some ⟨g,0,none⟩) (1+k*2) oc) (1+k*2) (I (q.length::aF ls (q.take k))) (by rfl) c8 ⟨wt.heap.size,0,none⟩ 2 2 [.int .i64 Z,.int .i64 n] (by rfl) (by rfl) (yr b3) W (by decide) (by unfold maxLen;omega) (by omega) (by simp;omega) (wt.heap.size+1) (by simp) ?_;intro g2 cap2 w5 B l a4 c5))
   all_goals
    have e1:I (q.length::aF ls (q.take k))++[.int .i64 Z,.int .i64 n]=I (q.length::aF ls (q.take (k+1))):=by rw[k3.o];simp[I]
    rw[e1]at B;have i5:∀b,b<wt.heap.size->(Value.slice (some ⟨g,0,none⟩) (1+k*2) oc).ownBlock≠some b->w5.heap[b]?=wt.heap[b]?:=λb hb m9=>(l.block b (xl hb a2.size) (λe=>m9 e.symm)).trans (a2.block b hb)
    have j0:∀b,(Value.slice (some ⟨g,0,none⟩) (1+k*2) oc).ownBlock=some b->w.heap.size<=b:=λb hb=>(f4.lt b hb).1
    have i2:TX w os rj ro R v td d3 fs ls q (.slice (some ⟨PG,0,none⟩) q.length A) w5 (k+1) (.slice (some ⟨g2,0,none⟩) (1+(k+1)*2) cap2):=by
     have f0:∀(b:Nat) (cs:Array Value) (t:TypeId),wt.heap[b]?=some (.cells cs t (0,0))->t≠3->w5.heap[b]?=wt.heap[b]?:=λb cs t hb ht=>i5 b (zc hb) (λe=>by
      obtain⟨i0,b4⟩:=zh f4 e;exact zt hb b4 ht rfl)
     refine⟨k7.typed f0,zd h9 (λb hb=>by obtain⟨i0,b4⟩:=zh h9 hb;exact f0 b _ _ b4 (by decide)),by rw[show 1+(k+1)*2=1+k*2+2 by omega];exact B,?_,xj j8 (xj a2.size l.size)⟩;exact k5.trans (Kp.before a2 ⟨l.os,l.tape,l.output,l.size,λb hb hz=>l.block b hb (λe=>hz (Or.inl (Or.inr (j0 b e.symm))))⟩)
    have k4:=zb i2;clear e1 B l a4 c5 i5 j0 i2 N b3 W c8 s1 s2;go_wp2_with fail;go_roundw
    case rel=>exact⟨k+1,g2,cap2,by go_num,by omega,by rw[show 1+(k+1)*2=1+k*2+2 by omega],k4⟩
    simp[intOf];omega
  obtain rfl:k=q.length:=by omega
  have C:=T.rv;rw[Xs]at C;have z:=T.owt;rw[Xs]at z;have F:=T.row;have b9:(zr ls q).length=q.length:=by simp[zr]
  have e0:v.ownBlock≠some M:=λe=>by
   obtain⟨i0,b4⟩:=zh HP.row e;exact zt k2 b4 (by decide) rfl
  have b7:=T.kp.block M a6 e0;have x0:wr.cell? ⟨M,0,none⟩=some (.int .i64 id):=(xo (a:=⟨M,0,none⟩) b7).trans n0;have x1:wr.cell? ⟨M,1,none⟩=some (.int .i64 gd):=(xo (a:=⟨M,1,none⟩) b7).trans n1;have x2:=C.c2;rw[d4.o,<-a9.o]at x2;have xf:=ze C.store 2;have b1:=zc C.store;have K:=C.ord.row;rw[d4.o,<-a9.o]at K;have j6:(Value.slice oa on d2).ownBlock≠some R:=eA K C.store (by decide);have N:Below wr.heap.size wr (wr.alloc (.cells #[.int .i64 id,.int .i64 gd,.slice la q.length A] 132)).drew:=(VE wr _).drew;have b3:(wr.alloc (.cells #[.int .i64 id,.int .i64 gd,.slice la q.length A] 132)).drew.heap[wr.heap.size]?=some (.cells #[.int .i64 id,.int .i64 gd,.slice la q.length A] 132 (0,0)):=xp wr _;have W:∀u∈([.int .i64 id,.int .i64 gd,.slice la q.length A]:List Value),u.oneCell'=true:=by
   intro u hu;simp at hu;rcases hu with rfl|rfl|rfl<;>rfl
  have i6:(wr.alloc (.cells #[.int .i64 id,.int .i64 gd,.slice la q.length A] 132)).drew.cell? ⟨R,2,none⟩=some (.slice oa on d2):=(N.cell (by exact b1)).trans x2;have i8:(wr.alloc (.cells #[.int .i64 id,.int .i64 gd,.slice la q.length A] 132)).drew.frozen? ⟨R,2,none⟩=false:=(N.frozen (by exact b1)).trans xf;have d6:Ha (R<(wr.alloc (.cells #[.int .i64 id,.int .i64 gd,.slice la q.length A] 132)).drew.heap.size):=xl b1 N.size;have h8:=zb (Yl j6);have k9:=zb C;have h7:=zb z;have k8:=zb F;have p3:=zb K;have a2:=zb N;have k6:=zb T.kp;have p4:=zb T.sz;have a1:=zg K N;clear C z F e0 b7 j6 K T g7 g9 hl S Q d7 n0 n1 c2 h2 h3 h4 h5 b9 a7;try clear i7
  have l1:Ha ((zA ls q).length=1+q.length*2):=by unfold Ha;simp[zA,dF];omega
  have f3:=zb (λ(g2 cap2:Nat) (w5:World) l B a4=>PO (w5:=w5) (g2:=g2) (cap2:=cap2) (id:=id) (gd:=gd) k9 h7 k8 k6 a2 l B a4 (λb hb=>HP.ord.lt (Or.inr (Or.inr hb))));rw[d4.o,<-a9.o]at f3;go_wp2_with fail;go_region_law (refine YG _ (by rfl) _ _ _ (by rfl) 0 132 io (.agg #[.int .i64 0,.int .i64 0,.slice none 0 0]) 3 40 Pw m6 n5 n6 c6 rfl (by decide) (.slice oa on d2) on (bJ os ro.lvs) (by rfl) a1 ⟨wr.heap.size,0,none⟩ 1 1 [.int .i64 id,.int .i64 gd,.slice la q.length A] (by rfl) (by rfl) (yr b3) W (by decide) (by unfold maxLen;omega) (by omega) (Nat.zero_le _) (wr.heap.size+1) (by simp) ?_;intro g2 cap2 w5 B l a4 c5;have l6:=(l.cell_far ⟨R,2,none⟩ d6 h8).trans i6;have l8:=(l.frozen_far ⟨R,2,none⟩ d6 h8).trans i8)
  all_goals
   have f2:=zb (f3 g2 cap2 w5 l B a4);clear B l a4 c5 l6 l8 i6 i8 x0 x1 x2 xf N b3 W a1 f3;generalize w5.setCell ⟨R,2,none⟩ (.slice (some ⟨g2,0,none⟩) (on+1) cap2)=w6 at *;go_wp2_with fail;go_ret2;exact⟨by have hq:=f2.1;rw[a9.o,<-d4.o]at hq;exact hq,f2.2.1,g,oc,by rw[l1.o];rfl,f2.2.2⟩
