import Derived.Test.YtgcedalggnmooaaGreatDoorDc1X
import Derived.Test.YtgcedalggnmooaaGreatDoorR13X
set_option linter.all false
set_option maxRecDepth 100000
set_option maxHeartbeats 6400000
namespace Go.Proofs.YtgcedalggnmooaaGreatDoor
open Go.RowKit
open Tryz
structure Ub(w6 w8:World)(os:List O)(rj:List (Nat×Nat))(ro:Ro)(R:Nat)(v:Value)(td:Nat)(rec:ByteArray)(fs:List Value)(ls:List L)(s:List Nat)(sg sc:Nat)(wr:World)(k g oc:Nat):Prop where
 rv:RV os rj ro wr R v td rec fs ls
 row:wr.ownsRow 0 3 1 (.slice (some ⟨sg,0,none⟩) s.length sc) s.length (I s)
 owt:wr.ownsRow w6.heap.size 3 1 (.slice (some ⟨g,0,none⟩) (1+(hN ls (s.take k)).length*2) oc) (1+(hN ls (s.take k)).length*2) (I ((hN ls (s.take k)).length::tN ls (hN ls (s.take k))))
 at':g=w6.heap.size\/w8.heap.size<=g
 below:Below w6.heap.size w6 wr
 sz:w8.heap.size<=wr.heap.size
variable {R td:Nat}{ls:List L}{os:List O}{rj:List (Nat×Nat)}{rec:ByteArray}{w:World}
def DK{v:Value}{fs:List Value}{ro:Ro}(h:RV os rj ro w R v td rec fs ls)(B i4:Nat)(a m:Nat)(m4:NS w B [a,m])(h1:a<=2147483647)(h2:m<=2147483647)(hi:Wj a ls<ls.length)(hc:rj.contains (a,m)=false)(f5:¬10<=rj.length):Calls prog 71 #[.pointer (some ⟨R,0,none⟩),.slice (some ⟨B,0,none⟩) 2 i4] w λe w'=>Kp (λb=>b=R\/ro.rv.ownBlock=some b) w w'/\(∃A,RV os (rj++[(a,m)]) A w' R v td rec fs ls/\∀b,OB A b->OB ro b\/w.heap.size<=b)/\∃g c,e=.returned (.tuple #[.slice (some ⟨g,0,none⟩) (zA ls (ZK ls a)).length c,.int .i64 0])/\g≠R/\Rw w' g (zA ls (ZK ls a)):=by
 obtain⟨i3,m1,n5,n6,n7⟩:=XT Gq;obtain⟨ip,m2,m5,m6,m7⟩:=XT wV;obtain⟨⟨cs,g1⟩,a4⟩:=m4;have n0:w.cell? ⟨B,0,none⟩=some (.int .i64 a):=a4 0 (by simp);have n1:w.cell? ⟨B,1,none⟩=some (.int .i64 m):=a4 1 (by simp);have a5:=zc g1;have HA:=zb (cF h a h1);have HX:Ha (∀n,Calls prog 116 #[.pointer (some ⟨R,0,none⟩),.int .i64 a,.int .i64 m] (w.drewN n) λe w'=>e=.returned (.int .i64 (yR rj a m))/\w'=w.drewN n):=λn=>gB (h.below (XA (xm _ _) n)) a m
 have i2:Ha (VF ls a=(Wj a ls:Int)):=by unfold Ha VF;rw[xh hi]
 rw[i2.o]at HA;have HV:Ha (yR rj a m=-1):=by unfold Ha yR;rw[xg (λq=>by rw[lX.1 q]at hc;cases hc)]
 rw[HV.o]at HX;have HI:=zb hi;have k7:=zb (h.rc.put h1 h2 hc f5);have h4:=zb g1;obtain⟨ix,k3⟩:=Ww (Wj a ls);rw[<-k3.o]at HA;obtain⟨ra,H,c9,_⟩:=h.rshape;have c3:=h.c3;rw[c9]at c3;have P:=h.ord.fd.rrow;rw[c9]at P;have h8:=zb c9;have f3:=ze h.store 3;have a8:=zc h.store;have HP:=zb h;obtain⟨M,f0⟩:=Ww rj.length;rw[<-f0.o]at c3 f5 P;have o2:M<10:=by omega
 have m9:(Value.slice ra M H).ownBlock≠some R:=eA P h.store (by decide);clear h a4 g1 HV i2 hc hi c9 f5;go_enter func71,ntmps71;go_wp2_with (go_at_call 111;refine(HA.o).mono ?_;rintro e w1 ⟨rfl,rfl⟩);go_quiet ((go_at_call 116;exact YT (HX.o _)));go_wp2_with fail;obtain⟨wq,c6⟩:=Ww (w1.drewN nq);have C:Ha (Below w1.heap.size w1 wq):=by unfold Ha;rw[c6.o];exact XA (xm _ _) nq
 have c5:Ha (wq.heap.size=w1.heap.size):=by unfold Ha;rw[c6.o];rfl
 have K:=zg P C.o;have x0:=(C.o.cell (p:=⟨B,0,none⟩) a5).trans n0;have x1:=(C.o.cell (p:=⟨B,1,none⟩) a5).trans n1;have x3:=(C.o.cell (p:=⟨R,3,none⟩) a8).trans c3;have xf:=(C.o.frozen (p:=⟨R,3,none⟩) a8).trans f3;have f7:R<wq.heap.size:=by rw[c5.o];exact a8
 have m0:B<wq.heap.size:=by rw[c5.o];exact a5
 have k6:=zb (HP.o.below C.o);rw[<-c6.o];clear c6 n0 n1 c3 f3 HX HA P;have l:Below wq.heap.size wq (wq.alloc (.cells #[.int .i64 a,.int .i64 m] 181)).drew:=(VE wq _).drew;have a3:(wq.alloc (.cells #[.int .i64 a,.int .i64 m] 181)).drew.heap[wq.heap.size]?=some (.cells #[.int .i64 a,.int .i64 m] 181 (0,0)):=xp wq _;have F:∀u∈([.int .i64 a,.int .i64 m]:List Value),u.oneCell'=true:=by
  intro u hu;simp at hu;rcases hu with rfl|rfl<;>rfl
 have g0:(wq.alloc (.cells #[.int .i64 a,.int .i64 m] 181)).drew.cell? ⟨R,3,none⟩=some (.slice ra M H):=(l.cell (by exact f7)).trans x3;have g3:(wq.alloc (.cells #[.int .i64 a,.int .i64 m] 181)).drew.frozen? ⟨R,3,none⟩=false:=(l.frozen (by exact f7)).trans xf;have a7:Ha (R<(wq.alloc (.cells #[.int .i64 a,.int .i64 m] 181)).drew.heap.size):=xl f7 l.size;have f4:=zb (Yl m9);have Q:=zb l;have T:=zg K l;have a1:(Value.slice ra M H).ownBlock=ro.rv.ownBlock:=by rw[h8.o,f0.o]
 have e7:Ha (∀(g2 cap2:Nat) (w5:World),(wq.alloc (.cells #[.int .i64 a,.int .i64 m] 181)).drew.grownBy w5 (Value.slice ra M H).ownBlock->w5.ownsRow 0 181 2 (.slice (some ⟨g2,0,none⟩) (M+1) cap2) (M+1) (zl rj++[.int .i64 a,.int .i64 m])->((Value.slice ra M H).ownBlock=some g2\/g2=wq.heap.size+1) ->
   RV os (rj++[(a,m)]) { ro with rv:=.slice (some ⟨g2,0,none⟩) (M+1) cap2 } (w5.setCell ⟨R,3,none⟩ (.slice (some ⟨g2,0,none⟩) (M+1) cap2)) R v td rec fs ls/\(∀b,OB { ro with rv:=.slice (some ⟨g2,0,none⟩) (M+1) cap2 } b->OB ro b\/w1.heap.size<=b)/\Kp (λb=>b=R\/ro.rv.ownBlock=some b) w1 (w5.setCell ⟨R,3,none⟩ (.slice (some ⟨g2,0,none⟩) (M+1) cap2))/\B<(w5.setCell ⟨R,3,none⟩ (.slice (some ⟨g2,0,none⟩) (M+1) cap2)).heap.size/\(w5.setCell ⟨R,3,none⟩ (.slice (some ⟨g2,0,none⟩) (M+1) cap2)).cell? ⟨B,0,none⟩=some (.int .i64 a)):=λg2 cap2 w5 d r S=>by
  have d4:∀g,(Value.slice (some ⟨g2,0,none⟩) (M+1) cap2).ownBlock=some g->ro.rv.ownBlock=some g\/wq.heap.size<=g:=λg hg=>by
   cases hg;rcases S with q|q
   ·left;rw[<-a1];exact q
   right;show wq.heap.size<=g2;omega
  have j3:w5.heap[B]?=w1.heap[B]?:=by
   rw[d.block B (by have:=l.size;omega) (λe=>by
    obtain⟨i5,a9⟩:=zh K e.symm;exact zt ((C.o.block B a5).trans h4.o) a9 (by decide) rfl),l.block B m0,C.o.block B a5]
  have l9:B≠R:=zt h4.o HP.o.store (by decide);refine⟨k6.o.recl (λk hk=>l.block k hk) l.size (by rw[<-a1];exact d) (by rw[jS,xc,Xw,<-f0.o];exact r) d4 k7.o,λb D=>?_,?_,?_,?_⟩
  ·rcases Io d4 b D with q|q
   ·exact Or.inl q
   right;rw[c5.o]at q;exact q
  ·refine Kp.setCell (Z:=λb=>b=R\/ro.rv.ownBlock=some b) ?_ (p:=⟨R,3,none⟩) (Or.inl (Or.inl rfl)) _
   refine Kp.grown (Wo (C.o.trans (l.mono (by rw[c5.o];exact xe _)))) d (λk hk=>Or.inl (Or.inr (by rw[<-a1];exact hk)))
  ·have o3:=d.size;have o4:=l.size;simp[World.setCell];omega
  have hq:(w5.setCell ⟨R,3,none⟩ (.slice (some ⟨g2,0,none⟩) (M+1) cap2)).heap[B]?=w1.heap[B]?:=by rw[xd _ _ _ _ l9];exact j3
  exact(xo (a:=⟨B,0,none⟩) hq).trans ((C.o.cell (p:=⟨B,0,none⟩) a5).symm.trans x0)
 go_cut [] from 12 (λy=>∃A,RV os (rj++[(a,m)]) A y R v td rec fs ls/\(∀b,OB A b->OB ro b\/w1.heap.size<=b)/\Kp (λb=>b=R\/ro.rv.ownBlock=some b) w1 y/\B<y.heap.size/\y.cell? ⟨B,0,none⟩=some (.int .i64 a))
 case first=>
  go_region_law (refine YG _ (by rfl) _ _ _ (by rfl) 0 181 ip (.agg #[.int .i64 0,.int .i64 0]) 2 16 yG m2 m5 m6 m7 rfl (by decide) (.slice ra M H) M (zl rj) (by rfl) T ⟨wq.heap.size,0,none⟩ 1 1 [.int .i64 a,.int .i64 m] (by rfl) (by rfl) (yr a3) F (by decide) (by unfold maxLen;omega) (by omega) (Nat.zero_le _) (wq.heap.size+1) (by simp) ?_;intro g2 cap2 w5 r d S b1;have l6:=(d.cell_far ⟨R,3,none⟩ a7.o f4.o).trans g0;have l8:=(d.frozen_far ⟨R,3,none⟩ a7.o f4.o).trans g3)
  all_goals
   have k0:=zb (e7.o g2 cap2 w5 d r S);clear r d S b1 l6 l8 g0 g3 x0 x1 x3 xf l a3 F T K e7;go_wp2_with fail;go_meet
   case rel=>exact⟨_,k0.o⟩
 case rest=>
  obtain⟨A,e0,d8,d6,n9,y0⟩:=hcut;obtain⟨y,rfl⟩:∃y,y=wc:=⟨wc,rfl⟩
  have N:=zb e0;have h5:=zb d8;have d3:=zb d6;clear e0 d8 d6 x0 x1 x3 xf l a3 F T K e7 g0 g3 a7 f4 Q a1;have f6:Below y.heap.size y (y.alloc (.cells #[.int .i64 0] 3)):=VE y _;have h3:=zb (Al (N.o.below f6) a h1);have a6:Ha ((y.alloc (.cells #[.int .i64 0] 3)).ownsRow y.heap.size 3 1 (.slice (some ⟨y.heap.size,0,none⟩) 1 1) 1 (I [0])):=Yb y #[.int .i64 0] 1 (xe _) (by unfold maxLen;omega) rfl;have b8:=zb f6;have h0:Ha ((kJ ls a).length<=31):=by
   have q1:=MJ ls a;have q2:=N.o.room;unfold Ha;omega
  have g9:Ha (∀n∈kJ ls a,n<=2147483647):=λn hn=>by
   obtain⟨q1,q2⟩:=jC HI.o hn;have:=(N.o.ok _ (zf q1)).id;rw[q2]at this;exact this
  clear f6;go_wp2_with (first
   |(go_at_call 118;refine(h3.o).mono ?_;rintro e w7 ⟨i8,v7,rfl,b4⟩;have a2:=zb i8;have h9:=zb (Hi b4 h0.o (FV ls a) g9.o);clear i8 b4)
   |(go_at_call 117;refine(h9.o).mono ?_;rintro e w8 ⟨f9,v8,s,rfl,J,e3,W⟩))
  have g5:0<s.length:=by
   rw[J.length_eq];have:=Cz ls [a] ls.length (xe _);rw[Xs]at this;unfold kJ;exact this
  obtain⟨sg,sc,n3,j8,b6⟩:=zG W g5;subst n3;have l4:y.heap.size+1<=w7.heap.size:=by have:=a2.o.size;simp at this;exact this
  have X:Below y.heap.size y w8:=b8.o.trans ((a2.o.mono b8.o.size).trans (f9.mono (xj b8.o.size a2.o.size)));have d2:Ha (Ub y w8 os (rj++[(a,m)]) A R v td rec fs ls s sg sc w8 0 y.heap.size 1):=⟨N.o.below X,aK W,zg a6.o (a2.o.trans (f9.mono a2.o.size)),Or.inl rfl,X,xe _⟩
  have h7:=zb J;have l1:=zb e3;have l0:Ha (s.length<=31):=by unfold Ha;rw[J.length_eq];exact h0.o
  have n2:s.length<=31:=l0.o;have j7:=X.size;have f1:Ha (y.heap.size<sg/\sg<w8.heap.size):=⟨by omega,b6⟩
  have c7:0<ls.length:=by have:=HI.o;omega
  clear J e3 W f9 X j8 l4 h9 a2 h3 a6 b8 y0 b6 j7;go_loopw [8,10,11] (λoo ii _ wr=>∃(k g c:Nat),ii=.int .i64 k/\k<=s.length/\oo=.slice (some ⟨g,0,none⟩) (1+(hN ls (s.take k)).length*2) c/\Ub y w8 os (rj++[(a,m)]) A R v td rec fs ls s sg sc wr k g c) (λ_ ii _ _=>s.length-(intOf ii).toNat)
  case atStart=>exact⟨0,y.heap.size,1,rfl,by omega,rfl,d2.o⟩
  clear d2;obtain⟨k,g,oc,rfl,hk,rfl,hI⟩:=hrel;have m8:(hN ls (s.take k)).length<=31:=by
   have q1:=SQ ls (s.take k);rw[XL]at q1;omega
  by_cases b0:k<s.length
  ·have b2:s.getD k 0∈kJ ls a:=h7.o.mem_iff.1 (by simp[Wc,b0]);obtain⟨hc,i9⟩:=jC HI.o b2;have j0:=ZB hI.row k b0;have n4:=g9.o _ b2;have e5:=zb (cF hI.rv (s.getD k 0) n4);have d5:VF ls (s.getD k 0)=(Wj (s.getD k 0) ls:Int):=by unfold VF;rw[xh hc]
   rw[d5]at e5;obtain⟨va,j9,hv,a0⟩:=hI.rv.shape;obtain⟨G,hG,n8,a4⟩:=a0 c7;subst hG;have cR:=hI.rv.c1;rw[hv]at cR;have e6:wr.cell? ⟨G,Wj (s.getD k 0) ls*11+6,none⟩=some (.int .i64 (bD ls (s.getD k 0):Int)):=a4 _ hc 6 (by omega);have j6:=hI.rv.ok _ (zf hc);have o1:bD ls (s.getD k 0)<=2147483647:=by have:=j6.sum;unfold bD;omega
   have e9:Ha (0<bD ls (s.getD k 0)->hN ls (s.take (k+1))=hN ls (s.take k)++[s.getD k 0]/\tN ls (hN ls (s.take (k+1)))=tN ls (hN ls (s.take k))++[s.getD k 0,bD ls (s.getD k 0)]):=λhp=>by
    have e:=Jl (ls:=ls) b0;rw[xh hp]at e;exact⟨e,by rw[e,LG]⟩
   have e8:Ha (¬0<bD ls (s.getD k 0)->hN ls (s.take (k+1))=hN ls (s.take k)):=λhp=>by
    rw[Jl (ls:=ls) b0,xg hp]
   generalize bD ls (s.getD k 0)=hd at *;generalize hx:s.getD k 0=x at *;generalize Wj x ls=c at *;have i:=zb hI;have l2:=zb hv;clear hx b2 i9 d5 a0 a4 j6 hI hv;by_cases d9:0<hd
   ·obtain⟨HN,HT⟩:Ha (hN ls (s.take (k+1))=hN ls (s.take k)++[x])/\Ha (tN ls (hN ls (s.take (k+1)))=tN ls (hN ls (s.take k))++[x,hd]):=e9.o d9;obtain⟨z,b9⟩:=Ww ((hN ls (s.take k)).length);rw[<-b9.o]at m8;rw[<-b9.o];have f:=i.o.owt;rw[<-b9.o]at f;have l5:wr.cell? ⟨g,0,none⟩=some (.int .i64 z):=by rw[f.cellAt 0 (by omega)];rfl
    have l7:=f.frozenAt 0;have j2:=(f.lt g rfl).1;have HO:=zb f;clear e9 e8 f;go_wp2_with (go_at_call 111;with_reducible refine(e5.o).mono ?_;rintro e w3 ⟨rfl,g6⟩;have g7:=g6.symm;subst g7);have g4:¬sg=g:=by
     have q1:=f1.o;rcases i.o.at' with q|q<;>omega
    have E:∀b,b≠g->(wr.setCell ⟨g,0,none⟩ (.int .i64 ((z:Int)+1))).heap[b]?=wr.heap[b]?:=λb D=>xd _ _ _ _ D
    have d0:∀(b:Nat) (cs:Array Value) (t:TypeId),wr.heap[b]?=some (.cells cs t (0,0))->t≠3->b≠g:=λb cs t D ht=>by
     obtain⟨i5,a9⟩:=zh HO.o (g:=g) rfl;exact zt D a9 ht
    have k8:Ha (RV os (rj++[(a,m)]) A (wr.setCell ⟨g,0,none⟩ (.int .i64 ((z:Int)+1))) R v td rec fs ls):=i.o.rv.typed (λb cs t D ht=>E b (d0 b cs t D ht));have l3:Ha ((wr.setCell ⟨g,0,none⟩ (.int .i64 ((z:Int)+1))).ownsRow 0 3 1 (.slice (some ⟨sg,0,none⟩) s.length sc) s.length (I s)):=zd i.o.row (λb D=>E b (by cases D;exact g4));have h6:Ha ((wr.setCell ⟨g,0,none⟩ (.int .i64 ((z:Int)+1))).ownsRow y.heap.size 3 1 (.slice (some ⟨g,0,none⟩) (1+z*2) oc) (1+z*2) (I ((z+1)::tN ls (hN ls (s.take k))))):=(HO.o.stored 0 (.int .i64 ((z:Int)+1))).1;have g8:Ha (Below y.heap.size y (wr.setCell ⟨g,0,none⟩ (.int .i64 ((z:Int)+1)))):=i.o.below.setCell (p:=⟨g,0,none⟩) j2 _;have f2:Ha (w8.heap.size<=(wr.setCell ⟨g,0,none⟩ (.int .i64 ((z:Int)+1))).heap.size):=by have:=i.o.sz;unfold Ha;simp;exact this
    have i7:¬R=g:=d0 _ _ _ i.o.rv.store (by decide);have i6:¬G=g:=by
     have b5:=i.o.rv.row;rw[l2.o]at b5;obtain⟨o0,j1⟩:=zh b5 rfl;exact d0 _ _ _ j1 (by decide)
    have z1:(wr.setCell ⟨g,0,none⟩ (.int .i64 ((z:Int)+1))).cell? ⟨sg,k,none⟩=some (.int .i64 x):=(xo (a:=⟨sg,k,none⟩) (E _ g4)).trans j0;have z2:(wr.setCell ⟨g,0,none⟩ (.int .i64 ((z:Int)+1))).cell? ⟨R,1,none⟩=some (.slice (some ⟨G,0,none⟩) ls.length j9):=(xo (a:=⟨R,1,none⟩) (E _ i7)).trans cR;have z3:(wr.setCell ⟨g,0,none⟩ (.int .i64 ((z:Int)+1))).cell? ⟨G,c*11+6,none⟩=some (.int .i64 hd):=(xo (a:=⟨G,c*11+6,none⟩) (E _ i6)).trans e6;have d1:=zb i.o.at';clear E d0 j0 cR e6 l5 l7 i HO g4 i7 i6;generalize wr.setCell ⟨g,0,none⟩ (.int .i64 ((z:Int)+1))=wt at *;have e4:y.heap.size<=wt.heap.size:=g8.o.size;have l:Below wt.heap.size wt (wt.alloc (.cells #[.int .i64 x,.int .i64 hd] 3)).drew:=(VE wt _).drew;have a3:(wt.alloc (.cells #[.int .i64 x,.int .i64 hd] 3)).drew.heap[wt.heap.size]?=some (.cells #[.int .i64 x,.int .i64 hd] 3 (0,0)):=xp wt _;have F:∀u∈([.int .i64 x,.int .i64 hd]:List Value),u.oneCell'=true:=by
     intro u hu;simp at hu;rcases hu with rfl|rfl<;>rfl
    have b3:=zg h6.o l;have Q:=zb l;go_region_law (refine YG _ (by rfl) _ _ _ (by rfl) y.heap.size 3 i3 (.int .i64 0) 1 8 Pv m1 n5 n6 n7 rfl (by decide) (.slice (some ⟨g,0,none⟩) (1+z*2) oc) (1+z*2) (I ((z+1)::tN ls (hN ls (s.take k)))) (by rfl) b3 ⟨wt.heap.size,0,none⟩ 2 2 [.int .i64 x,.int .i64 hd] (by rfl) (by rfl) (yr a3) F (by decide) (by unfold maxLen;omega) (by omega) (by simp;omega) (wt.heap.size+1) (by simp) ?_;intro g2 cap2 w5 r d S b1)
    all_goals
     have c8:(hN ls (s.take (k+1))).length=z+1:=by rw[HN.o,xc,Xw,<-b9.o]
     have e1:I ((z+1)::tN ls (hN ls (s.take k)))++[.int .i64 x,.int .i64 hd]=I ((hN ls (s.take (k+1))).length::tN ls (hN ls (s.take (k+1)))):=by rw[c8,HT.o];simp[I]
     rw[e1]at r;have f8:∀b,b<wt.heap.size->b≠g->w5.heap[b]?=wt.heap[b]?:=λb D m3=>(d.block b (xl D Q.o.size) (λe=>m3 (by injection e))).trans (Q.o.block b D)
     have d7:∀(b:Nat) (cs:Array Value) (t:TypeId),wt.heap[b]?=some (.cells cs t (0,0))->t≠3->w5.heap[b]?=wt.heap[b]?:=λb cs t D ht=>f8 b (zc D) (by
      obtain⟨i5,a9⟩:=zh h6.o (g:=g) rfl;exact zt D a9 ht)
     have b7:sg≠g:=by
      have q1:=f1.o;rcases d1.o with q|q<;>omega
     have e2:sg<wt.heap.size:=xl f1.o.2 f2.o;have k2:Ha (Ub y w8 os (rj++[(a,m)]) A R v td rec fs ls s sg sc w5 (k+1) g2 cap2):=by
      refine⟨k8.o.typed d7,zd l3.o (λb D=>by cases D;exact f8 sg e2 b7),?_,?_,?_,?_⟩
      ·rw[show 1+(hN ls (s.take (k+1))).length*2=1+z*2+2 by rw[c8];omega];exact r
      ·rcases S with q|q
       ·injection q with q;rw[<-q];exact d1.o
       right;have:=f2.o;omega
      ·exact(g8.o.trans (Q.o.mono e4)).grown d (xj e4 Q.o.size) (λb D=>by injection D with D;rw[<-D];exact j2)
      exact xj f2.o (xj Q.o.size d.size)
     have k5:=zb c8;clear c8 e1 r d S b1 f8 d7 b7 e2 l a3 F b3 z1 z2 z3;go_wp2_with fail;go_roundw
     case rel=>exact⟨k+1,g2,cap2,by go_num,by omega,by rw[k5.o,show 1+(z+1)*2=1+z*2+2 by omega],k2.o⟩
     simp[intOf];omega
   have HN:=zb (e8.o d9);clear e9 e8;go_wp2_with (go_at_call 111;with_reducible refine(e5.o).mono ?_;rintro e w3 ⟨rfl,g6⟩;have g7:=g6.symm;subst g7);go_roundw
   case rel=>exact⟨k+1,g,oc,by go_num,by omega,by rw[HN.o],⟨i.o.rv,i.o.row,by rw[HN.o];exact i.o.owt,i.o.at',i.o.below,i.o.sz⟩⟩
   simp[intOf];omega
  obtain rfl:k=s.length:=by omega
  have i:=zb hI;have f:=hI.owt;rw[Xs]at f;have i0:=zb (Jw N.o.fam.ids HI.o h7.o l1.o);have i1:Ha ((zA ls (ZK ls a)).length=1+(hN ls (s.take s.length)).length*2):=by
   unfold Ha;rw[<-i0.o,Xs,List.length_cons,Pt];omega
  have k9:Ha (Rw wr g (zA ls (ZK ls a))):=by
   have j5:=(f.lt g rfl).2;rw[i0.o]at f;have j4:=i1.o;rw[Xs]at j4;rw[<-j4]at f;exact⟨j5,λj hj=>ZB f j hj⟩
  have k4:Ha (Kp (λb=>b=R\/ro.rv.ownBlock=some b) w1 wr):=d3.o.after hI.below;have k1:Ha (g≠R):=by
   have q1:=(hI.owt.lt g rfl).1;have q2:=d3.o.size;unfold Ha;omega
  clear hI f b0;go_wp2_with fail;go_ret2;exact⟨k4.o,⟨A,i.o.rv,h5.o⟩,g,oc,by rw[i1.o];rfl,k1.o,k9.o⟩
variable {Z:Nat->Prop}
def BN(h:RI os rj Z w R td rec ls)(l cap a m:Nat)(B:NS w l [a,m])(y:a<=2147483647)(z:m<=2147483647):Calls prog 71 #[.pointer (some ⟨R,0,none⟩),.slice (some ⟨l,0,none⟩) 2 cap] w λe w'=>Kp Z w w'/\RI os (cC rj ls a m) (Zn Z w) w' R td rec ls /\
   ((zC rj ls a m≠0/\e=.returned (.tuple #[.slice none 0 0,.int .i64 (zC rj ls a m:Int)]))\/(zC rj ls a m=0/\∃g c,e=.returned (.tuple #[.slice (some ⟨g,0,none⟩) (zA ls (ZK ls a)).length c,.int .i64 0])/\g≠R/\Rw w' g (zA ls (ZK ls a)))):=by
 obtain⟨v,x,ro,n,p,i,b⟩:=h;by_cases f:zC rj ls a m=0
 ·obtain⟨D,E,F⟩:=mT f;unfold cC;rw[xh f];refine(DK n l cap a m B y z D E F).mono ?_
  rintro e w' ⟨j,⟨u,t,s⟩,g,c,q,r,C⟩;refine⟨j.mono (λk j=>?_),⟨v,x,u,t,Or.inl p,λg d=>Or.inl (i g d),λg d=>(s g d).elim (λh=>Or.inl (b g h)) Or.inr⟩,Or.inr ⟨f,g,c,q,r,C⟩⟩;rcases j with rfl|j
  ·exact p
  exact b k (Or.inr (Or.inr (Or.inl j)))
 unfold cC;rw[xg f];refine(DJ n l cap a m B y z f).mono ?_
 rintro e w' ⟨A,q⟩;exact⟨Wo A,⟨v,x,ro,n.below A,Or.inl p,λg d=>Or.inl (i g d),λg d=>Or.inl (b g d)⟩,Or.inl ⟨f,q⟩⟩
def mJ{Q:Ending->World->Prop}(b cap:Nat)
  (d:Ha (Calls prog 71 #[.pointer (some ⟨R,0,none⟩),.slice (some ⟨b,0,none⟩) 2 cap] w λe w'=>∃a l c n,e=.returned (.tuple #[.slice a l c,.int .i64 n])/\Q e w')) :
  Calls prog 51 #[.pointer (some ⟨R,0,none⟩),.int .i64 8,.slice (some ⟨b,0,none⟩) 2 cap] w Q:=by
 go_enter func51,ntmps51;go_wp2_with (go_at_call 71;refine(d.o).mono ?_;rintro e w1 ⟨a,l,c,n,rfl,f⟩);exact f
def DM(h:RI os rj Z w R td rec ls)(b cap a m:Nat)(x:NS w b [a,m])(r:a<=2147483647)(s:m<=2147483647):Calls prog 72 #[.pointer (some ⟨R,0,none⟩),.slice (some ⟨b,0,none⟩) 2 cap] w λe w'=>Kp Z w w'/\e=.returned (.int .i64 (zW rj a m:Int))/\RI os (Zq rj a m) (Zn Z w) w' R td rec ls:=by
 obtain⟨v,q,ro,t,p,d,c⟩:=h;refine(BO t b cap a m x r s).mono ?_
 rintro e w' ⟨i,u,n,l,j⟩;exact⟨i.mono (λk i=>by rw[i];exact p),u,v,q,n,l,Or.inl p,λg f=>Or.inl (d g f),λg f=>(j g f).elim (λh=>Or.inl (c g h)) Or.inr⟩
def wD(h:RI os rj Z w R td rec ls)(c cap a m:Nat)(f:NS w c [a,m])(g:a<=2147483647)(i:m<=2147483647):Calls prog 51 #[.pointer (some ⟨R,0,none⟩),.int .i64 9,.slice (some ⟨c,0,none⟩) 2 cap] w λe w'=>Kp Z w w'/\e=.returned (.tuple #[.slice none 0 0,.int .i64 (zW rj a m:Int)])/\RI os (Zq rj a m) (Zn Z w) w' R td rec ls:=by
 have b:=zb (DM h c cap a m f g i);generalize Zq rj a m=rs' at b ⊢;generalize zW rj a m=rc at b ⊢;clear h f;go_enter func51,ntmps51;go_wp2_with (go_at_call 72;refine(b.o).mono ?_;rintro e w1 ⟨j,rfl,d⟩);go_ret2;exact⟨j,rfl,d⟩
def Nh(w:World)(R td:Nat)(r:ByteArray)(a5:r.size<=1000000000000000)(ls:List L)(s:ByteArray)(hs:s.size<=4194295)(c:Nat)(a4:c<=10)(K:List Nat)(J:Pl.cmd s.data.toList=.ok (c,K))(rs:List Nat)(y:∀n∈rs,n<9223372036854775808)(a0:rs.length<=100)
  (HD:Ha (∀w1,Below w.heap.size w w1->oP R c K w1 λe w'=>Kp Z w1 w'/\RI os rj (Zn Z w1) w' R td r ls/\∃g B,e=.returned (.tuple #[.slice (some ⟨g,0,none⟩) rs.length B,.int .i64 0])/\g≠R/\Rw w' g rs)) (hZ:Z R) :
  Calls prog 37 #[.pointer (some ⟨R,0,none⟩),.string s] w λe w'=>e=.returned (.string ⟨(0::Pl.toldB rs).toArray⟩)/\Kp Z w w'/\∃t,t=Rt r s/\RI os rj (Zn Z w) w' R td t ls:=by
 have HC:=zb (dW s (by omega) w c K J);generalize hm:K.length=m at HC;have HM:=zb hm;have S:=Pl.toldB_len rs y;have HT:=zb (λ(b B:Nat) (w:World) (T:b<w.heap.size) J=>kG b B rs y (by omega) w T J);obtain⟨rl,A⟩:=Ww rs.length;rw[<-A.o]at HD HT a0 S;clear J hm y;go_enter func37,ntmps37;go_wp2_with fail;refine(HC.o).mono ?_
 rintro e w1 ⟨l,gn,cap,rfl,F⟩;have z:=zb (HD.o w1 l gn cap F);rw[HM.o]at z;clear F;go_wp2_with fail;refine(z.o).mono ?_
 rintro e w2 ⟨hk,X,g,B,rfl,E,H⟩;have x:=zb H;clear H;go_wp2_with fail;refine(oA s hs w2).mono ?_
 rintro e M ⟨q,f,rfl,hf,D⟩;have N:=zb D;clear D;obtain⟨v,fs,ro,G,a6,a2,a3⟩:=X;have d:=G.below q;have c4:=d.c4;have f4:=ze d.store 4;have i:∀u,Rw (M.setCell ⟨R,4,none⟩ u) g rs:=λu=>by
  have a1:(M.setCell ⟨R,4,none⟩ u).heap[g]?=w2.heap[g]?:=(xd _ _ _ _ E).trans (q.block g x.o.1);refine⟨xl x.o.1 (xj q.size (zM M ⟨R,4,none⟩ u).size),λj hj=>(xo (a:=⟨g,j,none⟩) a1).trans (x.o.2 j hj)⟩
 have Q:=zb (λu=>HT.o g B (M.setCell ⟨R,4,none⟩ u) (i u).1 (by rw[A.o];exact(i u).2));have P:=zb d;clear G d i E;go_wp2_with fail;refine(Q.o _).mono ?_
 rintro e w5 ⟨rfl,C⟩;go_wp2_with fail;go_ret;refine⟨gQ (YO [0] (Pl.toldB rs)),?_,r++f,?_,v,fs,ro,(P.o.recs _).below C,?_,?_,?_⟩
 ·exact((Kp.before l ((hk.after q).mono (λk h=>Or.inl h))).setCell (p:=⟨R,4,none⟩) (Or.inl hZ) _).after C
 ·rw[N.o];rfl
 ·exact Or.inl hZ
 ·intro g W;rcases a2 g W with h|h
  ·exact Or.inl h
  exact Or.inr (xj l.size h)
 intro g W;rcases a3 g W with h|h
 ·exact Or.inl h
 exact Or.inr (xj l.size h)
def Nf(r:Z R)(l:rec.size<=1000000000000000)(s:ByteArray)(y:s.size<=4194295)(c:Nat)(i:c<=10)(n:List Nat)(f:Pl.cmd s.data.toList=.ok (c,n))(rc:Nat)(C:rc<=99)(d:List L)
  (HD:∀w1,Below w.heap.size w w1->oP R c n w1 λe w'=>Kp Z w1 w'/\e=.returned (.tuple #[.slice none 0 0,.int .i64 rc])/\RI os rj (Zn Z w1) w' R td rec d) :
  Calls prog 37 #[.pointer (some ⟨R,0,none⟩),.string s] w λe w'=>e=.returned (.string ⟨[UInt8.ofNat rc].toArray⟩)/\Kp Z w w'/\∃a,RecX rec s a [UInt8.ofNat rc]/\RI os rj (Zn Z w) w' R td a d:=by
 have u:s.size<=4194304:=by omega
 by_cases x:rc=0
 ·subst x;refine(EI (os:=os) (rj:=rj) w R td rec l d s y c i n f (λw1 b p cap t=>?_) r).mono ?_
  ·refine(HD w1 b p cap t).mono ?_
   rintro e w2 ⟨j,m,v⟩;exact⟨m,j,v⟩
  rintro e w' ⟨q,z,a,A,B⟩;exact⟨q,z,a,RecX.yes f (by omega) A y rfl,B⟩
 refine(qF w R s u c n f rc (by omega) (by omega) (λw2=>Kp Z w w2/\RI os rj (Zn Z w) w2 R td rec d) (λw1 b p cap t=>?_)).mono ?_
 ·refine(HD w1 b p cap t).mono ?_
  rintro e w2 ⟨j,m,v⟩;exact⟨m,Kp.before b (j.mono (λk h=>Or.inl h)),v.mono (λk j=>j.elim Or.inl (λh=>Or.inr (xj b.size h)))⟩
 rintro e w' ⟨q,w2,⟨D,m⟩,g⟩;exact⟨q,D.after g,rec,RecX.no1 (dY x (by omega)),m.below g⟩
def Jm(h:RI os rj Z w R td rec ls)(r:rec.size<=1000000000000000)(s:ByteArray)(M:s.size<=4194295)(a m:Nat)(f:Pl.cmd s.data.toList=.ok (8,[a,m]))(P:a<=2147483647)(Q:m<=2147483647):Calls prog 37 #[.pointer (some ⟨R,0,none⟩),.string s] w λe w'=>e=.returned (.string ⟨(cB rj ls a m).toArray⟩)/\Kp Z w w'/\∃c,RecX rec s c (cB rj ls a m)/\RI os (cC rj ls a m) (Zn Z w) w' R td c ls:=by
 have y:Z R:=by obtain⟨v,K,ro,_,F,_⟩:=h;exact F
 have D:s.size<=4194304:=by omega
 have HD:=λ(w1:World) (b:Below w.heap.size w w1) (d cap:Nat) (q:NS w1 d [a,m])=>BN (h.below b) d cap a m q P Q
 by_cases j:zC rj ls a m=0
 ·have z:∀x∈ls,L.Ok x:=by obtain⟨v,K,ro,u,_⟩:=h;exact u.ok
  have A:ls.length<=30:=by obtain⟨v,K,ro,u,_⟩:=h;exact u.room
  have E:=qJ z A a;have t:cB rj ls a m=0::Pl.toldB (zA ls (ZK ls a)):=by unfold cB;rw[xh j]
  rw[t];refine(Nh (os:=os) (rj:=cC rj ls a m) w R td rec r ls s M 8 (by omega) [a,m] f (zA ls (ZK ls a)) E.1 (by omega) (zb (λw1 b d cap q=>?_)) y).mono ?_
  ·refine mJ d cap (zb ((HD w1 b d cap q).mono ?_));rintro e w' ⟨p,i,C⟩;rcases C with ⟨B,_⟩|⟨_,g,N,n,S⟩
   ·exact absurd j B
   exact⟨_,_,_,_,n,p,i,g,N,n,S⟩
  rintro e w' ⟨G,H,c,J,W⟩;exact⟨G,H,c,RecX.yes f (by omega) J M rfl,W⟩
 have T:=uW rj ls a m;have t:cB rj ls a m=[UInt8.ofNat (zC rj ls a m)]:=by unfold cB;rw[xg j]
 rw[t];refine(qF w R s D 8 [a,m] f (zC rj ls a m) (by omega) (by omega) (λw2=>Kp Z w w2/\RI os (cC rj ls a m) (Zn Z w) w2 R td rec ls) (zb (λw1 b d cap q=>?_))).mono ?_
 ·refine mJ d cap (zb ((HD w1 b d cap q).mono ?_));rintro e w' ⟨p,i,C⟩;rcases C with ⟨_,n⟩|⟨F,_⟩
  ·exact⟨_,_,_,_,n,n,Kp.before b (p.mono (λk h=>Or.inl h)),i.mono (λk p=>p.elim Or.inl (λh=>Or.inr (xj b.size h)))⟩
  exact absurd F j
 rintro e w' ⟨G,w2,⟨H,J⟩,l⟩;exact⟨G,H.after l,rec,RecX.no1 (dY j (by omega)),J.below l⟩
def mM(h:RI os rj Z w R td rec ls)(n:Good os ls)(b:rec.size<=1000000000000000)(s:ByteArray)(p:s.size<=4194295):Calls prog 37 #[.pointer (some ⟨R,0,none⟩),.string s] w λe w'=>e=.returned (.string ⟨(zO rj td os ls (Pl.cmd s.data.toList)).1.toArray⟩)/\Kp Z w w'/\∃g,RecX rec s g (zO rj td os ls (Pl.cmd s.data.toList)).1/\RI (zO rj td os ls (Pl.cmd s.data.toList)).2.2.1 (zO rj td os ls (Pl.cmd s.data.toList)).2.2.2.1 (Zn Z w) w' R (zO rj td os ls (Pl.cmd s.data.toList)).2.1 g (zO rj td os ls (Pl.cmd s.data.toList)).2.2.2.2:=by
 have j:Z R:=by obtain⟨v,A,ro,_,z,_⟩:=h;exact z
 rcases lT s.data.toList with f|⟨c,B,l,q,i,t,d,u⟩
 ·rw[Cb f];exact AL h n b s p f
 rw[i];rcases t with rfl|rfl
 ·obtain⟨a,m,rfl⟩:=UE d;have hd:a<=2147483647/\m<=2147483647:=by simp[Pl.mays,Pl.kindsL,Pl.mayB]at q;omega
  exact Jm h b s p a m i hd.1 hd.2
 obtain⟨a,m,rfl⟩:=UF d;have hd:a<=2147483647/\m<=2147483647:=by simp[Pl.mays,Pl.kindsL,Pl.mayB]at q;omega
 have y:=rO rj a m;exact Nf j b s p 9 (by omega) [a,m] i (zW rj a m) (by omega) ls (λw1 k r cap x=>wD (h.below k) r cap a m x hd.1 hd.2)
def RI.bound(h:RI os rj Z w R td rec ls):RI os rj (λk=>Z k/\k<w.heap.size) w R td rec ls:=by
 obtain⟨v,c,ro,b,d,e,f⟩:=h;exact⟨v,c,ro,b,⟨d,zc b.store⟩,λg a=>by obtain⟨j,i⟩:=zh b.row a;exact⟨e g a,zc i⟩,λg a=>⟨f g a,b.ord.lt a⟩⟩
def aQ(w:World):World :=
 (((((((w.alloc (.map #[] 0)).alloc (.map #[] 0)).alloc (.map #[] 0)).alloc (.cells #[.int .i64 0,.slice none 0 0,.map (some w.heap.size),.map (some (w.heap.size+1)),.map (some (w.heap.size+1+1))] 117)).alloc (.cells #[.pointer (some ⟨w.heap.size+1+1+1,0,none⟩),.slice none 0 0] 91)).alloc (.cells #[.int .i64 0,.slice none 0 0,.slice none 0 0,.slice none 0 0,.string ⟨#[]⟩] 42)).alloc (.cells #[.pointer (some ⟨w.heap.size+1+1+1+1,0,none⟩),.pointer (some ⟨w.heap.size+1+1+1+1+1,0,none⟩)] 46))
def QL{s a:ByteArray}{b:List UInt8}(h:RecX rec s a b):Wp rec.data.toList s b=a.data.toList:=by
 rw[h.eq];unfold Wp Tt;split
 ·unfold Rt Mi;simp
 rfl
