import Derived.Test.YtgcedalggnmooaaGreatDoorDc3X
import Derived.Deep.CutRange
import Derived.Test.YtgcedalggnmooaaGreatDoorR13X
import Derived.Test.YtgcedalggnmooaaGreatDoorHnX
set_option linter.all false
set_option maxRecDepth 100000
set_option maxHeartbeats 6400000
namespace Go.Proofs.YtgcedalggnmooaaGreatDoor
open Go.RowKit
open Tryz
structure SA(w6 w8:World)(os:List O)(rj:List (Nat×Nat))(ro:Ro)(R:Nat)(v:Value)(td:Nat)(rec:ByteArray)(fs:List Value)(ls:List L)(s:List Nat)(sg sc:Nat)(wr:World)(k g oc:Nat):Prop where
 rv:RV os rj ro wr R v td rec fs ls
 row:wr.ownsRow 0 3 1 (.slice (some ⟨sg,0,none⟩) s.length sc) s.length (I s)
 owt:wr.ownsRow w6.heap.size 3 1 (.slice (some ⟨g,0,none⟩) (1+(hN ls (s.take k)).length*2) oc) (1+(hN ls (s.take k)).length*2) (I ((hN ls (s.take k)).length::tN ls (hN ls (s.take k))))
 at':g=w6.heap.size\/w8.heap.size<=g
 below:Below w6.heap.size w6 wr
 sz:w8.heap.size<=wr.heap.size
variable {B N Q R td:Nat}{ls:List L}{os:List O}{rj:List (Nat×Nat)}{rec:ByteArray}{w w0:World}
theorem De{v:Value}{fs:List Value}{ro:Ro}(h:RV os rj ro w R v td rec fs ls)(B i4:Nat)(a m:Nat)(m4:NS w B [a,m])(h1:a<=2147483647)(h2:m<=2147483647)(hi:UB a ls<ls.length)(hc:rj.contains (a,m)=false)(f5:¬10<=rj.length):Calls prog 71 #[.pointer (some ⟨R,0,none⟩),.slice (some ⟨B,0,none⟩) 2 i4] w λe w'=>Kp (λb=>b=R\/ro.rv.ownBlock=some b) w w'/\(∃A,RV os (rj++[(a,m)]) A w' R v td rec fs ls/\∀b,OB A b->OB ro b\/w.heap.size<=b)/\∃g c,e=.returned (.tuple #[.slice (some ⟨g,0,none⟩) (zG ls (ZO ls a)).length c,.int .i64 0])/\g≠R/\Rw w' g (zG ls (ZO ls a)):=by
 obtain⟨i3,m1,n5,n6,n7⟩:=XH FE;obtain⟨ip,m2,m5,m6,m7⟩:=XH wH;obtain⟨⟨cs,g1⟩,a4⟩:=m4;have n0:w.cell? ⟨B,0,none⟩=some (.int .i64 a):=a4 0 (by simp);have n1:w.cell? ⟨B,1,none⟩=some (.int .i64 m):=a4 1 (by simp);have a5:=zc g1;have HA:=zb (aS h a h1);have HX:Ha (∀n,Calls prog 116 #[.pointer (some ⟨R,0,none⟩),.int .i64 a,.int .i64 m] (w.drewN n) λe w'=>e=.returned (.int .i64 (yC rj a m))/\w'=w.drewN n):=λn=>fV (h.below (Xf (xh _ _) n)) a m
 have i2:Ha (Ua ls a=(UB a ls:Int)):=by unfold Ha Ua;rw[xe hi]
 rw[i2.o]at HA;have HV:Ha (yC rj a m=-1):=by unfold Ha yC;rw[xg (λq=>by rw[lJ.1 q]at hc;cases hc)]
 rw[HV.o]at HX;have HI:=zb hi;have k7:=zb (h.rc.put h1 h2 hc f5);have h4:=zb g1;obtain⟨ix,k3⟩:=UM (UB a ls);rw[<-k3.o]at HA;obtain⟨ra,H,c9,_⟩:=h.rshape;have c3:=h.c3;rw[c9]at c3;have P:=h.ord.fd.rrow;rw[c9]at P;have h8:=zb c9;have f3:=zf h.store 3;have a8:=zc h.store;have HP:=zb h;obtain⟨M,f0⟩:=UM rj.length;rw[<-f0.o]at c3 f5 P;have o2:M<10:=by omega
 have m9:(Value.slice ra M H).ownBlock≠some R:=dY P h.store (by decide);clear h a4 g1 HV i2 hc hi c9 f5;go_enter func71,ntmps71;go_wp2_with (go_at_call 111;refine(HA.o).mono ?_;rintro e w1 ⟨rfl,rfl⟩);go_quiet ((go_at_call 116;exact Yn (HX.o _)));go_wp2_with fail;obtain⟨wq,c6⟩:=UM (w1.drewN nq);have C:Ha (Below w1.heap.size w1 wq):=by unfold Ha;rw[c6.o];exact Xf (xh _ _) nq
 have c5:Ha (wq.heap.size=w1.heap.size):=by unfold Ha;rw[c6.o];rfl
 have K:=zh P C.o;have x0:=(C.o.cell (p:=⟨B,0,none⟩) a5).trans n0;have x1:=(C.o.cell (p:=⟨B,1,none⟩) a5).trans n1;have x3:=(C.o.cell (p:=⟨R,3,none⟩) a8).trans c3;have xf:=(C.o.frozen (p:=⟨R,3,none⟩) a8).trans f3;have f7:R<wq.heap.size:=by rw[c5.o];exact a8
 have m0:B<wq.heap.size:=by rw[c5.o];exact a5
 have k6:=zb (HP.o.below C.o);rw[<-c6.o];clear c6 n0 n1 c3 f3 HX HA P;have l:Below wq.heap.size wq (wq.alloc (.cells #[.int .i64 a,.int .i64 m] 181)).drew:=(TZ wq _).drew;have a3:(wq.alloc (.cells #[.int .i64 a,.int .i64 m] 181)).drew.heap[wq.heap.size]?=some (.cells #[.int .i64 a,.int .i64 m] 181 (0,0)):=xo wq _;have F:∀u∈([.int .i64 a,.int .i64 m]:List Value),u.oneCell'=true:=by
  intro u hu;simp at hu;rcases hu with rfl|rfl<;>rfl
 have g0:(wq.alloc (.cells #[.int .i64 a,.int .i64 m] 181)).drew.cell? ⟨R,3,none⟩=some (.slice ra M H):=(l.cell (by exact f7)).trans x3;have g3:(wq.alloc (.cells #[.int .i64 a,.int .i64 m] 181)).drew.frozen? ⟨R,3,none⟩=false:=(l.frozen (by exact f7)).trans xf;have a7:Ha (R<(wq.alloc (.cells #[.int .i64 a,.int .i64 m] 181)).drew.heap.size):=xn f7 l.size;have f4:=zb (XZ m9);have Q:=zb l;have T:=zh K l;have a1:(Value.slice ra M H).ownBlock=ro.rv.ownBlock:=by rw[h8.o,f0.o]
 have e7:Ha (∀(g2 cap2:Nat) (w5:World),(wq.alloc (.cells #[.int .i64 a,.int .i64 m] 181)).drew.grownBy w5 (Value.slice ra M H).ownBlock->w5.ownsRow 0 181 2 (.slice (some ⟨g2,0,none⟩) (M+1) cap2) (M+1) (zA rj++[.int .i64 a,.int .i64 m])->((Value.slice ra M H).ownBlock=some g2\/g2=wq.heap.size+1) ->
   RV os (rj++[(a,m)]) { ro with rv:=.slice (some ⟨g2,0,none⟩) (M+1) cap2 } (w5.setCell ⟨R,3,none⟩ (.slice (some ⟨g2,0,none⟩) (M+1) cap2)) R v td rec fs ls/\(∀b,OB { ro with rv:=.slice (some ⟨g2,0,none⟩) (M+1) cap2 } b->OB ro b\/w1.heap.size<=b)/\Kp (λb=>b=R\/ro.rv.ownBlock=some b) w1 (w5.setCell ⟨R,3,none⟩ (.slice (some ⟨g2,0,none⟩) (M+1) cap2))/\B<(w5.setCell ⟨R,3,none⟩ (.slice (some ⟨g2,0,none⟩) (M+1) cap2)).heap.size/\(w5.setCell ⟨R,3,none⟩ (.slice (some ⟨g2,0,none⟩) (M+1) cap2)).cell? ⟨B,0,none⟩=some (.int .i64 a)):=λg2 cap2 w5 d r S=>by
  have d4:∀g,(Value.slice (some ⟨g2,0,none⟩) (M+1) cap2).ownBlock=some g->ro.rv.ownBlock=some g\/wq.heap.size<=g:=λg hg=>by
   cases hg;rcases S with q|q
   ·left;rw[<-a1];exact q
   right;show wq.heap.size<=g2;omega
  have j3:w5.heap[B]?=w1.heap[B]?:=by
   rw[d.block B (by have:=l.size;omega) (λe=>by
    obtain⟨i5,a9⟩:=zi K e.symm;exact zw ((C.o.block B a5).trans h4.o) a9 (by decide) rfl),l.block B m0,C.o.block B a5]
  have l9:B≠R:=zw h4.o HP.o.store (by decide);refine⟨k6.o.recl (λk hk=>l.block k hk) l.size (by rw[<-a1];exact d) (by rw[qD,xb,Xc,<-f0.o];exact r) d4 k7.o,λb D=>?_,?_,?_,?_⟩
  ·rcases GR d4 b D with q|q
   ·exact Or.inl q
   right;rw[c5.o]at q;exact q
  ·refine Kp.setCell (Z:=λb=>b=R\/ro.rv.ownBlock=some b) ?_ (p:=⟨R,3,none⟩) (Or.inl (Or.inl rfl)) _
   refine Kp.grown (UD (C.o.trans (l.mono (by rw[c5.o];exact xc _)))) d (λk hk=>Or.inl (Or.inr (by rw[<-a1];exact hk)))
  ·have o3:=d.size;have o4:=l.size;simp[World.setCell];omega
  have hq:(w5.setCell ⟨R,3,none⟩ (.slice (some ⟨g2,0,none⟩) (M+1) cap2)).heap[B]?=w1.heap[B]?:=by rw[xa _ _ _ _ l9];exact j3
  exact(xm (a:=⟨B,0,none⟩) hq).trans ((C.o.cell (p:=⟨B,0,none⟩) a5).symm.trans x0)
 go_cut [] from 12 (λy=>∃A,RV os (rj++[(a,m)]) A y R v td rec fs ls/\(∀b,OB A b->OB ro b\/w1.heap.size<=b)/\Kp (λb=>b=R\/ro.rv.ownBlock=some b) w1 y/\B<y.heap.size/\y.cell? ⟨B,0,none⟩=some (.int .i64 a))
 case first=>
  go_region_law (refine step_append_lies _ (by rfl) _ _ _ (by rfl) 0 181 ip (.agg #[.int .i64 0,.int .i64 0]) 2 16 xP m2 m5 m6 m7 rfl (by decide) (.slice ra M H) M (zA rj) (by rfl) T ⟨wq.heap.size,0,none⟩ 1 1 [.int .i64 a,.int .i64 m] (by rfl) (by rfl) (World.news_of_block a3) F (by decide) (by unfold maxLen;omega) (by omega) (Nat.zero_le _) (wq.heap.size+1) (by simp) ?_;intro g2 cap2 w5 r d S b1;have l6:=(d.cell_far ⟨R,3,none⟩ a7.o f4.o).trans g0;have l8:=(d.frozen_far ⟨R,3,none⟩ a7.o f4.o).trans g3)
  all_goals
   have k0:=zb (e7.o g2 cap2 w5 d r S);clear r d S b1 l6 l8 g0 g3 x0 x1 x3 xf l a3 F T K e7;go_wp2_with fail;go_meet
   case rel=>exact⟨_,k0.o⟩
 case rest=>
  obtain⟨A,e0,d8,d6,n9,y0⟩:=hcut;obtain⟨y,rfl⟩:∃y,y=wc:=⟨wc,rfl⟩
  have N:=zb e0;have h5:=zb d8;have d3:=zb d6;clear e0 d8 d6 x0 x1 x3 xf l a3 F T K e7 g0 g3 a7 f4 Q a1;have f6:Below y.heap.size y (y.alloc (.cells #[.int .i64 0] 3)):=TZ y _;have h3:=zb (yR (N.o.below f6) a h1);have a6:Ha ((y.alloc (.cells #[.int .i64 0] 3)).ownsRow y.heap.size 3 1 (.slice (some ⟨y.heap.size,0,none⟩) 1 1) 1 (I [0])):=Yh y #[.int .i64 0] 1 (xc _) (by unfold maxLen;omega) rfl;have b8:=zb f6;have h0:Ha ((jX ls a).length<=31):=by
   have q1:=Lz ls a;have q2:=N.o.room;unfold Ha;omega
  have g9:Ha (∀n∈jX ls a,n<=2147483647):=λn hn=>by
   obtain⟨q1,q2⟩:=iS HI.o hn;have:=(N.o.ok _ (zg q1)).id;rw[q2]at this;exact this
  clear f6;go_wp2_with (first
   |(go_at_call 118;refine(h3.o).mono ?_;rintro e w7 ⟨i8,v7,rfl,b4⟩;have a2:=zb i8;have h9:=zb (Gs b4 h0.o (Fi ls a) g9.o);clear i8 b4)
   |(go_at_call 117;refine(h9.o).mono ?_;rintro e w8 ⟨f9,v8,s,rfl,J,e3,W⟩))
  have g5:0<s.length:=by
   rw[J.length_eq];have:=BV ls [a] ls.length (xc _);rw[Xa]at this;unfold jX;exact this
  obtain⟨sg,sc,n3,j8,b6⟩:=zK W g5;subst n3;have l4:y.heap.size+1<=w7.heap.size:=by have:=a2.o.size;simp at this;exact this
  have X:Below y.heap.size y w8:=b8.o.trans ((a2.o.mono b8.o.size).trans (f9.mono (xj b8.o.size a2.o.size)));have d2:Ha (SA y w8 os (rj++[(a,m)]) A R v td rec fs ls s sg sc w8 0 y.heap.size 1):=⟨N.o.below X,aK W,zh a6.o (a2.o.trans (f9.mono a2.o.size)),Or.inl rfl,X,xc _⟩
  have h7:=zb J;have l1:=zb e3;have l0:Ha (s.length<=31):=by unfold Ha;rw[J.length_eq];exact h0.o
  have n2:s.length<=31:=l0.o;have j7:=X.size;have f1:Ha (y.heap.size<sg/\sg<w8.heap.size):=⟨by omega,b6⟩
  have c7:0<ls.length:=by have:=HI.o;omega
  clear J e3 W f9 X j8 l4 h9 a2 h3 a6 b8 y0 b6 j7;go_loopw [8,10,11] (λoo ii _ wr=>∃(k g c:Nat),ii=.int .i64 k/\k<=s.length/\oo=.slice (some ⟨g,0,none⟩) (1+(hN ls (s.take k)).length*2) c/\SA y w8 os (rj++[(a,m)]) A R v td rec fs ls s sg sc wr k g c) (λ_ ii _ _=>s.length-(intOf ii).toNat)
  case atStart=>exact⟨0,y.heap.size,1,rfl,by omega,rfl,d2.o⟩
  clear d2;obtain⟨k,g,oc,rfl,hk,rfl,hI⟩:=hrel;have m8:(hN ls (s.take k)).length<=31:=by
   have q1:=Rr ls (s.take k);rw[Xt]at q1;omega
  by_cases b0:k<s.length
  ·have b2:s.getD k 0∈jX ls a:=h7.o.mem_iff.1 (by simp[Uv,b0]);obtain⟨hc,i9⟩:=iS HI.o b2;have j0:=ZJ hI.row k b0;have n4:=g9.o _ b2;have e5:=zb (aS hI.rv (s.getD k 0) n4);have d5:Ua ls (s.getD k 0)=(UB (s.getD k 0) ls:Int):=by unfold Ua;rw[xe hc]
   rw[d5]at e5;obtain⟨va,j9,hv,a0⟩:=hI.rv.shape;obtain⟨G,hG,n8,a4⟩:=a0 c7;subst hG;have cR:=hI.rv.c1;rw[hv]at cR;have e6:wr.cell? ⟨G,UB (s.getD k 0) ls*11+6,none⟩=some (.int .i64 (aW ls (s.getD k 0):Int)):=a4 _ hc 6 (by omega);have j6:=hI.rv.ok _ (zg hc);have o1:aW ls (s.getD k 0)<=2147483647:=by have:=j6.sum;unfold aW;omega
   have e9:Ha (0<aW ls (s.getD k 0)->hN ls (s.take (k+1))=hN ls (s.take k)++[s.getD k 0]/\tN ls (hN ls (s.take (k+1)))=tN ls (hN ls (s.take k))++[s.getD k 0,aW ls (s.getD k 0)]):=λhp=>by
    have e:=Iq (ls:=ls) b0;rw[xe hp]at e;exact⟨e,by rw[e,Km]⟩
   have e8:Ha (¬0<aW ls (s.getD k 0)->hN ls (s.take (k+1))=hN ls (s.take k)):=λhp=>by
    rw[Iq (ls:=ls) b0,xg hp]
   generalize aW ls (s.getD k 0)=hd at *;generalize hx:s.getD k 0=x at *;generalize UB x ls=c at *;have i:=zb hI;have l2:=zb hv;clear hx b2 i9 d5 a0 a4 j6 hI hv;by_cases d9:0<hd
   ·obtain⟨HN,HT⟩:Ha (hN ls (s.take (k+1))=hN ls (s.take k)++[x])/\Ha (tN ls (hN ls (s.take (k+1)))=tN ls (hN ls (s.take k))++[x,hd]):=e9.o d9;obtain⟨z,b9⟩:=UM ((hN ls (s.take k)).length);rw[<-b9.o]at m8;rw[<-b9.o];have f:=i.o.owt;rw[<-b9.o]at f;have l5:wr.cell? ⟨g,0,none⟩=some (.int .i64 z):=by rw[f.cellAt 0 (by omega)];rfl
    have l7:=f.frozenAt 0;have j2:=(f.lt g rfl).1;have HO:=zb f;clear e9 e8 f;go_wp2_with (go_at_call 111;with_reducible refine(e5.o).mono ?_;rintro e w3 ⟨rfl,g6⟩;have g7:=g6.symm;subst g7);have g4:¬sg=g:=by
     have q1:=f1.o;rcases i.o.at' with q|q<;>omega
    have E:∀b,b≠g->(wr.setCell ⟨g,0,none⟩ (.int .i64 ((z:Int)+1))).heap[b]?=wr.heap[b]?:=λb D=>xa _ _ _ _ D
    have d0:∀(b:Nat) (cs:Array Value) (t:TypeId),wr.heap[b]?=some (.cells cs t (0,0))->t≠3->b≠g:=λb cs t D ht=>by
     obtain⟨i5,a9⟩:=zi HO.o (g:=g) rfl;exact zw D a9 ht
    have k8:Ha (RV os (rj++[(a,m)]) A (wr.setCell ⟨g,0,none⟩ (.int .i64 ((z:Int)+1))) R v td rec fs ls):=i.o.rv.typed (λb cs t D ht=>E b (d0 b cs t D ht));have l3:Ha ((wr.setCell ⟨g,0,none⟩ (.int .i64 ((z:Int)+1))).ownsRow 0 3 1 (.slice (some ⟨sg,0,none⟩) s.length sc) s.length (I s)):=ze i.o.row (λb D=>E b (by cases D;exact g4));have h6:Ha ((wr.setCell ⟨g,0,none⟩ (.int .i64 ((z:Int)+1))).ownsRow y.heap.size 3 1 (.slice (some ⟨g,0,none⟩) (1+z*2) oc) (1+z*2) (I ((z+1)::tN ls (hN ls (s.take k))))):=(HO.o.stored 0 (.int .i64 ((z:Int)+1))).1;have g8:Ha (Below y.heap.size y (wr.setCell ⟨g,0,none⟩ (.int .i64 ((z:Int)+1)))):=i.o.below.setCell (p:=⟨g,0,none⟩) j2 _;have f2:Ha (w8.heap.size<=(wr.setCell ⟨g,0,none⟩ (.int .i64 ((z:Int)+1))).heap.size):=by have:=i.o.sz;unfold Ha;simp;exact this
    have i7:¬R=g:=d0 _ _ _ i.o.rv.store (by decide);have i6:¬G=g:=by
     have b5:=i.o.rv.row;rw[l2.o]at b5;obtain⟨o0,j1⟩:=zi b5 rfl;exact d0 _ _ _ j1 (by decide)
    have z1:(wr.setCell ⟨g,0,none⟩ (.int .i64 ((z:Int)+1))).cell? ⟨sg,k,none⟩=some (.int .i64 x):=(xm (a:=⟨sg,k,none⟩) (E _ g4)).trans j0;have z2:(wr.setCell ⟨g,0,none⟩ (.int .i64 ((z:Int)+1))).cell? ⟨R,1,none⟩=some (.slice (some ⟨G,0,none⟩) ls.length j9):=(xm (a:=⟨R,1,none⟩) (E _ i7)).trans cR;have z3:(wr.setCell ⟨g,0,none⟩ (.int .i64 ((z:Int)+1))).cell? ⟨G,c*11+6,none⟩=some (.int .i64 hd):=(xm (a:=⟨G,c*11+6,none⟩) (E _ i6)).trans e6;have d1:=zb i.o.at';clear E d0 j0 cR e6 l5 l7 i HO g4 i7 i6;generalize wr.setCell ⟨g,0,none⟩ (.int .i64 ((z:Int)+1))=wt at *;have e4:y.heap.size<=wt.heap.size:=g8.o.size;have l:Below wt.heap.size wt (wt.alloc (.cells #[.int .i64 x,.int .i64 hd] 3)).drew:=(TZ wt _).drew;have a3:(wt.alloc (.cells #[.int .i64 x,.int .i64 hd] 3)).drew.heap[wt.heap.size]?=some (.cells #[.int .i64 x,.int .i64 hd] 3 (0,0)):=xo wt _;have F:∀u∈([.int .i64 x,.int .i64 hd]:List Value),u.oneCell'=true:=by
     intro u hu;simp at hu;rcases hu with rfl|rfl<;>rfl
    have b3:=zh h6.o l;have Q:=zb l;go_region_law (refine step_append_lies _ (by rfl) _ _ _ (by rfl) y.heap.size 3 i3 (.int .i64 0) 1 8 Og m1 n5 n6 n7 rfl (by decide) (.slice (some ⟨g,0,none⟩) (1+z*2) oc) (1+z*2) (I ((z+1)::tN ls (hN ls (s.take k)))) (by rfl) b3 ⟨wt.heap.size,0,none⟩ 2 2 [.int .i64 x,.int .i64 hd] (by rfl) (by rfl) (World.news_of_block a3) F (by decide) (by unfold maxLen;omega) (by omega) (by simp;omega) (wt.heap.size+1) (by simp) ?_;intro g2 cap2 w5 r d S b1)
    all_goals
     have c8:(hN ls (s.take (k+1))).length=z+1:=by rw[HN.o,xb,Xc,<-b9.o]
     have e1:I ((z+1)::tN ls (hN ls (s.take k)))++[.int .i64 x,.int .i64 hd]=I ((hN ls (s.take (k+1))).length::tN ls (hN ls (s.take (k+1)))):=by rw[c8,HT.o];simp[I]
     rw[e1]at r;have f8:∀b,b<wt.heap.size->b≠g->w5.heap[b]?=wt.heap[b]?:=λb D m3=>(d.block b (xn D Q.o.size) (λe=>m3 (by injection e))).trans (Q.o.block b D)
     have d7:∀(b:Nat) (cs:Array Value) (t:TypeId),wt.heap[b]?=some (.cells cs t (0,0))->t≠3->w5.heap[b]?=wt.heap[b]?:=λb cs t D ht=>f8 b (zc D) (by
      obtain⟨i5,a9⟩:=zi h6.o (g:=g) rfl;exact zw D a9 ht)
     have b7:sg≠g:=by
      have q1:=f1.o;rcases d1.o with q|q<;>omega
     have e2:sg<wt.heap.size:=xn f1.o.2 f2.o;have k2:Ha (SA y w8 os (rj++[(a,m)]) A R v td rec fs ls s sg sc w5 (k+1) g2 cap2):=by
      refine⟨k8.o.typed d7,ze l3.o (λb D=>by cases D;exact f8 sg e2 b7),?_,?_,?_,?_⟩
      ·rw[show 1+(hN ls (s.take (k+1))).length*2=1+z*2+2 by rw[c8];omega];exact r
      ·rcases S with q|q
       ·injection q with q;rw[<-q];exact d1.o
       right;have:=f2.o;omega
      ·exact(g8.o.trans (Q.o.mono e4)).grown d (xj e4 Q.o.size) (λb D=>by injection D with D;rw[<-D];exact j2)
      exact xj f2.o (xj Q.o.size d.size)
     have k5:=zb c8;clear c8 e1 r d S b1 f8 d7 b7 e2 l a3 F b3 z1 z2 z3;go_wp2_with fail;go_roundw
     case rel=>exact⟨k+1,g2,cap2,by go_num,by omega,by rw[k5.o,show 1+(z+1)*2=1+z*2+2 by omega],k2.o⟩
     simp[intOf];omega
   have HN:=zb (e8.o d9);clear e9 e8;go_wp2_with (go_at_call 111;with_reducible refine(e5.o).mono ?_;rintro e w3 ⟨rfl,g6⟩;have g7:=g6.symm;subst g7);go_roundw
   case rel=>exact⟨k+1,g,oc,by go_num,by omega,by rw[HN.o],⟨i.o.rv,i.o.row,by rw[HN.o];exact i.o.owt,i.o.at',i.o.below,i.o.sz⟩⟩
   simp[intOf];omega
  obtain rfl:k=s.length:=by omega
  have i:=zb hI;have f:=hI.owt;rw[Xa]at f;have i0:=zb (IC N.o.fam.ids HI.o h7.o l1.o);have i1:Ha ((zG ls (ZO ls a)).length=1+(hN ls (s.take s.length)).length*2):=by
   unfold Ha;rw[<-i0.o,Xa,List.length_cons,Oc];omega
  have k9:Ha (Rw wr g (zG ls (ZO ls a))):=by
   have j5:=(f.lt g rfl).2;rw[i0.o]at f;have j4:=i1.o;rw[Xa]at j4;rw[<-j4]at f;exact⟨j5,λj hj=>ZJ f j hj⟩
  have k4:Ha (Kp (λb=>b=R\/ro.rv.ownBlock=some b) w1 wr):=d3.o.after hI.below;have k1:Ha (g≠R):=by
   have q1:=(hI.owt.lt g rfl).1;have q2:=d3.o.size;unfold Ha;omega
  clear hI f b0;go_wp2_with fail;go_ret2;exact⟨k4.o,⟨A,i.o.rv,h5.o⟩,g,oc,by rw[i1.o];rfl,k1.o,k9.o⟩
variable {Z:Nat->Prop}
theorem Be(h:RI os rj Z w R td rec ls)(l cap a m:Nat)(B:NS w l [a,m])(y:a<=2147483647)(z:m<=2147483647):Calls prog 71 #[.pointer (some ⟨R,0,none⟩),.slice (some ⟨l,0,none⟩) 2 cap] w λe w'=>Kp Z w w'/\RI os (cB rj ls a m) (Zn Z w) w' R td rec ls /\
   ((zE rj ls a m≠0/\e=.returned (.tuple #[.slice none 0 0,.int .i64 (zE rj ls a m:Int)]))\/(zE rj ls a m=0/\∃g c,e=.returned (.tuple #[.slice (some ⟨g,0,none⟩) (zG ls (ZO ls a)).length c,.int .i64 0])/\g≠R/\Rw w' g (zG ls (ZO ls a)))):=by
 obtain⟨v,x,ro,n,p,i,b⟩:=h;by_cases f:zE rj ls a m=0
 ·obtain⟨D,E,F⟩:=mF f;unfold cB;rw[xe f];refine(De n l cap a m B y z D E F).mono ?_
  rintro e w' ⟨j,⟨u,t,s⟩,g,c,q,r,C⟩;refine⟨j.mono (λk j=>?_),⟨v,x,u,t,Or.inl p,λg d=>Or.inl (i g d),λg d=>(s g d).elim (λh=>Or.inl (b g h)) Or.inr⟩,Or.inr ⟨f,g,c,q,r,C⟩⟩;rcases j with rfl|j
  ·exact p
  exact b k (Or.inr (Or.inr (Or.inl j)))
 unfold cB;rw[xg f];refine(Dd n l cap a m B y z f).mono ?_
 rintro e w' ⟨A,q⟩;exact⟨UD A,⟨v,x,ro,n.below A,Or.inl p,λg d=>Or.inl (i g d),λg d=>Or.inl (b g d)⟩,Or.inl ⟨f,q⟩⟩
theorem lW{Q:Ending->World->Prop}(b cap:Nat)
  (d:Ha (Calls prog 71 #[.pointer (some ⟨R,0,none⟩),.slice (some ⟨b,0,none⟩) 2 cap] w λe w'=>∃a l c n,e=.returned (.tuple #[.slice a l c,.int .i64 n])/\Q e w')) :
  Calls prog 51 #[.pointer (some ⟨R,0,none⟩),.int .i64 8,.slice (some ⟨b,0,none⟩) 2 cap] w Q:=by
 go_enter func51,ntmps51;go_wp2_with (go_at_call 71;refine(d.o).mono ?_;rintro e w1 ⟨a,l,c,n,rfl,f⟩);exact f
theorem Di(h:RI os rj Z w R td rec ls)(b cap a m:Nat)(x:NS w b [a,m])(r:a<=2147483647)(s:m<=2147483647):Calls prog 72 #[.pointer (some ⟨R,0,none⟩),.slice (some ⟨b,0,none⟩) 2 cap] w λe w'=>Kp Z w w'/\e=.returned (.int .i64 (zZ rj a m:Int))/\RI os (Zz rj a m) (Zn Z w) w' R td rec ls:=by
 obtain⟨v,q,ro,t,p,d,c⟩:=h;refine(Bf t b cap a m x r s).mono ?_
 rintro e w' ⟨i,u,n,l,j⟩;exact⟨i.mono (λk i=>by rw[i];exact p),u,v,q,n,l,Or.inl p,λg f=>Or.inl (d g f),λg f=>(j g f).elim (λh=>Or.inl (c g h)) Or.inr⟩
theorem vI(h:RI os rj Z w R td rec ls)(c cap a m:Nat)(f:NS w c [a,m])(g:a<=2147483647)(i:m<=2147483647):Calls prog 51 #[.pointer (some ⟨R,0,none⟩),.int .i64 9,.slice (some ⟨c,0,none⟩) 2 cap] w λe w'=>Kp Z w w'/\e=.returned (.tuple #[.slice none 0 0,.int .i64 (zZ rj a m:Int)])/\RI os (Zz rj a m) (Zn Z w) w' R td rec ls:=by
 have b:=zb (Di h c cap a m f g i);generalize Zz rj a m=rs' at b ⊢;generalize zZ rj a m=rc at b ⊢;clear h f;go_enter func51,ntmps51;go_wp2_with (go_at_call 72;refine(b.o).mono ?_;rintro e w1 ⟨j,rfl,d⟩);go_ret2;exact⟨j,rfl,d⟩
theorem LZ(w:World)(R td:Nat)(r:ByteArray)(a5:r.size<=1000000000000000)(ls:List L)(s:ByteArray)(hs:s.size<=4194295)(c:Nat)(a4:c<=10)(K:List Nat)(J:Pl.cmd s.data.toList=.ok (c,K))(rs:List Nat)(y:∀n∈rs,n<9223372036854775808)(a0:rs.length<=100)
  (HD:Ha (∀w1,Below w.heap.size w w1->nZ R c K w1 λe w'=>Kp Z w1 w'/\RI os rj (Zn Z w1) w' R td r ls/\∃g B,e=.returned (.tuple #[.slice (some ⟨g,0,none⟩) rs.length B,.int .i64 0])/\g≠R/\Rw w' g rs)) (hZ:Z R) :
  Calls prog 37 #[.pointer (some ⟨R,0,none⟩),.string s] w λe w'=>e=.returned (.string ⟨(0::Pl.toldB rs).toArray⟩)/\Kp Z w w'/\∃t,t=Qf r s/\RI os rj (Zn Z w) w' R td t ls:=by
 have HC:=zb (dT s (by omega) w c K J);generalize hm:K.length=m at HC;have HM:=zb hm;have S:=Pl.toldB_len rs y;have HT:=zb (λ(b B:Nat) (w:World) (T:b<w.heap.size) J=>jU b B rs y (by omega) w T J);obtain⟨rl,A⟩:=UM rs.length;rw[<-A.o]at HD HT a0 S;clear J hm y;go_enter func37,ntmps37;go_wp2_with fail;refine(HC.o).mono ?_
 rintro e w1 ⟨l,gn,cap,rfl,F⟩;have z:=zb (HD.o w1 l gn cap F);rw[HM.o]at z;clear F;go_wp2_with fail;refine(z.o).mono ?_
 rintro e w2 ⟨hk,X,g,B,rfl,E,H⟩;have x:=zb H;clear H;go_wp2_with fail;refine(vO s hs w2).mono ?_
 rintro e M ⟨q,f,rfl,hf,D⟩;have N:=zb D;clear D;obtain⟨v,fs,ro,G,a6,a2,a3⟩:=X;have d:=G.below q;have c4:=d.c4;have f4:=zf d.store 4;have i:∀u,Rw (M.setCell ⟨R,4,none⟩ u) g rs:=λu=>by
  have a1:(M.setCell ⟨R,4,none⟩ u).heap[g]?=w2.heap[g]?:=(xa _ _ _ _ E).trans (q.block g x.o.1);refine⟨xn x.o.1 (xj q.size (zV M ⟨R,4,none⟩ u).size),λj hj=>(xm (a:=⟨g,j,none⟩) a1).trans (x.o.2 j hj)⟩
 have Q:=zb (λu=>HT.o g B (M.setCell ⟨R,4,none⟩ u) (i u).1 (by rw[A.o];exact(i u).2));have P:=zb d;clear G d i E;go_wp2_with fail;refine(Q.o _).mono ?_
 rintro e w5 ⟨rfl,C⟩;go_wp2_with fail;go_ret;refine⟨gK (Yi [0] (Pl.toldB rs)),?_,r++f,?_,v,fs,ro,(P.o.recs _).below C,?_,?_,?_⟩
 ·exact((Kp.before l ((hk.after q).mono (λk h=>Or.inl h))).setCell (p:=⟨R,4,none⟩) (Or.inl hZ) _).after C
 ·rw[N.o];rfl
 ·exact Or.inl hZ
 ·intro g W;rcases a2 g W with h|h
  ·exact Or.inl h
  exact Or.inr (xj l.size h)
 intro g W;rcases a3 g W with h|h
 ·exact Or.inl h
 exact Or.inr (xj l.size h)
theorem LX(q:Z R)(j:rec.size<=1000000000000000)(s:ByteArray)(x:s.size<=4194295)(c:Nat)(g:c<=10)(m:List Nat)(d:Pl.cmd s.data.toList=.ok (c,m))(rc:Nat)(B:rc<=99)(ls':List L)
  (HD:∀w1,Below w.heap.size w w1->nZ R c m w1 λe w'=>Kp Z w1 w'/\e=.returned (.tuple #[.slice none 0 0,.int .i64 rc])/\RI os rj (Zn Z w1) w' R td rec ls') :
  Calls prog 37 #[.pointer (some ⟨R,0,none⟩),.string s] w λe w'=>e=.returned (.string ⟨[UInt8.ofNat rc].toArray⟩)/\Kp Z w w'/\∃a,RecX rec s a [UInt8.ofNat rc]/\RI os rj (Zn Z w) w' R td a ls':=by
 have t:s.size<=4194304:=by omega
 by_cases v:rc=0
 ·subst v;refine(Eb (os:=os) (rj:=rj) w R td rec j ls' s x c g m d (λw1 b n cap r=>?_) q).mono ?_
  ·refine(HD w1 b n cap r).mono ?_
   rintro e w2 ⟨i,l,u⟩;exact⟨l,i,u⟩
  rintro e w' ⟨p,y,a,z,A⟩;exact⟨p,y,a,RecX.yes d (by omega) z x rfl,A⟩
 refine(pP w R s t c m d rc (by omega) (by omega) (λw2=>Kp Z w w2/\RI os rj (Zn Z w) w2 R td rec ls') (λw1 b n cap r=>?_)).mono ?_
 ·refine(HD w1 b n cap r).mono ?_
  rintro e w2 ⟨i,l,u⟩;exact⟨l,Kp.before b (i.mono (λk h=>Or.inl h)),u.mono (λk i=>i.elim Or.inl (λh=>Or.inr (xj b.size h)))⟩
 rintro e w' ⟨p,w2,⟨C,l⟩,f⟩;exact⟨p,C.after f,rec,RecX.no1 (dW v (by omega)),l.below f⟩
theorem Ir(h:RI os rj Z w R td rec ls)(r:rec.size<=1000000000000000)(s:ByteArray)(M:s.size<=4194295)(a m:Nat)(f:Pl.cmd s.data.toList=.ok (8,[a,m]))(P:a<=2147483647)(Q:m<=2147483647):Calls prog 37 #[.pointer (some ⟨R,0,none⟩),.string s] w λe w'=>e=.returned (.string ⟨(cA rj ls a m).toArray⟩)/\Kp Z w w'/\∃c,RecX rec s c (cA rj ls a m)/\RI os (cB rj ls a m) (Zn Z w) w' R td c ls:=by
 have y:Z R:=by obtain⟨v,K,ro,_,F,_⟩:=h;exact F
 have D:s.size<=4194304:=by omega
 have HD:=λ(w1:World) (b:Below w.heap.size w w1) (d cap:Nat) (q:NS w1 d [a,m])=>Be (h.below b) d cap a m q P Q
 by_cases j:zE rj ls a m=0
 ·have z:∀x∈ls,L.Ok x:=by obtain⟨v,K,ro,u,_⟩:=h;exact u.ok
  have A:ls.length<=30:=by obtain⟨v,K,ro,u,_⟩:=h;exact u.room
  have E:=pT z A a;have t:cA rj ls a m=0::Pl.toldB (zG ls (ZO ls a)):=by unfold cA;rw[xe j]
  rw[t];refine(LZ (os:=os) (rj:=cB rj ls a m) w R td rec r ls s M 8 (by omega) [a,m] f (zG ls (ZO ls a)) E.1 (by omega) (zb (λw1 b d cap q=>?_)) y).mono ?_
  ·refine lW d cap (zb ((HD w1 b d cap q).mono ?_));rintro e w' ⟨p,i,C⟩;rcases C with ⟨B,_⟩|⟨_,g,N,n,S⟩
   ·exact absurd j B
   exact⟨_,_,_,_,n,p,i,g,N,n,S⟩
  rintro e w' ⟨G,H,c,J,W⟩;exact⟨G,H,c,RecX.yes f (by omega) J M rfl,W⟩
 have T:=uH rj ls a m;have t:cA rj ls a m=[UInt8.ofNat (zE rj ls a m)]:=by unfold cA;rw[xg j]
 rw[t];refine(pP w R s D 8 [a,m] f (zE rj ls a m) (by omega) (by omega) (λw2=>Kp Z w w2/\RI os (cB rj ls a m) (Zn Z w) w2 R td rec ls) (zb (λw1 b d cap q=>?_))).mono ?_
 ·refine lW d cap (zb ((HD w1 b d cap q).mono ?_));rintro e w' ⟨p,i,C⟩;rcases C with ⟨_,n⟩|⟨F,_⟩
  ·exact⟨_,_,_,_,n,n,Kp.before b (p.mono (λk h=>Or.inl h)),i.mono (λk p=>p.elim Or.inl (λh=>Or.inr (xj b.size h)))⟩
  exact absurd F j
 rintro e w' ⟨G,w2,⟨H,J⟩,l⟩;exact⟨G,H.after l,rec,RecX.no1 (dW j (by omega)),J.below l⟩
theorem lZ(h:RI os rj Z w R td rec ls)(n:Good os ls)(b:rec.size<=1000000000000000)(s:ByteArray)(p:s.size<=4194295):Calls prog 37 #[.pointer (some ⟨R,0,none⟩),.string s] w λe w'=>e=.returned (.string ⟨(zO rj td os ls (Pl.cmd s.data.toList)).1.toArray⟩)/\Kp Z w w'/\∃g,RecX rec s g (zO rj td os ls (Pl.cmd s.data.toList)).1/\RI (zO rj td os ls (Pl.cmd s.data.toList)).2.2.1 (zO rj td os ls (Pl.cmd s.data.toList)).2.2.2.1 (Zn Z w) w' R (zO rj td os ls (Pl.cmd s.data.toList)).2.1 g (zO rj td os ls (Pl.cmd s.data.toList)).2.2.2.2:=by
 have j:Z R:=by obtain⟨v,A,ro,_,z,_⟩:=h;exact z
 rcases lF s.data.toList with f|⟨c,B,l,q,i,t,d,u⟩
 ·rw[Bu f];exact Ao h n b s p f
 rw[i];rcases t with rfl|rfl
 ·obtain⟨a,m,rfl⟩:=Tc d;have hd:a<=2147483647/\m<=2147483647:=by simp[Pl.mays,Pl.kindsL,Pl.mayB]at q;omega
  exact Ir h b s p a m i hd.1 hd.2
 obtain⟨a,m,rfl⟩:=Td d;have hd:a<=2147483647/\m<=2147483647:=by simp[Pl.mays,Pl.kindsL,Pl.mayB]at q;omega
 have y:=qX rj a m;exact LX j b s p 9 (by omega) [a,m] i (zZ rj a m) (by omega) ls (λw1 k r cap x=>vI (h.below k) r cap a m x hd.1 hd.2)
theorem RI.bound(h:RI os rj Z w R td rec ls):RI os rj (λk=>Z k/\k<w.heap.size) w R td rec ls:=by
 obtain⟨v,c,ro,b,d,e,f⟩:=h;exact⟨v,c,ro,b,⟨d,zc b.store⟩,λg a=>by obtain⟨j,i⟩:=zi b.row a;exact⟨e g a,zc i⟩,λg a=>⟨f g a,b.ord.lt a⟩⟩
structure Inv(B:Nat)(w0 w:World)(Q N:Nat):Prop where
 old:Below B w0 w
 size:B<=w.heap.size
 two:4<=B
 gl:Gl w
 q:B<=Q
 both:∃Lb R Zp Zr td ls os rj rec,w.heap[Q]?=some (.cells #[.pointer (some ⟨Lb,0,none⟩),.pointer (some ⟨R,0,none⟩)] 46 (0,0))/\PL rec.data.toList os rj Zp w Lb td ls/\RI os rj Zr w R td rec ls /\
  (∀k,Zp k->B<=k/\k<w.heap.size/\k≠Q/\¬Zr k)/\(∀k,Zr k->B<=k/\k<w.heap.size/\k≠Q)/\rec.size<=N/\Good os ls
theorem Inv.below{B Q N:Nat}{g w w':World}(h:Inv B g w Q N)(b:Below w.heap.size w w'):Inv B g w' Q N:=by
 obtain⟨i,R,j,l,td,ls,os,rj,e,f,m,n,c,d,p⟩:=h.both;have r:=b.size;exact⟨h.old.trans (b.mono h.size),xj h.size r,h.two,h.gl.below b,h.q,i,R,j,l,td,ls,os,rj,e,(b.block Q (zc f)).trans f,m.below b,n.below b,
  λk a=>⟨(c k a).1,by have:=(c k a).2.1;omega,(c k a).2.2⟩,λk a=>⟨(d k a).1,by have:=(d k a).2.1;omega,(d k a).2.2⟩,p⟩
theorem Inv.step{n v j:Nat}{w2 i w5:World}{m l:Nat->Prop}{ls':List L}{os':List O}{c:ByteArray}(H:Below B w0 w2)(M:B<=w2.heap.size)(s:4<=B)(A:Gl w2)(G:B<=Q)
  (F:w2.heap[Q]?=some (.cells #[.pointer (some ⟨v,0,none⟩),.pointer (some ⟨R,0,none⟩)] 46 (0,0)))
  (f:∀k,m k->B<=k/\k<w2.heap.size/\k≠Q/\¬l k) (g:∀k,l k->B<=k/\k<w2.heap.size/\k≠Q)
  (b:Kp m w2 i) (D:PL c.data.toList os' rj (Zn m w2) i v j ls') (a:Kp l i w5) (E:RI os' rj (Zn l i) w5 R j c ls') (r:c.size<=N+n) (C:Good os' ls'):Inv B w0 w5 Q (N+n):=by
 have x:=zc F;have y:¬m Q:=λh=>(f Q h).2.2.1 rfl
 have z:¬l Q:=λh=>(g Q h).2.2 rfl
 have J:=b.size;have K:=a.size;have p:=(b.block Q x y).trans F;have w:=(a.block Q (zc p) z).trans p;have t:Below B w2 i:=⟨b.os,b.tape,b.output,b.size,λk d=>b.block k (by omega) (λh=>by have:=(f k h).1;omega)⟩
 have u:Below B i w5:=⟨a.os,a.tape,a.output,a.size,λk d=>a.block k (by omega) (λh=>by have:=(g k h).1;omega)⟩
 refine⟨(H.trans t).trans u,by omega,s,(A.kp b (λh=>by have:=(f 2 h).1;omega) (λh=>by have:=(f 3 h).1;omega)).kp a (λh=>by have:=(g 2 h).1;omega) (λh=>by have:=(g 3 h).1;omega),G,
  v,R,λk=>Zn m w2 k/\k<i.heap.size,λk=>Zn l i k/\k<w5.heap.size,j,ls',os',rj,c,w,?_,E.bound,?_,?_,r,C⟩
 ·refine D.bound.congr (λk d=>a.block k d.2 (λe=>?_));rcases d.1 with h|h
  ·exact(f k h).2.2.2 e
  have:=(g k e).2.1;omega
 ·rintro k ⟨d,q⟩;refine⟨?_,by omega,?_,?_⟩
  ·rcases d with h|h
   ·exact(f k h).1
   omega
  ·rcases d with h|h
   ·exact(f k h).2.2.1
   omega
  rintro⟨e,_⟩;rcases d with h|h
  ·rcases e with e|e
   ·exact(f k h).2.2.2 e
   have:=(f k h).2.1;omega
  rcases e with e|e
  ·have:=(g k e).2.1;omega
  omega
 rintro k ⟨d,q⟩;refine⟨?_,q,?_⟩
 ·rcases d with h|h
  ·exact(g k h).1
  omega
 rcases d with h|h
 ·exact(g k h).2.2
 omega
theorem Inv.grow{g:Nat}(h:Inv B w0 w Q N)(hN:N<=g):Inv B w0 w Q g:=by
 obtain⟨a,b,c,d,e,i,R,j,k,td,ls,os,rj,f,l,m,n,p,q,r,s⟩:=h;exact⟨a,b,c,d,e,i,R,j,k,td,ls,os,rj,f,l,m,n,p,q,xj r hN,s⟩
theorem Pw{s a:ByteArray}{b:List UInt8}(h:RecX rec s a b):UF rec.data.toList s b=a.data.toList:=by
 rw[h.eq];unfold UF RT;split
 ·unfold Qf Pb;simp
 rfl
