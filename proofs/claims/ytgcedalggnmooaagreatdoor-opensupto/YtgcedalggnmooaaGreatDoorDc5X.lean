import Derived.Test.YtgcedalggnmooaaGreatDoorDc3X
import Derived.Deep.CutRange
import Derived.Test.YtgcedalggnmooaaGreatDoorR13X
import Derived.Test.YtgcedalggnmooaaGreatDoorHnX
set_option linter.all false
set_option maxRecDepth 100000
set_option maxHeartbeats 6400000
namespace Go.Proofs.YtgcedalggnmooaaGreatDoor
open Go.RowKit
open Value renaming int->Y,slice->vd,pointer->ve,tuple->vh,string->vi
open IntKind renaming i64->V
open Option renaming none->U,some->vb
open Obj renaming cells->vf
open Ending renaming returned->vg
open Tryz
structure Sr(w6 w8:World)(os:List O)(rcs:List (Nat×Nat))(ro:Ro)(R:Nat)(v:Value)(td:Nat)(rec:ByteArray)(fs:List Value)(ls:List L)(s:List Nat)(sg sc:Nat)(wr:World)(k g oc:Nat):Prop where
 rv:RV os rcs ro wr R v td rec fs ls
 row:wr.ownsRow 0 3 1 (vd (vb ⟨sg,0,U⟩) s.length sc) s.length (I s)
 owt:wr.ownsRow w6.heap.size 3 1 (vd (vb ⟨g,0,U⟩) (1+(hN ls (s.take k)).length*2) oc) (1+(hN ls (s.take k)).length*2) (I ((hN ls (s.take k)).length::tN ls (hN ls (s.take k))))
 at':g=w6.heap.size\/w8.heap.size<=g
 below:Below w6.heap.size w6 wr
 sz:w8.heap.size<=wr.heap.size
variable {B N Q R td:Nat}{ls:List L}{os:List O}{rcs:List (Nat×Nat)}{rec:ByteArray}{w w0:World}
def Di{v:Value}{fs:List Value}{ro:Ro}(h:RV os rcs ro w R v td rec fs ls)(B i4:Nat)(a m:Nat)(m4:NS w B [a,m])(h1:a<=2147483647)(h2:m<=2147483647)(hi:Ur a ls<ls.length)(hc:rcs.contains (a,m)=false)(f5:¬10<=rcs.length):Calls prog 71 #[ve (vb ⟨R,0,U⟩),vd (vb ⟨B,0,U⟩) 2 i4] w λe w'=>Kp (λb=>b=R\/ro.rv.ownBlock=vb b) w w'/\(∃A,RV os (rcs++[(a,m)]) A w' R v td rec fs ls/\∀b,OB A b->OB ro b\/w.heap.size<=b)/\∃g c,e=vg (vh #[vd (vb ⟨g,0,U⟩) (zF ls (ZM ls a)).length c,Y V 0])/\g≠R/\Rw w' g (zF ls (ZM ls a)):=by
 obtain⟨i3,m1,n5,n6,n7⟩:=XH FG;obtain⟨ip,m2,m5,m6,m7⟩:=XH wI;obtain⟨⟨cs,g1⟩,a4⟩:=m4;have n0:w.cell? ⟨B,0,U⟩=vb (Y V a):=a4 0 (by simp);have n1:w.cell? ⟨B,1,U⟩=vb (Y V m):=a4 1 (by simp);have a5:=zc g1;have HA:=zb (cD h a h1);have HX:Hid (∀n,Calls prog 116 #[ve (vb ⟨R,0,U⟩),Y V a,Y V m] (w.drewN n) λe w'=>e=vg (Y V (yE rcs a m))/\w'=w.drewN n):=λn=>fU (h.below (Xf (xg _ _) n)) a m
 have i2:Hid (TR ls a=(Ur a ls:Int)):=by unfold Hid TR;rw[xd hi]
 rw[i2.out]at HA;have HV:Hid (yE rcs a m=-1):=by unfold Hid yE;rw[xe (λq=>by rw[lK.1 q]at hc;cases hc)]
 rw[HV.out]at HX;have HI:=zb hi;have k7:=zb (h.rc.put h1 h2 hc f5);have h4:=zb g1;obtain⟨ix,k3⟩:=UC (Ur a ls);rw[<-k3.out]at HA;obtain⟨ra,H,c9,_⟩:=h.rshape;have c3:=h.c3;rw[c9]at c3;have P:=h.ord.fd.rrow;rw[c9]at P;have h8:=zb c9;have f3:=zf h.store 3;have a8:=zc h.store;have HP:=zb h;obtain⟨M,f0⟩:=UC rcs.length;rw[<-f0.out]at c3 f5 P;have o2:M<10:=by omega
 have m9:(Value.slice ra M H).ownBlock≠vb R:=dV P h.store (by decide);clear h a4 g1 HV i2 hc hi c9 f5;go_enter func71,ntmps71;go_wp2_with (go_at_call 111;refine(HA.out).mono ?_;rintro e w1 ⟨rfl,rfl⟩);go_quiet ((go_at_call 116;exact Yn (HX.out _)));go_wp2_with fail;obtain⟨wq,c6⟩:=UC (w1.drewN nq);have C:Hid (Below w1.heap.size w1 wq):=by unfold Hid;rw[c6.out];exact Xf (xg _ _) nq
 have c5:Hid (wq.heap.size=w1.heap.size):=by unfold Hid;rw[c6.out];rfl
 have K:=zh P C.out;have x0:=(C.out.cell (p:=⟨B,0,U⟩) a5).trans n0;have x1:=(C.out.cell (p:=⟨B,1,U⟩) a5).trans n1;have x3:=(C.out.cell (p:=⟨R,3,U⟩) a8).trans c3;have xf:=(C.out.frozen (p:=⟨R,3,U⟩) a8).trans f3;have f7:R<wq.heap.size:=by rw[c5.out];exact a8
 have m0:B<wq.heap.size:=by rw[c5.out];exact a5
 have k6:=zb (HP.out.below C.out);rw[<-c6.out];clear c6 n0 n1 c3 f3 HX HA P;have l:Below wq.heap.size wq (wq.alloc (vf #[Y V a,Y V m] 181)).drew:=(TQ wq _).drew;have a3:(wq.alloc (vf #[Y V a,Y V m] 181)).drew.heap[wq.heap.size]?=vb (vf #[Y V a,Y V m] 181 (0,0)):=xo wq _;have F:∀u∈([Y V a,Y V m]:List Value),u.oneCell'=true:=by
  intro u hu;simp at hu;rcases hu with rfl|rfl<;>rfl
 have g0:(wq.alloc (vf #[Y V a,Y V m] 181)).drew.cell? ⟨R,3,U⟩=vb (vd ra M H):=(l.cell (by exact f7)).trans x3;have g3:(wq.alloc (vf #[Y V a,Y V m] 181)).drew.frozen? ⟨R,3,U⟩=false:=(l.frozen (by exact f7)).trans xf;have a7:Hid (R<(wq.alloc (vf #[Y V a,Y V m] 181)).drew.heap.size):=xn f7 l.size;have f4:=zb (yk m9);have Q:=zb l;have T:=zh K l;have a1:(Value.slice ra M H).ownBlock=ro.rv.ownBlock:=by rw[h8.out,f0.out]
 have e7:Hid (∀(g2 cap2:Nat) (w5:World),(wq.alloc (vf #[Y V a,Y V m] 181)).drew.grownBy w5 (Value.slice ra M H).ownBlock->w5.ownsRow 0 181 2 (vd (vb ⟨g2,0,U⟩) (M+1) cap2) (M+1) (zx rcs++[Y V a,Y V m])->((Value.slice ra M H).ownBlock=vb g2\/g2=wq.heap.size+1) ->
   RV os (rcs++[(a,m)]) { ro with rv:=vd (vb ⟨g2,0,U⟩) (M+1) cap2 } (w5.setCell ⟨R,3,U⟩ (vd (vb ⟨g2,0,U⟩) (M+1) cap2)) R v td rec fs ls/\(∀b,OB { ro with rv:=vd (vb ⟨g2,0,U⟩) (M+1) cap2 } b->OB ro b\/w1.heap.size<=b)/\Kp (λb=>b=R\/ro.rv.ownBlock=vb b) w1 (w5.setCell ⟨R,3,U⟩ (vd (vb ⟨g2,0,U⟩) (M+1) cap2))/\B<(w5.setCell ⟨R,3,U⟩ (vd (vb ⟨g2,0,U⟩) (M+1) cap2)).heap.size/\(w5.setCell ⟨R,3,U⟩ (vd (vb ⟨g2,0,U⟩) (M+1) cap2)).cell? ⟨B,0,U⟩=vb (Y V a)):=λg2 cap2 w5 d r S=>by
  have d4:∀g,(Value.slice (vb ⟨g2,0,U⟩) (M+1) cap2).ownBlock=vb g->ro.rv.ownBlock=vb g\/wq.heap.size<=g:=λg hg=>by
   cases hg;rcases S with q|q
   ·left;rw[<-a1];exact q
   right;show wq.heap.size<=g2;omega
  have j3:w5.heap[B]?=w1.heap[B]?:=by
   rw[d.block B (by have:=l.size;omega) (λe=>by
    obtain⟨i5,a9⟩:=zi K e.symm;exact zv ((C.out.block B a5).trans h4.out) a9 (by decide) rfl),l.block B m0,C.out.block B a5]
  have l9:B≠R:=zv h4.out HP.out.store (by decide);refine⟨k6.out.recl (λk hk=>l.block k hk) l.size (by rw[<-a1];exact d) (by rw[qE,xb,Xc,<-f0.out];exact r) d4 k7.out,λb D=>?_,?_,?_,?_⟩
  ·rcases GP d4 b D with q|q
   ·exact Or.inl q
   right;rw[c5.out]at q;exact q
  ·refine Kp.setCell (Z:=λb=>b=R\/ro.rv.ownBlock=vb b) ?_ (p:=⟨R,3,U⟩) (Or.inl (Or.inl rfl)) _
   refine Kp.grown (Ut (C.out.trans (l.mono (by rw[c5.out];exact xc _)))) d (λk hk=>Or.inl (Or.inr (by rw[<-a1];exact hk)))
  ·have o3:=d.size;have o4:=l.size;simp[World.setCell];omega
  have hq:(w5.setCell ⟨R,3,U⟩ (vd (vb ⟨g2,0,U⟩) (M+1) cap2)).heap[B]?=w1.heap[B]?:=by rw[xa _ _ _ _ l9];exact j3
  exact(xm (a:=⟨B,0,U⟩) hq).trans ((C.out.cell (p:=⟨B,0,U⟩) a5).symm.trans x0)
 go_cut [] from 12 (λy=>∃A,RV os (rcs++[(a,m)]) A y R v td rec fs ls/\(∀b,OB A b->OB ro b\/w1.heap.size<=b)/\Kp (λb=>b=R\/ro.rv.ownBlock=vb b) w1 y/\B<y.heap.size/\y.cell? ⟨B,0,U⟩=vb (Y V a))
 case first=>
  go_region_law (refine step_append_lies _ (by rfl) _ _ _ (by rfl) 0 181 ip (.agg #[Y V 0,Y V 0]) 2 16 xU m2 m5 m6 m7 rfl (by decide) (vd ra M H) M (zx rcs) (by rfl) T ⟨wq.heap.size,0,U⟩ 1 1 [Y V a,Y V m] (by rfl) (by rfl) (World.news_of_block a3) F (by decide) (by unfold maxLen;omega) (by omega) (Nat.zero_le _) (wq.heap.size+1) (by simp) ?_;intro g2 cap2 w5 r d S b1;have l6:=(d.cell_far ⟨R,3,U⟩ a7.out f4.out).trans g0;have l8:=(d.frozen_far ⟨R,3,U⟩ a7.out f4.out).trans g3)
  all_goals
   have k0:=zb (e7.out g2 cap2 w5 d r S);clear r d S b1 l6 l8 g0 g3 x0 x1 x3 xf l a3 F T K e7;go_wp2_with fail;go_meet
   case rel=>exact⟨_,k0.out⟩
 case rest=>
  obtain⟨A,e0,d8,d6,n9,y0⟩:=hcut;obtain⟨y,rfl⟩:∃y,y=wc:=⟨wc,rfl⟩
  have N:=zb e0;have h5:=zb d8;have d3:=zb d6;clear e0 d8 d6 x0 x1 x3 xf l a3 F T K e7 g0 g3 a7 f4 Q a1;have f6:Below y.heap.size y (y.alloc (vf #[Y V 0] 3)):=TQ y _;have h3:=zb (yT (N.out.below f6) a h1);have a6:Hid ((y.alloc (vf #[Y V 0] 3)).ownsRow y.heap.size 3 1 (vd (vb ⟨y.heap.size,0,U⟩) 1 1) 1 (I [0])):=Yh y #[Y V 0] 1 (xc _) (by unfold maxLen;omega) rfl;have b8:=zb f6;have h0:Hid ((jW ls a).length<=31):=by
   have q1:=Lv ls a;have q2:=N.out.room;unfold Hid;omega
  have g9:Hid (∀n∈jW ls a,n<=2147483647):=λn hn=>by
   obtain⟨q1,q2⟩:=iQ HI.out hn;have:=(N.out.ok _ (zg q1)).id;rw[q2]at this;exact this
  clear f6;go_wp2_with (first
   |(go_at_call 118;refine(h3.out).mono ?_;rintro e w7 ⟨i8,v7,rfl,b4⟩;have a2:=zb i8;have h9:=zb (Gp b4 h0.out (Fk ls a) g9.out);clear i8 b4)
   |(go_at_call 117;refine(h9.out).mono ?_;rintro e w8 ⟨f9,v8,s,rfl,J,e3,W⟩))
  have g5:0<s.length:=by
   rw[J.length_eq];have:=BV ls [a] ls.length (xc _);rw[Xa]at this;unfold jW;exact this
  obtain⟨sg,sc,n3,j8,b6⟩:=zJ W g5;subst n3;have l4:y.heap.size+1<=w7.heap.size:=by have:=a2.out.size;simp at this;exact this
  have X:Below y.heap.size y w8:=b8.out.trans ((a2.out.mono b8.out.size).trans (f9.mono (xj b8.out.size a2.out.size)));have d2:Hid (Sr y w8 os (rcs++[(a,m)]) A R v td rec fs ls s sg sc w8 0 y.heap.size 1):=⟨N.out.below X,aI W,zh a6.out (a2.out.trans (f9.mono a2.out.size)),Or.inl rfl,X,xc _⟩
  have h7:=zb J;have l1:=zb e3;have l0:Hid (s.length<=31):=by unfold Hid;rw[J.length_eq];exact h0.out
  have n2:s.length<=31:=l0.out;have j7:=X.size;have f1:Hid (y.heap.size<sg/\sg<w8.heap.size):=⟨by omega,b6⟩
  have c7:0<ls.length:=by have:=HI.out;omega
  clear J e3 W f9 X j8 l4 h9 a2 h3 a6 b8 y0 b6 j7;go_loopw [8,10,11] (λoo ii _ wr=>∃(k g c:Nat),ii=Y V k/\k<=s.length/\oo=vd (vb ⟨g,0,U⟩) (1+(hN ls (s.take k)).length*2) c/\Sr y w8 os (rcs++[(a,m)]) A R v td rec fs ls s sg sc wr k g c) (λ_ ii _ _=>s.length-(intOf ii).toNat)
  case atStart=>exact⟨0,y.heap.size,1,rfl,by omega,rfl,d2.out⟩
  clear d2;obtain⟨k,g,oc,rfl,hk,rfl,hI⟩:=hrel;have m8:(hN ls (s.take k)).length<=31:=by
   have q1:=Ri ls (s.take k);rw[Xv]at q1;omega
  by_cases b0:k<s.length
  ·have b2:s.getD k 0∈jW ls a:=h7.out.mem_iff.1 (by simp[Ul,b0]);obtain⟨hc,i9⟩:=iQ HI.out b2;have j0:=ZH hI.row k b0;have n4:=g9.out _ b2;have e5:=zb (cD hI.rv (s.getD k 0) n4);have d5:TR ls (s.getD k 0)=(Ur (s.getD k 0) ls:Int):=by unfold TR;rw[xd hc]
   rw[d5]at e5;obtain⟨va,j9,hv,a0⟩:=hI.rv.shape;obtain⟨G,hG,n8,a4⟩:=a0 c7;subst hG;have cR:=hI.rv.c1;rw[hv]at cR;have e6:wr.cell? ⟨G,Ur (s.getD k 0) ls*11+6,U⟩=vb (Y V (aT ls (s.getD k 0):Int)):=a4 _ hc 6 (by omega);have j6:=hI.rv.ok _ (zg hc);have o1:aT ls (s.getD k 0)<=2147483647:=by have:=j6.sum;unfold aT;omega
   have e9:Hid (0<aT ls (s.getD k 0)->hN ls (s.take (k+1))=hN ls (s.take k)++[s.getD k 0]/\tN ls (hN ls (s.take (k+1)))=tN ls (hN ls (s.take k))++[s.getD k 0,aT ls (s.getD k 0)]):=λhp=>by
    have e:=Im (ls:=ls) b0;rw[xd hp]at e;exact⟨e,by rw[e,Kj]⟩
   have e8:Hid (¬0<aT ls (s.getD k 0)->hN ls (s.take (k+1))=hN ls (s.take k)):=λhp=>by
    rw[Im (ls:=ls) b0,xe hp]
   generalize aT ls (s.getD k 0)=hd at *;generalize hx:s.getD k 0=x at *;generalize Ur x ls=c at *;have i:=zb hI;have l2:=zb hv;clear hx b2 i9 d5 a0 a4 j6 hI hv;by_cases d9:0<hd
   ·obtain⟨HN,HT⟩:Hid (hN ls (s.take (k+1))=hN ls (s.take k)++[x])/\Hid (tN ls (hN ls (s.take (k+1)))=tN ls (hN ls (s.take k))++[x,hd]):=e9.out d9;obtain⟨z,b9⟩:=UC ((hN ls (s.take k)).length);rw[<-b9.out]at m8;rw[<-b9.out];have f:=i.out.owt;rw[<-b9.out]at f;have l5:wr.cell? ⟨g,0,U⟩=vb (Y V z):=by rw[f.cellAt 0 (by omega)];rfl
    have l7:=f.frozenAt 0;have j2:=(f.lt g rfl).1;have HO:=zb f;clear e9 e8 f;go_wp2_with (go_at_call 111;with_reducible refine(e5.out).mono ?_;rintro e w3 ⟨rfl,g6⟩;have g7:=g6.symm;subst g7);have g4:¬sg=g:=by
     have q1:=f1.out;rcases i.out.at' with q|q<;>omega
    have E:∀b,b≠g->(wr.setCell ⟨g,0,U⟩ (Y V ((z:Int)+1))).heap[b]?=wr.heap[b]?:=λb D=>xa _ _ _ _ D
    have d0:∀(b:Nat) (cs:Array Value) (t:TypeId),wr.heap[b]?=vb (vf cs t (0,0))->t≠3->b≠g:=λb cs t D ht=>by
     obtain⟨i5,a9⟩:=zi HO.out (g:=g) rfl;exact zv D a9 ht
    have k8:Hid (RV os (rcs++[(a,m)]) A (wr.setCell ⟨g,0,U⟩ (Y V ((z:Int)+1))) R v td rec fs ls):=i.out.rv.typed (λb cs t D ht=>E b (d0 b cs t D ht));have l3:Hid ((wr.setCell ⟨g,0,U⟩ (Y V ((z:Int)+1))).ownsRow 0 3 1 (vd (vb ⟨sg,0,U⟩) s.length sc) s.length (I s)):=ze i.out.row (λb D=>E b (by cases D;exact g4));have h6:Hid ((wr.setCell ⟨g,0,U⟩ (Y V ((z:Int)+1))).ownsRow y.heap.size 3 1 (vd (vb ⟨g,0,U⟩) (1+z*2) oc) (1+z*2) (I ((z+1)::tN ls (hN ls (s.take k))))):=(HO.out.stored 0 (Y V ((z:Int)+1))).1;have g8:Hid (Below y.heap.size y (wr.setCell ⟨g,0,U⟩ (Y V ((z:Int)+1)))):=i.out.below.setCell (p:=⟨g,0,U⟩) j2 _;have f2:Hid (w8.heap.size<=(wr.setCell ⟨g,0,U⟩ (Y V ((z:Int)+1))).heap.size):=by have:=i.out.sz;unfold Hid;simp;exact this
    have i7:¬R=g:=d0 _ _ _ i.out.rv.store (by decide);have i6:¬G=g:=by
     have b5:=i.out.rv.row;rw[l2.out]at b5;obtain⟨o0,j1⟩:=zi b5 rfl;exact d0 _ _ _ j1 (by decide)
    have z1:(wr.setCell ⟨g,0,U⟩ (Y V ((z:Int)+1))).cell? ⟨sg,k,U⟩=vb (Y V x):=(xm (a:=⟨sg,k,U⟩) (E _ g4)).trans j0;have z2:(wr.setCell ⟨g,0,U⟩ (Y V ((z:Int)+1))).cell? ⟨R,1,U⟩=vb (vd (vb ⟨G,0,U⟩) ls.length j9):=(xm (a:=⟨R,1,U⟩) (E _ i7)).trans cR;have z3:(wr.setCell ⟨g,0,U⟩ (Y V ((z:Int)+1))).cell? ⟨G,c*11+6,U⟩=vb (Y V hd):=(xm (a:=⟨G,c*11+6,U⟩) (E _ i6)).trans e6;have d1:=zb i.out.at';clear E d0 j0 cR e6 l5 l7 i HO g4 i7 i6;generalize wr.setCell ⟨g,0,U⟩ (Y V ((z:Int)+1))=wt at *;have e4:y.heap.size<=wt.heap.size:=g8.out.size;have l:Below wt.heap.size wt (wt.alloc (vf #[Y V x,Y V hd] 3)).drew:=(TQ wt _).drew;have a3:(wt.alloc (vf #[Y V x,Y V hd] 3)).drew.heap[wt.heap.size]?=vb (vf #[Y V x,Y V hd] 3 (0,0)):=xo wt _;have F:∀u∈([Y V x,Y V hd]:List Value),u.oneCell'=true:=by
     intro u hu;simp at hu;rcases hu with rfl|rfl<;>rfl
    have b3:=zh h6.out l;have Q:=zb l;go_region_law (refine step_append_lies _ (by rfl) _ _ _ (by rfl) y.heap.size 3 i3 (Y V 0) 1 8 NY m1 n5 n6 n7 rfl (by decide) (vd (vb ⟨g,0,U⟩) (1+z*2) oc) (1+z*2) (I ((z+1)::tN ls (hN ls (s.take k)))) (by rfl) b3 ⟨wt.heap.size,0,U⟩ 2 2 [Y V x,Y V hd] (by rfl) (by rfl) (World.news_of_block a3) F (by decide) (by unfold maxLen;omega) (by omega) (by simp;omega) (wt.heap.size+1) (by simp) ?_;intro g2 cap2 w5 r d S b1)
    all_goals
     have c8:(hN ls (s.take (k+1))).length=z+1:=by rw[HN.out,xb,Xc,<-b9.out]
     have e1:I ((z+1)::tN ls (hN ls (s.take k)))++[Y V x,Y V hd]=I ((hN ls (s.take (k+1))).length::tN ls (hN ls (s.take (k+1)))):=by rw[c8,HT.out];simp[I]
     rw[e1]at r;have f8:∀b,b<wt.heap.size->b≠g->w5.heap[b]?=wt.heap[b]?:=λb D m3=>(d.block b (xn D Q.out.size) (λe=>m3 (by injection e))).trans (Q.out.block b D)
     have d7:∀(b:Nat) (cs:Array Value) (t:TypeId),wt.heap[b]?=vb (vf cs t (0,0))->t≠3->w5.heap[b]?=wt.heap[b]?:=λb cs t D ht=>f8 b (zc D) (by
      obtain⟨i5,a9⟩:=zi h6.out (g:=g) rfl;exact zv D a9 ht)
     have b7:sg≠g:=by
      have q1:=f1.out;rcases d1.out with q|q<;>omega
     have e2:sg<wt.heap.size:=xn f1.out.2 f2.out;have k2:Hid (Sr y w8 os (rcs++[(a,m)]) A R v td rec fs ls s sg sc w5 (k+1) g2 cap2):=by
      refine⟨k8.out.typed d7,ze l3.out (λb D=>by cases D;exact f8 sg e2 b7),?_,?_,?_,?_⟩
      ·rw[show 1+(hN ls (s.take (k+1))).length*2=1+z*2+2 by rw[c8];omega];exact r
      ·rcases S with q|q
       ·injection q with q;rw[<-q];exact d1.out
       right;have:=f2.out;omega
      ·exact(g8.out.trans (Q.out.mono e4)).grown d (xj e4 Q.out.size) (λb D=>by injection D with D;rw[<-D];exact j2)
      exact xj f2.out (xj Q.out.size d.size)
     have k5:=zb c8;clear c8 e1 r d S b1 f8 d7 b7 e2 l a3 F b3 z1 z2 z3;go_wp2_with fail;go_roundw
     case rel=>exact⟨k+1,g2,cap2,by go_num,by omega,by rw[k5.out,show 1+(z+1)*2=1+z*2+2 by omega],k2.out⟩
     simp[intOf];omega
   have HN:=zb (e8.out d9);clear e9 e8;go_wp2_with (go_at_call 111;with_reducible refine(e5.out).mono ?_;rintro e w3 ⟨rfl,g6⟩;have g7:=g6.symm;subst g7);go_roundw
   case rel=>exact⟨k+1,g,oc,by go_num,by omega,by rw[HN.out],⟨i.out.rv,i.out.row,by rw[HN.out];exact i.out.owt,i.out.at',i.out.below,i.out.sz⟩⟩
   simp[intOf];omega
  obtain rfl:k=s.length:=by omega
  have i:=zb hI;have f:=hI.owt;rw[Xa]at f;have i0:=zb (Iz N.out.fam.ids HI.out h7.out l1.out);have i1:Hid ((zF ls (ZM ls a)).length=1+(hN ls (s.take s.length)).length*2):=by
   unfold Hid;rw[<-i0.out,Xa,List.length_cons,NW];omega
  have k9:Hid (Rw wr g (zF ls (ZM ls a))):=by
   have j5:=(f.lt g rfl).2;rw[i0.out]at f;have j4:=i1.out;rw[Xa]at j4;rw[<-j4]at f;exact⟨j5,λj hj=>ZH f j hj⟩
  have k4:Hid (Kp (λb=>b=R\/ro.rv.ownBlock=vb b) w1 wr):=d3.out.after hI.below;have k1:Hid (g≠R):=by
   have q1:=(hI.owt.lt g rfl).1;have q2:=d3.out.size;unfold Hid;omega
  clear hI f b0;go_wp2_with fail;go_ret2;exact⟨k4.out,⟨A,i.out.rv,h5.out⟩,g,oc,by rw[i1.out];rfl,k1.out,k9.out⟩
variable {Z:Nat->Prop}
def Bf(h:RI os rcs Z w R td rec ls)(l cap a m:Nat)(B:NS w l [a,m])(y:a<=2147483647)(z:m<=2147483647):Calls prog 71 #[ve (vb ⟨R,0,U⟩),vd (vb ⟨l,0,U⟩) 2 cap] w λe w'=>Kp Z w w'/\RI os (aY rcs ls a m) (Zn Z w) w' R td rec ls /\
   ((zE rcs ls a m≠0/\e=vg (vh #[vd U 0 0,Y V (zE rcs ls a m:Int)]))\/(zE rcs ls a m=0/\∃g c,e=vg (vh #[vd (vb ⟨g,0,U⟩) (zF ls (ZM ls a)).length c,Y V 0])/\g≠R/\Rw w' g (zF ls (ZM ls a)))):=by
 obtain⟨v,x,ro,n,p,i,b⟩:=h;by_cases f:zE rcs ls a m=0
 ·obtain⟨D,E,F⟩:=fT f;unfold aY;rw[xd f];refine(Di n l cap a m B y z D E F).mono ?_
  rintro e w' ⟨j,⟨u,t,s⟩,g,c,q,r,C⟩;refine⟨j.mono (λk j=>?_),⟨v,x,u,t,Or.inl p,λg d=>Or.inl (i g d),λg d=>(s g d).elim (λh=>Or.inl (b g h)) Or.inr⟩,Or.inr ⟨f,g,c,q,r,C⟩⟩;rcases j with rfl|j
  ·exact p
  exact b k (Or.inr (Or.inr (Or.inl j)))
 unfold aY;rw[xe f];refine(Dg n l cap a m B y z f).mono ?_
 rintro e w' ⟨A,q⟩;exact⟨Ut A,⟨v,x,ro,n.below A,Or.inl p,λg d=>Or.inl (i g d),λg d=>Or.inl (b g d)⟩,Or.inl ⟨f,q⟩⟩
def lW{Q:Ending->World->Prop}(b cap:Nat)
  (d:Hid (Calls prog 71 #[ve (vb ⟨R,0,U⟩),vd (vb ⟨b,0,U⟩) 2 cap] w λe w'=>∃a l c n,e=vg (vh #[vd a l c,Y V n])/\Q e w')) :
  Calls prog 51 #[ve (vb ⟨R,0,U⟩),Y V 8,vd (vb ⟨b,0,U⟩) 2 cap] w Q:=by
 go_enter func51,ntmps51;go_wp2_with (go_at_call 71;refine(d.out).mono ?_;rintro e w1 ⟨a,l,c,n,rfl,f⟩);exact f
def Dl(h:RI os rcs Z w R td rec ls)(b cap a m:Nat)(x:NS w b [a,m])(r:a<=2147483647)(s:m<=2147483647):Calls prog 72 #[ve (vb ⟨R,0,U⟩),vd (vb ⟨b,0,U⟩) 2 cap] w λe w'=>Kp Z w w'/\e=vg (Y V (zZ rcs a m:Int))/\RI os (Zg rcs a m) (Zn Z w) w' R td rec ls:=by
 obtain⟨v,q,ro,t,p,d,c⟩:=h;refine(Bg t b cap a m x r s).mono ?_
 rintro e w' ⟨i,u,n,l,j⟩;exact⟨i.mono (λk i=>by rw[i];exact p),u,v,q,n,l,Or.inl p,λg f=>Or.inl (d g f),λg f=>(j g f).elim (λh=>Or.inl (c g h)) Or.inr⟩
def vK(h:RI os rcs Z w R td rec ls)(c cap a m:Nat)(f:NS w c [a,m])(g:a<=2147483647)(i:m<=2147483647):Calls prog 51 #[ve (vb ⟨R,0,U⟩),Y V 9,vd (vb ⟨c,0,U⟩) 2 cap] w λe w'=>Kp Z w w'/\e=vg (vh #[vd U 0 0,Y V (zZ rcs a m:Int)])/\RI os (Zg rcs a m) (Zn Z w) w' R td rec ls:=by
 have b:=zb (Dl h c cap a m f g i);generalize Zg rcs a m=rs' at b ⊢;generalize zZ rcs a m=rc at b ⊢;clear h f;go_enter func51,ntmps51;go_wp2_with (go_at_call 72;refine(b.out).mono ?_;rintro e w1 ⟨j,rfl,d⟩);go_ret2;exact⟨j,rfl,d⟩
def LW(w:World)(R td:Nat)(r:ByteArray)(a5:r.size<=1000000000000000)(ls:List L)(s:ByteArray)(hs:s.size<=4194295)(c:Nat)(a4:c<=10)(K:List Nat)(J:Pl.cmd s.data.toList=.ok (c,K))(rs:List Nat)(y:∀n∈rs,n<9223372036854775808)(a0:rs.length<=100)
  (HD:Hid (∀w1,Below w.heap.size w w1->oA R c K w1 λe w'=>Kp Z w1 w'/\RI os rcs (Zn Z w1) w' R td r ls/\∃g B,e=vg (vh #[vd (vb ⟨g,0,U⟩) rs.length B,Y V 0])/\g≠R/\Rw w' g rs)) (hZ:Z R) :
  Calls prog 37 #[ve (vb ⟨R,0,U⟩),vi s] w λe w'=>e=vg (vi ⟨(0::Pl.toldB rs).toArray⟩)/\Kp Z w w'/\∃t,t=PY r s/\RI os rcs (Zn Z w) w' R td t ls:=by
 have HC:=zb (dQ s (by omega) w c K J);generalize hm:K.length=m at HC;have HM:=zb hm;have S:=Pl.toldB_len rs y;have HT:=zb (λ(b B:Nat) (w:World) (T:b<w.heap.size) J=>jT b B rs y (by omega) w T J);obtain⟨rl,A⟩:=UC rs.length;rw[<-A.out]at HD HT a0 S;clear J hm y;go_enter func37,ntmps37;go_wp2_with fail;refine(HC.out).mono ?_
 rintro e w1 ⟨l,gn,cap,rfl,F⟩;have z:=zb (HD.out w1 l gn cap F);rw[HM.out]at z;clear F;go_wp2_with fail;refine(z.out).mono ?_
 rintro e w2 ⟨hk,X,g,B,rfl,E,H⟩;have x:=zb H;clear H;go_wp2_with fail;refine(vQ s hs w2).mono ?_
 rintro e M ⟨q,f,rfl,hf,D⟩;have N:=zb D;clear D;obtain⟨v,fs,ro,G,a6,a2,a3⟩:=X;have d:=G.below q;have c4:=d.c4;have f4:=zf d.store 4;have i:∀u,Rw (M.setCell ⟨R,4,U⟩ u) g rs:=λu=>by
  have a1:(M.setCell ⟨R,4,U⟩ u).heap[g]?=w2.heap[g]?:=(xa _ _ _ _ E).trans (q.block g x.out.1);refine⟨xn x.out.1 (xj q.size (zS M ⟨R,4,U⟩ u).size),λj hj=>(xm (a:=⟨g,j,U⟩) a1).trans (x.out.2 j hj)⟩
 have Q:=zb (λu=>HT.out g B (M.setCell ⟨R,4,U⟩ u) (i u).1 (by rw[A.out];exact(i u).2));have P:=zb d;clear G d i E;go_wp2_with fail;refine(Q.out _).mono ?_
 rintro e w5 ⟨rfl,C⟩;go_wp2_with fail;go_ret;refine⟨gJ (Yi [0] (Pl.toldB rs)),?_,r++f,?_,v,fs,ro,(P.out.recs _).below C,?_,?_,?_⟩
 ·exact((Kp.before l ((hk.after q).mono (λk h=>Or.inl h))).setCell (p:=⟨R,4,U⟩) (Or.inl hZ) _).after C
 ·rw[N.out];rfl
 ·exact Or.inl hZ
 ·intro g W;rcases a2 g W with h|h
  ·exact Or.inl h
  exact Or.inr (xj l.size h)
 intro g W;rcases a3 g W with h|h
 ·exact Or.inl h
 exact Or.inr (xj l.size h)
def LU(q:Z R)(j:rec.size<=1000000000000000)(s:ByteArray)(x:s.size<=4194295)(c:Nat)(g:c<=10)(m:List Nat)(d:Pl.cmd s.data.toList=.ok (c,m))(rc:Nat)(B:rc<=99)(ls':List L)
  (HD:∀w1,Below w.heap.size w w1->oA R c m w1 λe w'=>Kp Z w1 w'/\e=vg (vh #[vd U 0 0,Y V rc])/\RI os rcs (Zn Z w1) w' R td rec ls') :
  Calls prog 37 #[ve (vb ⟨R,0,U⟩),vi s] w λe w'=>e=vg (vi ⟨[UInt8.ofNat rc].toArray⟩)/\Kp Z w w'/\∃a,RecX rec s a [UInt8.ofNat rc]/\RI os rcs (Zn Z w) w' R td a ls':=by
 have t:s.size<=4194304:=by omega
 by_cases v:rc=0
 ·subst v;refine(Ee (os:=os) (rcs:=rcs) w R td rec j ls' s x c g m d (λw1 b n cap r=>?_) q).mono ?_
  ·refine(HD w1 b n cap r).mono ?_
   rintro e w2 ⟨i,l,u⟩;exact⟨l,i,u⟩
  rintro e w' ⟨p,y,a,z,A⟩;exact⟨p,y,a,RecX.yes d (by omega) z x rfl,A⟩
 refine(pQ w R s t c m d rc (by omega) (by omega) (λw2=>Kp Z w w2/\RI os rcs (Zn Z w) w2 R td rec ls') (λw1 b n cap r=>?_)).mono ?_
 ·refine(HD w1 b n cap r).mono ?_
  rintro e w2 ⟨i,l,u⟩;exact⟨l,Kp.before b (i.mono (λk h=>Or.inl h)),u.mono (λk i=>i.elim Or.inl (λh=>Or.inr (xj b.size h)))⟩
 rintro e w' ⟨p,w2,⟨C,l⟩,f⟩;exact⟨p,C.after f,rec,RecX.no1 (dT v (by omega)),l.below f⟩
def Io(h:RI os rcs Z w R td rec ls)(r:rec.size<=1000000000000000)(s:ByteArray)(M:s.size<=4194295)(a m:Nat)(f:Pl.cmd s.data.toList=.ok (8,[a,m]))(P:a<=2147483647)(Q:m<=2147483647):Calls prog 37 #[ve (vb ⟨R,0,U⟩),vi s] w λe w'=>e=vg (vi ⟨(bZ rcs ls a m).toArray⟩)/\Kp Z w w'/\∃c,RecX rec s c (bZ rcs ls a m)/\RI os (aY rcs ls a m) (Zn Z w) w' R td c ls:=by
 have y:Z R:=by obtain⟨v,K,ro,_,F,_⟩:=h;exact F
 have D:s.size<=4194304:=by omega
 have HD:=λ(w1:World) (b:Below w.heap.size w w1) (d cap:Nat) (q:NS w1 d [a,m])=>Bf (h.below b) d cap a m q P Q
 by_cases j:zE rcs ls a m=0
 ·have z:∀x∈ls,L.Ok x:=by obtain⟨v,K,ro,u,_⟩:=h;exact u.ok
  have A:ls.length<=30:=by obtain⟨v,K,ro,u,_⟩:=h;exact u.room
  have E:=pU z A a;have t:bZ rcs ls a m=0::Pl.toldB (zF ls (ZM ls a)):=by unfold bZ;rw[xd j]
  rw[t];refine(LW (os:=os) (rcs:=aY rcs ls a m) w R td rec r ls s M 8 (by omega) [a,m] f (zF ls (ZM ls a)) E.1 (by omega) (zb (λw1 b d cap q=>?_)) y).mono ?_
  ·refine lW d cap (zb ((HD w1 b d cap q).mono ?_));rintro e w' ⟨p,i,C⟩;rcases C with ⟨B,_⟩|⟨_,g,N,n,S⟩
   ·exact absurd j B
   exact⟨_,_,_,_,n,p,i,g,N,n,S⟩
  rintro e w' ⟨G,H,c,J,W⟩;exact⟨G,H,c,RecX.yes f (by omega) J M rfl,W⟩
 have T:=uI rcs ls a m;have t:bZ rcs ls a m=[UInt8.ofNat (zE rcs ls a m)]:=by unfold bZ;rw[xe j]
 rw[t];refine(pQ w R s D 8 [a,m] f (zE rcs ls a m) (by omega) (by omega) (λw2=>Kp Z w w2/\RI os (aY rcs ls a m) (Zn Z w) w2 R td rec ls) (zb (λw1 b d cap q=>?_))).mono ?_
 ·refine lW d cap (zb ((HD w1 b d cap q).mono ?_));rintro e w' ⟨p,i,C⟩;rcases C with ⟨_,n⟩|⟨F,_⟩
  ·exact⟨_,_,_,_,n,n,Kp.before b (p.mono (λk h=>Or.inl h)),i.mono (λk p=>p.elim Or.inl (λh=>Or.inr (xj b.size h)))⟩
  exact absurd F j
 rintro e w' ⟨G,w2,⟨H,J⟩,l⟩;exact⟨G,H.after l,rec,RecX.no1 (dT j (by omega)),J.below l⟩
def lZ(h:RI os rcs Z w R td rec ls)(n:Good os ls)(b:rec.size<=1000000000000000)(s:ByteArray)(p:s.size<=4194295):Calls prog 37 #[ve (vb ⟨R,0,U⟩),vi s] w λe w'=>e=vg (vi ⟨(zO rcs td os ls (Pl.cmd s.data.toList)).1.toArray⟩)/\Kp Z w w'/\∃g,RecX rec s g (zO rcs td os ls (Pl.cmd s.data.toList)).1/\RI (zO rcs td os ls (Pl.cmd s.data.toList)).2.2.1 (zO rcs td os ls (Pl.cmd s.data.toList)).2.2.2.1 (Zn Z w) w' R (zO rcs td os ls (Pl.cmd s.data.toList)).2.1 g (zO rcs td os ls (Pl.cmd s.data.toList)).2.2.2.2:=by
 have j:Z R:=by obtain⟨v,A,ro,_,z,_⟩:=h;exact z
 rcases lG s.data.toList with f|⟨c,B,l,q,i,t,d,u⟩
 ·rw[Bu f];exact Ap h n b s p f
 rw[i];rcases t with rfl|rfl
 ·obtain⟨a,m,rfl⟩:=SU d;have hd:a<=2147483647/\m<=2147483647:=by simp[Pl.mays,Pl.kindsL,Pl.mayB]at q;omega
  exact Io h b s p a m i hd.1 hd.2
 obtain⟨a,m,rfl⟩:=SV d;have hd:a<=2147483647/\m<=2147483647:=by simp[Pl.mays,Pl.kindsL,Pl.mayB]at q;omega
 have y:=qY rcs a m;exact LU j b s p 9 (by omega) [a,m] i (zZ rcs a m) (by omega) ls (λw1 k r cap x=>vK (h.below k) r cap a m x hd.1 hd.2)
def RI.bound(h:RI os rcs Z w R td rec ls):RI os rcs (λk=>Z k/\k<w.heap.size) w R td rec ls:=by
 obtain⟨v,c,ro,b,d,e,f⟩:=h;exact⟨v,c,ro,b,⟨d,zc b.store⟩,λg a=>by obtain⟨j,i⟩:=zi b.row a;exact⟨e g a,zc i⟩,λg a=>⟨f g a,b.ord.lt a⟩⟩
structure Inv(B:Nat)(w0 w:World)(Q N:Nat):Prop where
 old:Below B w0 w
 size:B<=w.heap.size
 two:4<=B
 gl:Gl w
 q:B<=Q
 both:∃Lb R Zp Zr td ls os rcs rec,w.heap[Q]?=vb (vf #[ve (vb ⟨Lb,0,U⟩),ve (vb ⟨R,0,U⟩)] 46 (0,0))/\PL rec.data.toList os rcs Zp w Lb td ls/\RI os rcs Zr w R td rec ls /\
  (∀k,Zp k->B<=k/\k<w.heap.size/\k≠Q/\¬Zr k)/\(∀k,Zr k->B<=k/\k<w.heap.size/\k≠Q)/\rec.size<=N/\Good os ls
def Inv.below{B Q N:Nat}{g w w':World}(h:Inv B g w Q N)(b:Below w.heap.size w w'):Inv B g w' Q N:=by
 obtain⟨i,R,j,l,td,ls,os,rcs,e,f,m,n,c,d,p⟩:=h.both;have r:=b.size;exact⟨h.old.trans (b.mono h.size),xj h.size r,h.two,h.gl.below b,h.q,i,R,j,l,td,ls,os,rcs,e,(b.block Q (zc f)).trans f,m.below b,n.below b,
  λk a=>⟨(c k a).1,by have:=(c k a).2.1;omega,(c k a).2.2⟩,λk a=>⟨(d k a).1,by have:=(d k a).2.1;omega,(d k a).2.2⟩,p⟩
def Inv.step{n v j:Nat}{w2 i w5:World}{m l:Nat->Prop}{ls':List L}{os':List O}{c:ByteArray}(H:Below B w0 w2)(M:B<=w2.heap.size)(s:4<=B)(A:Gl w2)(G:B<=Q)
  (F:w2.heap[Q]?=vb (vf #[ve (vb ⟨v,0,U⟩),ve (vb ⟨R,0,U⟩)] 46 (0,0)))
  (f:∀k,m k->B<=k/\k<w2.heap.size/\k≠Q/\¬l k) (g:∀k,l k->B<=k/\k<w2.heap.size/\k≠Q)
  (b:Kp m w2 i) (D:PL c.data.toList os' rcs (Zn m w2) i v j ls') (a:Kp l i w5) (E:RI os' rcs (Zn l i) w5 R j c ls') (r:c.size<=N+n) (C:Good os' ls'):Inv B w0 w5 Q (N+n):=by
 have x:=zc F;have y:¬m Q:=λh=>(f Q h).2.2.1 rfl
 have z:¬l Q:=λh=>(g Q h).2.2 rfl
 have J:=b.size;have K:=a.size;have p:=(b.block Q x y).trans F;have w:=(a.block Q (zc p) z).trans p;have t:Below B w2 i:=⟨b.os,b.tape,b.output,b.size,λk d=>b.block k (by omega) (λh=>by have:=(f k h).1;omega)⟩
 have u:Below B i w5:=⟨a.os,a.tape,a.output,a.size,λk d=>a.block k (by omega) (λh=>by have:=(g k h).1;omega)⟩
 refine⟨(H.trans t).trans u,by omega,s,(A.kp b (λh=>by have:=(f 2 h).1;omega) (λh=>by have:=(f 3 h).1;omega)).kp a (λh=>by have:=(g 2 h).1;omega) (λh=>by have:=(g 3 h).1;omega),G,
  v,R,λk=>Zn m w2 k/\k<i.heap.size,λk=>Zn l i k/\k<w5.heap.size,j,ls',os',rcs,c,w,?_,E.bound,?_,?_,r,C⟩
 ·refine D.bound.congr (λk d=>a.block k d.2 (λe=>?_));rcases d.1 with h|h
  ·exact(f k h).2.2.2 e
  have:=(g k e).2.1;omega
 ·rintro k ⟨d,q⟩;refine⟨?_,by omega,?_,?_⟩
  ·rcases d with h|h
   ·exact(f k h).1
   omega
  ·rcases d with h|h
   ·exact(f k h).2.2.1
   omega
  rintro⟨e,_⟩;rcases d with h|h
  ·rcases e with e|e
   ·exact(f k h).2.2.2 e
   have:=(f k h).2.1;omega
  rcases e with e|e
  ·have:=(g k e).2.1;omega
  omega
 rintro k ⟨d,q⟩;refine⟨?_,q,?_⟩
 ·rcases d with h|h
  ·exact(g k h).1
  omega
 rcases d with h|h
 ·exact(g k h).2.2
 omega
def Inv.grow{g:Nat}(h:Inv B w0 w Q N)(hN:N<=g):Inv B w0 w Q g:=by
 obtain⟨a,b,c,d,e,i,R,j,k,td,ls,os,rcs,f,l,m,n,p,q,r,s⟩:=h;exact⟨a,b,c,d,e,i,R,j,k,td,ls,os,rcs,f,l,m,n,p,q,xj r hN,s⟩
def Pp{s a:ByteArray}{b:List UInt8}(h:RecX rec s a b):Uv rec.data.toList s b=a.data.toList:=by
 rw[h.eq];unfold Uv RL;split
 ·unfold PY OV;simp
 rfl
