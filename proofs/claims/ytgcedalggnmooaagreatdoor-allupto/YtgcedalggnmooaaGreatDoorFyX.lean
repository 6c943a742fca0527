import Derived.Test.YtgcedalggnmooaaGreatDoorNuX
set_option linter.all false
set_option maxRecDepth 100000
set_option maxHeartbeats 6400000
namespace Go.Proofs.YtgcedalggnmooaaGreatDoor
open Go.RowKit
open Value renaming int->Y,slice->vd
open IntKind renaming i64->V
open Option renaming none->U,some->vb
open Obj renaming cells->ve
open Ending renaming returned->vf
section
variable {w0 W:World}{S:Nat}{td:Nat}{v:Value}{xs:List (L×Value)}{ov:Value}{os:List O}{lvs:List Value}{rv:Value}{rj:List (Nat×Nat)}
def GC(h:RW w0 W S td v xs ov os lvs rv rj)(hw:∀x∈xs,Wl x)(hl:xs.length<=30)(a2:∀x∈xs,x.1.par.length<=4194304/\∀p∈x.1.par,p.1<9223372036854775808/\p.2<9223372036854775808)(h8:∀x∈xs,x.1.gv<=1000000000000)(h0:∀x∈xs,x.1.ex<=2147483647)(i:Nat)(hi:i<xs.length):Calls Tryz.prog 90 #[.pointer (vb ⟨S,0,U⟩),Y V i] W (Qp w0 W S td v xs ov os lvs rv rj (WF (xs.map Prod.fst) i)):=by
 obtain⟨R,HR⟩:=Xc (WF (xs.map Prod.fst) i);rw[<-HR.o];obtain⟨a,cap,hv,j4,b8⟩:=h.shape;subst hv;obtain⟨G,hG,l6,P⟩:=b8 (by omega);subst hG;obtain⟨n0,d3⟩:=Xc xs.length;have i0:i<n0:=by rw[d3.o];exact hi
 have m6:n0<=30:=by rw[d3.o];exact hl
 have b2:xs.length=n0:=d3.o.symm;rw[b2]at j4 h ⊢;have i8:=zb b2;clear b2;have l7:=zc h.box;have i3:=hw _ (eH hi);have T:=h.frm _ (eH hi);have a3:=a2 _ (eH hi);have m:Ha (∀f,f<11->W.cell? ⟨G,i*11+f,U⟩=(zp (xs.getD i (L0,default)).1 (xs.getD i (L0,default)).2)[f]?):=λf hf=>P i hi f hf
 have b6:Ha ((xs.map Prod.fst).getD i L0=(xs.getD i (L0,default)).1):=aZ hi;obtain⟨xv,j2⟩:=Xc (xs.getD i (L0,default));rw[<-j2.o]at i3 T a3 m b6;obtain⟨x,fv⟩:=xv;obtain⟨⟨w1,w2,w3,w4,w5,w6,w7,w8,w9,k7⟩,fa,A,fc,h5⟩:=i3;simp only at h5 m b6 T a3 w1 w2 w3 w4 w5 w6 w7 w8 w9 k7;subst h5;obtain⟨_,_,h4⟩:=zj T;have h3:A=x.par.length:=by injection h4
 have F:=zb h3;clear h3;have c0:W.cell? ⟨G,i*11,U⟩=vb (Y V x.id):=m.o 0 (by omega);have c1:W.cell? ⟨G,i*11+1,U⟩=vb (Y V x.gd):=m.o 1 (by omega);have c2:W.cell? ⟨G,i*11+2,U⟩=vb (Y V x.ex):=m.o 2 (by omega);have c3:W.cell? ⟨G,i*11+3,U⟩=vb (Y V x.place):=m.o 3 (by omega);have c4:W.cell? ⟨G,i*11+4,U⟩=vb (Y V x.got):=m.o 4 (by omega);have c5:W.cell? ⟨G,i*11+5,U⟩=vb (Y V x.free):=m.o 5 (by omega);have c6:W.cell? ⟨G,i*11+6,U⟩=vb (Y V x.hd):=m.o 6 (by omega);have c7:W.cell? ⟨G,i*11+7,U⟩=vb (Y V x.sh):=m.o 7 (by omega);have c8:W.cell? ⟨G,i*11+8,U⟩=vb (Y V x.sc):=m.o 8 (by omega);have c9:W.cell? ⟨G,i*11+9,U⟩=vb (Y V x.gv):=m.o 9 (by omega);have j3:W.cell? ⟨G,i*11+10,U⟩=vb (vd fa A fc):=m.o 10 (by omega);have g5:=zb h;have HW:=zb hw;have f6:=zb h8;have f2:=zb h0;have f5:=zb T;clear P b8 m h hw h8 h0 a2 h4 hi hl;go_enter Tryz.func90,Tryz.ntmps90;go_wp2_with fail;have M:=zb (xq W (ve #[Y V x.id,Y V x.gd,Y V x.ex,Y V x.place,Y V x.got,Y V x.free,Y V x.hd,Y V x.sh,Y V x.sc,Y V x.gv,vd fa A fc] 129));have a5:=zb (Wm W (ve #[Y V x.id,Y V x.gd,Y V x.ex,Y V x.place,Y V x.got,Y V x.free,Y V x.hd,Y V x.sh,Y V x.sc,Y V x.gv,vd fa A fc] 129));obtain⟨lb,d2⟩:=Xc W.heap.size;obtain⟨W5,g6⟩:∃W5,Ha (W5=W.alloc (ve #[Y V x.id,Y V x.gd,Y V x.ex,Y V x.place,Y V x.got,Y V x.free,Y V x.hd,Y V x.sh,Y V x.sc,Y V x.gv,vd fa A fc] 129)):=⟨_,rfl⟩
 rw[<-g6.o]at M a5 ⊢;rw[<-d2.o]at M ⊢;have d0:Ha (W5.heap[lb]?=vb (ve #[Y V x.id,Y V x.gd,Y V x.ex,Y V x.place,Y V x.got,Y V x.free,Y V x.hd,Y V x.sh,Y V x.sc,Y V x.gv,vd fa A fc] 129)):=M.o;have a4:Ha (Below W.heap.size W W5):=a5.o;have g2:=zb (g5.o.below a4.o);have d1:=zb (zh f5.o a4.o);have f8:Ha (W.heap.size<=lb):=by rw[Ha,d2.o];exact xe _
 clear M a5 g6 d2 c0 c1 c2 c3 c4 c5 c6 c7 c8 c9 j3;have g4:=zb (lZ x.par a3.2 a3.1 W5 (vd fa A fc) (rJ d1.o) false);refine(g4.o).mono ?_
 rintro e D ⟨⟨r,rfl,hr⟩,b0⟩;rw[LI]at hr;have l5:Ha (Below W.heap.size W D):=a4.o.trans (b0.mono a4.o.size);have b4:=zb (g2.o.below b0);have f3:=zb (zh d1.o b0);have b:Ha (D.heap[lb]?=vb (ve #[Y V x.id,Y V x.gd,Y V x.ex,Y V x.place,Y V x.got,Y V x.free,Y V x.hd,Y V x.sh,Y V x.sc,Y V x.gv,vd fa A fc] 129)):=(b0.block lb (zc d0.o)).trans d0.o;have z:Ha (¬(x.par.length<=2/\(x.par.map Prod.fst).Pairwise (·<·))->R=U):=λhh=>by
  rw[HR.o];unfold WF;rw[b6.o,xg hh]
 have a8:Ha ((x.par.length<=2/\(x.par.map Prod.fst).Pairwise (·<·))->R=(WE x x.par 2147483648 0 (xs.map Prod.fst)).bind λq=>if x.par.length=0 then vb q.1 else if q.2.1=x.ex then vb (q.1.set i { q.1.getD i L0 with got:=q.2.2 }) else U):=λhh=>by
  rw[HR.o];unfold WF;rw[b6.o,xh hh]
 have e0:D.cell? ⟨lb,0,U⟩=vb (Y V x.id):=by rw[za b.o];rfl
 have N:D.cell? ⟨lb,1,U⟩=vb (Y V x.gd):=by rw[za b.o];rfl
 have e2:D.cell? ⟨lb,2,U⟩=vb (Y V x.ex):=by rw[za b.o];rfl
 have e3:D.cell? ⟨lb,3,U⟩=vb (Y V x.place):=by rw[za b.o];rfl
 have e4:D.cell? ⟨lb,4,U⟩=vb (Y V x.got):=by rw[za b.o];rfl
 have e5:D.cell? ⟨lb,5,U⟩=vb (Y V x.free):=by rw[za b.o];rfl
 have e6:D.cell? ⟨lb,6,U⟩=vb (Y V x.hd):=by rw[za b.o];rfl
 have e7:D.cell? ⟨lb,7,U⟩=vb (Y V x.sh):=by rw[za b.o];rfl
 have e8:D.cell? ⟨lb,8,U⟩=vb (Y V x.sc):=by rw[za b.o];rfl
 have e9:D.cell? ⟨lb,9,U⟩=vb (Y V x.gv):=by rw[za b.o];rfl
 have g8:D.cell? ⟨lb,10,U⟩=vb (vd fa A fc):=by rw[za b.o];rfl
 have k9:A<=4194304:=by rw[F.o];exact a3.1
 clear b0 g4 g2 d1 d0 HR a4;by_cases h2:A<=2
 ·cases r with
  |false=>
   have d5:Ha (R=U):=z.o (λhh=>by have:=hr.2 hh.2;cases this);have w:Ha (Qp w0 W S td (vd (vb ⟨G,0,U⟩) n0 cap) xs ov os lvs rv rj R (vf (.bool false)) D):=by rw[Ha,d5.o];exact⟨rfl,xs,rfl,b4.o⟩
   clear hr z a8;go_wp2_with fail;go_ret;exact w.o
  |true=>
   have b5:=zb (a8.o ⟨by rw[<-F.o];exact h2,hr.1 rfl⟩);clear a8 z hr;have l8:decide ((2:Int)<(A:Int))=false:=xy (by omega);obtain⟨Q,HQ⟩:=Xc (WE x x.par 2147483648 0 (xs.map Prod.fst));rw[<-HQ.o]at b5;have f7:Ha (FyI n0 w0 S td G cap lb x fa A fc xs ov os lvs rv rj Q 0 2147483648 0 xs D):=⟨b4.o,i8.o,rfl,HQ.o.symm,b.o,f3.o,by omega,by omega,λy hy=>⟨HW.o y hy,by have:=f6.o y hy;omega,f2.o y hy⟩,by have:=f8.o;omega⟩
   clear b4 b f3 HW f6 f2 HQ g5 f5;go_wp2_with fail;clear e0 N e2 e3 e4 e5 e6 e7 e8 e9 g8;go_loopw [7,8,9,10,11] (λgg uu kk _ _ wr=>∃(k u g:Nat) (l:List (L×Value)),k<=A/\kk=Y V k/\uu=Y V u/\gg=Y V g/\FyI n0 w0 S td G cap lb x fa A fc xs ov os lvs rv rj Q k u g l wr) (λ_ _ kk _ _ _=>A-(intOf kk).toNat)
   case atStart=>exact⟨0,2147483648,0,xs,by omega,rfl,rfl,rfl,f7.o⟩
   clear f7;obtain⟨k,u,g,l,hk,rfl,rfl,rfl,d⟩:=hrel;have HI:=zb d;have e0:wr.cell? ⟨lb,0,U⟩=vb (Y V x.id):=by rw[za d.box];rfl
   have N:wr.cell? ⟨lb,1,U⟩=vb (Y V x.gd):=by rw[za d.box];rfl
   have e2:wr.cell? ⟨lb,2,U⟩=vb (Y V x.ex):=by rw[za d.box];rfl
   have e3:wr.cell? ⟨lb,3,U⟩=vb (Y V x.place):=by rw[za d.box];rfl
   have e4:wr.cell? ⟨lb,4,U⟩=vb (Y V x.got):=by rw[za d.box];rfl
   have e5:wr.cell? ⟨lb,5,U⟩=vb (Y V x.free):=by rw[za d.box];rfl
   have e6:wr.cell? ⟨lb,6,U⟩=vb (Y V x.hd):=by rw[za d.box];rfl
   have e7:wr.cell? ⟨lb,7,U⟩=vb (Y V x.sh):=by rw[za d.box];rfl
   have e8:wr.cell? ⟨lb,8,U⟩=vb (Y V x.sc):=by rw[za d.box];rfl
   have e9:wr.cell? ⟨lb,9,U⟩=vb (Y V x.gv):=by rw[za d.box];rfl
   have g8:wr.cell? ⟨lb,10,U⟩=vb (vd fa A fc):=by rw[za d.box];rfl
   have s1:wr.cell? ⟨S,1,U⟩=vb (vd (vb ⟨G,0,U⟩) n0 cap):=by rw[za d.rw.box];rfl
   by_cases m5:k<A
   ·have b7:k<x.par.length:=by have:=F.o;omega
    obtain⟨pq,l4,f0,m7,d9⟩:=(rJ d.frm).cells (by omega);have j7:fa=vb ⟨pq,0,U⟩:=by injection f0
    subst j7;obtain⟨k5,k6⟩:=d9 k b7;have a2:=a3.2 (x.par.getD k (0,0)) (by simp[WI,b7]);have n:Ha (WE x ((x.par.getD k (0,0))::x.par.drop (k+1)) u g (l.map Prod.fst)=Q):=by
     unfold Ha;rw[<-d.run,xaD b7];simp[WI,b7]
    generalize x.par.getD k (0,0)=pr at *;obtain⟨p1,X⟩:=pr;simp only at k5 k6 a2 n;have Z:=zb (CG d.rw (λy hy=>(d.sm y hy).1) (by have:=d.len;omega) p1 a2.1);have a7:=zb (rV X a2.2 wr);have i1:(l.map Prod.fst).length=l.length:=List.length_map ..;have i6:=zb d.rw;have j1:=zb d.snd;have w:Ha (Q=U->∀w',Below wr.heap.size wr w'->Qp w0 W S td (vd (vb ⟨G,0,U⟩) n0 cap) xs ov os lvs rv rj R (vf (.bool false)) w'):=λhq w' j5=>by
     rw[b5.o,hq];exact⟨rfl,l,j1.o,i6.o.below j5⟩
    by_cases hf:WO p1 (l.map Prod.fst)<l.length
    ·have b9:Ha (Wn (l.map Prod.fst) p1=((WO p1 (l.map Prod.fst):Nat):Int)):=by unfold Ha Wn;rw[xh (by omega)]
     rw[b9.o]at Z;obtain⟨a',g7,K,b1,s⟩:=d.rw.shape;obtain⟨G',a9,g9,C⟩:=s (by omega);have d7:G'=G:=by
      rw[a9]at K;injection K with N e2 e3
      injection N with N
      injection N with N
      exact N.symm
     subst d7;obtain⟨cg,a1⟩:=zi d.rw.row (g:=G') rfl;have i7:Ha (∀f,wr.frozen? ⟨G',f,U⟩=false):=λf=>ze a1 f
     have g3:=n;obtain⟨j,HJ⟩:=Xc (WO p1 (l.map Prod.fst));have hj:j<l.length:=by rw[HJ.o];exact hf
     have i4:=d.sm _ (eH hj);have E:Ha (∀f,f<11->wr.cell? ⟨G',j*11+f,U⟩=(zp (l.getD j (L0,default)).1 (l.getD j (L0,default)).2)[f]?):=λf hf=>C j hj f hf
     have a6:Ha ((l.map Prod.fst).getD j L0=(l.getD j (L0,default)).1):=aZ hj;have J:=zb (λ(a:Value) (l':L) (hr:∀f,(zp (l.getD j (L0,default)).1 f).set 9 a=zp l' f) (hp:l'.par=(l.getD j (L0,default)).1.par)=>RW.setL (by rw[d.len];exact d.rw) hj (show 9<11 by omega) hr hp);have b3:Ha (∀l':L,(l.set j (l',(l.getD j (L0,default)).2)).map Prod.fst=(l.map Prod.fst).set j l'):=λl'=>by rw[xac]
     rw[<-HJ.o]at Z;obtain⟨yv,d6⟩:=Xc (l.getD j (L0,default));rw[<-d6.o]at i4 E a6 J b3;obtain⟨y,fy⟩:=yv;obtain⟨⟨⟨v1,v2,v3,v4,v5,v6,v7,v8,v9,i5⟩,_⟩,h9,h1⟩:=i4;simp only at E a6 J b3 v1 v2 v3 v4 v5 v6 v7 v8 v9 i5 h9 h1;have y1:wr.cell? ⟨G',j*11+1,U⟩=vb (Y V y.gd):=E.o 1 (by omega);have y2:wr.cell? ⟨G',j*11+2,U⟩=vb (Y V y.ex):=E.o 2 (by omega);have y3:wr.cell? ⟨G',j*11+3,U⟩=vb (Y V y.place):=E.o 3 (by omega);have y9:wr.cell? ⟨G',j*11+9,U⟩=vb (Y V y.gv):=E.o 9 (by omega);have f9:=i7.o (j*11+9);have H:Ha (¬(X<=2147483647/\y.gd=x.gd/\y.place<x.place)->Q=U):=λhc=>by
      rw[<-n.o,WE,xg];rintro⟨_,q2,q3,q4⟩;rw[<-HJ.o,a6.o]at q3 q4;exact hc ⟨q2,q3,q4⟩
     have d4:Ha ((X<=2147483647/\y.gd=x.gd/\y.place<x.place)->WE x (x.par.drop (k+1)) (min u y.ex) (g+X) ((l.set j (WK y X,fy)).map Prod.fst)=Q):=λhc=>by
      rw[<-n.o,WE,xh,<-HJ.o,a6.o,b3.o];rw[<-HJ.o,a6.o];exact⟨by rw[i1];exact hj,hc⟩
     have m3:j<n0:=by have:=d.len;omega
     have m2:(j:Int)<(n0:Int):=by omega
     have m1:(0:Int)<=(j:Int):=by omega
     have k4:=d.ub;have j8:=d.gb;have m4:decide ((j:Int)<0)=false:=xy (by omega);clear d d9 f0 C K a9 a1 E n g3 b1 s;obtain⟨B,a0⟩:∃B:Bool,Ha (B=decide (X<=2147483647)):=⟨_,rfl⟩
     rw[<-a0.o]at a7;go_wp2_with (first|(go_at_call 111;refine(Z.o).mono ?_;rintro e f1 ⟨rfl,c⟩;have t:=c.symm;subst t;clear c)|(go_at_call 143;refine(a7.o).mono ?_;rintro e f1 ⟨rfl,c⟩;have t:=c.symm;subst t;clear c));by_cases hB:X<=2147483647
     ·obtain rfl:B=true:=by rw[a0.o];exact ya hB
      by_cases h6:y.gd=x.gd
      ·have h7:((y.gd:Int) != (x.gd:Int))=false:=by rw[xbb];omega
       by_cases i2:y.place<x.place
       ·have k2:decide ((x.place:Int)<=(y.place:Int))=false:=xy (by omega);have g0:=zb (d4.o ⟨hB,h6,i2⟩);clear d4 H;have l9:y.gv+X<9223372036854775808:=by omega
        have l0:g+X<9223372036854775808:=by omega
        go_quiet (fail);go_wp2_with fail
        all_goals go_region
        all_goals go_wp2_with fail
        ·have k3:y.ex<u:=by omega
         refine⟨⟨k+1,y.ex,g+X,l.set j (WK y X,fy),by omega,by push_cast;rfl,rfl,by push_cast;rfl,HI.o.step (by have:=HI.o.len;omega) d6.o (by have:=g0.o;rwa [Nat.min_eq_right (by omega)]at this) (by omega) hB (by omega) _⟩,?_⟩;simp only[intOf];omega
        have k3:u<=y.ex:=by omega
        refine⟨⟨k+1,u,g+X,l.set j (WK y X,fy),by omega,by push_cast;rfl,rfl,by push_cast;rfl,HI.o.step (by have:=HI.o.len;omega) d6.o (by have:=g0.o;rwa [xcV (by omega)]at this) (by omega) hB (by omega) _⟩,?_⟩;simp only[intOf];omega
       have k2:decide ((x.place:Int)<=(y.place:Int))=true:=ya (by omega);go_quiet (fail);go_wp2_with fail;go_ret;exact w.o (H.o (λhc=>i2 hc.2.2)) _ (yf (xm _ _) nq)
      have h7:((y.gd:Int) != (x.gd:Int))=true:=by rw[YP];omega
      go_quiet (fail);go_wp2_with fail;go_ret;exact w.o (H.o (λhc=>h6 hc.2.1)) _ (yf (xm _ _) nq)
     obtain rfl:B=false:=by rw[a0.o];exact xy hB
     have i9:=zb (H.o (λhc=>hB hc.1));clear hB H d4 J b3 Z a7 a0 y1 y2 y3 y9 f9 v1 v2 v3 v4 v5 v6 v7 v8 v9 i5 h9 h1;go_quiet (fail);go_wp2_with fail;go_ret;exact w.o i9.o _ (yf (xm _ _) nq)
    have b9:Ha (Wn (l.map Prod.fst) p1=-1):=by unfold Ha Wn;rw[xg (by omega)]
    rw[b9.o]at Z;have H:Ha (Q=U):=by
     rw[Ha,<-n.o,WE,xg];rintro⟨q1,_⟩;exact hf (by rw[<-i1];exact q1)
    clear d d9 f0 n;obtain⟨B,a0⟩:∃B:Bool,Ha (B=decide (X<=2147483647)):=⟨_,rfl⟩
    rw[<-a0.o]at a7;go_wp2_with (first|(go_at_call 111;refine(Z.o).mono ?_;rintro e f1 ⟨rfl,c⟩;have t:=c.symm;subst t;clear c)|(go_at_call 143;refine(a7.o).mono ?_;rintro e f1 ⟨rfl,c⟩;have t:=c.symm;subst t;clear c));go_quiet (fail);go_wp2_with fail;go_ret;exact w.o H.o _ (yf (xm _ _) nq)
   have k0:k=A:=by omega
   subst k0;have j6:x.par.drop k=[]:=xbN (by rw[<-F.o];exact xe _);have g1:Ha (Q=vb (l.map Prod.fst,u,g)):=by rw[Ha,<-d.run,j6];rfl
   have k4:=d.ub;have j8:=d.gb;clear d;by_cases d8:k=0
   ·have w:Ha (Qp w0 W S td (vd (vb ⟨G,0,U⟩) n0 cap) xs ov os lvs rv rj R (vf (.bool true)) wr):=by
     rw[Ha,b5.o,g1.o];simp only[xk];rw[xh (by rw[<-F.o];exact d8)];exact⟨rfl,l,rfl,HI.o.snd,HI.o.rw⟩
    subst d8;go_wp2_with fail;go_ret;exact w.o
   have l2:decide ((0:Int)<(k:Int))=true:=ya (by omega);have j0:Ha (R=if u=x.ex then vb ((l.map Prod.fst).set i { (l.map Prod.fst).getD i L0 with got:=g }) else U):=by
    rw[Ha,b5.o,g1.o];simp only[xk];rw[xg (by rw[<-F.o];exact d8)]
   obtain⟨cg,a1⟩:=zi HI.o.rw.row (g:=G) rfl;have f4:=ze a1 (i*11+4);have m0:(i:Int)<(n0:Int):=by omega
   have l1:(0:Int)<=(i:Int):=by omega
   have g9:=zc a1;have j9:i<l.length:=by rw[HI.o.len];exact i0
   obtain⟨a',g7,K,b1,s⟩:=HI.o.rw.shape;obtain⟨G',a9,k8,C⟩:=s (by omega);have d7:G'=G:=by
    rw[a9]at K;injection K with N e2 e3
    injection N with N
    injection N with N
    exact N.symm
   subst d7;have c4:wr.cell? ⟨G',i*11+4,U⟩=vb (Y V ((l.getD i (L0,default)).1.got:Int)):=C i j9 4 (by omega);have k1:=HI.o.ne;have l3:=YM k1;clear a1 C s b1 K a9;go_wp2_with fail;go_ret;have HF:=HI.o.got (W:=W) i0 (xm _ _) x.ex;rw[<-j0.o]at HF;exact HF
 have d5:Ha (R=U):=z.o (λhh=>h2 (by rw[F.o];exact hh.1));have w:Ha (Qp w0 W S td (vd (vb ⟨G,0,U⟩) n0 cap) xs ov os lvs rv rj R (vf (.bool false)) D):=by rw[Ha,d5.o];exact⟨rfl,xs,rfl,b4.o⟩
 go_wp2_with fail;go_ret
 exact w.o
end
