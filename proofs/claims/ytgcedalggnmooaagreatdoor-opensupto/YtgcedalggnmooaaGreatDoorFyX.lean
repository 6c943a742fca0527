import Derived.Test.YtgcedalggnmooaaGreatDoorNuX
set_option linter.all false
set_option maxRecDepth 100000
set_option maxHeartbeats 6400000
namespace Go.Proofs.YtgcedalggnmooaaGreatDoor
open Go.RowKit
section
variable {w0 W:World}{S:Nat}{td:Nat}{v:Value}{xs:List (L×Value)}{ov:Value}{os:List O}{lvs:List Value}{rv:Value}{rj:List (Nat×Nat)}
theorem Ft(h:RW w0 W S td v xs ov os lvs rv rj)(hw:∀x∈xs,Wl x)(hl:xs.length<=30)(a3:∀x∈xs,x.1.par.length<=4194304/\∀p∈x.1.par,p.1<9223372036854775808/\p.2<9223372036854775808)(h9:∀x∈xs,x.1.gv<=1000000000000)(h1:∀x∈xs,x.1.ex<=2147483647)(i:Nat)(hi:i<xs.length):Calls Tryz.prog 90 #[.pointer (some ⟨S,0,none⟩),.int .i64 i] W (On w0 W S td v xs ov os lvs rv rj (Us (xs.map Prod.fst) i)):=by
 obtain⟨R,HR⟩:=UM (Us (xs.map Prod.fst) i);rw[<-HR.o];obtain⟨a,cap,hv,j5,b9⟩:=h.shape;subst hv;obtain⟨G,hG,l7,T⟩:=b9 (by omega);subst hG;obtain⟨n0,d4⟩:=UM xs.length;have i1:i<n0:=by rw[d4.o];exact hi
 have m7:n0<=30:=by rw[d4.o];exact hl
 have b3:xs.length=n0:=d4.o.symm;rw[b3]at j5 h ⊢;have i9:=zb b3;clear b3;have l8:=zc h.box;have i4:=hw _ (eE hi);have X:=h.frm _ (eE hi);have a4:=a3 _ (eE hi);have m:Ha (∀f,f<11->W.cell? ⟨G,i*11+f,none⟩=(zp (xs.getD i (L0,default)).1 (xs.getD i (L0,default)).2)[f]?):=λf hf=>T i hi f hf
 have b7:Ha ((xs.map Prod.fst).getD i L0=(xs.getD i (L0,default)).1):=aU hi;obtain⟨xv,j3⟩:=UM (xs.getD i (L0,default));rw[<-j3.o]at i4 X a4 m b7;obtain⟨x,fv⟩:=xv;obtain⟨⟨w1,w2,w3,w4,w5,w6,w7,w8,w9,k8⟩,fa,C,fc,h6⟩:=i4;simp only at h6 m b7 X a4 w1 w2 w3 w4 w5 w6 w7 w8 w9 k8;subst h6;obtain⟨_,_,h5⟩:=zm X;have h4:C=x.par.length:=by injection h5
 have H:=zb h4;clear h4;have c0:W.cell? ⟨G,i*11,none⟩=some (.int .i64 x.id):=m.o 0 (by omega);have c1:W.cell? ⟨G,i*11+1,none⟩=some (.int .i64 x.gd):=m.o 1 (by omega);have c2:W.cell? ⟨G,i*11+2,none⟩=some (.int .i64 x.ex):=m.o 2 (by omega);have c3:W.cell? ⟨G,i*11+3,none⟩=some (.int .i64 x.place):=m.o 3 (by omega);have c4:W.cell? ⟨G,i*11+4,none⟩=some (.int .i64 x.got):=m.o 4 (by omega);have c5:W.cell? ⟨G,i*11+5,none⟩=some (.int .i64 x.free):=m.o 5 (by omega);have c6:W.cell? ⟨G,i*11+6,none⟩=some (.int .i64 x.hd):=m.o 6 (by omega);have c7:W.cell? ⟨G,i*11+7,none⟩=some (.int .i64 x.sh):=m.o 7 (by omega);have c8:W.cell? ⟨G,i*11+8,none⟩=some (.int .i64 x.sc):=m.o 8 (by omega);have c9:W.cell? ⟨G,i*11+9,none⟩=some (.int .i64 x.gv):=m.o 9 (by omega);have j4:W.cell? ⟨G,i*11+10,none⟩=some (.slice fa C fc):=m.o 10 (by omega);have g6:=zb h;have HW:=zb hw;have f7:=zb h9;have f3:=zb h1;have f6:=zb X;clear T b9 m h hw h9 h1 a3 h5 hi hl;go_enter Tryz.func90,Tryz.ntmps90;go_wp2_with fail;have N:=zb (xo W (.cells #[.int .i64 x.id,.int .i64 x.gd,.int .i64 x.ex,.int .i64 x.place,.int .i64 x.got,.int .i64 x.free,.int .i64 x.hd,.int .i64 x.sh,.int .i64 x.sc,.int .i64 x.gv,.slice fa C fc] 129));have a6:=zb (TZ W (.cells #[.int .i64 x.id,.int .i64 x.gd,.int .i64 x.ex,.int .i64 x.place,.int .i64 x.got,.int .i64 x.free,.int .i64 x.hd,.int .i64 x.sh,.int .i64 x.sc,.int .i64 x.gv,.slice fa C fc] 129));obtain⟨n,d3⟩:=UM W.heap.size;obtain⟨W5,g7⟩:∃W5,Ha (W5=W.alloc (.cells #[.int .i64 x.id,.int .i64 x.gd,.int .i64 x.ex,.int .i64 x.place,.int .i64 x.got,.int .i64 x.free,.int .i64 x.hd,.int .i64 x.sh,.int .i64 x.sc,.int .i64 x.gv,.slice fa C fc] 129)):=⟨_,rfl⟩
 rw[<-g7.o]at N a6 ⊢;rw[<-d3.o]at N ⊢;have d1:Ha (W5.heap[n]?=some (.cells #[.int .i64 x.id,.int .i64 x.gd,.int .i64 x.ex,.int .i64 x.place,.int .i64 x.got,.int .i64 x.free,.int .i64 x.hd,.int .i64 x.sh,.int .i64 x.sc,.int .i64 x.gv,.slice fa C fc] 129)):=N.o;have a5:Ha (Below W.heap.size W W5):=a6.o;have g3:=zb (g6.o.below a5.o);have d2:=zb (zh f6.o a5.o);have g0:Ha (W.heap.size<=n):=by rw[Ha,d3.o];exact xc _
 clear N a6 g7 d3 c0 c1 c2 c3 c4 c5 c6 c7 c8 c9 j4;have g5:=zb (lI x.par a4.2 a4.1 W5 (.slice fa C fc) (qP d2.o) false);refine(g5.o).mono ?_
 rintro e E ⟨⟨r,rfl,hr⟩,b1⟩;rw[JP]at hr;have l6:Ha (Below W.heap.size W E):=a5.o.trans (b1.mono a5.o.size);have b5:=zb (g3.o.below b1);have f5:=zb (zh d2.o b1);have b:Ha (E.heap[n]?=some (.cells #[.int .i64 x.id,.int .i64 x.gd,.int .i64 x.ex,.int .i64 x.place,.int .i64 x.got,.int .i64 x.free,.int .i64 x.hd,.int .i64 x.sh,.int .i64 x.sc,.int .i64 x.gv,.slice fa C fc] 129)):=(b1.block n (zc d1.o)).trans d1.o;have A:Ha (¬(x.par.length<=2/\(x.par.map Prod.fst).Pairwise (·<·))->R=none):=λhh=>by
  rw[HR.o];unfold Us;rw[b7.o,xg hh]
 have a9:Ha ((x.par.length<=2/\(x.par.map Prod.fst).Pairwise (·<·))->R=(Ur x x.par 2147483648 0 (xs.map Prod.fst)).bind λq=>if x.par.length=0 then some q.1 else if q.2.1=x.ex then some (q.1.set i { q.1.getD i L0 with got:=q.2.2 }) else none):=λhh=>by
  rw[HR.o];unfold Us;rw[b7.o,xe hh]
 have e0:E.cell? ⟨n,0,none⟩=some (.int .i64 x.id):=by rw[za b.o];rfl
 have P:E.cell? ⟨n,1,none⟩=some (.int .i64 x.gd):=by rw[za b.o];rfl
 have e2:E.cell? ⟨n,2,none⟩=some (.int .i64 x.ex):=by rw[za b.o];rfl
 have e3:E.cell? ⟨n,3,none⟩=some (.int .i64 x.place):=by rw[za b.o];rfl
 have e4:E.cell? ⟨n,4,none⟩=some (.int .i64 x.got):=by rw[za b.o];rfl
 have e5:E.cell? ⟨n,5,none⟩=some (.int .i64 x.free):=by rw[za b.o];rfl
 have e6:E.cell? ⟨n,6,none⟩=some (.int .i64 x.hd):=by rw[za b.o];rfl
 have e7:E.cell? ⟨n,7,none⟩=some (.int .i64 x.sh):=by rw[za b.o];rfl
 have e8:E.cell? ⟨n,8,none⟩=some (.int .i64 x.sc):=by rw[za b.o];rfl
 have e9:E.cell? ⟨n,9,none⟩=some (.int .i64 x.gv):=by rw[za b.o];rfl
 have g9:E.cell? ⟨n,10,none⟩=some (.slice fa C fc):=by rw[za b.o];rfl
 have l0:C<=4194304:=by rw[H.o];exact a4.1
 clear b1 g5 g3 d2 d1 HR a5;by_cases h2:C<=2
 ·cases r with
  |false=>
   have d6:Ha (R=none):=A.o (λhh=>by have:=hr.2 hh.2;cases this);have z:Ha (On w0 W S td (.slice (some ⟨G,0,none⟩) n0 cap) xs ov os lvs rv rj R (.returned (.bool false)) E):=by rw[Ha,d6.o];exact⟨rfl,xs,rfl,b5.o⟩
   clear hr A a9;go_wp2_with fail;go_ret;exact z.o
  |true=>
   have b6:=zb (a9.o ⟨by rw[<-H.o];exact h2,hr.1 rfl⟩);clear a9 A hr;have l9:decide ((2:Int)<(C:Int))=false:=xu (by omega);obtain⟨Q,HQ⟩:=UM (Ur x x.par 2147483648 0 (xs.map Prod.fst));rw[<-HQ.o]at b6;have f8:Ha (FyI n0 w0 S td G cap n x fa C fc xs ov os lvs rv rj Q 0 2147483648 0 xs E):=⟨b5.o,i9.o,rfl,HQ.o.symm,b.o,f5.o,by omega,by omega,λy hy=>⟨HW.o y hy,by have:=f7.o y hy;omega,f3.o y hy⟩,by have:=g0.o;omega⟩
   clear b5 b f5 HW f7 f3 HQ g6 f6;go_wp2_with fail;clear e0 P e2 e3 e4 e5 e6 e7 e8 e9 g9;go_loopw [7,8,9,10,11] (λgg uu kk _ _ wr=>∃(k u g:Nat) (l:List (L×Value)),k<=C/\kk=.int .i64 k/\uu=.int .i64 u/\gg=.int .i64 g/\FyI n0 w0 S td G cap n x fa C fc xs ov os lvs rv rj Q k u g l wr) (λ_ _ kk _ _ _=>C-(intOf kk).toNat)
   case atStart=>exact⟨0,2147483648,0,xs,by omega,rfl,rfl,rfl,f8.o⟩
   clear f8;obtain⟨k,u,g,l,hk,rfl,rfl,rfl,d⟩:=hrel;have HI:=zb d;have e0:wr.cell? ⟨n,0,none⟩=some (.int .i64 x.id):=by rw[za d.box];rfl
   have P:wr.cell? ⟨n,1,none⟩=some (.int .i64 x.gd):=by rw[za d.box];rfl
   have e2:wr.cell? ⟨n,2,none⟩=some (.int .i64 x.ex):=by rw[za d.box];rfl
   have e3:wr.cell? ⟨n,3,none⟩=some (.int .i64 x.place):=by rw[za d.box];rfl
   have e4:wr.cell? ⟨n,4,none⟩=some (.int .i64 x.got):=by rw[za d.box];rfl
   have e5:wr.cell? ⟨n,5,none⟩=some (.int .i64 x.free):=by rw[za d.box];rfl
   have e6:wr.cell? ⟨n,6,none⟩=some (.int .i64 x.hd):=by rw[za d.box];rfl
   have e7:wr.cell? ⟨n,7,none⟩=some (.int .i64 x.sh):=by rw[za d.box];rfl
   have e8:wr.cell? ⟨n,8,none⟩=some (.int .i64 x.sc):=by rw[za d.box];rfl
   have e9:wr.cell? ⟨n,9,none⟩=some (.int .i64 x.gv):=by rw[za d.box];rfl
   have g9:wr.cell? ⟨n,10,none⟩=some (.slice fa C fc):=by rw[za d.box];rfl
   have s1:wr.cell? ⟨S,1,none⟩=some (.slice (some ⟨G,0,none⟩) n0 cap):=by rw[za d.rw.box];rfl
   by_cases m6:k<C
   ·have b8:k<x.par.length:=by have:=H.o;omega
    obtain⟨pq,l5,f1,m8,f0⟩:=(qP d.frm).cells (by omega);have j8:fa=some ⟨pq,0,none⟩:=by injection f1
    subst j8;obtain⟨k6,k7⟩:=f0 k b8;have a3:=a4.2 (x.par.getD k (0,0)) (by simp[Uv,b8]);have s:Ha (Ur x ((x.par.getD k (0,0))::x.par.drop (k+1)) u g (l.map Prod.fst)=Q):=by
     unfold Ha;rw[<-d.run,xao b8];simp[Uv,b8]
    generalize x.par.getD k (0,0)=pr at *;obtain⟨p1,Z⟩:=pr;simp only at k6 k7 a3 s;have a0:=zb (BP d.rw (λy hy=>(d.sm y hy).1) (by have:=d.len;omega) p1 a3.1);have a8:=zb (rB Z a3.2 wr);have i2:(l.map Prod.fst).length=l.length:=Xl ..;have i7:=zb d.rw;have j2:=zb d.snd;have z:Ha (Q=none->∀w',Below wr.heap.size wr w'->On w0 W S td (.slice (some ⟨G,0,none⟩) n0 cap) xs ov os lvs rv rj R (.returned (.bool false)) w'):=λhq w' j6=>by
     rw[b6.o,hq];exact⟨rfl,l,j2.o,i7.o.below j6⟩
    by_cases hf:UB p1 (l.map Prod.fst)<l.length
    ·have d0:Ha (Ua (l.map Prod.fst) p1=((UB p1 (l.map Prod.fst):Nat):Int)):=by unfold Ha Ua;rw[xe (by omega)]
     rw[d0.o]at a0;obtain⟨a',g8,M,b2,t⟩:=d.rw.shape;obtain⟨G',b0,h0,D⟩:=t (by omega);have d8:G'=G:=by
      rw[b0]at M;injection M with P e2 e3
      injection P with P
      injection P with P
      exact P.symm
     subst d8;obtain⟨cg,a2⟩:=zi d.rw.row (g:=G') rfl;have i8:Ha (∀f,wr.frozen? ⟨G',f,none⟩=false):=λf=>zf a2 f
     have g4:=s;obtain⟨j,HJ⟩:=UM (UB p1 (l.map Prod.fst));have hj:j<l.length:=by rw[HJ.o];exact hf
     have i5:=d.sm _ (eE hj);have F:Ha (∀f,f<11->wr.cell? ⟨G',j*11+f,none⟩=(zp (l.getD j (L0,default)).1 (l.getD j (L0,default)).2)[f]?):=λf hf=>D j hj f hf
     have a7:Ha ((l.map Prod.fst).getD j L0=(l.getD j (L0,default)).1):=aU hj;have K:=zb (λ(a:Value) (l':L) (hr:∀f,(zp (l.getD j (L0,default)).1 f).set 9 a=zp l' f) (hp:l'.par=(l.getD j (L0,default)).1.par)=>RW.setL (by rw[d.len];exact d.rw) hj (show 9<11 by omega) hr hp);have b4:Ha (∀l':L,(l.set j (l',(l.getD j (L0,default)).2)).map Prod.fst=(l.map Prod.fst).set j l'):=λl'=>by rw[yu]
     rw[<-HJ.o]at a0;obtain⟨yv,d7⟩:=UM (l.getD j (L0,default));rw[<-d7.o]at i5 F a7 K b4;obtain⟨y,fy⟩:=yv;obtain⟨⟨⟨v1,v2,v3,v4,v5,v6,v7,v8,v9,i6⟩,_⟩,i0,h3⟩:=i5;simp only at F a7 K b4 v1 v2 v3 v4 v5 v6 v7 v8 v9 i6 i0 h3;have y1:wr.cell? ⟨G',j*11+1,none⟩=some (.int .i64 y.gd):=F.o 1 (by omega);have y2:wr.cell? ⟨G',j*11+2,none⟩=some (.int .i64 y.ex):=F.o 2 (by omega);have y3:wr.cell? ⟨G',j*11+3,none⟩=some (.int .i64 y.place):=F.o 3 (by omega);have y9:wr.cell? ⟨G',j*11+9,none⟩=some (.int .i64 y.gv):=F.o 9 (by omega);have f9:=i8.o (j*11+9);have J:Ha (¬(Z<=2147483647/\y.gd=x.gd/\y.place<x.place)->Q=none):=λhc=>by
      rw[<-s.o,Ur,xg];rintro⟨_,q2,q3,q4⟩;rw[<-HJ.o,a7.o]at q3 q4;exact hc ⟨q2,q3,q4⟩
     have d5:Ha ((Z<=2147483647/\y.gd=x.gd/\y.place<x.place)->Ur x (x.par.drop (k+1)) (min u y.ex) (g+Z) ((l.set j (Ux y Z,fy)).map Prod.fst)=Q):=λhc=>by
      rw[<-s.o,Ur,xe,<-HJ.o,a7.o,b4.o];rw[<-HJ.o,a7.o];exact⟨by rw[i2];exact hj,hc⟩
     have m4:j<n0:=by have:=d.len;omega
     have m3:(j:Int)<(n0:Int):=by omega
     have m2:(0:Int)<=(j:Int):=by omega
     have k5:=d.ub;have j9:=d.gb;have m5:decide ((j:Int)<0)=false:=xu (by omega);clear d f0 f1 D M b0 a2 F s g4 b2 t;obtain⟨B,a1⟩:∃B:Bool,Ha (B=decide (Z<=2147483647)):=⟨_,rfl⟩
     rw[<-a1.o]at a8;go_wp2_with (first|(go_at_call 111;refine(a0.o).mono ?_;rintro e f2 ⟨rfl,c⟩;have w:=c.symm;subst w;clear c)|(go_at_call 143;refine(a8.o).mono ?_;rintro e f2 ⟨rfl,c⟩;have w:=c.symm;subst w;clear c));by_cases hB:Z<=2147483647
     ·obtain rfl:B=true:=by rw[a1.o];exact xy hB
      by_cases h7:y.gd=x.gd
      ·have h8:((y.gd:Int) != (x.gd:Int))=false:=by rw[YO];omega
       by_cases i3:y.place<x.place
       ·have k3:decide ((x.place:Int)<=(y.place:Int))=false:=xu (by omega);have g1:=zb (d5.o ⟨hB,h7,i3⟩);clear d5 J;have m0:y.gv+Z<9223372036854775808:=by omega
        have l1:g+Z<9223372036854775808:=by omega
        go_quiet (fail);go_wp2_with fail
        all_goals go_region
        all_goals go_wp2_with fail
        ·have k4:y.ex<u:=by omega
         refine⟨⟨k+1,y.ex,g+Z,l.set j (Ux y Z,fy),by omega,by push_cast;rfl,rfl,by push_cast;rfl,HI.o.step (by have:=HI.o.len;omega) d7.o (by have:=g1.o;rwa [Nat.min_eq_right (by omega)]at this) (by omega) hB (by omega) _⟩,?_⟩;simp only[intOf];omega
        have k4:u<=y.ex:=by omega
        refine⟨⟨k+1,u,g+Z,l.set j (Ux y Z,fy),by omega,by push_cast;rfl,rfl,by push_cast;rfl,HI.o.step (by have:=HI.o.len;omega) d7.o (by have:=g1.o;rwa [Nat.min_eq_left (by omega)]at this) (by omega) hB (by omega) _⟩,?_⟩;simp only[intOf];omega
       have k3:decide ((x.place:Int)<=(y.place:Int))=true:=xy (by omega);go_quiet (fail);go_wp2_with fail;go_ret;exact z.o (J.o (λhc=>i3 hc.2.2)) _ (Xf (xh _ _) nq)
      have h8:((y.gd:Int) != (x.gd:Int))=true:=by rw[yk];omega
      go_quiet (fail);go_wp2_with fail;go_ret;exact z.o (J.o (λhc=>h7 hc.2.1)) _ (Xf (xh _ _) nq)
     obtain rfl:B=false:=by rw[a1.o];exact xu hB
     have j0:=zb (J.o (λhc=>hB hc.1));clear hB J d5 K b4 a0 a8 a1 y1 y2 y3 y9 f9 v1 v2 v3 v4 v5 v6 v7 v8 v9 i6 i0 h3;go_quiet (fail);go_wp2_with fail;go_ret;exact z.o j0.o _ (Xf (xh _ _) nq)
    have d0:Ha (Ua (l.map Prod.fst) p1=-1):=by unfold Ha Ua;rw[xg (by omega)]
    rw[d0.o]at a0;have J:Ha (Q=none):=by
     rw[Ha,<-s.o,Ur,xg];rintro⟨q1,_⟩;exact hf (by rw[<-i2];exact q1)
    clear d f0 f1 s;obtain⟨B,a1⟩:∃B:Bool,Ha (B=decide (Z<=2147483647)):=⟨_,rfl⟩
    rw[<-a1.o]at a8;go_wp2_with (first|(go_at_call 111;refine(a0.o).mono ?_;rintro e f2 ⟨rfl,c⟩;have w:=c.symm;subst w;clear c)|(go_at_call 143;refine(a8.o).mono ?_;rintro e f2 ⟨rfl,c⟩;have w:=c.symm;subst w;clear c));go_quiet (fail);go_wp2_with fail;go_ret;exact z.o J.o _ (Xf (xh _ _) nq)
   have k1:k=C:=by omega
   subst k1;have j7:x.par.drop k=[]:=xaC (by rw[<-H.o];exact xc _);have g2:Ha (Q=some (l.map Prod.fst,u,g)):=by rw[Ha,<-d.run,j7];rfl
   have k5:=d.ub;have j9:=d.gb;clear d;by_cases d9:k=0
   ·have z:Ha (On w0 W S td (.slice (some ⟨G,0,none⟩) n0 cap) xs ov os lvs rv rj R (.returned (.bool true)) wr):=by
     rw[Ha,b6.o,g2.o];simp only[xk];rw[xe (by rw[<-H.o];exact d9)];exact⟨rfl,l,rfl,HI.o.snd,HI.o.rw⟩
    subst d9;go_wp2_with fail;go_ret;exact z.o
   have l3:decide ((0:Int)<(k:Int))=true:=xy (by omega);have j1:Ha (R=if u=x.ex then some ((l.map Prod.fst).set i { (l.map Prod.fst).getD i L0 with got:=g }) else none):=by
    rw[Ha,b6.o,g2.o];simp only[xk];rw[xg (by rw[<-H.o];exact d9)]
   obtain⟨cg,a2⟩:=zi HI.o.rw.row (g:=G) rfl;have f4:=zf a2 (i*11+4);have m1:(i:Int)<(n0:Int):=by omega
   have l2:(0:Int)<=(i:Int):=by omega
   have h0:=zc a2;have k0:i<l.length:=by rw[HI.o.len];exact i1
   obtain⟨a',g8,M,b2,t⟩:=HI.o.rw.shape;obtain⟨G',b0,k9,D⟩:=t (by omega);have d8:G'=G:=by
    rw[b0]at M;injection M with P e2 e3
    injection P with P
    injection P with P
    exact P.symm
   subst d8;have c4:wr.cell? ⟨G',i*11+4,none⟩=some (.int .i64 ((l.getD i (L0,default)).1.got:Int)):=D i k0 4 (by omega);have k2:=HI.o.ne;have l4:=XZ k2;clear a2 D t b2 M b0;go_wp2_with fail;go_ret;have HF:=HI.o.got (W:=W) i1 (xh _ _) x.ex;rw[<-j1.o]at HF;exact HF
 have d6:Ha (R=none):=A.o (λhh=>h2 (by rw[H.o];exact hh.1));have z:Ha (On w0 W S td (.slice (some ⟨G,0,none⟩) n0 cap) xs ov os lvs rv rj R (.returned (.bool false)) E):=by rw[Ha,d6.o];exact⟨rfl,xs,rfl,b5.o⟩
 go_wp2_with fail;go_ret
 exact z.o
end
