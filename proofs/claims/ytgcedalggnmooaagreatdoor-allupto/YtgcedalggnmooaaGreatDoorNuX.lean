import Derived.Test.YtgcedalggnmooaaGreatDoorRs1X
set_option linter.all false
set_option maxRecDepth 100000
set_option maxHeartbeats 6400000
namespace Go.Proofs.YtgcedalggnmooaaGreatDoor
open Go.RowKit
open Value renaming int->Y,slice->vd,pointer->ve,bool->vh
open IntKind renaming i64->V
open Option renaming none->U,some->vb
open Obj renaming cells->vf
open Ending renaming returned->vg
open Tryz
def aZ{xs:List (L×Value)}{i:Nat}(a:i<xs.length):(xs.map Prod.fst).getD i L0=(xs.getD i (L0,default)).1:=by simp[WI,a]
def eH{xs:List (L×Value)}{i:Nat}(a:i<xs.length):xs.getD i (L0,default)∈xs:=by simp[WI,a]
section
variable {w0 W:World}{S:Nat}{td:Nat}{v:Value}{xs:List (L×Value)}{ov:Value}{os:List O}{lvs:List Value}{rv:Value}{rj:List (Nat×Nat)}
def RW.shape(h:RW w0 W S td v xs ov os lvs rv rj):∃a cap,v=vd a xs.length cap/\W.cell? ⟨S,1,U⟩=vb (vd a xs.length cap)/\(0<xs.length->∃G,a=vb ⟨G,0,U⟩/\G<W.heap.size/\∀j,j<xs.length->∀f,f<11->W.cell? ⟨G,j*11+f,U⟩=(zp (xs.getD j (L0,default)).1 (xs.getD j (L0,default)).2)[f]?):=by
 obtain⟨a,cap,d⟩:=zj h.row;refine⟨a,cap,d,by rw[za h.box,d];rfl,λk=>?_⟩;have c:=h.row;rw[d]at c;obtain⟨G,l,e,_,b⟩:=zN c k
 cases e;exact⟨G,rfl,b,λj i f g=>Bv c rfl (xm _ _) i g⟩
def CG(h:RW w0 W S td v xs ov os lvs rv rj)(z:∀x∈xs,Wl x)(F:xs.length<=4194304)(n:Nat)(H:n<9223372036854775808):Calls prog 111 #[ve (vb ⟨S,0,U⟩),Y V n] W λe w'=>e=vg (Y V (Wn (xs.map Prod.fst) n))/\w'=W:=by
 obtain⟨a,cap,C,c1,d⟩:=h.shape;have B:=zb z;clear h C z;have g:Ha ((xs.map Prod.fst).length=xs.length):=List.length_map ..;go_enter func111,ntmps111;go_wp2_with fail;go_loop [5] (λi=>∃k:Nat,k<=xs.length/\i=Y V k/\(∀j,j<k->((xs.map Prod.fst).getD j L0).id≠n)) (λi=>xs.length-(intOf i).toNat)
 case atStart=>exact⟨0,by omega,rfl,λj h=>absurd h (by omega)⟩
 obtain⟨k,E,rfl,f⟩:=hrel;by_cases b:k<xs.length
 ·obtain⟨G,w,_,c⟩:=d (by omega);rw[w]at c1;have r:W.cell? ⟨G,k*11,U⟩=vb (Y V (((xs.map Prod.fst).getD k L0).id:Int)):=by rw[aZ b];exact c k b 0 (by omega)
  have s:((xs.map Prod.fst).getD k L0).id<9223372036854775808:=by rw[aZ b];exact(B.o _ (eH b)).1.1
  obtain⟨m,q⟩:=Xc (((xs.map Prod.fst).getD k L0).id);rw[<-q.o]at r s;clear c w d;by_cases l:m=n
  ·have u:=aV l;have p:Ha (Wn (xs.map Prod.fst) n=(k:Int)):=by
    have:=eR (by rw[g.o];exact b) f (by rw[<-q.o];exact l)
    unfold Ha Wn;rw[this,xh (by rw[g.o];exact b)]
   clear l;go_wp2_with fail;go_ret;exact⟨by rw[p.o];rfl,rfl⟩
  have u:=ZX l;have A:=zb l;clear l;go_wp2_with fail;go_round
  case rel=>
   refine⟨k+1,by omega,by go_num,?_⟩;intro j D;by_cases t:j=k
   ·subst t;rw[<-q.o];exact A.o
   exact f j (by omega)
  simp[intOf];omega
 obtain rfl:k=xs.length:=by omega
 have p:Ha (Wn (xs.map Prod.fst) n=-1):=by
  unfold Ha Wn;rw[xg (λy=>f (WO n (xs.map Prod.fst)) (by rw[<-g.o];exact y) (aD y))]
 clear f d b;go_wp2_with fail;go_ret;exact⟨by rw[p.o];rfl,rfl⟩
def VL(ls:List L)(i:Nat)(x:L):Prop:=(1<=x.id/\x.id<=2147483647)/\(1<=x.gd/\x.gd<=2147483647)/\x.ex<=2147483647/\x.free<=2147483647/\x.hd<=2147483647/\x.sh<=2147483647/\x.sc<=2147483647/\x.got<=2147483647/\WO x.id ls=i
def BE(h:RW w0 W S td v xs ov os lvs rv rj)(hw:∀x∈xs,Wl x)(hl:xs.length<=4194304):Calls prog 89 #[ve (vb ⟨S,0,U⟩)] W λe w'=>(∃x,e=vg (vh x)/\(x=true↔NumP (xs.map Prod.fst)))/\Below W.heap.size W w':=by
 obtain⟨a,cap,hv,b1,P⟩:=h.shape;have b2:=zc h.box;have HW:=zb hw;have a0:Ha (∀(u:World),Below W.heap.size W u->∀(n:Nat),n<9223372036854775808->Calls prog 111 #[ve (vb ⟨S,0,U⟩),Y V n] u λe w'=>e=vg (Y V (Wn (xs.map Prod.fst) n))/\w'=u):=by
  intro u hx n hn;have h':=h.below hx;exact CG h' hw hl n hn
 have T:Ha (∀n:Nat,n<9223372036854775808->∀u,Calls prog 67 #[.int .u8 105,Y V n] u λe w'=>e=vg (vh (Pl.mayB 105 n))/\w'=u):=λn hn u=>by have hx:=rB 105 n hn u;rw[show((105:UInt8).toNat:Int)=105 from rfl]at hx;exact hx
 have a3:Ha (∀n:Nat,n<9223372036854775808->∀u,Calls prog 67 #[.int .u8 100,Y V n] u λe w'=>e=vg (vh (Pl.mayB 100 n))/\w'=u):=λn hn u=>by have hx:=rB 100 n hn u;rw[show((100:UInt8).toNat:Int)=100 from rfl]at hx;exact hx
 have w:=zb rV;have a5:Ha (NumP (xs.map Prod.fst)↔∀i,i<xs.length->VL (xs.map Prod.fst) i (xs.getD i (L0,default)).1):=by
  unfold Ha NumP VL;rw[List.length_map];constructor
  ·intro z i Z;have:=z i Z;rw[aZ Z]at this;exact this
  intro z i Z;rw[aZ Z];exact z i Z
 clear h hv hw;go_enter func89,ntmps89;go_wp2_with fail;go_loopw [3,4,5,6,7,8,9,10,11,12,13] (λii _ _ _ _ _ _ _ _ _ _ wr=>∃k:Nat,k<=xs.length/\ii=Y V k/\(∀i,i<k->VL (xs.map Prod.fst) i (xs.getD i (L0,default)).1)/\Below W.heap.size W wr) (λii _ _ _ _ _ _ _ _ _ _ _=>xs.length-(intOf ii).toNat)
 case atStart=>exact⟨0,by omega,rfl,λi Z=>by omega,xm _ _⟩
 obtain⟨k,hk,rfl,N,d⟩:=hrel;have d1:wr.cell? ⟨S,1,U⟩=vb (vd a xs.length cap):=(d.cell (p:=⟨S,1,U⟩) b2).trans b1;by_cases M:k<xs.length
 ·obtain⟨G,hG,m,t⟩:=P (by omega);subst hG;have b5:=HW.o _ (eH M);have g:Ha (∀f,f<11->W.cell? ⟨G,k*11+f,U⟩=(zp (xs.getD k (L0,default)).1 (xs.getD k (L0,default)).2)[f]?):=λf hf=>t k M f hf
  have X:=zb N;have a7:Ha ((∀i,i<k+1->VL (xs.map Prod.fst) i (xs.getD i (L0,default)).1)↔VL (xs.map Prod.fst) k (xs.getD k (L0,default)).1):=⟨λz=>z k (by omega),λz i Z=>by
   by_cases e:i=k
   ·subst e;exact z
   exact X.o i (by omega)⟩
  have a4:Ha (NumP (xs.map Prod.fst)->VL (xs.map Prod.fst) k (xs.getD k (L0,default)).1):=λz=>a5.o.1 z k M
  generalize xs.getD k (L0,default)=xv at *;obtain⟨x,fv⟩:=xv;obtain⟨⟨w1,w2,w3,w4,w5,w6,w7,w8,w9,b6⟩,fa,fn,fc,a9⟩:=b5;simp only at a9 g a7 a4 w1 w2 w3 w4 w5 w6 w7 w8 w9 b6;subst a9;have c0:wr.cell? ⟨G,k*11,U⟩=vb (Y V x.id):=(d.cell (p:=⟨G,k*11,U⟩) m).trans (g.o 0 (by omega));have c1:wr.cell? ⟨G,k*11+1,U⟩=vb (Y V x.gd):=(d.cell (p:=⟨G,k*11+1,U⟩) m).trans (g.o 1 (by omega));have c2:wr.cell? ⟨G,k*11+2,U⟩=vb (Y V x.ex):=(d.cell (p:=⟨G,k*11+2,U⟩) m).trans (g.o 2 (by omega));have c3:wr.cell? ⟨G,k*11+3,U⟩=vb (Y V x.place):=(d.cell (p:=⟨G,k*11+3,U⟩) m).trans (g.o 3 (by omega));have c4:wr.cell? ⟨G,k*11+4,U⟩=vb (Y V x.got):=(d.cell (p:=⟨G,k*11+4,U⟩) m).trans (g.o 4 (by omega));have c5:wr.cell? ⟨G,k*11+5,U⟩=vb (Y V x.free):=(d.cell (p:=⟨G,k*11+5,U⟩) m).trans (g.o 5 (by omega));have c6:wr.cell? ⟨G,k*11+6,U⟩=vb (Y V x.hd):=(d.cell (p:=⟨G,k*11+6,U⟩) m).trans (g.o 6 (by omega));have c7:wr.cell? ⟨G,k*11+7,U⟩=vb (Y V x.sh):=(d.cell (p:=⟨G,k*11+7,U⟩) m).trans (g.o 7 (by omega));have c8:wr.cell? ⟨G,k*11+8,U⟩=vb (Y V x.sc):=(d.cell (p:=⟨G,k*11+8,U⟩) m).trans (g.o 8 (by omega));have c9:wr.cell? ⟨G,k*11+9,U⟩=vb (Y V x.gv):=(d.cell (p:=⟨G,k*11+9,U⟩) m).trans (g.o 9 (by omega));have b0:wr.cell? ⟨G,k*11+10,U⟩=vb (vd fa fn fc):=(d.cell (p:=⟨G,k*11+10,U⟩) m).trans (g.o 10 (by omega));have J:=zb d;clear t N d g;go_wp2_with fail;have s:=zb (xq wr (vf #[Y V x.id,Y V x.gd,Y V x.ex,Y V x.place,Y V x.got,Y V x.free,Y V x.hd,Y V x.sh,Y V x.sc,Y V x.gv,vd fa fn fc] 129));have y:=zb (J.o.alloc J.o.size (vf #[Y V x.id,Y V x.gd,Y V x.ex,Y V x.place,Y V x.got,Y V x.free,Y V x.hd,Y V x.sh,Y V x.sc,Y V x.gv,vd fa fn fc] 129));obtain⟨lb,a2⟩:=Xc wr.heap.size;obtain⟨l,a6⟩:∃l,Ha (l=wr.alloc (vf #[Y V x.id,Y V x.gd,Y V x.ex,Y V x.place,Y V x.got,Y V x.free,Y V x.hd,Y V x.sh,Y V x.sc,Y V x.gv,vd fa fn fc] 129)):=⟨_,rfl⟩
  rw[<-a6.o]at s y ⊢;rw[<-a2.o]at s ⊢;have j:Ha (l.heap[lb]?=vb (vf #[Y V x.id,Y V x.gd,Y V x.ex,Y V x.place,Y V x.got,Y V x.free,Y V x.hd,Y V x.sh,Y V x.sc,Y V x.gv,vd fa fn fc] 129)):=s.o;have Q:=zb y.o;clear s y a6 a2 c0 c1 c2 c3 c4 c5 c6 c7 c8 c9 b0;have e0:l.cell? ⟨lb,0,U⟩=vb (Y V x.id):=by rw[za j.o];rfl
  have e1:l.cell? ⟨lb,1,U⟩=vb (Y V x.gd):=by rw[za j.o];rfl
  have e2:l.cell? ⟨lb,2,U⟩=vb (Y V x.ex):=by rw[za j.o];rfl
  have e3:l.cell? ⟨lb,3,U⟩=vb (Y V x.place):=by rw[za j.o];rfl
  have e4:l.cell? ⟨lb,4,U⟩=vb (Y V x.got):=by rw[za j.o];rfl
  have e5:l.cell? ⟨lb,5,U⟩=vb (Y V x.free):=by rw[za j.o];rfl
  have e6:l.cell? ⟨lb,6,U⟩=vb (Y V x.hd):=by rw[za j.o];rfl
  have e7:l.cell? ⟨lb,7,U⟩=vb (Y V x.sh):=by rw[za j.o];rfl
  have e8:l.cell? ⟨lb,8,U⟩=vb (Y V x.sc):=by rw[za j.o];rfl
  have e9:l.cell? ⟨lb,9,U⟩=vb (Y V x.gv):=by rw[za j.o];rfl
  have b7:l.cell? ⟨lb,10,U⟩=vb (vd fa fn fc):=by rw[za j.o];rfl
  obtain⟨A,HA⟩:∃q:Bool,Ha (q=Pl.mayB 105 x.id):=⟨_,rfl⟩
  have KA:=zb (T.o x.id w1 l);rw[<-HA.o]at KA;obtain⟨B,HB⟩:∃q:Bool,Ha (q=Pl.mayB 105 x.gd):=⟨_,rfl⟩
  have KB:=zb (T.o x.gd w2 l);rw[<-HB.o]at KB;obtain⟨C,HC⟩:∃q:Bool,Ha (q=Pl.mayB 100 x.ex):=⟨_,rfl⟩
  have KC:=zb (a3.o x.ex w3 l);rw[<-HC.o]at KC;obtain⟨D,HD⟩:∃q:Bool,Ha (q=decide (x.free<=2147483647)):=⟨_,rfl⟩
  have KD:=zb (w.o x.free w6 l);rw[<-HD.o]at KD;obtain⟨E,HE⟩:∃q:Bool,Ha (q=decide (x.hd<=2147483647)):=⟨_,rfl⟩
  have KE:=zb (w.o x.hd w7 l);rw[<-HE.o]at KE;obtain⟨F,HF⟩:∃q:Bool,Ha (q=decide (x.sh<=2147483647)):=⟨_,rfl⟩
  have KF:=zb (w.o x.sh w8 l);rw[<-HF.o]at KF;obtain⟨G1,R⟩:∃q:Bool,Ha (q=decide (x.sc<=2147483647)):=⟨_,rfl⟩
  have a8:=zb (w.o x.sc w9 l);rw[<-R.o]at a8;obtain⟨H,HH⟩:∃q:Bool,Ha (q=decide (x.got<=2147483647)):=⟨_,rfl⟩
  have KH:=zb (w.o x.got w5 l);rw[<-HH.o]at KH;obtain⟨tv,K⟩:∃q:Int,Ha (q=Wn (xs.map Prod.fst) x.id):=⟨_,rfl⟩
  have KT:=zb (a0.o l Q.o x.id w1);rw[<-K.o]at KT;have a1:Ha (VL (xs.map Prod.fst) k x↔(A=true/\B=true/\C=true/\D=true/\E=true/\F=true/\G1=true/\H=true/\tv=(k:Int))):=by
   unfold Ha VL;rw[HA.o,HB.o,HC.o,HD.o,HE.o,HF.o,R.o,HH.o,K.o];have b3:WO x.id (xs.map Prod.fst)=k↔Wn (xs.map Prod.fst) x.id=(k:Int):=by
    unfold Wn;have b4:(xs.map Prod.fst).length=xs.length:=List.length_map ..;constructor
    ·intro e;rw[e,xh (by omega)]
    intro e;split at e<;>omega
   rw[b3];simp[Pl.mayB,and_assoc]
  have b8:-1<=tv/\tv<9223372036854775807:=by
   rw[K.o];unfold Wn;have b4:(xs.map Prod.fst).length=xs.length:=List.length_map ..;split<;>omega
  clear T a3 w a0 HA HB HC HD HE HF R HH K;go_wp2_with (first|(go_at_call 67;with_reducible refine(KA.o).mono ?_;rintro e r ⟨rfl,b⟩;have c:=b.symm;subst c;clear b)|(go_at_call 67;with_reducible refine(KB.o).mono ?_;rintro e r ⟨rfl,b⟩;have c:=b.symm;subst c;clear b)|(go_at_call 67;with_reducible refine(KC.o).mono ?_;rintro e r ⟨rfl,b⟩;have c:=b.symm;subst c;clear b)|(go_at_call 143;with_reducible refine(KD.o).mono ?_;rintro e r ⟨rfl,b⟩;have c:=b.symm;subst c;clear b)|(go_at_call 143;with_reducible refine(KE.o).mono ?_;rintro e r ⟨rfl,b⟩;have c:=b.symm;subst c;clear b)|(go_at_call 143;with_reducible refine(KF.o).mono ?_;rintro e r ⟨rfl,b⟩;have c:=b.symm;subst c;clear b)|(go_at_call 143;with_reducible refine(a8.o).mono ?_;rintro e r ⟨rfl,b⟩;have c:=b.symm;subst c;clear b)|(go_at_call 143;with_reducible refine(KH.o).mono ?_;rintro e r ⟨rfl,b⟩;have c:=b.symm;subst c;clear b)|(go_at_call 111;with_reducible refine(KT.o).mono ?_;rintro e r ⟨rfl,b⟩;have c:=b.symm;subst c;clear b))
  all_goals first
   |(go_ret;exact⟨⟨false,rfl,λh=>(by cases h),λz=>(by rcases a1.o.1 (a4.o z) with ⟨q1,q2,q3,q4,q5,q6,q7,q8,q9⟩;simp_all)⟩,Q.o⟩)
   |(refine⟨⟨k+1,by omega,by go_num,a7.o.2 (a1.o.2 ⟨by assumption,by assumption,by assumption,by assumption,by assumption,by assumption,by assumption,by assumption,(by have hz:(tv != (k:Int))=false:=(by assumption);simpa using hz)⟩),Q.o⟩,?_⟩;simp[intOf];omega)
 obtain rfl:k=xs.length:=by omega
 have J:=zb d;have X:=zb N;clear d N P M;go_wp2_with fail;go_ret;exact⟨⟨true,rfl,λ_=>a5.o.2 X.o,λ_=>rfl⟩,J.o⟩
end
def Pu(x:L):Prop:=x.got<=2147483647/\x.gv<=2147483647/\1<=x.got/\x.got=x.free+x.hd+x.sh+x.sc+x.gv
section
variable {w0 W:World}{S:Nat}{td:Nat}{v:Value}{xs:List (L×Value)}{ov:Value}{os:List O}{lvs:List Value}{rv:Value}{rj:List (Nat×Nat)}
def Ar(h:RW w0 W S td v xs ov os lvs rv rj)(hw:∀x∈xs,Wl x)(hl:xs.length<=4194304)(a0:∀x∈xs,x.1.free<=2147483647/\x.1.hd<=2147483647/\x.1.sh<=2147483647/\x.1.sc<=2147483647/\x.1.gv<1099511627776):Calls prog 91 #[ve (vb ⟨S,0,U⟩)] W λe w'=>(∃x,e=vg (vh x)/\(x=true↔SM (xs.map Prod.fst)))/\Below W.heap.size W w':=by
 obtain⟨a,cap,hv,a5,C⟩:=h.shape;have a6:=zc h.box;have HW:=zb hw;have J:=zb rV;have a3:=zb a0;have R:Ha (SM (xs.map Prod.fst)↔∀i,i<xs.length->Pu (xs.getD i (L0,default)).1):=by
  unfold Ha SM Pu;rw[List.length_map];constructor
  ·intro r i K;have:=r i K;rw[aZ K]at this;exact this
  intro r i K;rw[aZ K];exact r i K
 clear h hv hw a0;go_enter func91,ntmps91;go_wp2_with fail;go_loopw [3,4,5,6] (λii _ _ _ wr=>∃k:Nat,k<=xs.length/\ii=Y V k/\(∀i,i<k->Pu (xs.getD i (L0,default)).1)/\Below W.heap.size W wr) (λii _ _ _ _=>xs.length-(intOf ii).toNat)
 case atStart=>exact⟨0,by omega,rfl,λi K=>by omega,xm _ _⟩
 obtain⟨k,hk,rfl,z,b⟩:=hrel;have d1:wr.cell? ⟨S,1,U⟩=vb (vd a xs.length cap):=(b.cell (p:=⟨S,1,U⟩) a6).trans a5;by_cases t:k<xs.length
 ·obtain⟨G,hG,g,n⟩:=C (by omega);subst hG;have a7:=HW.o _ (eH t);have a1:=a3.o _ (eH t);have c:Ha (∀f,f<11->W.cell? ⟨G,k*11+f,U⟩=(zp (xs.getD k (L0,default)).1 (xs.getD k (L0,default)).2)[f]?):=λf hf=>n k t f hf
  have H:=zb z;have X:Ha ((∀i,i<k+1->Pu (xs.getD i (L0,default)).1)↔Pu (xs.getD k (L0,default)).1):=⟨λr=>r k (by omega),λr i K=>by
   by_cases e:i=k
   ·subst e;exact r
   exact H.o i (by omega)⟩
  have F:Ha (SM (xs.map Prod.fst)->Pu (xs.getD k (L0,default)).1):=λr=>R.o.1 r k t
  generalize xs.getD k (L0,default)=xv at *;obtain⟨x,fv⟩:=xv;obtain⟨⟨w1,w2,w3,w4,w5,w6,w7,w8,w9,a2⟩,M,P,N,Z⟩:=a7;simp only at Z c X F a1 w1 w2 w3 w4 w5 w6 w7 w8 w9 a2;subst Z;have c0:wr.cell? ⟨G,k*11,U⟩=vb (Y V x.id):=(b.cell (p:=⟨G,k*11,U⟩) g).trans (c.o 0 (by omega));have c1:wr.cell? ⟨G,k*11+1,U⟩=vb (Y V x.gd):=(b.cell (p:=⟨G,k*11+1,U⟩) g).trans (c.o 1 (by omega));have c2:wr.cell? ⟨G,k*11+2,U⟩=vb (Y V x.ex):=(b.cell (p:=⟨G,k*11+2,U⟩) g).trans (c.o 2 (by omega));have c3:wr.cell? ⟨G,k*11+3,U⟩=vb (Y V x.place):=(b.cell (p:=⟨G,k*11+3,U⟩) g).trans (c.o 3 (by omega));have c4:wr.cell? ⟨G,k*11+4,U⟩=vb (Y V x.got):=(b.cell (p:=⟨G,k*11+4,U⟩) g).trans (c.o 4 (by omega));have c5:wr.cell? ⟨G,k*11+5,U⟩=vb (Y V x.free):=(b.cell (p:=⟨G,k*11+5,U⟩) g).trans (c.o 5 (by omega));have c6:wr.cell? ⟨G,k*11+6,U⟩=vb (Y V x.hd):=(b.cell (p:=⟨G,k*11+6,U⟩) g).trans (c.o 6 (by omega));have c7:wr.cell? ⟨G,k*11+7,U⟩=vb (Y V x.sh):=(b.cell (p:=⟨G,k*11+7,U⟩) g).trans (c.o 7 (by omega));have c8:wr.cell? ⟨G,k*11+8,U⟩=vb (Y V x.sc):=(b.cell (p:=⟨G,k*11+8,U⟩) g).trans (c.o 8 (by omega));have c9:wr.cell? ⟨G,k*11+9,U⟩=vb (Y V x.gv):=(b.cell (p:=⟨G,k*11+9,U⟩) g).trans (c.o 9 (by omega));have a4:wr.cell? ⟨G,k*11+10,U⟩=vb (vd M P N):=(b.cell (p:=⟨G,k*11+10,U⟩) g).trans (c.o 10 (by omega));have w:=zb b;clear n z b c;go_wp2_with fail;have m:=zb (xq wr (vf #[Y V x.id,Y V x.gd,Y V x.ex,Y V x.place,Y V x.got,Y V x.free,Y V x.hd,Y V x.sh,Y V x.sc,Y V x.gv,vd M P N] 129));have s:=zb (w.o.alloc w.o.size (vf #[Y V x.id,Y V x.gd,Y V x.ex,Y V x.place,Y V x.got,Y V x.free,Y V x.hd,Y V x.sh,Y V x.sc,Y V x.gv,vd M P N] 129));obtain⟨lb,Q⟩:=Xc wr.heap.size;obtain⟨l,T⟩:∃l,Ha (l=wr.alloc (vf #[Y V x.id,Y V x.gd,Y V x.ex,Y V x.place,Y V x.got,Y V x.free,Y V x.hd,Y V x.sh,Y V x.sc,Y V x.gv,vd M P N] 129)):=⟨_,rfl⟩
  rw[<-T.o]at m s ⊢;rw[<-Q.o]at m ⊢;have d:Ha (l.heap[lb]?=vb (vf #[Y V x.id,Y V x.gd,Y V x.ex,Y V x.place,Y V x.got,Y V x.free,Y V x.hd,Y V x.sh,Y V x.sc,Y V x.gv,vd M P N] 129)):=m.o;have D:=zb s.o;clear m s T Q c0 c1 c2 c3 c4 c5 c6 c7 c8 c9 a4;have e0:l.cell? ⟨lb,0,U⟩=vb (Y V x.id):=by rw[za d.o];rfl
  have e1:l.cell? ⟨lb,1,U⟩=vb (Y V x.gd):=by rw[za d.o];rfl
  have e2:l.cell? ⟨lb,2,U⟩=vb (Y V x.ex):=by rw[za d.o];rfl
  have e3:l.cell? ⟨lb,3,U⟩=vb (Y V x.place):=by rw[za d.o];rfl
  have e4:l.cell? ⟨lb,4,U⟩=vb (Y V x.got):=by rw[za d.o];rfl
  have e5:l.cell? ⟨lb,5,U⟩=vb (Y V x.free):=by rw[za d.o];rfl
  have e6:l.cell? ⟨lb,6,U⟩=vb (Y V x.hd):=by rw[za d.o];rfl
  have e7:l.cell? ⟨lb,7,U⟩=vb (Y V x.sh):=by rw[za d.o];rfl
  have e8:l.cell? ⟨lb,8,U⟩=vb (Y V x.sc):=by rw[za d.o];rfl
  have e9:l.cell? ⟨lb,9,U⟩=vb (Y V x.gv):=by rw[za d.o];rfl
  have b0:l.cell? ⟨lb,10,U⟩=vb (vd M P N):=by rw[za d.o];rfl
  obtain⟨A,HA⟩:∃q:Bool,Ha (q=decide (x.got<=2147483647)):=⟨_,rfl⟩
  have KA:=zb (J.o x.got w5 l);rw[<-HA.o]at KA;obtain⟨B,HB⟩:∃q:Bool,Ha (q=decide (x.gv<=2147483647)):=⟨_,rfl⟩
  have KB:=zb (J.o x.gv a2 l);rw[<-HB.o]at KB;have E:Ha (Pu x↔(A=true/\B=true/\1<=x.got/\x.got=x.free+x.hd+x.sh+x.sc+x.gv)):=by
   unfold Ha Pu;rw[HA.o,HB.o,yr,yr]
  clear J HA HB;obtain⟨u1,u2,u3,u4,u5⟩:=a1;go_wp2_with (first|(go_at_call 143;with_reducible refine(KA.o).mono ?_;rintro e a9 ⟨rfl,j⟩;have u:=j.symm;subst u;clear j)|(go_at_call 143;with_reducible refine(KB.o).mono ?_;rintro e a9 ⟨rfl,j⟩;have u:=j.symm;subst u;clear j))
  all_goals first
   |(go_ret;exact⟨⟨false,rfl,λh=>(by cases h),λr=>(by rcases E.o.1 (F.o r) with ⟨q1,q2,q3,q4⟩;first|contradiction|omega|(rename_i y;rcases y with y|y<;>first|omega|exact absurd (show(x.got:Int)=_ by omega) (YP.1 y)))⟩,D.o⟩)
   |(go_ret;exact⟨Or.inl ⟨rfl,λr=>(by rcases E.o.1 (F.o r) with ⟨q1,q2,q3,q4⟩;first|contradiction|omega|(rename_i y;rcases y with y|y<;>first|omega|exact absurd (show(x.got:Int)=_ by omega) (YP.1 y)))⟩,D.o⟩)
   |(refine⟨⟨k+1,by omega,by go_num,X.o.2 (E.o.2 ⟨by assumption,by assumption,by omega,(by
     have hz:1<=(x.got:Int)/\((x.got:Int) != (x.free:Int)+x.hd+x.sh+x.sc+x.gv)=false:=(by assumption)
     have a8:=hz.2;rw[xbb]at a8;omega)⟩),D.o⟩,?_⟩;simp[intOf];omega)
 obtain rfl:k=xs.length:=by omega
 have w:=zb b;have H:=zb z;clear b z C t;go_wp2_with fail;go_ret;exact⟨⟨true,rfl,λ_=>R.o.2 H.o,λ_=>rfl⟩,w.o⟩
end
def Jv(a:Value)(j:Nat)(c:j<11)(l':L)(ls:List L)(b:List Value)(i:Nat)(e:b.length=ls.length)(d:i<ls.length)(g:∀f,(zp (ls.getD i L0) f).set j a=zp l' f):(uD ls b).set (i*11+j) a=uD (ls.set i l') b:=by
 have h:=qD a a j j c c l' ls b i e d (λf=>by rw[List.set_set];exact g f);rw[List.set_set]at h;exact h
def QU(xs:List (L×Value))(i j:Nat)(b:i<xs.length)(c:j<11)(a:Value)(l':L)(d:∀f,(zp (xs.getD i (L0,default)).1 f).set j a=zp l' f):(WA xs).set (i*11+j) a=WA (xs.set i (l',(xs.getD i (L0,default)).2)):=by
 unfold WA;rw[xac,xac,Jv a j c l' _ _ i (by simp) (by simpa using b) (λf=>by rw[aZ b];exact d f)];congr 1;apply xay;intro k;rw[yi];by_cases e:i=k
 ·subst e;rw[xh rfl,xh (by simpa using b)];simp[WI,b]
 rw[xg e]
variable {G cap:Nat}
section
variable {w0 W:World}{S:Nat}{td:Nat}{v:Value}{xs:List (L×Value)}{ov:Value}{os:List O}{lvs:List Value}{rv:Value}{rj:List (Nat×Nat)}
def RW.setL(h:RW w0 W S td (vd (vb ⟨G,0,U⟩) xs.length cap) xs ov os lvs rv rj){i j:Nat}(w:i<xs.length)(H:j<11){a:Value}{l':L}(K:∀f,(zp (xs.getD i (L0,default)).1 f).set j a=zp l' f)(J:l'.par=(xs.getD i (L0,default)).1.par):RW w0 (W.setCell ⟨G,i*11+j,U⟩ a) S td (vd (vb ⟨G,0,U⟩) xs.length cap) (xs.set i (l',(xs.getD i (L0,default)).2)) ov os lvs rv rj:=by
 have d:=h.row;obtain⟨N,v⟩:=zi d (g:=G) rfl;have F:=(d.lt G rfl).1;have z:=(d.stored (i*11+j) a).1;have r:∀b,b≠G->(W.setCell ⟨G,i*11+j,U⟩ a).heap[b]?=W.heap[b]?:=λb u=>xd _ _ _ _ u
 have s:∀(b:Nat) (l:Array Value) (t:TypeId),W.heap[b]?=vb (vf l t (0,0))->t≠129->(W.setCell ⟨G,i*11+j,U⟩ a).heap[b]?=W.heap[b]?:=λb l t u E=>r b (zt u v E)
 refine⟨h.bel.setCell (p:=⟨G,i*11+j,U⟩) F a,(s _ _ _ h.box (by decide)).trans h.box,h.slo,?_,λx n=>?_,zd h.orow (λg c=>by obtain⟨l,m⟩:=zi h.orow c;exact s g l _ m (by decide)),h.llen,λk B=>zd (h.lin k B) (λg c=>by obtain⟨l,m⟩:=zi (h.lin k B) c;exact s g l _ m (by decide)),zd h.rrow (λg c=>by obtain⟨l,m⟩:=zi h.rrow c;exact s g l _ m (by decide)),λg c=>⟨(h.apt g c).1,λf q e=>?_⟩⟩
 ·rw[xp,<-QU xs i j w H a l' K];exact z
 ·have A:∃y∈xs,y.2=x.2/\y.1.par=x.1.par:=by
   rcases Yd n with n|rfl
   ·exact⟨x,n,rfl,rfl⟩
   exact⟨_,eH w,rfl,J.symm⟩
  obtain⟨y,M,C,D⟩:=A;have q:=h.frm y M;rw[C,D]at q;exact zd q (λg c=>by obtain⟨l,m⟩:=zi q c;exact s g l _ m (by decide))
 obtain⟨x,n,rfl⟩:=yc.1 q;rcases Yd n with n|rfl
 ·exact(h.apt g c).2 _ (yb n) e
 exact(h.apt g c).2 _ (yb (eH w)) e
def rJ{w:World}{B:Nat}{pv:Value}{ps:List (Nat×Nat)}(h:w.ownsRow B 181 2 pv ps.length (zl ps)):Prs 181 w pv ps:=by
 rcases h.2 with ⟨a,d⟩|⟨g,cap,b,a,d,c,i,k,l,m⟩
 ·exact Or.inl ⟨a,yl.1 d⟩
 refine Or.inr ⟨g,cap,b,a,c,λj f=>?_⟩;have e:=cY (by rw[<-a];exact h) j f;rw[za c,za c]at e;rw[xbK 2 j];exact e
def Qp(w0 W:World)(S td:Nat)(v:Value)(xs:List (L×Value))(ov:Value)(os:List O)(lvs:List Value)(rv:Value)(rj:List (Nat×Nat))(R:Option (List L))(e:Ending)(w':World):Prop:=match R with
 |some ls'=>e=vg (vh true)/\∃xs',xs'.map Prod.fst=ls'/\xs'.map Prod.snd=xs.map Prod.snd/\RW w0 w' S td v xs' ov os lvs rv rj
 |none=>e=vg (vh false)/\∃xs',xs'.map Prod.snd=xs.map Prod.snd/\RW w0 w' S td v xs' ov os lvs rv rj
def LI(ps:List (Nat×Nat)):ps.Pairwise (λa b=>Xp false a b=true)↔(ps.map Prod.fst).Pairwise (·<·):=by
 rw[Yn];constructor
 ·exact λh=>h.imp (λh=>by simp[Xp,aH]at h;omega)
 exact λh=>h.imp (λh=>by simp[Xp,aH];omega)
structure FyI(n0:Nat)(w0:World)(S td G cap lb:Nat)(x:L)(fa:Option Addr)(fn fc:Nat)(xs:List (L×Value))(ov:Value)(os:List O)(lvs:List Value)(rv:Value)(rj:List (Nat×Nat))(Q:Option (List L×Nat×Nat))(k u g:Nat)(ys:List (L×Value))(wr:World):Prop where
 rw:RW w0 wr S td (vd (vb ⟨G,0,U⟩) n0 cap) ys ov os lvs rv rj
 len:ys.length=n0
 snd:ys.map Prod.snd=xs.map Prod.snd
 run:WE x (x.par.drop k) u g (ys.map Prod.fst)=Q
 box:wr.heap[lb]?=vb (vf #[Y V x.id,Y V x.gd,Y V x.ex,Y V x.place,Y V x.got,Y V x.free,Y V x.hd,Y V x.sh,Y V x.sc,Y V x.gv,vd fa fn fc] 129 (0,0))
 frm:wr.ownsRow w0.heap.size 181 2 (vd fa fn fc) x.par.length (zl x.par)
 ub:u<=2147483648
 gb:g<=k*2147483647
 sm:∀y∈ys,Wl y/\y.1.gv<=1000000000000+k*2147483647/\y.1.ex<=2147483647
 ne:G≠lb
end
section
variable {w0 W:World}{S:Nat}{td:Nat}{v:Value}{xs:List (L×Value)}{ov:Value}{os:List O}{lvs:List Value}{rv:Value}{rj:List (Nat×Nat)}
def FyI.step{K lb:Nat}{x:L}{E:Option Addr}{H F:Nat}{Q:Option (List L×Nat×Nat)}{k u g:Nat}{q:List (L×Value)}{wr:World}(h:FyI K w0 S td G cap lb x E H F xs ov os lvs rv rj Q k u g q wr){j:Nat}(v:j<q.length){y:L}{r:Value}(m:(y,r)=q.getD j (L0,default)){C d:Nat}(W:WE x (x.par.drop (k+1)) C (g+d) ((q.set j (WK y d,r)).map Prod.fst)=Q)(X:C<=2147483648)(hp:d<=2147483647)(hk:k<=4194304)(nq:Nat):FyI K w0 S td G cap lb x E H F xs ov os lvs rv rj Q (k+1) C (g+d) (q.set j (WK y d,r)) ((wr.drewN nq).setCell ⟨G,j*11+9,U⟩ (Y V ((y.gv:Int)+(d:Int)))):=by
 have n:Below wr.heap.size wr (wr.drewN nq):=yf (xm _ _) nq;have t:=h.rw.below n;have s:=zh h.frm n;have w:(wr.drewN nq).heap[lb]?=_:=(n.block lb (zc h.box)).trans h.box;obtain⟨cg,A⟩:=zi t.row (g:=G) rfl;have l:∀b,b≠G->((wr.drewN nq).setCell ⟨G,j*11+9,U⟩ (Y V ((y.gv:Int)+(d:Int)))).heap[b]?=(wr.drewN nq).heap[b]?:=λb N=>xd _ _ _ _ N
 have p:=h.len;have T:(y,r)∈q:=by rw[m];exact eH v
 have J:=RW.setL (i:=j) (j:=9) (a:=Y V ((y.gv:Int)+(d:Int))) (l':=WK y d) (by rw[p];exact t) v (by omega) (λf=>by rw[<-m];simp[zp,WK]) (by rw[<-m];rfl);rw[<-m,p]at J;refine⟨J,by rw[xp];exact p,?_,W,(l lb (YM h.ne)).trans w,zd s (λg R=>by obtain⟨cs,P⟩:=zi s R;exact l g (zt P A (by decide))),X,by have:=h.gb;omega,λz B=>?_,h.ne⟩
 ·rw[<-h.snd,xac];apply xay;intro i;rw[yi];by_cases e:j=i
  ·subst e;rw[xh rfl,xh (by simpa using v)];simp only[xbm];rw[WI]at m;rw[xj v]at m ⊢;simp only[yz]at m;rw[xaM,<-m]
  rw[xg e]
 rcases Yd B with B|rfl
 ·obtain⟨a,b,c⟩:=h.sm z B;refine⟨a,xi b ?_,c⟩;omega
 obtain⟨a,b,c⟩:=h.sm _ T;obtain⟨⟨Z,v2,v3,v4,v5,v6,v7,v8,v9,a0⟩,M⟩:=a;have b':y.gv<=1000000000000+k*2147483647:=b;have D:(WK y d,r).1.gv=y.gv+d:=rfl;refine⟨⟨⟨Z,v2,v3,v4,v5,v6,v7,v8,v9,?_⟩,M⟩,?_,c⟩
 ·rw[D];omega
 rw[D];omega
def FyI.got{n G cap lb:Nat}{x:L}{p:Option Addr}{r q:Nat}{Q:Option (List L×Nat×Nat)}{k u g:Nat}{b:List (L×Value)}{wr:World}(h:FyI n w0 S td G cap lb x p r q xs ov os lvs rv rj Q k u g b wr){i:Nat}(v:i<n){w1:World}(s:Below wr.heap.size wr w1)(E:Nat):Qp w0 W S td (vd (vb ⟨G,0,U⟩) n cap) xs ov os lvs rv rj (if u=E then vb ((b.map Prod.fst).set i { (b.map Prod.fst).getD i L0 with got:=g }) else U) (vg (vh ((u:Int)==(E:Int)))) (w1.setCell ⟨G,i*11+4,U⟩ (Y V g)):=by
 have c:=h.len;have l:i<b.length:=by omega
 have m:=RW.setL (i:=i) (j:=4) (a:=Y V g) (l':={ (b.getD i (L0,default)).1 with got:=g }) (by rw[c];exact h.rw.below s) l (by omega) (λf=>by simp[zp]) rfl;rw[c]at m;have d:(b.set i ({ (b.getD i (L0,default)).1 with got:=g },(b.getD i (L0,default)).2)).map Prod.snd=xs.map Prod.snd:=by
  rw[<-h.snd,xac];apply xay;intro t;rw[yi];by_cases e:i=t
  ·subst e;rw[xh rfl,xh (by simpa using l)];simp[WI,l]
  rw[xg e]
 by_cases e:u=E
 ·rw[xh e];refine⟨by rw[e];simp,_,?_,d,m⟩;rw[xac,aZ l]
 rw[xg e];refine⟨?_,_,d,m⟩;have:((u:Int)==(E:Int))=false:=xr.2 (by omega);rw[this]
end
