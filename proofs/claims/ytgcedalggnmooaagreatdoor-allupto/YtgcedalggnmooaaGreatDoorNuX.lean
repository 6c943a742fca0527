import Derived.Test.YtgcedalggnmooaaGreatDoorRs1X
set_option linter.all false
set_option maxRecDepth 100000
set_option maxHeartbeats 6400000
namespace Go.Proofs.YtgcedalggnmooaaGreatDoor
open Go.RowKit
open Tryz
def aX{xs:List (L×Value)}{i:Nat}(a:i<xs.length):(xs.map Prod.fst).getD i L0=(xs.getD i (L0,default)).1:=by simp[Wc,a]
def eF{xs:List (L×Value)}{i:Nat}(a:i<xs.length):xs.getD i (L0,default)∈xs:=by simp[Wc,a]
section
variable {w0 W:World}{S:Nat}{td:Nat}{v:Value}{xs:List (L×Value)}{ov:Value}{os:List O}{lvs:List Value}{rv:Value}{rj:List (Nat×Nat)}
def RW.shape(h:RW w0 W S td v xs ov os lvs rv rj):∃a cap,v=.slice a xs.length cap/\W.cell? ⟨S,1,none⟩=some (.slice a xs.length cap)/\(0<xs.length->∃G,a=some ⟨G,0,none⟩/\G<W.heap.size/\∀j,j<xs.length->∀f,f<11->W.cell? ⟨G,j*11+f,none⟩=(zo (xs.getD j (L0,default)).1 (xs.getD j (L0,default)).2)[f]?):=by
 obtain⟨a,cap,d⟩:=zj h.row;refine⟨a,cap,d,by rw[za h.box,d];rfl,λk=>?_⟩;have c:=h.row;rw[d]at c;obtain⟨G,l,e,_,b⟩:=zL c k
 cases e;exact⟨G,rfl,b,λj i f g=>Bf c rfl (xm _ _) i g⟩
def Cu(h:RW w0 W S td v xs ov os lvs rv rj)(z:∀x∈xs,Wl x)(F:xs.length<=4194304)(n:Nat)(H:n<9223372036854775808):Calls prog 111 #[.pointer (some ⟨S,0,none⟩),.int .i64 n] W λe w'=>e=.returned (.int .i64 (VF (xs.map Prod.fst) n))/\w'=W:=by
 obtain⟨a,cap,C,c1,d⟩:=h.shape;have B:=zb z;clear h C z;have g:Ha ((xs.map Prod.fst).length=xs.length):=List.length_map ..;go_enter func111,ntmps111;go_wp2_with fail;go_loop [5] (λi=>∃k:Nat,k<=xs.length/\i=.int .i64 k/\(∀j,j<k->((xs.map Prod.fst).getD j L0).id≠n)) (λi=>xs.length-(intOf i).toNat)
 case atStart=>exact⟨0,by omega,rfl,λj h=>absurd h (by omega)⟩
 obtain⟨k,E,rfl,f⟩:=hrel;by_cases b:k<xs.length
 ·obtain⟨G,w,_,c⟩:=d (by omega);rw[w]at c1;have r:W.cell? ⟨G,k*11,none⟩=some (.int .i64 (((xs.map Prod.fst).getD k L0).id:Int)):=by rw[aX b];exact c k b 0 (by omega)
  have s:((xs.map Prod.fst).getD k L0).id<9223372036854775808:=by rw[aX b];exact(B.o _ (eF b)).1.1
  obtain⟨m,q⟩:=Ww (((xs.map Prod.fst).getD k L0).id);rw[<-q.o]at r s;clear c w d;by_cases l:m=n
  ·have u:=aR l;have p:Ha (VF (xs.map Prod.fst) n=(k:Int)):=by
    have:=fV (by rw[g.o];exact b) f (by rw[<-q.o];exact l)
    unfold Ha VF;rw[this,xh (by rw[g.o];exact b)]
   clear l;go_wp2_with fail;go_ret;exact⟨by rw[p.o];rfl,rfl⟩
  have u:=ZT l;have A:=zb l;clear l;go_wp2_with fail;go_round
  case rel=>
   refine⟨k+1,by omega,by go_num,?_⟩;intro j D;by_cases t:j=k
   ·subst t;rw[<-q.o];exact A.o
   exact f j (by omega)
  simp[intOf];omega
 obtain rfl:k=xs.length:=by omega
 have p:Ha (VF (xs.map Prod.fst) n=-1):=by
  unfold Ha VF;rw[xg (λy=>f (Wj n (xs.map Prod.fst)) (by rw[<-g.o];exact y) (aS y))]
 clear f d b;go_wp2_with fail;go_ret;exact⟨by rw[p.o];rfl,rfl⟩
def Ve(ls:List L)(i:Nat)(x:L):Prop:=(1<=x.id/\x.id<=2147483647)/\(1<=x.gd/\x.gd<=2147483647)/\x.ex<=2147483647/\x.free<=2147483647/\x.hd<=2147483647/\x.sh<=2147483647/\x.sc<=2147483647/\x.got<=2147483647/\Wj x.id ls=i
def Bn(h:RW w0 W S td v xs ov os lvs rv rj)(hw:∀x∈xs,Wl x)(hl:xs.length<=4194304):Calls prog 89 #[.pointer (some ⟨S,0,none⟩)] W λe w'=>(∃x,e=.returned (.bool x)/\(x=true↔NumP (xs.map Prod.fst)))/\Below W.heap.size W w':=by
 obtain⟨a,cap,hv,b1,P⟩:=h.shape;have b2:=zc h.box;have HW:=zb hw;have a0:Ha (∀(u:World),Below W.heap.size W u->∀(n:Nat),n<9223372036854775808->Calls prog 111 #[.pointer (some ⟨S,0,none⟩),.int .i64 n] u λe w'=>e=.returned (.int .i64 (VF (xs.map Prod.fst) n))/\w'=u):=by
  intro u hx n hn;have h':=h.below hx;exact Cu h' hw hl n hn
 have T:Ha (∀n:Nat,n<9223372036854775808->∀u,Calls prog 67 #[.int .u8 105,.int .i64 n] u λe w'=>e=.returned (.bool (Pl.mayB 105 n))/\w'=u):=λn hn u=>by have hx:=qY 105 n hn u;rw[show((105:UInt8).toNat:Int)=105 from rfl]at hx;exact hx
 have a3:Ha (∀n:Nat,n<9223372036854775808->∀u,Calls prog 67 #[.int .u8 100,.int .i64 n] u λe w'=>e=.returned (.bool (Pl.mayB 100 n))/\w'=u):=λn hn u=>by have hx:=qY 100 n hn u;rw[show((100:UInt8).toNat:Int)=100 from rfl]at hx;exact hx
 have w:=zb rR;have a5:Ha (NumP (xs.map Prod.fst)↔∀i,i<xs.length->Ve (xs.map Prod.fst) i (xs.getD i (L0,default)).1):=by
  unfold Ha NumP Ve;rw[List.length_map];constructor
  ·intro z i Z;have:=z i Z;rw[aX Z]at this;exact this
  intro z i Z;rw[aX Z];exact z i Z
 clear h hv hw;go_enter func89,ntmps89;go_wp2_with fail;go_loopw [3,4,5,6,7,8,9,10,11,12,13] (λii _ _ _ _ _ _ _ _ _ _ wr=>∃k:Nat,k<=xs.length/\ii=.int .i64 k/\(∀i,i<k->Ve (xs.map Prod.fst) i (xs.getD i (L0,default)).1)/\Below W.heap.size W wr) (λii _ _ _ _ _ _ _ _ _ _ _=>xs.length-(intOf ii).toNat)
 case atStart=>exact⟨0,by omega,rfl,λi Z=>by omega,xm _ _⟩
 obtain⟨k,hk,rfl,N,d⟩:=hrel;have d1:wr.cell? ⟨S,1,none⟩=some (.slice a xs.length cap):=(d.cell (p:=⟨S,1,none⟩) b2).trans b1;by_cases M:k<xs.length
 ·obtain⟨G,hG,m,t⟩:=P (by omega);subst hG;have b5:=HW.o _ (eF M);have g:Ha (∀f,f<11->W.cell? ⟨G,k*11+f,none⟩=(zo (xs.getD k (L0,default)).1 (xs.getD k (L0,default)).2)[f]?):=λf hf=>t k M f hf
  have X:=zb N;have a7:Ha ((∀i,i<k+1->Ve (xs.map Prod.fst) i (xs.getD i (L0,default)).1)↔Ve (xs.map Prod.fst) k (xs.getD k (L0,default)).1):=⟨λz=>z k (by omega),λz i Z=>by
   by_cases e:i=k
   ·subst e;exact z
   exact X.o i (by omega)⟩
  have a4:Ha (NumP (xs.map Prod.fst)->Ve (xs.map Prod.fst) k (xs.getD k (L0,default)).1):=λz=>a5.o.1 z k M
  generalize xs.getD k (L0,default)=xv at *;obtain⟨x,fv⟩:=xv;obtain⟨⟨w1,w2,w3,w4,w5,w6,w7,w8,w9,b6⟩,fa,fn,fc,a9⟩:=b5;simp only at a9 g a7 a4 w1 w2 w3 w4 w5 w6 w7 w8 w9 b6;subst a9;have c0:wr.cell? ⟨G,k*11,none⟩=some (.int .i64 x.id):=(d.cell (p:=⟨G,k*11,none⟩) m).trans (g.o 0 (by omega));have c1:wr.cell? ⟨G,k*11+1,none⟩=some (.int .i64 x.gd):=(d.cell (p:=⟨G,k*11+1,none⟩) m).trans (g.o 1 (by omega));have c2:wr.cell? ⟨G,k*11+2,none⟩=some (.int .i64 x.ex):=(d.cell (p:=⟨G,k*11+2,none⟩) m).trans (g.o 2 (by omega));have c3:wr.cell? ⟨G,k*11+3,none⟩=some (.int .i64 x.place):=(d.cell (p:=⟨G,k*11+3,none⟩) m).trans (g.o 3 (by omega));have c4:wr.cell? ⟨G,k*11+4,none⟩=some (.int .i64 x.got):=(d.cell (p:=⟨G,k*11+4,none⟩) m).trans (g.o 4 (by omega));have c5:wr.cell? ⟨G,k*11+5,none⟩=some (.int .i64 x.free):=(d.cell (p:=⟨G,k*11+5,none⟩) m).trans (g.o 5 (by omega));have c6:wr.cell? ⟨G,k*11+6,none⟩=some (.int .i64 x.hd):=(d.cell (p:=⟨G,k*11+6,none⟩) m).trans (g.o 6 (by omega));have c7:wr.cell? ⟨G,k*11+7,none⟩=some (.int .i64 x.sh):=(d.cell (p:=⟨G,k*11+7,none⟩) m).trans (g.o 7 (by omega));have c8:wr.cell? ⟨G,k*11+8,none⟩=some (.int .i64 x.sc):=(d.cell (p:=⟨G,k*11+8,none⟩) m).trans (g.o 8 (by omega));have c9:wr.cell? ⟨G,k*11+9,none⟩=some (.int .i64 x.gv):=(d.cell (p:=⟨G,k*11+9,none⟩) m).trans (g.o 9 (by omega));have b0:wr.cell? ⟨G,k*11+10,none⟩=some (.slice fa fn fc):=(d.cell (p:=⟨G,k*11+10,none⟩) m).trans (g.o 10 (by omega));have J:=zb d;clear t N d g;go_wp2_with fail;have s:=zb (xp wr (.cells #[.int .i64 x.id,.int .i64 x.gd,.int .i64 x.ex,.int .i64 x.place,.int .i64 x.got,.int .i64 x.free,.int .i64 x.hd,.int .i64 x.sh,.int .i64 x.sc,.int .i64 x.gv,.slice fa fn fc] 129));have y:=zb (J.o.alloc J.o.size (.cells #[.int .i64 x.id,.int .i64 x.gd,.int .i64 x.ex,.int .i64 x.place,.int .i64 x.got,.int .i64 x.free,.int .i64 x.hd,.int .i64 x.sh,.int .i64 x.sc,.int .i64 x.gv,.slice fa fn fc] 129));obtain⟨lb,a2⟩:=Ww wr.heap.size;obtain⟨l,a6⟩:∃l,Ha (l=wr.alloc (.cells #[.int .i64 x.id,.int .i64 x.gd,.int .i64 x.ex,.int .i64 x.place,.int .i64 x.got,.int .i64 x.free,.int .i64 x.hd,.int .i64 x.sh,.int .i64 x.sc,.int .i64 x.gv,.slice fa fn fc] 129)):=⟨_,rfl⟩
  rw[<-a6.o]at s y ⊢;rw[<-a2.o]at s ⊢;have j:Ha (l.heap[lb]?=some (.cells #[.int .i64 x.id,.int .i64 x.gd,.int .i64 x.ex,.int .i64 x.place,.int .i64 x.got,.int .i64 x.free,.int .i64 x.hd,.int .i64 x.sh,.int .i64 x.sc,.int .i64 x.gv,.slice fa fn fc] 129)):=s.o;have Q:=zb y.o;clear s y a6 a2 c0 c1 c2 c3 c4 c5 c6 c7 c8 c9 b0;have e0:l.cell? ⟨lb,0,none⟩=some (.int .i64 x.id):=by rw[za j.o];rfl
  have e1:l.cell? ⟨lb,1,none⟩=some (.int .i64 x.gd):=by rw[za j.o];rfl
  have e2:l.cell? ⟨lb,2,none⟩=some (.int .i64 x.ex):=by rw[za j.o];rfl
  have e3:l.cell? ⟨lb,3,none⟩=some (.int .i64 x.place):=by rw[za j.o];rfl
  have e4:l.cell? ⟨lb,4,none⟩=some (.int .i64 x.got):=by rw[za j.o];rfl
  have e5:l.cell? ⟨lb,5,none⟩=some (.int .i64 x.free):=by rw[za j.o];rfl
  have e6:l.cell? ⟨lb,6,none⟩=some (.int .i64 x.hd):=by rw[za j.o];rfl
  have e7:l.cell? ⟨lb,7,none⟩=some (.int .i64 x.sh):=by rw[za j.o];rfl
  have e8:l.cell? ⟨lb,8,none⟩=some (.int .i64 x.sc):=by rw[za j.o];rfl
  have e9:l.cell? ⟨lb,9,none⟩=some (.int .i64 x.gv):=by rw[za j.o];rfl
  have b7:l.cell? ⟨lb,10,none⟩=some (.slice fa fn fc):=by rw[za j.o];rfl
  obtain⟨A,HA⟩:∃q:Bool,Ha (q=Pl.mayB 105 x.id):=⟨_,rfl⟩
  have KA:=zb (T.o x.id w1 l);rw[<-HA.o]at KA;obtain⟨B,HB⟩:∃q:Bool,Ha (q=Pl.mayB 105 x.gd):=⟨_,rfl⟩
  have KB:=zb (T.o x.gd w2 l);rw[<-HB.o]at KB;obtain⟨C,HC⟩:∃q:Bool,Ha (q=Pl.mayB 100 x.ex):=⟨_,rfl⟩
  have KC:=zb (a3.o x.ex w3 l);rw[<-HC.o]at KC;obtain⟨D,HD⟩:∃q:Bool,Ha (q=decide (x.free<=2147483647)):=⟨_,rfl⟩
  have KD:=zb (w.o x.free w6 l);rw[<-HD.o]at KD;obtain⟨E,HE⟩:∃q:Bool,Ha (q=decide (x.hd<=2147483647)):=⟨_,rfl⟩
  have KE:=zb (w.o x.hd w7 l);rw[<-HE.o]at KE;obtain⟨F,HF⟩:∃q:Bool,Ha (q=decide (x.sh<=2147483647)):=⟨_,rfl⟩
  have KF:=zb (w.o x.sh w8 l);rw[<-HF.o]at KF;obtain⟨G1,R⟩:∃q:Bool,Ha (q=decide (x.sc<=2147483647)):=⟨_,rfl⟩
  have a8:=zb (w.o x.sc w9 l);rw[<-R.o]at a8;obtain⟨H,HH⟩:∃q:Bool,Ha (q=decide (x.got<=2147483647)):=⟨_,rfl⟩
  have KH:=zb (w.o x.got w5 l);rw[<-HH.o]at KH;obtain⟨tv,K⟩:∃q:Int,Ha (q=VF (xs.map Prod.fst) x.id):=⟨_,rfl⟩
  have KT:=zb (a0.o l Q.o x.id w1);rw[<-K.o]at KT;have a1:Ha (Ve (xs.map Prod.fst) k x↔(A=true/\B=true/\C=true/\D=true/\E=true/\F=true/\G1=true/\H=true/\tv=(k:Int))):=by
   unfold Ha Ve;rw[HA.o,HB.o,HC.o,HD.o,HE.o,HF.o,R.o,HH.o,K.o];have b3:Wj x.id (xs.map Prod.fst)=k↔VF (xs.map Prod.fst) x.id=(k:Int):=by
    unfold VF;have b4:(xs.map Prod.fst).length=xs.length:=List.length_map ..;constructor
    ·intro e;rw[e,xh (by omega)]
    intro e;split at e<;>omega
   rw[b3];simp[Pl.mayB,and_assoc]
  have b8:-1<=tv/\tv<9223372036854775807:=by
   rw[K.o];unfold VF;have b4:(xs.map Prod.fst).length=xs.length:=List.length_map ..;split<;>omega
  clear T a3 w a0 HA HB HC HD HE HF R HH K;go_wp2_with (first|(go_at_call 67;with_reducible refine(KA.o).mono ?_;rintro e r ⟨rfl,b⟩;have c:=b.symm;subst c;clear b)|(go_at_call 67;with_reducible refine(KB.o).mono ?_;rintro e r ⟨rfl,b⟩;have c:=b.symm;subst c;clear b)|(go_at_call 67;with_reducible refine(KC.o).mono ?_;rintro e r ⟨rfl,b⟩;have c:=b.symm;subst c;clear b)|(go_at_call 143;with_reducible refine(KD.o).mono ?_;rintro e r ⟨rfl,b⟩;have c:=b.symm;subst c;clear b)|(go_at_call 143;with_reducible refine(KE.o).mono ?_;rintro e r ⟨rfl,b⟩;have c:=b.symm;subst c;clear b)|(go_at_call 143;with_reducible refine(KF.o).mono ?_;rintro e r ⟨rfl,b⟩;have c:=b.symm;subst c;clear b)|(go_at_call 143;with_reducible refine(a8.o).mono ?_;rintro e r ⟨rfl,b⟩;have c:=b.symm;subst c;clear b)|(go_at_call 143;with_reducible refine(KH.o).mono ?_;rintro e r ⟨rfl,b⟩;have c:=b.symm;subst c;clear b)|(go_at_call 111;with_reducible refine(KT.o).mono ?_;rintro e r ⟨rfl,b⟩;have c:=b.symm;subst c;clear b))
  all_goals first
   |(go_ret;exact⟨⟨false,rfl,λh=>(by cases h),λz=>(by rcases a1.o.1 (a4.o z) with ⟨q1,q2,q3,q4,q5,q6,q7,q8,q9⟩;simp_all)⟩,Q.o⟩)
   |(refine⟨⟨k+1,by omega,by go_num,a7.o.2 (a1.o.2 ⟨by assumption,by assumption,by assumption,by assumption,by assumption,by assumption,by assumption,by assumption,(by have hz:(tv != (k:Int))=false:=(by assumption);simpa using hz)⟩),Q.o⟩,?_⟩;simp[intOf];omega)
 obtain rfl:k=xs.length:=by omega
 have J:=zb d;have X:=zb N;clear d N P M;go_wp2_with fail;go_ret;exact⟨⟨true,rfl,λ_=>a5.o.2 X.o,λ_=>rfl⟩,J.o⟩
end
def OR(x:L):Prop:=x.got<=2147483647/\x.gv<=2147483647/\1<=x.got/\x.got=x.free+x.hd+x.sh+x.sc+x.gv
section
variable {w0 W:World}{S:Nat}{td:Nat}{v:Value}{xs:List (L×Value)}{ov:Value}{os:List O}{lvs:List Value}{rv:Value}{rj:List (Nat×Nat)}
def Ae(h:RW w0 W S td v xs ov os lvs rv rj)(hw:∀x∈xs,Wl x)(hl:xs.length<=4194304)(a0:∀x∈xs,x.1.free<=2147483647/\x.1.hd<=2147483647/\x.1.sh<=2147483647/\x.1.sc<=2147483647/\x.1.gv<1099511627776):Calls prog 91 #[.pointer (some ⟨S,0,none⟩)] W λe w'=>(∃x,e=.returned (.bool x)/\(x=true↔Sc (xs.map Prod.fst)))/\Below W.heap.size W w':=by
 obtain⟨a,cap,hv,a5,C⟩:=h.shape;have a6:=zc h.box;have HW:=zb hw;have J:=zb rR;have a3:=zb a0;have R:Ha (Sc (xs.map Prod.fst)↔∀i,i<xs.length->OR (xs.getD i (L0,default)).1):=by
  unfold Ha Sc OR;rw[List.length_map];constructor
  ·intro r i K;have:=r i K;rw[aX K]at this;exact this
  intro r i K;rw[aX K];exact r i K
 clear h hv hw a0;go_enter func91,ntmps91;go_wp2_with fail;go_loopw [3,4,5,6] (λii _ _ _ wr=>∃k:Nat,k<=xs.length/\ii=.int .i64 k/\(∀i,i<k->OR (xs.getD i (L0,default)).1)/\Below W.heap.size W wr) (λii _ _ _ _=>xs.length-(intOf ii).toNat)
 case atStart=>exact⟨0,by omega,rfl,λi K=>by omega,xm _ _⟩
 obtain⟨k,hk,rfl,z,b⟩:=hrel;have d1:wr.cell? ⟨S,1,none⟩=some (.slice a xs.length cap):=(b.cell (p:=⟨S,1,none⟩) a6).trans a5;by_cases t:k<xs.length
 ·obtain⟨G,hG,g,n⟩:=C (by omega);subst hG;have a7:=HW.o _ (eF t);have a1:=a3.o _ (eF t);have c:Ha (∀f,f<11->W.cell? ⟨G,k*11+f,none⟩=(zo (xs.getD k (L0,default)).1 (xs.getD k (L0,default)).2)[f]?):=λf hf=>n k t f hf
  have H:=zb z;have X:Ha ((∀i,i<k+1->OR (xs.getD i (L0,default)).1)↔OR (xs.getD k (L0,default)).1):=⟨λr=>r k (by omega),λr i K=>by
   by_cases e:i=k
   ·subst e;exact r
   exact H.o i (by omega)⟩
  have F:Ha (Sc (xs.map Prod.fst)->OR (xs.getD k (L0,default)).1):=λr=>R.o.1 r k t
  generalize xs.getD k (L0,default)=xv at *;obtain⟨x,fv⟩:=xv;obtain⟨⟨w1,w2,w3,w4,w5,w6,w7,w8,w9,a2⟩,M,P,N,Z⟩:=a7;simp only at Z c X F a1 w1 w2 w3 w4 w5 w6 w7 w8 w9 a2;subst Z;have c0:wr.cell? ⟨G,k*11,none⟩=some (.int .i64 x.id):=(b.cell (p:=⟨G,k*11,none⟩) g).trans (c.o 0 (by omega));have c1:wr.cell? ⟨G,k*11+1,none⟩=some (.int .i64 x.gd):=(b.cell (p:=⟨G,k*11+1,none⟩) g).trans (c.o 1 (by omega));have c2:wr.cell? ⟨G,k*11+2,none⟩=some (.int .i64 x.ex):=(b.cell (p:=⟨G,k*11+2,none⟩) g).trans (c.o 2 (by omega));have c3:wr.cell? ⟨G,k*11+3,none⟩=some (.int .i64 x.place):=(b.cell (p:=⟨G,k*11+3,none⟩) g).trans (c.o 3 (by omega));have c4:wr.cell? ⟨G,k*11+4,none⟩=some (.int .i64 x.got):=(b.cell (p:=⟨G,k*11+4,none⟩) g).trans (c.o 4 (by omega));have c5:wr.cell? ⟨G,k*11+5,none⟩=some (.int .i64 x.free):=(b.cell (p:=⟨G,k*11+5,none⟩) g).trans (c.o 5 (by omega));have c6:wr.cell? ⟨G,k*11+6,none⟩=some (.int .i64 x.hd):=(b.cell (p:=⟨G,k*11+6,none⟩) g).trans (c.o 6 (by omega));have c7:wr.cell? ⟨G,k*11+7,none⟩=some (.int .i64 x.sh):=(b.cell (p:=⟨G,k*11+7,none⟩) g).trans (c.o 7 (by omega));have c8:wr.cell? ⟨G,k*11+8,none⟩=some (.int .i64 x.sc):=(b.cell (p:=⟨G,k*11+8,none⟩) g).trans (c.o 8 (by omega));have c9:wr.cell? ⟨G,k*11+9,none⟩=some (.int .i64 x.gv):=(b.cell (p:=⟨G,k*11+9,none⟩) g).trans (c.o 9 (by omega));have a4:wr.cell? ⟨G,k*11+10,none⟩=some (.slice M P N):=(b.cell (p:=⟨G,k*11+10,none⟩) g).trans (c.o 10 (by omega));have w:=zb b;clear n z b c;go_wp2_with fail;have m:=zb (xp wr (.cells #[.int .i64 x.id,.int .i64 x.gd,.int .i64 x.ex,.int .i64 x.place,.int .i64 x.got,.int .i64 x.free,.int .i64 x.hd,.int .i64 x.sh,.int .i64 x.sc,.int .i64 x.gv,.slice M P N] 129));have s:=zb (w.o.alloc w.o.size (.cells #[.int .i64 x.id,.int .i64 x.gd,.int .i64 x.ex,.int .i64 x.place,.int .i64 x.got,.int .i64 x.free,.int .i64 x.hd,.int .i64 x.sh,.int .i64 x.sc,.int .i64 x.gv,.slice M P N] 129));obtain⟨lb,Q⟩:=Ww wr.heap.size;obtain⟨l,T⟩:∃l,Ha (l=wr.alloc (.cells #[.int .i64 x.id,.int .i64 x.gd,.int .i64 x.ex,.int .i64 x.place,.int .i64 x.got,.int .i64 x.free,.int .i64 x.hd,.int .i64 x.sh,.int .i64 x.sc,.int .i64 x.gv,.slice M P N] 129)):=⟨_,rfl⟩
  rw[<-T.o]at m s ⊢;rw[<-Q.o]at m ⊢;have d:Ha (l.heap[lb]?=some (.cells #[.int .i64 x.id,.int .i64 x.gd,.int .i64 x.ex,.int .i64 x.place,.int .i64 x.got,.int .i64 x.free,.int .i64 x.hd,.int .i64 x.sh,.int .i64 x.sc,.int .i64 x.gv,.slice M P N] 129)):=m.o;have D:=zb s.o;clear m s T Q c0 c1 c2 c3 c4 c5 c6 c7 c8 c9 a4;have e0:l.cell? ⟨lb,0,none⟩=some (.int .i64 x.id):=by rw[za d.o];rfl
  have e1:l.cell? ⟨lb,1,none⟩=some (.int .i64 x.gd):=by rw[za d.o];rfl
  have e2:l.cell? ⟨lb,2,none⟩=some (.int .i64 x.ex):=by rw[za d.o];rfl
  have e3:l.cell? ⟨lb,3,none⟩=some (.int .i64 x.place):=by rw[za d.o];rfl
  have e4:l.cell? ⟨lb,4,none⟩=some (.int .i64 x.got):=by rw[za d.o];rfl
  have e5:l.cell? ⟨lb,5,none⟩=some (.int .i64 x.free):=by rw[za d.o];rfl
  have e6:l.cell? ⟨lb,6,none⟩=some (.int .i64 x.hd):=by rw[za d.o];rfl
  have e7:l.cell? ⟨lb,7,none⟩=some (.int .i64 x.sh):=by rw[za d.o];rfl
  have e8:l.cell? ⟨lb,8,none⟩=some (.int .i64 x.sc):=by rw[za d.o];rfl
  have e9:l.cell? ⟨lb,9,none⟩=some (.int .i64 x.gv):=by rw[za d.o];rfl
  have b0:l.cell? ⟨lb,10,none⟩=some (.slice M P N):=by rw[za d.o];rfl
  obtain⟨A,HA⟩:∃q:Bool,Ha (q=decide (x.got<=2147483647)):=⟨_,rfl⟩
  have KA:=zb (J.o x.got w5 l);rw[<-HA.o]at KA;obtain⟨B,HB⟩:∃q:Bool,Ha (q=decide (x.gv<=2147483647)):=⟨_,rfl⟩
  have KB:=zb (J.o x.gv a2 l);rw[<-HB.o]at KB;have E:Ha (OR x↔(A=true/\B=true/\1<=x.got/\x.got=x.free+x.hd+x.sh+x.sc+x.gv)):=by
   unfold Ha OR;rw[HA.o,HB.o,XI,XI]
  clear J HA HB;obtain⟨u1,u2,u3,u4,u5⟩:=a1;go_wp2_with (first|(go_at_call 143;with_reducible refine(KA.o).mono ?_;rintro e a9 ⟨rfl,j⟩;have u:=j.symm;subst u;clear j)|(go_at_call 143;with_reducible refine(KB.o).mono ?_;rintro e a9 ⟨rfl,j⟩;have u:=j.symm;subst u;clear j))
  all_goals first
   |(go_ret;exact⟨⟨false,rfl,λh=>(by cases h),λr=>(by rcases E.o.1 (F.o r) with ⟨q1,q2,q3,q4⟩;first|contradiction|omega|(rename_i y;rcases y with y|y<;>first|omega|exact absurd (show(x.got:Int)=_ by omega) (Yh.1 y)))⟩,D.o⟩)
   |(go_ret;exact⟨Or.inl ⟨rfl,λr=>(by rcases E.o.1 (F.o r) with ⟨q1,q2,q3,q4⟩;first|contradiction|omega|(rename_i y;rcases y with y|y<;>first|omega|exact absurd (show(x.got:Int)=_ by omega) (Yh.1 y)))⟩,D.o⟩)
   |(refine⟨⟨k+1,by omega,by go_num,X.o.2 (E.o.2 ⟨by assumption,by assumption,by omega,(by
     have hz:1<=(x.got:Int)/\((x.got:Int) != (x.free:Int)+x.hd+x.sh+x.sc+x.gv)=false:=(by assumption)
     have a8:=hz.2;rw[xax]at a8;omega)⟩),D.o⟩,?_⟩;simp[intOf];omega)
 obtain rfl:k=xs.length:=by omega
 have w:=zb b;have H:=zb z;clear b z C t;go_wp2_with fail;go_ret;exact⟨⟨true,rfl,λ_=>R.o.2 H.o,λ_=>rfl⟩,w.o⟩
end
def Ja(a:Value)(j:Nat)(c:j<11)(l':L)(ls:List L)(b:List Value)(i:Nat)(e:b.length=ls.length)(d:i<ls.length)(g:∀f,(zo (ls.getD i L0) f).set j a=zo l' f):(tY ls b).set (i*11+j) a=tY (ls.set i l') b:=by
 have h:=qA a a j j c c l' ls b i e d (λf=>by rw[List.set_set];exact g f);rw[List.set_set]at h;exact h
def Qq(xs:List (L×Value))(i j:Nat)(b:i<xs.length)(c:j<11)(a:Value)(l':L)(d:∀f,(zo (xs.getD i (L0,default)).1 f).set j a=zo l' f):(VU xs).set (i*11+j) a=VU (xs.set i (l',(xs.getD i (L0,default)).2)):=by
 unfold VU;rw[Yu,Yu,Ja a j c l' _ _ i (by simp) (by simpa using b) (λf=>by rw[aX b];exact d f)];congr 1;apply YQ;intro k;rw[XB];by_cases e:i=k
 ·subst e;rw[xh rfl,xh (by simpa using b)];simp[Wc,b]
 rw[xg e]
variable {G cap:Nat}
section
variable {w0 W:World}{S:Nat}{td:Nat}{v:Value}{xs:List (L×Value)}{ov:Value}{os:List O}{lvs:List Value}{rv:Value}{rj:List (Nat×Nat)}
def RW.setL(h:RW w0 W S td (.slice (some ⟨G,0,none⟩) xs.length cap) xs ov os lvs rv rj){i j:Nat}(w:i<xs.length)(H:j<11){a:Value}{l':L}(K:∀f,(zo (xs.getD i (L0,default)).1 f).set j a=zo l' f)(J:l'.par=(xs.getD i (L0,default)).1.par):RW w0 (W.setCell ⟨G,i*11+j,none⟩ a) S td (.slice (some ⟨G,0,none⟩) xs.length cap) (xs.set i (l',(xs.getD i (L0,default)).2)) ov os lvs rv rj:=by
 have d:=h.row;obtain⟨N,v⟩:=zh d (g:=G) rfl;have F:=(d.lt G rfl).1;have z:=(d.stored (i*11+j) a).1;have r:∀b,b≠G->(W.setCell ⟨G,i*11+j,none⟩ a).heap[b]?=W.heap[b]?:=λb u=>xd _ _ _ _ u
 have s:∀(b:Nat) (l:Array Value) (t:TypeId),W.heap[b]?=some (.cells l t (0,0))->t≠129->(W.setCell ⟨G,i*11+j,none⟩ a).heap[b]?=W.heap[b]?:=λb l t u E=>r b (zt u v E)
 refine⟨h.bel.setCell (p:=⟨G,i*11+j,none⟩) F a,(s _ _ _ h.box (by decide)).trans h.box,h.slo,?_,λx n=>?_,zd h.orow (λg c=>by obtain⟨l,m⟩:=zh h.orow c;exact s g l _ m (by decide)),h.llen,λk B=>zd (h.lin k B) (λg c=>by obtain⟨l,m⟩:=zh (h.lin k B) c;exact s g l _ m (by decide)),zd h.rrow (λg c=>by obtain⟨l,m⟩:=zh h.rrow c;exact s g l _ m (by decide)),λg c=>⟨(h.apt g c).1,λf q e=>?_⟩⟩
 ·rw[xq,<-Qq xs i j w H a l' K];exact z
 ·have A:∃y∈xs,y.2=x.2/\y.1.par=x.1.par:=by
   rcases XU n with n|rfl
   ·exact⟨x,n,rfl,rfl⟩
   exact⟨_,eF w,rfl,J.symm⟩
  obtain⟨y,M,C,D⟩:=A;have q:=h.frm y M;rw[C,D]at q;exact zd q (λg c=>by obtain⟨l,m⟩:=zh q c;exact s g l _ m (by decide))
 obtain⟨x,n,rfl⟩:=Xz.1 q;rcases XU n with n|rfl
 ·exact(h.apt g c).2 _ (Xu n) e
 exact(h.apt g c).2 _ (Xu (eF w)) e
def rF{w:World}{B:Nat}{pv:Value}{ps:List (Nat×Nat)}(h:w.ownsRow B 181 2 pv ps.length (zl ps)):Prs 181 w pv ps:=by
 rcases h.2 with ⟨a,d⟩|⟨g,cap,b,a,d,c,i,k,l,m⟩
 ·exact Or.inl ⟨a,XD.1 d⟩
 refine Or.inr ⟨g,cap,b,a,c,λj f=>?_⟩;have e:=cW (by rw[<-a];exact h) j f;rw[za c,za c]at e;rw[xbg 2 j];exact e
def PE(w0 W:World)(S td:Nat)(v:Value)(xs:List (L×Value))(ov:Value)(os:List O)(lvs:List Value)(rv:Value)(rj:List (Nat×Nat))(R:Option (List L))(e:Ending)(w':World):Prop:=match R with
 |some ls'=>e=.returned (.bool true)/\∃xs',xs'.map Prod.fst=ls'/\xs'.map Prod.snd=xs.map Prod.snd/\RW w0 w' S td v xs' ov os lvs rv rj
 |none=>e=.returned (.bool false)/\∃xs',xs'.map Prod.snd=xs.map Prod.snd/\RW w0 w' S td v xs' ov os lvs rv rj
def Lg(ps:List (Nat×Nat)):ps.Pairwise (λa b=>WJ false a b=true)↔(ps.map Prod.fst).Pairwise (·<·):=by
 rw[yk];constructor
 ·exact λh=>h.imp (λh=>by simp[WJ,aC]at h;omega)
 exact λh=>h.imp (λh=>by simp[WJ,aC];omega)
structure FyI(n0:Nat)(w0:World)(S td G cap lb:Nat)(x:L)(fa:Option Addr)(fn fc:Nat)(xs:List (L×Value))(ov:Value)(os:List O)(lvs:List Value)(rv:Value)(rj:List (Nat×Nat))(Q:Option (List L×Nat×Nat))(k u g:Nat)(ys:List (L×Value))(wr:World):Prop where
 rw:RW w0 wr S td (.slice (some ⟨G,0,none⟩) n0 cap) ys ov os lvs rv rj
 len:ys.length=n0
 snd:ys.map Prod.snd=xs.map Prod.snd
 run:VY x (x.par.drop k) u g (ys.map Prod.fst)=Q
 box:wr.heap[lb]?=some (.cells #[.int .i64 x.id,.int .i64 x.gd,.int .i64 x.ex,.int .i64 x.place,.int .i64 x.got,.int .i64 x.free,.int .i64 x.hd,.int .i64 x.sh,.int .i64 x.sc,.int .i64 x.gv,.slice fa fn fc] 129 (0,0))
 frm:wr.ownsRow w0.heap.size 181 2 (.slice fa fn fc) x.par.length (zl x.par)
 ub:u<=2147483648
 gb:g<=k*2147483647
 sm:∀y∈ys,Wl y/\y.1.gv<=1000000000000+k*2147483647/\y.1.ex<=2147483647
 ne:G≠lb
end
section
variable {w0 W:World}{S:Nat}{td:Nat}{v:Value}{xs:List (L×Value)}{ov:Value}{os:List O}{lvs:List Value}{rv:Value}{rj:List (Nat×Nat)}
def FyI.step{K lb:Nat}{x:L}{E:Option Addr}{H F:Nat}{Q:Option (List L×Nat×Nat)}{k u g:Nat}{q:List (L×Value)}{wr:World}(h:FyI K w0 S td G cap lb x E H F xs ov os lvs rv rj Q k u g q wr){j:Nat}(v:j<q.length){y:L}{r:Value}(m:(y,r)=q.getD j (L0,default)){C d:Nat}(W:VY x (x.par.drop (k+1)) C (g+d) ((q.set j (Wf y d,r)).map Prod.fst)=Q)(X:C<=2147483648)(hp:d<=2147483647)(hk:k<=4194304)(nq:Nat):FyI K w0 S td G cap lb x E H F xs ov os lvs rv rj Q (k+1) C (g+d) (q.set j (Wf y d,r)) ((wr.drewN nq).setCell ⟨G,j*11+9,none⟩ (.int .i64 ((y.gv:Int)+(d:Int)))):=by
 have n:Below wr.heap.size wr (wr.drewN nq):=XA (xm _ _) nq;have t:=h.rw.below n;have s:=zg h.frm n;have w:(wr.drewN nq).heap[lb]?=_:=(n.block lb (zc h.box)).trans h.box;obtain⟨cg,A⟩:=zh t.row (g:=G) rfl;have l:∀b,b≠G->((wr.drewN nq).setCell ⟨G,j*11+9,none⟩ (.int .i64 ((y.gv:Int)+(d:Int)))).heap[b]?=(wr.drewN nq).heap[b]?:=λb N=>xd _ _ _ _ N
 have p:=h.len;have T:(y,r)∈q:=by rw[m];exact eF v
 have J:=RW.setL (i:=j) (j:=9) (a:=.int .i64 ((y.gv:Int)+(d:Int))) (l':=Wf y d) (by rw[p];exact t) v (by omega) (λf=>by rw[<-m];simp[zo,Wf]) (by rw[<-m];rfl);rw[<-m,p]at J;refine⟨J,by rw[xq];exact p,?_,W,(l lb (Yl h.ne)).trans w,zd s (λg R=>by obtain⟨cs,P⟩:=zh s R;exact l g (zt P A (by decide))),X,by have:=h.gb;omega,λz B=>?_,h.ne⟩
 ·rw[<-h.snd,Yu];apply YQ;intro i;rw[XB];by_cases e:j=i
  ·subst e;rw[xh rfl,xh (by simpa using v)];simp only[xaH];rw[Wc]at m;rw[xi v]at m ⊢;simp only[XQ]at m;rw[xag,<-m]
  rw[xg e]
 rcases XU B with B|rfl
 ·obtain⟨a,b,c⟩:=h.sm z B;refine⟨a,xj b ?_,c⟩;omega
 obtain⟨a,b,c⟩:=h.sm _ T;obtain⟨⟨Z,v2,v3,v4,v5,v6,v7,v8,v9,a0⟩,M⟩:=a;have b':y.gv<=1000000000000+k*2147483647:=b;have D:(Wf y d,r).1.gv=y.gv+d:=rfl;refine⟨⟨⟨Z,v2,v3,v4,v5,v6,v7,v8,v9,?_⟩,M⟩,?_,c⟩
 ·rw[D];omega
 rw[D];omega
def FyI.got{n G cap lb:Nat}{x:L}{p:Option Addr}{r q:Nat}{Q:Option (List L×Nat×Nat)}{k u g:Nat}{b:List (L×Value)}{wr:World}(h:FyI n w0 S td G cap lb x p r q xs ov os lvs rv rj Q k u g b wr){i:Nat}(v:i<n){w1:World}(s:Below wr.heap.size wr w1)(E:Nat):PE w0 W S td (.slice (some ⟨G,0,none⟩) n cap) xs ov os lvs rv rj (if u=E then some ((b.map Prod.fst).set i { (b.map Prod.fst).getD i L0 with got:=g }) else none) (.returned (.bool ((u:Int)==(E:Int)))) (w1.setCell ⟨G,i*11+4,none⟩ (.int .i64 g)):=by
 have c:=h.len;have l:i<b.length:=by omega
 have m:=RW.setL (i:=i) (j:=4) (a:=.int .i64 g) (l':={ (b.getD i (L0,default)).1 with got:=g }) (by rw[c];exact h.rw.below s) l (by omega) (λf=>by simp[zo]) rfl;rw[c]at m;have d:(b.set i ({ (b.getD i (L0,default)).1 with got:=g },(b.getD i (L0,default)).2)).map Prod.snd=xs.map Prod.snd:=by
  rw[<-h.snd,Yu];apply YQ;intro t;rw[XB];by_cases e:i=t
  ·subst e;rw[xh rfl,xh (by simpa using l)];simp[Wc,l]
  rw[xg e]
 by_cases e:u=E
 ·rw[xh e];refine⟨by rw[e];simp,_,?_,d,m⟩;rw[Yu,aX l]
 rw[xg e];refine⟨?_,_,d,m⟩;have:((u:Int)==(E:Int))=false:=xr.2 (by omega);rw[this]
end
section
variable {w0 W:World}{S:Nat}{td:Nat}{v:Value}{xs:List (L×Value)}{ov:Value}{os:List O}{lvs:List Value}{rv:Value}{rj:List (Nat×Nat)}
def Gf(h:RW w0 W S td v xs ov os lvs rv rj)(hw:∀x∈xs,Wl x)(hl:xs.length<=30)(a2:∀x∈xs,x.1.par.length<=4194304/\∀p∈x.1.par,p.1<9223372036854775808/\p.2<9223372036854775808)(h8:∀x∈xs,x.1.gv<=1000000000000)(h0:∀x∈xs,x.1.ex<=2147483647)(i:Nat)(hi:i<xs.length):Calls prog 90 #[.pointer (some ⟨S,0,none⟩),.int .i64 i] W (PE w0 W S td v xs ov os lvs rv rj (VZ (xs.map Prod.fst) i)):=by
 obtain⟨R,HR⟩:=Ww (VZ (xs.map Prod.fst) i);rw[<-HR.o];obtain⟨a,cap,hv,j4,b8⟩:=h.shape;subst hv;obtain⟨G,hG,l6,P⟩:=b8 (by omega);subst hG;obtain⟨n0,d3⟩:=Ww xs.length;have i0:i<n0:=by rw[d3.o];exact hi
 have m6:n0<=30:=by rw[d3.o];exact hl
 have b2:xs.length=n0:=d3.o.symm;rw[b2]at j4 h ⊢;have i8:=zb b2;clear b2;have l7:=zc h.box;have i3:=hw _ (eF hi);have T:=h.frm _ (eF hi);have a3:=a2 _ (eF hi);have m:Ha (∀f,f<11->W.cell? ⟨G,i*11+f,none⟩=(zo (xs.getD i (L0,default)).1 (xs.getD i (L0,default)).2)[f]?):=λf hf=>P i hi f hf
 have b6:Ha ((xs.map Prod.fst).getD i L0=(xs.getD i (L0,default)).1):=aX hi;obtain⟨xv,j2⟩:=Ww (xs.getD i (L0,default));rw[<-j2.o]at i3 T a3 m b6;obtain⟨x,fv⟩:=xv;obtain⟨⟨w1,w2,w3,w4,w5,w6,w7,w8,w9,k7⟩,fa,A,fc,h5⟩:=i3;simp only at h5 m b6 T a3 w1 w2 w3 w4 w5 w6 w7 w8 w9 k7;subst h5;obtain⟨_,_,h4⟩:=zj T;have h3:A=x.par.length:=by injection h4
 have F:=zb h3;clear h3;have c0:W.cell? ⟨G,i*11,none⟩=some (.int .i64 x.id):=m.o 0 (by omega);have c1:W.cell? ⟨G,i*11+1,none⟩=some (.int .i64 x.gd):=m.o 1 (by omega);have c2:W.cell? ⟨G,i*11+2,none⟩=some (.int .i64 x.ex):=m.o 2 (by omega);have c3:W.cell? ⟨G,i*11+3,none⟩=some (.int .i64 x.place):=m.o 3 (by omega);have c4:W.cell? ⟨G,i*11+4,none⟩=some (.int .i64 x.got):=m.o 4 (by omega);have c5:W.cell? ⟨G,i*11+5,none⟩=some (.int .i64 x.free):=m.o 5 (by omega);have c6:W.cell? ⟨G,i*11+6,none⟩=some (.int .i64 x.hd):=m.o 6 (by omega);have c7:W.cell? ⟨G,i*11+7,none⟩=some (.int .i64 x.sh):=m.o 7 (by omega);have c8:W.cell? ⟨G,i*11+8,none⟩=some (.int .i64 x.sc):=m.o 8 (by omega);have c9:W.cell? ⟨G,i*11+9,none⟩=some (.int .i64 x.gv):=m.o 9 (by omega);have j3:W.cell? ⟨G,i*11+10,none⟩=some (.slice fa A fc):=m.o 10 (by omega);have g5:=zb h;have HW:=zb hw;have f6:=zb h8;have f2:=zb h0;have f5:=zb T;clear P b8 m h hw h8 h0 a2 h4 hi hl;go_enter func90,ntmps90;go_wp2_with fail;have M:=zb (xp W (.cells #[.int .i64 x.id,.int .i64 x.gd,.int .i64 x.ex,.int .i64 x.place,.int .i64 x.got,.int .i64 x.free,.int .i64 x.hd,.int .i64 x.sh,.int .i64 x.sc,.int .i64 x.gv,.slice fa A fc] 129));have a5:=zb (VE W (.cells #[.int .i64 x.id,.int .i64 x.gd,.int .i64 x.ex,.int .i64 x.place,.int .i64 x.got,.int .i64 x.free,.int .i64 x.hd,.int .i64 x.sh,.int .i64 x.sc,.int .i64 x.gv,.slice fa A fc] 129));obtain⟨lb,d2⟩:=Ww W.heap.size;obtain⟨W5,g6⟩:∃W5,Ha (W5=W.alloc (.cells #[.int .i64 x.id,.int .i64 x.gd,.int .i64 x.ex,.int .i64 x.place,.int .i64 x.got,.int .i64 x.free,.int .i64 x.hd,.int .i64 x.sh,.int .i64 x.sc,.int .i64 x.gv,.slice fa A fc] 129)):=⟨_,rfl⟩
 rw[<-g6.o]at M a5 ⊢;rw[<-d2.o]at M ⊢;have d0:Ha (W5.heap[lb]?=some (.cells #[.int .i64 x.id,.int .i64 x.gd,.int .i64 x.ex,.int .i64 x.place,.int .i64 x.got,.int .i64 x.free,.int .i64 x.hd,.int .i64 x.sh,.int .i64 x.sc,.int .i64 x.gv,.slice fa A fc] 129)):=M.o;have a4:Ha (Below W.heap.size W W5):=a5.o;have g2:=zb (g5.o.below a4.o);have d1:=zb (zg f5.o a4.o);have f8:Ha (W.heap.size<=lb):=by rw[Ha,d2.o];exact xe _
 clear M a5 g6 d2 c0 c1 c2 c3 c4 c5 c6 c7 c8 c9 j3;have g4:=zb (lW x.par a3.2 a3.1 W5 (.slice fa A fc) (rF d1.o) false);refine(g4.o).mono ?_
 rintro e D ⟨⟨r,rfl,hr⟩,b0⟩;rw[Lg]at hr;have l5:Ha (Below W.heap.size W D):=a4.o.trans (b0.mono a4.o.size);have b4:=zb (g2.o.below b0);have f3:=zb (zg d1.o b0);have b:Ha (D.heap[lb]?=some (.cells #[.int .i64 x.id,.int .i64 x.gd,.int .i64 x.ex,.int .i64 x.place,.int .i64 x.got,.int .i64 x.free,.int .i64 x.hd,.int .i64 x.sh,.int .i64 x.sc,.int .i64 x.gv,.slice fa A fc] 129)):=(b0.block lb (zc d0.o)).trans d0.o;have z:Ha (¬(x.par.length<=2/\(x.par.map Prod.fst).Pairwise (·<·))->R=none):=λhh=>by
  rw[HR.o];unfold VZ;rw[b6.o,xg hh]
 have a8:Ha ((x.par.length<=2/\(x.par.map Prod.fst).Pairwise (·<·))->R=(VY x x.par 2147483648 0 (xs.map Prod.fst)).bind λq=>if x.par.length=0 then some q.1 else if q.2.1=x.ex then some (q.1.set i { q.1.getD i L0 with got:=q.2.2 }) else none):=λhh=>by
  rw[HR.o];unfold VZ;rw[b6.o,xh hh]
 have e0:D.cell? ⟨lb,0,none⟩=some (.int .i64 x.id):=by rw[za b.o];rfl
 have N:D.cell? ⟨lb,1,none⟩=some (.int .i64 x.gd):=by rw[za b.o];rfl
 have e2:D.cell? ⟨lb,2,none⟩=some (.int .i64 x.ex):=by rw[za b.o];rfl
 have e3:D.cell? ⟨lb,3,none⟩=some (.int .i64 x.place):=by rw[za b.o];rfl
 have e4:D.cell? ⟨lb,4,none⟩=some (.int .i64 x.got):=by rw[za b.o];rfl
 have e5:D.cell? ⟨lb,5,none⟩=some (.int .i64 x.free):=by rw[za b.o];rfl
 have e6:D.cell? ⟨lb,6,none⟩=some (.int .i64 x.hd):=by rw[za b.o];rfl
 have e7:D.cell? ⟨lb,7,none⟩=some (.int .i64 x.sh):=by rw[za b.o];rfl
 have e8:D.cell? ⟨lb,8,none⟩=some (.int .i64 x.sc):=by rw[za b.o];rfl
 have e9:D.cell? ⟨lb,9,none⟩=some (.int .i64 x.gv):=by rw[za b.o];rfl
 have g8:D.cell? ⟨lb,10,none⟩=some (.slice fa A fc):=by rw[za b.o];rfl
 have k9:A<=4194304:=by rw[F.o];exact a3.1
 clear b0 g4 g2 d1 d0 HR a4;by_cases h2:A<=2
 ·cases r with
  |false=>
   have d5:Ha (R=none):=z.o (λhh=>by have:=hr.2 hh.2;cases this);have w:Ha (PE w0 W S td (.slice (some ⟨G,0,none⟩) n0 cap) xs ov os lvs rv rj R (.returned (.bool false)) D):=by rw[Ha,d5.o];exact⟨rfl,xs,rfl,b4.o⟩
   clear hr z a8;go_wp2_with fail;go_ret;exact w.o
  |true=>
   have b5:=zb (a8.o ⟨by rw[<-F.o];exact h2,hr.1 rfl⟩);clear a8 z hr;have l8:decide ((2:Int)<(A:Int))=false:=xy (by omega);obtain⟨Q,HQ⟩:=Ww (VY x x.par 2147483648 0 (xs.map Prod.fst));rw[<-HQ.o]at b5;have f7:Ha (FyI n0 w0 S td G cap lb x fa A fc xs ov os lvs rv rj Q 0 2147483648 0 xs D):=⟨b4.o,i8.o,rfl,HQ.o.symm,b.o,f3.o,by omega,by omega,λy hy=>⟨HW.o y hy,by have:=f6.o y hy;omega,f2.o y hy⟩,by have:=f8.o;omega⟩
   clear b4 b f3 HW f6 f2 HQ g5 f5;go_wp2_with fail;clear e0 N e2 e3 e4 e5 e6 e7 e8 e9 g8;go_loopw [7,8,9,10,11] (λgg uu kk _ _ wr=>∃(k u g:Nat) (l:List (L×Value)),k<=A/\kk=.int .i64 k/\uu=.int .i64 u/\gg=.int .i64 g/\FyI n0 w0 S td G cap lb x fa A fc xs ov os lvs rv rj Q k u g l wr) (λ_ _ kk _ _ _=>A-(intOf kk).toNat)
   case atStart=>exact⟨0,2147483648,0,xs,by omega,rfl,rfl,rfl,f7.o⟩
   clear f7;obtain⟨k,u,g,l,hk,rfl,rfl,rfl,d⟩:=hrel;have HI:=zb d;have e0:wr.cell? ⟨lb,0,none⟩=some (.int .i64 x.id):=by rw[za d.box];rfl
   have N:wr.cell? ⟨lb,1,none⟩=some (.int .i64 x.gd):=by rw[za d.box];rfl
   have e2:wr.cell? ⟨lb,2,none⟩=some (.int .i64 x.ex):=by rw[za d.box];rfl
   have e3:wr.cell? ⟨lb,3,none⟩=some (.int .i64 x.place):=by rw[za d.box];rfl
   have e4:wr.cell? ⟨lb,4,none⟩=some (.int .i64 x.got):=by rw[za d.box];rfl
   have e5:wr.cell? ⟨lb,5,none⟩=some (.int .i64 x.free):=by rw[za d.box];rfl
   have e6:wr.cell? ⟨lb,6,none⟩=some (.int .i64 x.hd):=by rw[za d.box];rfl
   have e7:wr.cell? ⟨lb,7,none⟩=some (.int .i64 x.sh):=by rw[za d.box];rfl
   have e8:wr.cell? ⟨lb,8,none⟩=some (.int .i64 x.sc):=by rw[za d.box];rfl
   have e9:wr.cell? ⟨lb,9,none⟩=some (.int .i64 x.gv):=by rw[za d.box];rfl
   have g8:wr.cell? ⟨lb,10,none⟩=some (.slice fa A fc):=by rw[za d.box];rfl
   have s1:wr.cell? ⟨S,1,none⟩=some (.slice (some ⟨G,0,none⟩) n0 cap):=by rw[za d.rw.box];rfl
   by_cases m5:k<A
   ·have b7:k<x.par.length:=by have:=F.o;omega
    obtain⟨pq,l4,f0,m7,d9⟩:=(rF d.frm).cells (by omega);have j7:fa=some ⟨pq,0,none⟩:=by injection f0
    subst j7;obtain⟨k5,k6⟩:=d9 k b7;have a2:=a3.2 (x.par.getD k (0,0)) (by simp[Wc,b7]);have n:Ha (VY x ((x.par.getD k (0,0))::x.par.drop (k+1)) u g (l.map Prod.fst)=Q):=by
     unfold Ha;rw[<-d.run,YW b7];simp[Wc,b7]
    generalize x.par.getD k (0,0)=pr at *;obtain⟨p1,X⟩:=pr;simp only at k5 k6 a2 n;have Z:=zb (Cu d.rw (λy hy=>(d.sm y hy).1) (by have:=d.len;omega) p1 a2.1);have a7:=zb (rR X a2.2 wr);have i1:(l.map Prod.fst).length=l.length:=List.length_map ..;have i6:=zb d.rw;have j1:=zb d.snd;have w:Ha (Q=none->∀w',Below wr.heap.size wr w'->PE w0 W S td (.slice (some ⟨G,0,none⟩) n0 cap) xs ov os lvs rv rj R (.returned (.bool false)) w'):=λhq w' j5=>by
     rw[b5.o,hq];exact⟨rfl,l,j1.o,i6.o.below j5⟩
    by_cases hf:Wj p1 (l.map Prod.fst)<l.length
    ·have b9:Ha (VF (l.map Prod.fst) p1=((Wj p1 (l.map Prod.fst):Nat):Int)):=by unfold Ha VF;rw[xh (by omega)]
     rw[b9.o]at Z;obtain⟨a',g7,K,b1,s⟩:=d.rw.shape;obtain⟨G',a9,g9,C⟩:=s (by omega);have d7:G'=G:=by
      rw[a9]at K;injection K with N e2 e3
      injection N with N
      injection N with N
      exact N.symm
     subst d7;obtain⟨cg,a1⟩:=zh d.rw.row (g:=G') rfl;have i7:Ha (∀f,wr.frozen? ⟨G',f,none⟩=false):=λf=>ze a1 f
     have g3:=n;obtain⟨j,HJ⟩:=Ww (Wj p1 (l.map Prod.fst));have hj:j<l.length:=by rw[HJ.o];exact hf
     have i4:=d.sm _ (eF hj);have E:Ha (∀f,f<11->wr.cell? ⟨G',j*11+f,none⟩=(zo (l.getD j (L0,default)).1 (l.getD j (L0,default)).2)[f]?):=λf hf=>C j hj f hf
     have a6:Ha ((l.map Prod.fst).getD j L0=(l.getD j (L0,default)).1):=aX hj;have J:=zb (λ(a:Value) (l':L) (hr:∀f,(zo (l.getD j (L0,default)).1 f).set 9 a=zo l' f) (hp:l'.par=(l.getD j (L0,default)).1.par)=>RW.setL (by rw[d.len];exact d.rw) hj (show 9<11 by omega) hr hp);have b3:Ha (∀l':L,(l.set j (l',(l.getD j (L0,default)).2)).map Prod.fst=(l.map Prod.fst).set j l'):=λl'=>by rw[Yu]
     rw[<-HJ.o]at Z;obtain⟨yv,d6⟩:=Ww (l.getD j (L0,default));rw[<-d6.o]at i4 E a6 J b3;obtain⟨y,fy⟩:=yv;obtain⟨⟨⟨v1,v2,v3,v4,v5,v6,v7,v8,v9,i5⟩,_⟩,h9,h1⟩:=i4;simp only at E a6 J b3 v1 v2 v3 v4 v5 v6 v7 v8 v9 i5 h9 h1;have y1:wr.cell? ⟨G',j*11+1,none⟩=some (.int .i64 y.gd):=E.o 1 (by omega);have y2:wr.cell? ⟨G',j*11+2,none⟩=some (.int .i64 y.ex):=E.o 2 (by omega);have y3:wr.cell? ⟨G',j*11+3,none⟩=some (.int .i64 y.place):=E.o 3 (by omega);have y9:wr.cell? ⟨G',j*11+9,none⟩=some (.int .i64 y.gv):=E.o 9 (by omega);have f9:=i7.o (j*11+9);have H:Ha (¬(X<=2147483647/\y.gd=x.gd/\y.place<x.place)->Q=none):=λhc=>by
      rw[<-n.o,VY,xg];rintro⟨_,q2,q3,q4⟩;rw[<-HJ.o,a6.o]at q3 q4;exact hc ⟨q2,q3,q4⟩
     have d4:Ha ((X<=2147483647/\y.gd=x.gd/\y.place<x.place)->VY x (x.par.drop (k+1)) (min u y.ex) (g+X) ((l.set j (Wf y X,fy)).map Prod.fst)=Q):=λhc=>by
      rw[<-n.o,VY,xh,<-HJ.o,a6.o,b3.o];rw[<-HJ.o,a6.o];exact⟨by rw[i1];exact hj,hc⟩
     have m3:j<n0:=by have:=d.len;omega
     have m2:(j:Int)<(n0:Int):=by omega
     have m1:(0:Int)<=(j:Int):=by omega
     have k4:=d.ub;have j8:=d.gb;have m4:decide ((j:Int)<0)=false:=xy (by omega);clear d d9 f0 C K a9 a1 E n g3 b1 s;obtain⟨B,a0⟩:∃B:Bool,Ha (B=decide (X<=2147483647)):=⟨_,rfl⟩
     rw[<-a0.o]at a7;go_wp2_with (first|(go_at_call 111;refine(Z.o).mono ?_;rintro e f1 ⟨rfl,c⟩;have t:=c.symm;subst t;clear c)|(go_at_call 143;refine(a7.o).mono ?_;rintro e f1 ⟨rfl,c⟩;have t:=c.symm;subst t;clear c));by_cases hB:X<=2147483647
     ·obtain rfl:B=true:=by rw[a0.o];exact Xt hB
      by_cases h6:y.gd=x.gd
      ·have h7:((y.gd:Int) != (x.gd:Int))=false:=by rw[xax];omega
       by_cases i2:y.place<x.place
       ·have k2:decide ((x.place:Int)<=(y.place:Int))=false:=xy (by omega);have g0:=zb (d4.o ⟨hB,h6,i2⟩);clear d4 H;have l9:y.gv+X<9223372036854775808:=by omega
        have l0:g+X<9223372036854775808:=by omega
        go_quiet (fail);go_wp2_with fail
        all_goals go_region
        all_goals go_wp2_with fail
        ·have k3:y.ex<u:=by omega
         refine⟨⟨k+1,y.ex,g+X,l.set j (Wf y X,fy),by omega,by push_cast;rfl,rfl,by push_cast;rfl,HI.o.step (by have:=HI.o.len;omega) d6.o (by have:=g0.o;rwa [Nat.min_eq_right (by omega)]at this) (by omega) hB (by omega) _⟩,?_⟩;simp only[intOf];omega
        have k3:u<=y.ex:=by omega
        refine⟨⟨k+1,u,g+X,l.set j (Wf y X,fy),by omega,by push_cast;rfl,rfl,by push_cast;rfl,HI.o.step (by have:=HI.o.len;omega) d6.o (by have:=g0.o;rwa [xcr (by omega)]at this) (by omega) hB (by omega) _⟩,?_⟩;simp only[intOf];omega
       have k2:decide ((x.place:Int)<=(y.place:Int))=true:=Xt (by omega);go_quiet (fail);go_wp2_with fail;go_ret;exact w.o (H.o (λhc=>i2 hc.2.2)) _ (XA (xm _ _) nq)
      have h7:((y.gd:Int) != (x.gd:Int))=true:=by rw[Yh];omega
      go_quiet (fail);go_wp2_with fail;go_ret;exact w.o (H.o (λhc=>h6 hc.2.1)) _ (XA (xm _ _) nq)
     obtain rfl:B=false:=by rw[a0.o];exact xy hB
     have i9:=zb (H.o (λhc=>hB hc.1));clear hB H d4 J b3 Z a7 a0 y1 y2 y3 y9 f9 v1 v2 v3 v4 v5 v6 v7 v8 v9 i5 h9 h1;go_quiet (fail);go_wp2_with fail;go_ret;exact w.o i9.o _ (XA (xm _ _) nq)
    have b9:Ha (VF (l.map Prod.fst) p1=-1):=by unfold Ha VF;rw[xg (by omega)]
    rw[b9.o]at Z;have H:Ha (Q=none):=by
     rw[Ha,<-n.o,VY,xg];rintro⟨q1,_⟩;exact hf (by rw[<-i1];exact q1)
    clear d d9 f0 n;obtain⟨B,a0⟩:∃B:Bool,Ha (B=decide (X<=2147483647)):=⟨_,rfl⟩
    rw[<-a0.o]at a7;go_wp2_with (first|(go_at_call 111;refine(Z.o).mono ?_;rintro e f1 ⟨rfl,c⟩;have t:=c.symm;subst t;clear c)|(go_at_call 143;refine(a7.o).mono ?_;rintro e f1 ⟨rfl,c⟩;have t:=c.symm;subst t;clear c));go_quiet (fail);go_wp2_with fail;go_ret;exact w.o H.o _ (XA (xm _ _) nq)
   have k0:k=A:=by omega
   subst k0;have j6:x.par.drop k=[]:=xbj (by rw[<-F.o];exact xe _);have g1:Ha (Q=some (l.map Prod.fst,u,g)):=by rw[Ha,<-d.run,j6];rfl
   have k4:=d.ub;have j8:=d.gb;clear d;by_cases d8:k=0
   ·have w:Ha (PE w0 W S td (.slice (some ⟨G,0,none⟩) n0 cap) xs ov os lvs rv rj R (.returned (.bool true)) wr):=by
     rw[Ha,b5.o,g1.o];simp only[xk];rw[xh (by rw[<-F.o];exact d8)];exact⟨rfl,l,rfl,HI.o.snd,HI.o.rw⟩
    subst d8;go_wp2_with fail;go_ret;exact w.o
   have l2:decide ((0:Int)<(k:Int))=true:=Xt (by omega);have j0:Ha (R=if u=x.ex then some ((l.map Prod.fst).set i { (l.map Prod.fst).getD i L0 with got:=g }) else none):=by
    rw[Ha,b5.o,g1.o];simp only[xk];rw[xg (by rw[<-F.o];exact d8)]
   obtain⟨cg,a1⟩:=zh HI.o.rw.row (g:=G) rfl;have f4:=ze a1 (i*11+4);have m0:(i:Int)<(n0:Int):=by omega
   have l1:(0:Int)<=(i:Int):=by omega
   have g9:=zc a1;have j9:i<l.length:=by rw[HI.o.len];exact i0
   obtain⟨a',g7,K,b1,s⟩:=HI.o.rw.shape;obtain⟨G',a9,k8,C⟩:=s (by omega);have d7:G'=G:=by
    rw[a9]at K;injection K with N e2 e3
    injection N with N
    injection N with N
    exact N.symm
   subst d7;have c4:wr.cell? ⟨G',i*11+4,none⟩=some (.int .i64 ((l.getD i (L0,default)).1.got:Int)):=C i j9 4 (by omega);have k1:=HI.o.ne;have l3:=Yl k1;clear a1 C s b1 K a9;go_wp2_with fail;go_ret;have HF:=HI.o.got (W:=W) i0 (xm _ _) x.ex;rw[<-j0.o]at HF;exact HF
 have d5:Ha (R=none):=z.o (λhh=>h2 (by rw[F.o];exact hh.1));have w:Ha (PE w0 W S td (.slice (some ⟨G,0,none⟩) n0 cap) xs ov os lvs rv rj R (.returned (.bool false)) D):=by rw[Ha,d5.o];exact⟨rfl,xs,rfl,b4.o⟩
 go_wp2_with fail;go_ret
 exact w.o
end
