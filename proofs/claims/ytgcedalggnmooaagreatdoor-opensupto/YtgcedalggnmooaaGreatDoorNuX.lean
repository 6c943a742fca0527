import Derived.Test.YtgcedalggnmooaaGreatDoorRs1X
set_option linter.all false
set_option maxRecDepth 100000
set_option maxHeartbeats 6400000
namespace Go.Proofs.YtgcedalggnmooaaGreatDoor
open Go.RowKit
open Tryz
theorem aU{xs:List (L×Value)}{i:Nat}(a:i<xs.length):(xs.map Prod.fst).getD i L0=(xs.getD i (L0,default)).1:=by simp[Uv,a]
theorem eE{xs:List (L×Value)}{i:Nat}(a:i<xs.length):xs.getD i (L0,default)∈xs:=by simp[Uv,a]
section
variable {w0 W:World}{S:Nat}{td:Nat}{v:Value}{xs:List (L×Value)}{ov:Value}{os:List O}{lvs:List Value}{rv:Value}{rj:List (Nat×Nat)}
theorem RW.shape(h:RW w0 W S td v xs ov os lvs rv rj):∃a cap,v=.slice a xs.length cap/\W.cell? ⟨S,1,none⟩=some (.slice a xs.length cap)/\(0<xs.length->∃G,a=some ⟨G,0,none⟩/\G<W.heap.size/\∀j,j<xs.length->∀f,f<11->W.cell? ⟨G,j*11+f,none⟩=(zp (xs.getD j (L0,default)).1 (xs.getD j (L0,default)).2)[f]?):=by
 obtain⟨a,cap,d⟩:=zm h.row;refine⟨a,cap,d,by rw[za h.box,d];rfl,λk=>?_⟩;have c:=h.row;rw[d]at c;obtain⟨G,l,e,_,b⟩:=ZE c k
 cases e;exact⟨G,rfl,b,λj i f g=>AC c rfl (xh _ _) i g⟩
theorem BP(h:RW w0 W S td v xs ov os lvs rv rj)(z:∀x∈xs,Wl x)(F:xs.length<=4194304)(n:Nat)(H:n<9223372036854775808):Calls prog 111 #[.pointer (some ⟨S,0,none⟩),.int .i64 n] W λe w'=>e=.returned (.int .i64 (Ua (xs.map Prod.fst) n))/\w'=W:=by
 obtain⟨a,cap,C,c1,d⟩:=h.shape;have B:=zb z;clear h C z;have g:Ha ((xs.map Prod.fst).length=xs.length):=Xl ..;go_enter func111,ntmps111;go_wp2_with fail;go_loop [5] (λi=>∃k:Nat,k<=xs.length/\i=.int .i64 k/\(∀j,j<k->((xs.map Prod.fst).getD j L0).id≠n)) (λi=>xs.length-(intOf i).toNat)
 case atStart=>exact⟨0,by omega,rfl,λj h=>absurd h (by omega)⟩
 obtain⟨k,E,rfl,f⟩:=hrel;by_cases b:k<xs.length
 ·obtain⟨G,w,_,c⟩:=d (by omega);rw[w]at c1;have r:W.cell? ⟨G,k*11,none⟩=some (.int .i64 (((xs.map Prod.fst).getD k L0).id:Int)):=by rw[aU b];exact c k b 0 (by omega)
  have s:((xs.map Prod.fst).getD k L0).id<9223372036854775808:=by rw[aU b];exact(B.o _ (eE b)).1.1
  obtain⟨m,q⟩:=UM (((xs.map Prod.fst).getD k L0).id);rw[<-q.o]at r s;clear c w d;by_cases l:m=n
  ·have u:=aO l;have p:Ha (Ua (xs.map Prod.fst) n=(k:Int)):=by
    have:=eJ (by rw[g.o];exact b) f (by rw[<-q.o];exact l)
    unfold Ha Ua;rw[this,xe (by rw[g.o];exact b)]
   clear l;go_wp2_with fail;go_ret;exact⟨by rw[p.o];rfl,rfl⟩
  have u:=ZG l;have A:=zb l;clear l;go_wp2_with fail;go_round
  case rel=>
   refine⟨k+1,by omega,by go_num,?_⟩;intro j D;by_cases t:j=k
   ·subst t;rw[<-q.o];exact A.o
   exact f j (by omega)
  simp[intOf];omega
 obtain rfl:k=xs.length:=by omega
 have p:Ha (Ua (xs.map Prod.fst) n=-1):=by
  unfold Ha Ua;rw[xg (λy=>f (UB n (xs.map Prod.fst)) (by rw[<-g.o];exact y) (Zu y))]
 clear f d b;go_wp2_with fail;go_ret;exact⟨by rw[p.o];rfl,rfl⟩
def TB(ls:List L)(i:Nat)(x:L):Prop:=(1<=x.id/\x.id<=2147483647)/\(1<=x.gd/\x.gd<=2147483647)/\x.ex<=2147483647/\x.free<=2147483647/\x.hd<=2147483647/\x.sh<=2147483647/\x.sc<=2147483647/\x.got<=2147483647/\UB x.id ls=i
theorem AI(h:RW w0 W S td v xs ov os lvs rv rj)(hw:∀x∈xs,Wl x)(hl:xs.length<=4194304):Calls prog 89 #[.pointer (some ⟨S,0,none⟩)] W λe w'=>(∃x,e=.returned (.bool x)/\(x=true↔NumP (xs.map Prod.fst)))/\Below W.heap.size W w':=by
 obtain⟨a,cap,hv,b1,Q⟩:=h.shape;have b2:=zc h.box;have HW:=zb hw;have a0:Ha (∀(u:World),Below W.heap.size W u->∀(n:Nat),n<9223372036854775808->Calls prog 111 #[.pointer (some ⟨S,0,none⟩),.int .i64 n] u λe w'=>e=.returned (.int .i64 (Ua (xs.map Prod.fst) n))/\w'=u):=by
  intro u hx n hn;have h':=h.below hx;exact BP h' hw hl n hn
 have X:Ha (∀n:Nat,n<9223372036854775808->∀u,Calls prog 67 #[.int .u8 105,.int .i64 n] u λe w'=>e=.returned (.bool (Pl.mayB 105 n))/\w'=u):=λn hn u=>by have hx:=qG 105 n hn u;rw[show((105:UInt8).toNat:Int)=105 from rfl]at hx;exact hx
 have a3:Ha (∀n:Nat,n<9223372036854775808->∀u,Calls prog 67 #[.int .u8 100,.int .i64 n] u λe w'=>e=.returned (.bool (Pl.mayB 100 n))/\w'=u):=λn hn u=>by have hx:=qG 100 n hn u;rw[show((100:UInt8).toNat:Int)=100 from rfl]at hx;exact hx
 have w:=zb rB;have a5:Ha (NumP (xs.map Prod.fst)↔∀i,i<xs.length->TB (xs.map Prod.fst) i (xs.getD i (L0,default)).1):=by
  unfold Ha NumP TB;rw[Xl];constructor
  ·intro J i hi;have:=J i hi;rw[aU hi]at this;exact this
  intro J i hi;rw[aU hi];exact J i hi
 clear h hv hw;go_enter func89,ntmps89;go_wp2_with fail;go_loopw [3,4,5,6,7,8,9,10,11,12,13] (λii _ _ _ _ _ _ _ _ _ _ wr=>∃k:Nat,k<=xs.length/\ii=.int .i64 k/\(∀i,i<k->TB (xs.map Prod.fst) i (xs.getD i (L0,default)).1)/\Below W.heap.size W wr) (λii _ _ _ _ _ _ _ _ _ _ _=>xs.length-(intOf ii).toNat)
 case atStart=>exact⟨0,by omega,rfl,λi hi=>by omega,xh _ _⟩
 obtain⟨k,hk,rfl,P,d⟩:=hrel;have d1:wr.cell? ⟨S,1,none⟩=some (.slice a xs.length cap):=(d.cell (p:=⟨S,1,none⟩) b2).trans b1;by_cases N:k<xs.length
 ·obtain⟨G,hG,m,t⟩:=Q (by omega);subst hG;have b5:=HW.o _ (eE N);have g:Ha (∀f,f<11->W.cell? ⟨G,k*11+f,none⟩=(zp (xs.getD k (L0,default)).1 (xs.getD k (L0,default)).2)[f]?):=λf hf=>t k N f hf
  have Z:=zb P;have a7:Ha ((∀i,i<k+1->TB (xs.map Prod.fst) i (xs.getD i (L0,default)).1)↔TB (xs.map Prod.fst) k (xs.getD k (L0,default)).1):=⟨λJ=>J k (by omega),λJ i hi=>by
   by_cases e:i=k
   ·subst e;exact J
   exact Z.o i (by omega)⟩
  have a4:Ha (NumP (xs.map Prod.fst)->TB (xs.map Prod.fst) k (xs.getD k (L0,default)).1):=λJ=>a5.o.1 J k N
  generalize xs.getD k (L0,default)=xv at *;obtain⟨x,fv⟩:=xv;obtain⟨⟨w1,w2,w3,w4,w5,w6,w7,w8,w9,b6⟩,fa,fn,fc,a9⟩:=b5;simp only at a9 g a7 a4 w1 w2 w3 w4 w5 w6 w7 w8 w9 b6;subst a9;have c0:wr.cell? ⟨G,k*11,none⟩=some (.int .i64 x.id):=(d.cell (p:=⟨G,k*11,none⟩) m).trans (g.o 0 (by omega));have c1:wr.cell? ⟨G,k*11+1,none⟩=some (.int .i64 x.gd):=(d.cell (p:=⟨G,k*11+1,none⟩) m).trans (g.o 1 (by omega));have c2:wr.cell? ⟨G,k*11+2,none⟩=some (.int .i64 x.ex):=(d.cell (p:=⟨G,k*11+2,none⟩) m).trans (g.o 2 (by omega));have c3:wr.cell? ⟨G,k*11+3,none⟩=some (.int .i64 x.place):=(d.cell (p:=⟨G,k*11+3,none⟩) m).trans (g.o 3 (by omega));have c4:wr.cell? ⟨G,k*11+4,none⟩=some (.int .i64 x.got):=(d.cell (p:=⟨G,k*11+4,none⟩) m).trans (g.o 4 (by omega));have c5:wr.cell? ⟨G,k*11+5,none⟩=some (.int .i64 x.free):=(d.cell (p:=⟨G,k*11+5,none⟩) m).trans (g.o 5 (by omega));have c6:wr.cell? ⟨G,k*11+6,none⟩=some (.int .i64 x.hd):=(d.cell (p:=⟨G,k*11+6,none⟩) m).trans (g.o 6 (by omega));have c7:wr.cell? ⟨G,k*11+7,none⟩=some (.int .i64 x.sh):=(d.cell (p:=⟨G,k*11+7,none⟩) m).trans (g.o 7 (by omega));have c8:wr.cell? ⟨G,k*11+8,none⟩=some (.int .i64 x.sc):=(d.cell (p:=⟨G,k*11+8,none⟩) m).trans (g.o 8 (by omega));have c9:wr.cell? ⟨G,k*11+9,none⟩=some (.int .i64 x.gv):=(d.cell (p:=⟨G,k*11+9,none⟩) m).trans (g.o 9 (by omega));have b0:wr.cell? ⟨G,k*11+10,none⟩=some (.slice fa fn fc):=(d.cell (p:=⟨G,k*11+10,none⟩) m).trans (g.o 10 (by omega));have K:=zb d;clear t P d g;go_wp2_with fail;have s:=zb (xo wr (.cells #[.int .i64 x.id,.int .i64 x.gd,.int .i64 x.ex,.int .i64 x.place,.int .i64 x.got,.int .i64 x.free,.int .i64 x.hd,.int .i64 x.sh,.int .i64 x.sc,.int .i64 x.gv,.slice fa fn fc] 129));have z:=zb (K.o.alloc K.o.size (.cells #[.int .i64 x.id,.int .i64 x.gd,.int .i64 x.ex,.int .i64 x.place,.int .i64 x.got,.int .i64 x.free,.int .i64 x.hd,.int .i64 x.sh,.int .i64 x.sc,.int .i64 x.gv,.slice fa fn fc] 129));obtain⟨y,a2⟩:=UM wr.heap.size;obtain⟨l,a6⟩:∃l,Ha (l=wr.alloc (.cells #[.int .i64 x.id,.int .i64 x.gd,.int .i64 x.ex,.int .i64 x.place,.int .i64 x.got,.int .i64 x.free,.int .i64 x.hd,.int .i64 x.sh,.int .i64 x.sc,.int .i64 x.gv,.slice fa fn fc] 129)):=⟨_,rfl⟩
  rw[<-a6.o]at s z ⊢;rw[<-a2.o]at s ⊢;have j:Ha (l.heap[y]?=some (.cells #[.int .i64 x.id,.int .i64 x.gd,.int .i64 x.ex,.int .i64 x.place,.int .i64 x.got,.int .i64 x.free,.int .i64 x.hd,.int .i64 x.sh,.int .i64 x.sc,.int .i64 x.gv,.slice fa fn fc] 129)):=s.o;have R:=zb z.o;clear s z a6 a2 c0 c1 c2 c3 c4 c5 c6 c7 c8 c9 b0;have e0:l.cell? ⟨y,0,none⟩=some (.int .i64 x.id):=by rw[za j.o];rfl
  have e1:l.cell? ⟨y,1,none⟩=some (.int .i64 x.gd):=by rw[za j.o];rfl
  have e2:l.cell? ⟨y,2,none⟩=some (.int .i64 x.ex):=by rw[za j.o];rfl
  have e3:l.cell? ⟨y,3,none⟩=some (.int .i64 x.place):=by rw[za j.o];rfl
  have e4:l.cell? ⟨y,4,none⟩=some (.int .i64 x.got):=by rw[za j.o];rfl
  have e5:l.cell? ⟨y,5,none⟩=some (.int .i64 x.free):=by rw[za j.o];rfl
  have e6:l.cell? ⟨y,6,none⟩=some (.int .i64 x.hd):=by rw[za j.o];rfl
  have e7:l.cell? ⟨y,7,none⟩=some (.int .i64 x.sh):=by rw[za j.o];rfl
  have e8:l.cell? ⟨y,8,none⟩=some (.int .i64 x.sc):=by rw[za j.o];rfl
  have e9:l.cell? ⟨y,9,none⟩=some (.int .i64 x.gv):=by rw[za j.o];rfl
  have b7:l.cell? ⟨y,10,none⟩=some (.slice fa fn fc):=by rw[za j.o];rfl
  obtain⟨A,HA⟩:∃q:Bool,Ha (q=Pl.mayB 105 x.id):=⟨_,rfl⟩
  have KA:=zb (X.o x.id w1 l);rw[<-HA.o]at KA;obtain⟨B,HB⟩:∃q:Bool,Ha (q=Pl.mayB 105 x.gd):=⟨_,rfl⟩
  have KB:=zb (X.o x.gd w2 l);rw[<-HB.o]at KB;obtain⟨C,HC⟩:∃q:Bool,Ha (q=Pl.mayB 100 x.ex):=⟨_,rfl⟩
  have KC:=zb (a3.o x.ex w3 l);rw[<-HC.o]at KC;obtain⟨D,HD⟩:∃q:Bool,Ha (q=decide (x.free<=2147483647)):=⟨_,rfl⟩
  have KD:=zb (w.o x.free w6 l);rw[<-HD.o]at KD;obtain⟨E,HE⟩:∃q:Bool,Ha (q=decide (x.hd<=2147483647)):=⟨_,rfl⟩
  have KE:=zb (w.o x.hd w7 l);rw[<-HE.o]at KE;obtain⟨F,HF⟩:∃q:Bool,Ha (q=decide (x.sh<=2147483647)):=⟨_,rfl⟩
  have KF:=zb (w.o x.sh w8 l);rw[<-HF.o]at KF;obtain⟨G1,T⟩:∃q:Bool,Ha (q=decide (x.sc<=2147483647)):=⟨_,rfl⟩
  have a8:=zb (w.o x.sc w9 l);rw[<-T.o]at a8;obtain⟨H,HH⟩:∃q:Bool,Ha (q=decide (x.got<=2147483647)):=⟨_,rfl⟩
  have KH:=zb (w.o x.got w5 l);rw[<-HH.o]at KH;obtain⟨tv,M⟩:∃q:Int,Ha (q=Ua (xs.map Prod.fst) x.id):=⟨_,rfl⟩
  have KT:=zb (a0.o l R.o x.id w1);rw[<-M.o]at KT;have a1:Ha (TB (xs.map Prod.fst) k x↔(A=true/\B=true/\C=true/\D=true/\E=true/\F=true/\G1=true/\H=true/\tv=(k:Int))):=by
   unfold Ha TB;rw[HA.o,HB.o,HC.o,HD.o,HE.o,HF.o,T.o,HH.o,M.o];have b3:UB x.id (xs.map Prod.fst)=k↔Ua (xs.map Prod.fst) x.id=(k:Int):=by
    unfold Ua;have b4:(xs.map Prod.fst).length=xs.length:=Xl ..;constructor
    ·intro e;rw[e,xe (by omega)]
    intro e;split at e<;>omega
   rw[b3];simp[Pl.mayB,and_assoc]
  have b8:-1<=tv/\tv<9223372036854775807:=by
   rw[M.o];unfold Ua;have b4:(xs.map Prod.fst).length=xs.length:=Xl ..;split<;>omega
  clear X a3 w a0 HA HB HC HD HE HF T HH M;go_wp2_with (first|(go_at_call 67;with_reducible refine(KA.o).mono ?_;rintro e r ⟨rfl,b⟩;have c:=b.symm;subst c;clear b)|(go_at_call 67;with_reducible refine(KB.o).mono ?_;rintro e r ⟨rfl,b⟩;have c:=b.symm;subst c;clear b)|(go_at_call 67;with_reducible refine(KC.o).mono ?_;rintro e r ⟨rfl,b⟩;have c:=b.symm;subst c;clear b)|(go_at_call 143;with_reducible refine(KD.o).mono ?_;rintro e r ⟨rfl,b⟩;have c:=b.symm;subst c;clear b)|(go_at_call 143;with_reducible refine(KE.o).mono ?_;rintro e r ⟨rfl,b⟩;have c:=b.symm;subst c;clear b)|(go_at_call 143;with_reducible refine(KF.o).mono ?_;rintro e r ⟨rfl,b⟩;have c:=b.symm;subst c;clear b)|(go_at_call 143;with_reducible refine(a8.o).mono ?_;rintro e r ⟨rfl,b⟩;have c:=b.symm;subst c;clear b)|(go_at_call 143;with_reducible refine(KH.o).mono ?_;rintro e r ⟨rfl,b⟩;have c:=b.symm;subst c;clear b)|(go_at_call 111;with_reducible refine(KT.o).mono ?_;rintro e r ⟨rfl,b⟩;have c:=b.symm;subst c;clear b))
  all_goals first
   |(go_ret;exact⟨⟨false,rfl,λh=>(by cases h),λJ=>(by rcases a1.o.1 (a4.o J) with ⟨q1,q2,q3,q4,q5,q6,q7,q8,q9⟩;simp_all)⟩,R.o⟩)
   |(refine⟨⟨k+1,by omega,by go_num,a7.o.2 (a1.o.2 ⟨by assumption,by assumption,by assumption,by assumption,by assumption,by assumption,by assumption,by assumption,(by have hz:(tv != (k:Int))=false:=(by assumption);simpa using hz)⟩),R.o⟩,?_⟩;simp[intOf];omega)
 obtain rfl:k=xs.length:=by omega
 have K:=zb d;have Z:=zb P;clear d P Q N;go_wp2_with fail;go_ret;exact⟨⟨true,rfl,λ_=>a5.o.2 Z.o,λ_=>rfl⟩,K.o⟩
end
def NC(x:L):Prop:=x.got<=2147483647/\x.gv<=2147483647/\1<=x.got/\x.got=x.free+x.hd+x.sh+x.sc+x.gv
section
variable {w0 W:World}{S:Nat}{td:Nat}{v:Value}{xs:List (L×Value)}{ov:Value}{os:List O}{lvs:List Value}{rv:Value}{rj:List (Nat×Nat)}
theorem yN(h:RW w0 W S td v xs ov os lvs rv rj)(hw:∀x∈xs,Wl x)(hl:xs.length<=4194304)(a1:∀x∈xs,x.1.free<=2147483647/\x.1.hd<=2147483647/\x.1.sh<=2147483647/\x.1.sc<=2147483647/\x.1.gv<1099511627776):Calls prog 91 #[.pointer (some ⟨S,0,none⟩)] W λe w'=>(∃x,e=.returned (.bool x)/\(x=true↔QH (xs.map Prod.fst)))/\Below W.heap.size W w':=by
 obtain⟨a,cap,hv,a6,D⟩:=h.shape;have a7:=zc h.box;have HW:=zb hw;have K:=zb rB;have a4:=zb a1;have T:Ha (QH (xs.map Prod.fst)↔∀i,i<xs.length->NC (xs.getD i (L0,default)).1):=by
  unfold Ha QH NC;rw[Xl];constructor
  ·intro r i M;have:=r i M;rw[aU M]at this;exact this
  intro r i M;rw[aU M];exact r i M
 clear h hv hw a1;go_enter func91,ntmps91;go_wp2_with fail;go_loopw [3,4,5,6] (λii _ _ _ wr=>∃k:Nat,k<=xs.length/\ii=.int .i64 k/\(∀i,i<k->NC (xs.getD i (L0,default)).1)/\Below W.heap.size W wr) (λii _ _ _ _=>xs.length-(intOf ii).toNat)
 case atStart=>exact⟨0,by omega,rfl,λi M=>by omega,xh _ _⟩
 obtain⟨k,hk,rfl,C,b⟩:=hrel;have d1:wr.cell? ⟨S,1,none⟩=some (.slice a xs.length cap):=(b.cell (p:=⟨S,1,none⟩) a7).trans a6;by_cases u:k<xs.length
 ·obtain⟨G,hG,g,n⟩:=D (by omega);subst hG;have a8:=HW.o _ (eE u);have a2:=a4.o _ (eE u);have c:Ha (∀f,f<11->W.cell? ⟨G,k*11+f,none⟩=(zp (xs.getD k (L0,default)).1 (xs.getD k (L0,default)).2)[f]?):=λf hf=>n k u f hf
  have J:=zb C;have Z:Ha ((∀i,i<k+1->NC (xs.getD i (L0,default)).1)↔NC (xs.getD k (L0,default)).1):=⟨λr=>r k (by omega),λr i M=>by
   by_cases e:i=k
   ·subst e;exact r
   exact J.o i (by omega)⟩
  have H:Ha (QH (xs.map Prod.fst)->NC (xs.getD k (L0,default)).1):=λr=>T.o.1 r k u
  generalize xs.getD k (L0,default)=xv at *;obtain⟨x,fv⟩:=xv;obtain⟨⟨w1,w2,w3,w4,w5,w6,w7,w8,w9,a3⟩,N,Q,P,a0⟩:=a8;simp only at a0 c Z H a2 w1 w2 w3 w4 w5 w6 w7 w8 w9 a3;subst a0;have c0:wr.cell? ⟨G,k*11,none⟩=some (.int .i64 x.id):=(b.cell (p:=⟨G,k*11,none⟩) g).trans (c.o 0 (by omega));have c1:wr.cell? ⟨G,k*11+1,none⟩=some (.int .i64 x.gd):=(b.cell (p:=⟨G,k*11+1,none⟩) g).trans (c.o 1 (by omega));have c2:wr.cell? ⟨G,k*11+2,none⟩=some (.int .i64 x.ex):=(b.cell (p:=⟨G,k*11+2,none⟩) g).trans (c.o 2 (by omega));have c3:wr.cell? ⟨G,k*11+3,none⟩=some (.int .i64 x.place):=(b.cell (p:=⟨G,k*11+3,none⟩) g).trans (c.o 3 (by omega));have c4:wr.cell? ⟨G,k*11+4,none⟩=some (.int .i64 x.got):=(b.cell (p:=⟨G,k*11+4,none⟩) g).trans (c.o 4 (by omega));have c5:wr.cell? ⟨G,k*11+5,none⟩=some (.int .i64 x.free):=(b.cell (p:=⟨G,k*11+5,none⟩) g).trans (c.o 5 (by omega));have c6:wr.cell? ⟨G,k*11+6,none⟩=some (.int .i64 x.hd):=(b.cell (p:=⟨G,k*11+6,none⟩) g).trans (c.o 6 (by omega));have c7:wr.cell? ⟨G,k*11+7,none⟩=some (.int .i64 x.sh):=(b.cell (p:=⟨G,k*11+7,none⟩) g).trans (c.o 7 (by omega));have c8:wr.cell? ⟨G,k*11+8,none⟩=some (.int .i64 x.sc):=(b.cell (p:=⟨G,k*11+8,none⟩) g).trans (c.o 8 (by omega));have c9:wr.cell? ⟨G,k*11+9,none⟩=some (.int .i64 x.gv):=(b.cell (p:=⟨G,k*11+9,none⟩) g).trans (c.o 9 (by omega));have a5:wr.cell? ⟨G,k*11+10,none⟩=some (.slice N Q P):=(b.cell (p:=⟨G,k*11+10,none⟩) g).trans (c.o 10 (by omega));have y:=zb b;clear n C b c;go_wp2_with fail;have m:=zb (xo wr (.cells #[.int .i64 x.id,.int .i64 x.gd,.int .i64 x.ex,.int .i64 x.place,.int .i64 x.got,.int .i64 x.free,.int .i64 x.hd,.int .i64 x.sh,.int .i64 x.sc,.int .i64 x.gv,.slice N Q P] 129));have t:=zb (y.o.alloc y.o.size (.cells #[.int .i64 x.id,.int .i64 x.gd,.int .i64 x.ex,.int .i64 x.place,.int .i64 x.got,.int .i64 x.free,.int .i64 x.hd,.int .i64 x.sh,.int .i64 x.sc,.int .i64 x.gv,.slice N Q P] 129));obtain⟨s,R⟩:=UM wr.heap.size;obtain⟨l,X⟩:∃l,Ha (l=wr.alloc (.cells #[.int .i64 x.id,.int .i64 x.gd,.int .i64 x.ex,.int .i64 x.place,.int .i64 x.got,.int .i64 x.free,.int .i64 x.hd,.int .i64 x.sh,.int .i64 x.sc,.int .i64 x.gv,.slice N Q P] 129)):=⟨_,rfl⟩
  rw[<-X.o]at m t ⊢;rw[<-R.o]at m ⊢;have d:Ha (l.heap[s]?=some (.cells #[.int .i64 x.id,.int .i64 x.gd,.int .i64 x.ex,.int .i64 x.place,.int .i64 x.got,.int .i64 x.free,.int .i64 x.hd,.int .i64 x.sh,.int .i64 x.sc,.int .i64 x.gv,.slice N Q P] 129)):=m.o;have E:=zb t.o;clear m t X R c0 c1 c2 c3 c4 c5 c6 c7 c8 c9 a5;have e0:l.cell? ⟨s,0,none⟩=some (.int .i64 x.id):=by rw[za d.o];rfl
  have e1:l.cell? ⟨s,1,none⟩=some (.int .i64 x.gd):=by rw[za d.o];rfl
  have e2:l.cell? ⟨s,2,none⟩=some (.int .i64 x.ex):=by rw[za d.o];rfl
  have e3:l.cell? ⟨s,3,none⟩=some (.int .i64 x.place):=by rw[za d.o];rfl
  have e4:l.cell? ⟨s,4,none⟩=some (.int .i64 x.got):=by rw[za d.o];rfl
  have e5:l.cell? ⟨s,5,none⟩=some (.int .i64 x.free):=by rw[za d.o];rfl
  have e6:l.cell? ⟨s,6,none⟩=some (.int .i64 x.hd):=by rw[za d.o];rfl
  have e7:l.cell? ⟨s,7,none⟩=some (.int .i64 x.sh):=by rw[za d.o];rfl
  have e8:l.cell? ⟨s,8,none⟩=some (.int .i64 x.sc):=by rw[za d.o];rfl
  have e9:l.cell? ⟨s,9,none⟩=some (.int .i64 x.gv):=by rw[za d.o];rfl
  have b1:l.cell? ⟨s,10,none⟩=some (.slice N Q P):=by rw[za d.o];rfl
  obtain⟨A,HA⟩:∃q:Bool,Ha (q=decide (x.got<=2147483647)):=⟨_,rfl⟩
  have KA:=zb (K.o x.got w5 l);rw[<-HA.o]at KA;obtain⟨B,HB⟩:∃q:Bool,Ha (q=decide (x.gv<=2147483647)):=⟨_,rfl⟩
  have KB:=zb (K.o x.gv a3 l);rw[<-HB.o]at KB;have F:Ha (NC x↔(A=true/\B=true/\1<=x.got/\x.got=x.free+x.hd+x.sh+x.sc+x.gv)):=by
   unfold Ha NC;rw[HA.o,HB.o,Xv,Xv]
  clear K HA HB;obtain⟨u1,u2,u3,u4,u5⟩:=a2;go_wp2_with (first|(go_at_call 143;with_reducible refine(KA.o).mono ?_;rintro e b0 ⟨rfl,j⟩;have w:=j.symm;subst w;clear j)|(go_at_call 143;with_reducible refine(KB.o).mono ?_;rintro e b0 ⟨rfl,j⟩;have w:=j.symm;subst w;clear j))
  all_goals first
   |(go_ret;exact⟨⟨false,rfl,λh=>(by cases h),λr=>(by rcases F.o.1 (H.o r) with ⟨q1,q2,q3,q4⟩;first|contradiction|omega|(rename_i z;rcases z with z|z<;>first|omega|exact absurd (show(x.got:Int)=_ by omega) (yk.1 z)))⟩,E.o⟩)
   |(go_ret;exact⟨Or.inl ⟨rfl,λr=>(by rcases F.o.1 (H.o r) with ⟨q1,q2,q3,q4⟩;first|contradiction|omega|(rename_i z;rcases z with z|z<;>first|omega|exact absurd (show(x.got:Int)=_ by omega) (yk.1 z)))⟩,E.o⟩)
   |(refine⟨⟨k+1,by omega,by go_num,Z.o.2 (F.o.2 ⟨by assumption,by assumption,by omega,(by
     have hz:1<=(x.got:Int)/\((x.got:Int) != (x.free:Int)+x.hd+x.sh+x.sc+x.gv)=false:=(by assumption)
     have a9:=hz.2;rw[YO]at a9;omega)⟩),E.o⟩,?_⟩;simp[intOf];omega)
 obtain rfl:k=xs.length:=by omega
 have y:=zb b;have J:=zb C;clear b C D u;go_wp2_with fail;go_ret;exact⟨⟨true,rfl,λ_=>T.o.2 J.o,λ_=>rfl⟩,y.o⟩
end
theorem Ib(a:Value)(j:Nat)(c:j<11)(l':L)(ls:List L)(b:List Value)(i:Nat)(e:b.length=ls.length)(d:i<ls.length)(g:∀f,(zp (ls.getD i L0) f).set j a=zp l' f):(tJ ls b).set (i*11+j) a=tJ (ls.set i l') b:=by
 have h:=pL a a j j c c l' ls b i e d (λf=>by rw[List.set_set];exact g f);rw[List.set_set]at h;exact h
theorem OZ(xs:List (L×Value))(i j:Nat)(b:i<xs.length)(c:j<11)(a:Value)(l':L)(d:∀f,(zp (xs.getD i (L0,default)).1 f).set j a=zp l' f):(Un xs).set (i*11+j) a=Un (xs.set i (l',(xs.getD i (L0,default)).2)):=by
 unfold Un;rw[yu,yu,Ib a j c l' _ _ i (by simp) (by simpa using b) (λf=>by rw[aU b];exact d f)];congr 1;apply Yj;intro k;rw[Xd];by_cases e:i=k
 ·subst e;rw[xe rfl,xe (by simpa using b)];simp[Uv,b]
 rw[xg e]
variable {G cap:Nat}
section
variable {w0 W:World}{S:Nat}{td:Nat}{v:Value}{xs:List (L×Value)}{ov:Value}{os:List O}{lvs:List Value}{rv:Value}{rj:List (Nat×Nat)}
theorem RW.setL(h:RW w0 W S td (.slice (some ⟨G,0,none⟩) xs.length cap) xs ov os lvs rv rj){i j:Nat}(w:i<xs.length)(H:j<11){a:Value}{l':L}(K:∀f,(zp (xs.getD i (L0,default)).1 f).set j a=zp l' f)(J:l'.par=(xs.getD i (L0,default)).1.par):RW w0 (W.setCell ⟨G,i*11+j,none⟩ a) S td (.slice (some ⟨G,0,none⟩) xs.length cap) (xs.set i (l',(xs.getD i (L0,default)).2)) ov os lvs rv rj:=by
 have d:=h.row;obtain⟨N,v⟩:=zi d (g:=G) rfl;have F:=(d.lt G rfl).1;have z:=(d.stored (i*11+j) a).1;have r:∀b,b≠G->(W.setCell ⟨G,i*11+j,none⟩ a).heap[b]?=W.heap[b]?:=λb u=>xa _ _ _ _ u
 have s:∀(b:Nat) (l:Array Value) (t:TypeId),W.heap[b]?=some (.cells l t (0,0))->t≠129->(W.setCell ⟨G,i*11+j,none⟩ a).heap[b]?=W.heap[b]?:=λb l t u E=>r b (zw u v E)
 refine⟨h.bel.setCell (p:=⟨G,i*11+j,none⟩) F a,(s _ _ _ h.box (by decide)).trans h.box,h.slo,?_,λx n=>?_,ze h.orow (λg c=>by obtain⟨l,m⟩:=zi h.orow c;exact s g l _ m (by decide)),h.llen,λk B=>ze (h.lin k B) (λg c=>by obtain⟨l,m⟩:=zi (h.lin k B) c;exact s g l _ m (by decide)),ze h.rrow (λg c=>by obtain⟨l,m⟩:=zi h.rrow c;exact s g l _ m (by decide)),λg c=>⟨(h.apt g c).1,λf q e=>?_⟩⟩
 ·rw[xd,<-OZ xs i j w H a l' K];exact z
 ·have A:∃y∈xs,y.2=x.2/\y.1.par=x.1.par:=by
   rcases Xy n with n|rfl
   ·exact⟨x,n,rfl,rfl⟩
   exact⟨_,eE w,rfl,J.symm⟩
  obtain⟨y,M,C,D⟩:=A;have q:=h.frm y M;rw[C,D]at q;exact ze q (λg c=>by obtain⟨l,m⟩:=zi q c;exact s g l _ m (by decide))
 obtain⟨x,n,rfl⟩:=Xg.1 q;rcases Xy n with n|rfl
 ·exact(h.apt g c).2 _ (Xe n) e
 exact(h.apt g c).2 _ (Xe (eE w)) e
theorem qP{w:World}{B:Nat}{pv:Value}{ps:List (Nat×Nat)}(h:w.ownsRow B 181 2 pv ps.length (zA ps)):Prs 181 w pv ps:=by
 rcases h.2 with ⟨a,d⟩|⟨g,cap,b,a,d,c,i,k,l,m⟩
 ·exact Or.inl ⟨a,Xn.1 d⟩
 refine Or.inr ⟨g,cap,b,a,c,λj f=>?_⟩;have e:=cT (by rw[<-a];exact h) j f;rw[za c,za c]at e;rw[xaz 2 j];exact e
def On(w0 W:World)(S td:Nat)(v:Value)(xs:List (L×Value))(ov:Value)(os:List O)(lvs:List Value)(rv:Value)(rj:List (Nat×Nat))(R:Option (List L))(e:Ending)(w':World):Prop:=match R with
 |some ls'=>e=.returned (.bool true)/\∃xs',xs'.map Prod.fst=ls'/\xs'.map Prod.snd=xs.map Prod.snd/\RW w0 w' S td v xs' ov os lvs rv rj
 |none=>e=.returned (.bool false)/\∃xs',xs'.map Prod.snd=xs.map Prod.snd/\RW w0 w' S td v xs' ov os lvs rv rj
theorem JP(ps:List (Nat×Nat)):ps.Pairwise (λa b=>UY false a b=true)↔(ps.map Prod.fst).Pairwise (·<·):=by
 rw[yi];constructor
 ·exact λh=>h.imp (λh=>by simp[UY,bH]at h;omega)
 exact λh=>h.imp (λh=>by simp[UY,bH];omega)
structure FyI(n0:Nat)(w0:World)(S td G cap lb:Nat)(x:L)(fa:Option Addr)(fn fc:Nat)(xs:List (L×Value))(ov:Value)(os:List O)(lvs:List Value)(rv:Value)(rj:List (Nat×Nat))(Q:Option (List L×Nat×Nat))(k u g:Nat)(ys:List (L×Value))(wr:World):Prop where
 rw:RW w0 wr S td (.slice (some ⟨G,0,none⟩) n0 cap) ys ov os lvs rv rj
 len:ys.length=n0
 snd:ys.map Prod.snd=xs.map Prod.snd
 run:Ur x (x.par.drop k) u g (ys.map Prod.fst)=Q
 box:wr.heap[lb]?=some (.cells #[.int .i64 x.id,.int .i64 x.gd,.int .i64 x.ex,.int .i64 x.place,.int .i64 x.got,.int .i64 x.free,.int .i64 x.hd,.int .i64 x.sh,.int .i64 x.sc,.int .i64 x.gv,.slice fa fn fc] 129 (0,0))
 frm:wr.ownsRow w0.heap.size 181 2 (.slice fa fn fc) x.par.length (zA x.par)
 ub:u<=2147483648
 gb:g<=k*2147483647
 sm:∀y∈ys,Wl y/\y.1.gv<=1000000000000+k*2147483647/\y.1.ex<=2147483647
 ne:G≠lb
end
section
variable {w0 W:World}{S:Nat}{td:Nat}{v:Value}{xs:List (L×Value)}{ov:Value}{os:List O}{lvs:List Value}{rv:Value}{rj:List (Nat×Nat)}
theorem FyI.step{M v:Nat}{x:L}{F:Option Addr}{J H:Nat}{Q:Option (List L×Nat×Nat)}{k u g:Nat}{q:List (L×Value)}{wr:World}(h:FyI M w0 S td G cap v x F J H xs ov os lvs rv rj Q k u g q wr){j:Nat}(w:j<q.length){y:L}{r:Value}(m:(y,r)=q.getD j (L0,default)){D d:Nat}(X:Ur x (x.par.drop (k+1)) D (g+d) ((q.set j (Ux y d,r)).map Prod.fst)=Q)(Z:D<=2147483648)(hp:d<=2147483647)(hk:k<=4194304)(nq:Nat):FyI M w0 S td G cap v x F J H xs ov os lvs rv rj Q (k+1) D (g+d) (q.set j (Ux y d,r)) ((wr.drewN nq).setCell ⟨G,j*11+9,none⟩ (.int .i64 ((y.gv:Int)+(d:Int)))):=by
 have n:Below wr.heap.size wr (wr.drewN nq):=Xf (xh _ _) nq;have t:=h.rw.below n;have s:=zh h.frm n;have A:(wr.drewN nq).heap[v]?=_:=(n.block v (zc h.box)).trans h.box;obtain⟨cg,B⟩:=zi t.row (g:=G) rfl;have l:∀b,b≠G->((wr.drewN nq).setCell ⟨G,j*11+9,none⟩ (.int .i64 ((y.gv:Int)+(d:Int)))).heap[b]?=(wr.drewN nq).heap[b]?:=λb P=>xa _ _ _ _ P
 have p:=h.len;have W:(y,r)∈q:=by rw[m];exact eE w
 have K:=RW.setL (i:=j) (j:=9) (a:=.int .i64 ((y.gv:Int)+(d:Int))) (l':=Ux y d) (by rw[p];exact t) w (by omega) (λf=>by rw[<-m];simp[zp,Ux]) (by rw[<-m];rfl);rw[<-m,p]at K;refine⟨K,by rw[xd];exact p,?_,X,(l v (XZ h.ne)).trans A,ze s (λg T=>by obtain⟨cs,R⟩:=zi s T;exact l g (zw R B (by decide))),Z,by have:=h.gb;omega,λz C=>?_,h.ne⟩
 ·rw[<-h.snd,yu];apply Yj;intro i;rw[Xd];by_cases e:j=i
  ·subst e;rw[xe rfl,xe (by simpa using w)];simp only[xaf];rw[Uv]at m;rw[xi w]at m ⊢;simp only[Xw]at m;rw[XK,<-m]
  rw[xg e]
 rcases Xy C with C|rfl
 ·obtain⟨a,b,c⟩:=h.sm z C;refine⟨a,xj b ?_,c⟩;omega
 obtain⟨a,b,c⟩:=h.sm _ W;obtain⟨⟨v1,v2,v3,v4,v5,v6,v7,v8,v9,a0⟩,N⟩:=a;have b':y.gv<=1000000000000+k*2147483647:=b;have E:(Ux y d,r).1.gv=y.gv+d:=rfl;refine⟨⟨⟨v1,v2,v3,v4,v5,v6,v7,v8,v9,?_⟩,N⟩,?_,c⟩
 ·rw[E];omega
 rw[E];omega
theorem FyI.got{n G cap v:Nat}{x:L}{p:Option Addr}{r q:Nat}{Q:Option (List L×Nat×Nat)}{k u g:Nat}{b:List (L×Value)}{wr:World}(h:FyI n w0 S td G cap v x p r q xs ov os lvs rv rj Q k u g b wr){i:Nat}(w:i<n){w1:World}(s:Below wr.heap.size wr w1)(E:Nat):On w0 W S td (.slice (some ⟨G,0,none⟩) n cap) xs ov os lvs rv rj (if u=E then some ((b.map Prod.fst).set i { (b.map Prod.fst).getD i L0 with got:=g }) else none) (.returned (.bool ((u:Int)==(E:Int)))) (w1.setCell ⟨G,i*11+4,none⟩ (.int .i64 g)):=by
 have c:=h.len;have l:i<b.length:=by omega
 have m:=RW.setL (i:=i) (j:=4) (a:=.int .i64 g) (l':={ (b.getD i (L0,default)).1 with got:=g }) (by rw[c];exact h.rw.below s) l (by omega) (λf=>by simp[zp]) rfl;rw[c]at m;have d:(b.set i ({ (b.getD i (L0,default)).1 with got:=g },(b.getD i (L0,default)).2)).map Prod.snd=xs.map Prod.snd:=by
  rw[<-h.snd,yu];apply Yj;intro t;rw[Xd];by_cases e:i=t
  ·subst e;rw[xe rfl,xe (by simpa using l)];simp[Uv,l]
  rw[xg e]
 by_cases e:u=E
 ·rw[xe e];refine⟨by rw[e];simp,_,?_,d,m⟩;rw[yu,aU l]
 rw[xg e];refine⟨?_,_,d,m⟩;have:((u:Int)==(E:Int))=false:=xp.2 (by omega);rw[this]
end
