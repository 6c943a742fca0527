import Derived.Test.YtgcedalggnmooaaGreatDoorRefAX
set_option linter.all false
set_option maxRecDepth 100000
set_option maxHeartbeats 1600000
namespace Go.Proofs.YtgcedalggnmooaaGreatDoor
open Go.RowKit
open Tryz
def oZ(b:UInt8)(m:Nat):Bool:=b.toNat / 2^(7-m)%2==1
def ZQ(b:UInt8):List Bool:=(List.range 8).map (oZ b)
def bV(l:List UInt8):List Bool:=l.flatMap ZQ
theorem dK(b:UInt8):(ZQ b).length=8:=by simp[ZQ]
theorem dS(l:List UInt8):(bV l).length=8*l.length:=by
 induction l with
 |nil=>rfl
 |cons b r ih=>
  show(ZQ b++bV r).length=_;rw[xb,ih,dK,List.length_cons];omega
theorem Fe(l:List UInt8)(b:UInt8):bV (l++[b])=bV l++ZQ b:=by simp[bV]
theorem He(b:UInt8){m:Nat}(h:m<8):(ZQ b).take (m+1)=(ZQ b).take m++[oZ b m]:=by
 rw[xl (by rw[dK];exact h)];simp[ZQ]
def ZF(m:Nat):Bool:=517762881 / 2^m%2==1
def eH(l:List Bool):Nat->List Bool
 |0=>l
 |k+1=>(eH l k).set k (!((eH l k).getD k false))
def qB(i:Nat)(l:List Bool):Nat->List Bool
 |0=>l
 |m+1=>if ZF m=true then (qB i l m).set (i+32-m) (!((qB i l m).getD (i+32-m) false)) else qB i l m
def rM(l:List Bool):Nat->List Bool
 |0=>l
 |k+1=>if (rM l k).getD k false=true then qB k ((rM l k).set k false) 32 else rM l k
def lC(l:List Bool)(n:Nat):Nat->List UInt8
 |0=>[0,0,0,0]
 |k+1=>if l.getD (n+k) false=true then lC l n k else (lC l n k).set (k / 8) (UInt8.ofNat (bits .or .u8 (((lC l n k).getD (k / 8) 0).toNat:Int) (2^(7-k%8)%256)).toNat)
theorem fN(l:List Bool):∀k,(eH l k).length=l.length
 |0=>rfl
 |k+1=>by rw[eH,xd,fN l k]
theorem jH(i:Nat)(l:List Bool):∀m,(qB i l m).length=l.length
 |0=>rfl
 |m+1=>by
  rw[qB];split
  ·rw[xd,jH i l m]
  exact jH i l m
theorem nH(l:List Bool):∀k,(rM l k).length=l.length
 |0=>rfl
 |k+1=>by
  rw[rM];split
  ·rw[jH,xd,nH l k]
  exact nH l k
theorem jO(l:List Bool)(n:Nat):∀k,(lC l n k).length=4
 |0=>rfl
 |k+1=>by
  rw[lC];split
  ·exact jO l n k
  rw[xd];exact jO l n k
def Ra(l:List UInt8):List Bool:=rM (eH (bV l++List.replicate 32 false) 32) (8*l.length)
def nG(l:List UInt8):List UInt8:=lC (Ra l) (8*l.length) 32
theorem eF(l:List UInt8):(nG l).length=4:=jO _ _ _
def cF(c:List UInt8):List UInt8:=(Pl.num c.length++c)++nG (Pl.num c.length++c)
theorem EZ:∀x:Nat,x<256->(bits .and .i64 (x:Int) 1==1)=(x%2==1):=by decide +kernel
theorem Ls(b:UInt8)(m:Nat):(bits .and .i64 ((b.toNat:Int) / 2^(7-m)) 1==1)=oZ b m:=by
 have h:((b.toNat:Int) / 2^(7-m))=((b.toNat / 2^(7-m):Nat):Int):=by
  rw[Int.natCast_ediv,Int.natCast_pow];rfl
 rw[h,EZ]
 ·rfl
 exact YX (Nat.div_le_self _ _) (XX b)
theorem OC(s:ByteArray)(R:s.size<=4194304)(w:World):Calls prog 121 #[.string s] w λe w'=>Below w.heap.size w w'/\∃a cap,e=.returned (.slice a (8*s.size) cap)/\w'.ownsRow w.heap.size 4 1 (.slice a (8*s.size) cap) (8*s.size) (Bs (bV s.data.toList)):=by
 obtain⟨N,M,E,F,G⟩:=XH Ru;have p:Ha (s.data.toList.length=s.size):=by unfold Ha;simp
 have y:Ha (∀k,k<=s.size->(bV (s.data.toList.take k)).length=8*k):=λk t=>by rw[dS,Xt,p.o];omega
 have A:Ha (∀k (h:k<s.size),s.data.toList.take (k+1)=s.data.toList.take k++[s[k]]):=λk h=>by
  rw[xl (by rw[p.o];exact h)];rfl
 go_enter func121,ntmps121;go_wp2_with fail;go_loopw [3,4] (λv i wr=>∃(k:Nat),k<=s.size/\i=.int .i64 k/\wr.ownsRow w.heap.size 4 1 v (8*k) (Bs (bV (s.data.toList.take k)))/\Below w.heap.size w wr) (λ_ i _=>s.size-(intOf i).toNat)
 case atStart=>exact⟨0,by omega,rfl,Xi _ _ _ _,xh _ _⟩
 obtain⟨k,t,rfl,b,j⟩:=hrel;by_cases B:k<s.size
 ·have c:=zb b;have g:=zb j;have K:=zb (A k B);have P:=zb (y k t);have H:s[k].toNat<256:=XX _;generalize r:bV (s.data.toList.take k)=bl at *;have x:=zb r;clear b j r;go_wp2_with fail;go_loopw [3,5] (λv i wr=>∃(m:Nat),m<=8/\i=.int .i64 (7-m)/\wr.ownsRow w.heap.size 4 1 v (8*k+m) (Bs (bl++(ZQ s[k]).take m))/\Below w.heap.size w wr) (λ_ i _=>(1+intOf i).toNat)
  case atStart=>exact⟨0,by omega,by go_num,by rw[List.take_zero,XR];exact c,g⟩
  clear c g;obtain⟨m,Q,rfl,b,j⟩:=hrel;by_cases C:m<8
  ·have z:=zb (He s[k] C);have c:=zb b;have g:=zb j;clear b j;go_wp2_with (at_builtin;refine Xb _ rfl _ _ 70 rfl (w.heap.size) 4 N (.bool false) 1 1 Se M E F G rfl (by decide) _ _ _ rfl (c.alloc _) ⟨wr.heap.size,0,none⟩ 1 1 [.bool ?bb] rfl rfl ?c1 ?c2 ?c3 ?c4 ?c5 ?_)
   case c1=>exact aY _ _ _
   case c2=>intro u J;simp at J;subst J;rfl
   case c3=>unfold maxLen;omega
   case c4=>omega
   case c5=>have:=g.size;simp;omega
   intro v' w2 d f D;have q:Below w.heap.size w w2:=(g.alloc g.size _).grown f (by have:=g.size;simp;omega) (λk t=>(c.lt k t).1);rw[Ls]at d;have n:Ha (w2.ownsRow w.heap.size 4 1 v' (8*k+(m+1)) (Bs (bl++(ZQ s[k]).take (m+1)))):=by
    unfold Ha;rw[z.o,<-XL];have e:Bs ((bl++(ZQ s[k]).take m)++[oZ s[k] m])=Bs (bl++(ZQ s[k]).take m)++[.bool (oZ s[k] m)]:=by simp[Bs]
    rw[e];exact d
   have l:=zb q;clear d f c D g q;go_wp2_with fail;go_roundw
   case rel=>exact⟨m+1,by omega,by go_num,n,l⟩
   simp[intOf];omega
  obtain rfl:m=8:=by omega
  have n:Ha (wr.ownsRow w.heap.size 4 1 u3 (8*(k+1)) (Bs (bV (s.data.toList.take (k+1))))):=by
   unfold Ha;rw[K.o,Fe,x.o,show 8*(k+1)=8*k+8 by omega];rw[Xh (by rw[dK];exact xc _)]at b;exact b
  have l:=zb j;clear b j;go_wp2_with fail;go_roundw
  case rel=>exact⟨k+1,by omega,by go_num,n,l⟩
  simp[intOf];omega
 obtain rfl:k=s.size:=by omega
 rw[show s.data.toList.take s.size=s.data.toList by rw[Xh (by rw[p.o];exact xc _)]]at b;obtain⟨a,cap,rfl⟩:=zT b;go_wp2_with fail;go_ret;exact⟨j,a,cap,rfl,b⟩
theorem Om(l:List Bool)(b:Bool):Bs (l++[b])=Bs l++[.bool b]:=by simp[Bs]
theorem MY(l:List Bool)(k:Nat):(l++List.replicate k false)++[false]=l++List.replicate (k+1) false:=by rw[XL,List.replicate_succ']
variable {c i v:Nat}{l:List Bool}
theorem Mk{m:Nat}(h:ZF m=true):qB i l (m+1)=(qB i l m).set (i+32-m) (!((qB i l m).getD (i+32-m) false)):=by rw[qB,xe h]
theorem Pr{m:Nat}(h:ZF m=false):qB i l (m+1)=qB i l m:=by rw[qB,xg (by rw[h];simp)]
theorem Jy:∀m:Nat,m<32->(bits .and .i64 ((517762881:Int) / 2^m) 1==1)=ZF m:=by decide +kernel
theorem DL(s:ByteArray)(hs:s.size<=4194304)(w:World):Calls prog 77 #[.string s] w λe w'=>Below w.heap.size w w'/\e=.returned (.string ⟨(nG s.data.toList).toArray⟩):=by
 obtain⟨i0,hi,d6,d7,d8⟩:=XH Ru;obtain⟨i5,h5,c7,c8,c9⟩:=XH Pp;have a1:Ha (s.data.toList.length=s.size):=by unfold Ha;simp
 have S:=zb (OC s hs w);have W:Ha (nG s.data.toList=lC (rM (eH (bV s.data.toList++List.replicate 32 false) 32) (8*s.size)) (8*s.size) 32):=by unfold Ha nG Ra;rw[a1.o]
 have T:Ha ((bV s.data.toList).length=8*s.size):=by unfold Ha;rw[dS,a1.o]
 rw[W.o];generalize d0:bV s.data.toList=bl at *;obtain⟨N,hN⟩:∃N,N=8*s.size:=⟨_,rfl⟩
 have d9:N<=33554432:=by omega
 rw[<-hN]at S W T ⊢;clear d0 a1 W hN hs;go_enter func77,ntmps77;go_wp2_with (go_at_call 121;refine S.mono ?_;rintro e w1 ⟨a7,a,cap,rfl,c⟩);have q:=zb (And.intro c a7);clear c a7 S;go_loopw [3,5] (λv i wr=>∃(k:Nat),k<=32/\i=.int .i64 k/\wr.ownsRow w.heap.size 4 1 v (N+k) (Bs (bl++List.replicate k false))/\Below w.heap.size w wr) (λ_ i _=>32-(intOf i).toNat)
 case atStart=>exact⟨0,by omega,rfl,by rw[List.replicate_zero,XR];exact q.1,q.2⟩
 clear q;obtain⟨k,M,rfl,c,f⟩:=hrel;by_cases x:k<32
 ·have E:=zb c;have p:=zb f;clear c f;go_wp2_with (at_builtin;refine Xb _ rfl _ _ 70 rfl (w.heap.size) 4 i0 (.bool false) 1 1 Se hi d6 d7 d8 rfl (by decide) _ _ _ rfl (E.alloc _) ⟨wr.heap.size,0,none⟩ 1 1 [.bool false] rfl rfl ?c1 ?c2 ?c3 ?c4 ?c5 ?_)
  case c1=>exact aY _ _ _
  case c2=>intro u hu;simp at hu;subst hu;rfl
  case c3=>unfold maxLen;omega
  case c4=>omega
  case c5=>have:=p.size;simp;omega
  intro v' w2 G n d3;have a8:Below w.heap.size w w2:=(p.alloc p.size _).grown n (by have:=p.size;simp;omega) (λk M=>(E.lt k M).1);have K:Ha (w2.ownsRow w.heap.size 4 1 v' (N+(k+1)) (Bs (bl++List.replicate (k+1) false))):=by
   unfold Ha;rw[<-MY,Om];exact G
  have J:=zb a8;clear G n E d3 p a8;go_wp2_with fail;go_roundw
  case rel=>exact⟨k+1,by omega,by go_num,K,J⟩
  simp[intOf];omega
 obtain rfl:k=32:=by omega
 clear M x;obtain⟨g,cap2,hv,hg,d2⟩:=zK c (by omega);subst hv;have X:Ha ((bl++List.replicate 32 false).length=N+32):=by unfold Ha;rw[xb,xaJ,T.o]
 generalize b1:bl++List.replicate 32 false=L at *;have b7:=zb b1;clear b1;have q:=zb (And.intro c f);clear c f d2 T;go_wp2_with fail;go_loopw [6] (λi wr=>∃(k:Nat),k<=32/\i=.int .i64 k/\wr.ownsRow w.heap.size 4 1 (.slice (some ⟨g,0,none⟩) (N+32) cap2) (N+32) (Bs (eH L k))/\Below w.heap.size w wr) (λi _=>32-(intOf i).toNat)
 case atStart=>exact⟨0,by omega,rfl,q.1,q.2⟩
 clear q;obtain⟨k,M,rfl,c,f⟩:=hrel;by_cases x:k<32
 ·have Q:=jS c (by rw[fN,X.o]) k (by omega);have hf:=c.frozenAt k;have H:=zb (λb=>xH c k b);have p:=zb f;have b9:Ha (eH L (k+1)=(eH L k).set k (!((eH L k).getD k false))):=rfl;generalize (eH L k).getD k false=fb at *;clear c f;go_wp2_with fail;go_roundw
  case rel=>exact⟨k+1,by omega,by go_num,by rw[b9.o];exact H _,p.setCell hg _⟩
  simp[intOf];omega
 obtain rfl:k=32:=by omega
 clear M x;have a5:Ha ((eH L 32).length=N+32):=by unfold Ha;rw[fN,X.o]
 generalize b0:eH L 32=F at *;have b6:Ha (∀j,j=32->eH L j=F):=λj hj=>by rw[hj];exact b0
 clear b0;have q:=zb (And.intro c f);clear c f X;go_wp2_with fail;go_loopw [7,8] (λi _ wr=>∃(k:Nat),k<=N/\i=.int .i64 k/\wr.ownsRow w.heap.size 4 1 (.slice (some ⟨g,0,none⟩) (N+32) cap2) (N+32) (Bs (rM F k))/\Below w.heap.size w wr) (λi _ _=>N-(intOf i).toNat)
 case atStart=>exact⟨0,by omega,rfl,q.1,q.2⟩
 clear q;obtain⟨k,M,rfl,c,f⟩:=hrel;have A:Ha ((rM F k).length=N+32):=by unfold Ha;rw[nH,a5.o]
 by_cases x:k<N
 ·have Q:=jS c A k (by omega);have hf:=c.frozenAt k;have H:=zb (λb=>xH c k b);have t:=zb c;have p:=zb f;have B:Ha (rM F (k+1)=if (rM F k).getD k false=true then qB k ((rM F k).set k false) 32 else rM F k):=rfl;clear c f;by_cases d:(rM F k).getD k false=true
  ·rw[xe d]at B;rw[d]at Q;have c6:Ha (∀m,(qB k ((rM F k).set k false) m).length=N+32):=λm=>by rw[jH,xd,A.o]
   have a4:=zb (H false);generalize (rM F k).set k false=D at *;clear d A H t;go_wp2_with fail;go_loopw [8] (λi wr=>∃(m:Nat),m<=32/\i=.int .i64 m/\wr.ownsRow w.heap.size 4 1 (.slice (some ⟨g,0,none⟩) (N+32) cap2) (N+32) (Bs (qB k D m))/\Below w.heap.size w wr) (λi _=>32-(intOf i).toNat)
   case atStart=>exact⟨0,by omega,rfl,a4,p.setCell hg _⟩
   clear a4 p Q hf;obtain⟨m,hm,rfl,c,f⟩:=hrel;by_cases R:m<32
   ·have e0:(k:Int)+32-m=((k+32-m:Nat):Int):=by omega
    have Q:=jS c (c6 m) (k+32-m) (by omega);have hf:=c.frozenAt (k+32-m);have H:=zb (λb=>xH c (k+32-m) b);have t:=zb c;have p:=zb f;have HY:=zb (@Mk k D m);have Z:=zb (@Pr k D m);generalize (qB k D m).getD (k+32-m) false=db at *;clear c f;have b3:=Jy m R;by_cases z:ZF m=true
    ·rw[z]at b3;have a0:=zb (HY z);clear HY Z z;go_wp2_with fail;go_roundw
     case rel=>exact⟨m+1,by omega,by go_num,by rw[a0.o];exact H _,p.setCell hg _⟩
     simp[intOf];omega
    rw[YQ]at z;rw[z]at b3;have a0:=zb (Z z);clear HY Z z;go_wp2_with fail;go_roundw
    case rel=>exact⟨m+1,by omega,by go_num,by rw[a0.o];exact t,p⟩
    simp[intOf];omega
   obtain rfl:m=32:=by omega
   clear hm R;have t:=zb c;have p:=zb f;rw[<-B.o]at t;clear c f;go_wp2_with fail;go_roundw
   case rel=>exact⟨k+1,by omega,by go_num,t,p⟩
   simp[intOf];omega
  rw[xg d]at B;rw[YQ]at d;rw[d]at Q;rw[<-B.o]at t;clear B H d A;go_wp2_with fail;go_roundw
  case rel=>exact⟨k+1,by omega,by go_num,t,p⟩
  simp[intOf];omega
 obtain rfl:k=N:=by omega
 clear x M;generalize a9:rM F k=D at *;have b5:=zb a9;clear a9;have t:=zb c;have HL:=zb A;have a3:=f.size;have p:=zb f;clear c A f a5;go_wp2_with (at_make;refine wpList_make_full _ rfl _ _ 89 rfl (w.heap.size) 5 i5 (.int .u8 0) 1 Oe h5 c7 c8 _ _ _ _ 4 rfl rfl (by rfl) (by rfl) (by rw[c9];omega) (by unfold maxLen;omega) (by omega) ?_;intro w2 y n);have d1:g<wr.heap.size:=(t.lt g rfl).2;have K:=zb (t.kept n (Or.inr (by simp[Value.ownBlock])));have J:Ha (Below w.heap.size w w2):=p.grown n a3 (λk M=>by cases M);have HM:Ha (w2.ownsRow w.heap.size 5 1 (.slice (some ⟨wr.heap.size,0,none⟩) 4 4) 4 (U8 [0,0,0,0])):=by rw[SL]at y;exact y
 obtain⟨g2,a2⟩:∃g2,g2=wr.heap.size:=⟨_,rfl⟩
 rw[<-a2]at HM d1 ⊢;rw[<-a2]at a3;clear y n t p a2;go_wp2_with fail;go_loopw [10] (λi wr=>∃(j:Nat),j<=32/\i=.int .i64 j/\wr.ownsRow w.heap.size 5 1 (.slice (some ⟨g2,0,none⟩) 4 4) 4 (U8 (lC D k j))/\wr.ownsRow w.heap.size 4 1 (.slice (some ⟨g,0,none⟩) (k+32) cap2) (k+32) (Bs D)/\Below w.heap.size w wr) (λi _=>32-(intOf i).toNat)
 case atStart=>exact⟨0,by omega,rfl,HM,K,J⟩
 clear HM K J;obtain⟨j,hj,rfl,r,c,f⟩:=hrel;have a6:=zb (jO D k j);by_cases x:j<32
 ·have Q:=jS c HL (k+j) (by omega);have e1:=qY r a6 (j / 8) (by omega);have e3:=r.frozenAt (j / 8);have H:=zb (λb f=>Nd r (j / 8) b f);have t:=zb c;have HU:=zb r;have p:=zb f;have e4:((lC D k j).getD (j / 8) 0).toNat<256:=XX _;have C:Ha (lC D k (j+1)=if D.getD (k+j) false=true then lC D k j else (lC D k j).set (j / 8) (UInt8.ofNat (bits .or .u8 (((lC D k j).getD (j / 8) 0).toNat:Int) (2^(7-j%8)%256)).toNat)):=rfl;clear c r f;by_cases d:D.getD (k+j) false=true
  ·rw[d]at Q;rw[xe d]at C;rw[<-C.o]at HU;clear d C H;generalize (lC D k j).getD (j / 8) 0=ob at *;go_wp2_with fail;go_roundw
   case rel=>exact⟨j+1,by omega,by go_num,HU,t,p⟩
   simp[intOf];omega
  rw[xg d]at C;rw[YQ]at d;rw[d]at Q;clear d;generalize (lC D k j).getD (j / 8) 0=ob at *;go_wp2_with fail;go_region;go_wp2_with fail;have hr:=vB .or (ob.toNat:Int) (2^(7-j%8)%256);obtain⟨b4,d4⟩:=H.o _ hr;rw[<-C.o]at b4;have d5:=t.kept d4 (Or.inr (by simp[Value.ownBlock];omega));go_roundw
  case rel=>exact⟨j+1,by omega,by go_num,b4,d5,(p.setCell a3 _).drew⟩
  simp[intOf];omega
 obtain rfl:j=32:=by omega
 clear hj x;generalize b2:lC D k 32=l at *;have b8:Ha (∀j,j=32->lC D k j=l):=λj hj=>by rw[hj];exact b2
 clear b2;have hl:=a6.o;have e2:(convert 89 9 (.slice (some ⟨g2,0,none⟩) 4 4)).run prog wr=.ok (.string ⟨l.toArray⟩) wr:=by
  have h:=xax (P:=prog) wr 89 9 5 ⟨g2,0,none⟩ 4 l Oe Vh Vi (λj hj=>by
   have ha:(Addr.add ⟨g2,0,none⟩ j)=⟨g2,j,none⟩:=by
    unfold Addr.add;split<;>simp_all
   rw[ha,qY r hl j (by omega)];simp[Uv,hj])
  rw[hl]at h;exact h
 have p:=zb f;clear r c hl f;go_wp2_with fail;go_ret;exact⟨p,by rw[b7.o,b6.o 32 rfl,b5.o,b8.o 32 rfl];rfl⟩
theorem lS(a b:List UInt8):(⟨a.toArray⟩:ByteArray)++(⟨b.toArray⟩:ByteArray)=⟨(a++b).toArray⟩:=by
 apply YN
 simp
theorem QK(c:ByteArray):c=⟨c.data.toList.toArray⟩:=by
 apply YN
 simp
theorem LU(c:ByteArray)(s:c.size<=4194295)(w:World):Calls prog 52 #[.string c] w λe w'=>Below w.heap.size w w'/\e=.returned (.string ⟨(cF c.data.toList).toArray⟩):=by
 have t:=Pl.num_len c.size (by omega);have g:=zb (kY _ (c.size:Int) (xc _) (by omega) (by omega) w);rw[xay]at g;have a:Ha (c.data.toList.length=c.size):=by unfold Ha;simp
 have k:Ha ((⟨(Pl.num c.size).toArray⟩:ByteArray)++c=⟨(Pl.num c.size++c.data.toList).toArray⟩):=by
  unfold Ha;conv=>lhs;rw[QK c]
  exact lS _ _
 have d:Ha (cF c.data.toList=(Pl.num c.size++c.data.toList)++nG (Pl.num c.size++c.data.toList)):=by unfold Ha cF;rw[a.o]
 have j:=zb (DL ⟨(Pl.num c.size++c.data.toList).toArray⟩ (by rw[xbe];simp;omega));rw[d.o];go_enter func52,ntmps52;go_wp2_with (go_at_call 76;refine g.mono ?_;rintro e w1 ⟨rfl,b⟩);rw[k.o];clear k d g;have r:(Pl.num c.size++c.data.toList).length<=4194304:=by rw[xb,a.o];omega
 clear a;generalize m:Pl.num c.size++c.data.toList=T at *;have i:=zb m;clear m;refine(j _).mono ?_
 rintro e w2 ⟨f,rfl⟩;have p:Ha (Below w.heap.size w w2):=b.trans (f.mono b.size);clear j b f;have n:=zb (lS T (nG T));have q:=eF T;generalize l:nG T=C at *;have h:=zb l;clear l;go_wp2_with fail;rw[n.o];go_ret;exact⟨p,by rw[i.o,h.o];rfl⟩
theorem vP(c:List UInt8)(a:c.length<9223372036854775808):(cF c).length<=c.length+13:=by
 have:=Pl.num_len c.length a
 unfold cF;rw[xb,xb,eF];omega
def Pb(s:ByteArray):ByteArray:=⟨(cF s.data.toList).toArray⟩
theorem Aj(s:ByteArray)(b:s.size<=4194295):(Pb s).size<=s.size+13:=by
 have a:s.data.toList.length=s.size:=by simp
 have:=vP s.data.toList (by omega)
 have e:(Pb s).size=(cF s.data.toList).length:=by unfold Pb;rw[xbe];simp
 omega
theorem vO(c:ByteArray)(a:c.size<=4194295)(w:World):Calls prog 52 #[.string c] w λe w'=>Below w.heap.size w w'/\∃f:ByteArray,e=.returned (.string f)/\f.size<=c.size+13/\f=Pb c :=
 (LU c a w).mono (λe w' h=>⟨h.1,Pb c,h.2,Aj c a,rfl⟩)
def qF(l rep:List UInt8):Bool:=(rep.getD 0 1==0)&&decide ((l.getD 0 0).toNat<=10)
def Qf(rec s:ByteArray):ByteArray:=rec++Pb s
def RT(rec s:ByteArray)(rep:List UInt8):ByteArray:=if qF s.data.toList rep=true then Qf rec s else rec
structure RecX(rec s rec':ByteArray)(rep:List UInt8):Prop where
 size:rec'.size<=rec.size+(s.size+13)
 eq:rec'=RT rec s rep
variable {rec s:ByteArray}{rep:List UInt8}
theorem RecX.no1(h:rep.getD 0 1≠0):RecX rec s rec rep :=
 ⟨by omega,by unfold RT qF;rw[xp.2 h];rfl⟩
variable {ns:List Nat}
theorem gA{l:List UInt8}(h:Pl.cmd l=.ok (c,ns)):(l.getD 0 0).toNat=c:=by
 cases l with
 |nil=>simp[Pl.cmd]at h
 |cons b r=>
  simp only[Pl.cmd]at h
  cases e:Pl.nums r with
  |none=>rw[e]at h;simp at h
  |some ms=>
   rw[e]at h;simp only at h;by_cases a:Pl.kindsL b.toNat=[]\/ms.length≠(Pl.kindsL b.toNat).length
   ·rw[xe a]at h;simp at h
   rw[xg a]at h;by_cases d:Pl.mays (Pl.kindsL b.toNat) ms=true
   ·rw[xe d]at h;simp at h;exact h.1
   rw[xg d]at h;simp at h
theorem RecX.no2(a:Pl.cmd s.data.toList=.ok (c,ns))(b:11<=c):RecX rec s rec rep :=
 ⟨by omega,by unfold RT qF;rw[gA a,xu (by omega),xah];rfl⟩
theorem RecX.yes{a:ByteArray}(b:Pl.cmd s.data.toList=.ok (c,ns))(d:c<=10)(h:a=Qf rec s)(f:s.size<=4194295)(e:rep.getD 0 1=0):RecX rec s a rep :=
 ⟨by have:=Aj s f;rw[h,Qf,ByteArray.size_append'];omega,by unfold RT qF;rw[gA b,xy d,e];exact h⟩
theorem dW(h:c≠0)(b:c<=255):UInt8.ofNat c≠0:=λa=>by
 have e:(UInt8.ofNat c).toNat=c:=by rw[XS];omega
 rw[a]at e;have:(0:UInt8).toNat=0:=rfl;omega
theorem xI(a:i<l.length)(b:Bool)(j:Nat):(l.set i b).getD j false=if j=i then b else l.getD j false:=by
 by_cases h:j=i
 ·subst h;rw[xe rfl];simp[Uv,a]
 rw[xg h];simp[Uv,Xd,XZ h]
theorem tK(l:List Bool):∀k,k<=l.length->∀j,(eH l k).getD j false=if j<k then !(l.getD j false) else l.getD j false
 |0,_,j=>by rw[xg (by omega)];rfl
 |k+1,hk,j=>by
  have c:=tK l k (by omega);have a:=c k;rw[xg (Yf k)]at a;rw[eH,xI (by rw[fN];omega),a,c j];by_cases h:j=k
  ·subst h;rw[xe rfl,xe (by omega)]
  rw[xg h];by_cases b:j<k
  ·rw[xe b,xe (by omega)]
  rw[xg b,xg (by omega)]
theorem Aw(i:Nat)(l:List Bool)(c:i+32<l.length):∀m,m<=32->∀j,(qB i l m).getD j false=(l.getD j false ^^ (decide (j<=i+32/\i+32<j+m)&&ZF (i+32-j)))
 |0,_,j=>by rw[xu (by omega)];simp[qB]
 |m+1,hm,j=>by
  have d:=Aw i l c m (by omega);have b:(qB i l (m+1)).getD j false=if j=i+32-m then ((qB i l m).getD j false ^^ ZF m) else (qB i l m).getD j false:=by
   rw[qB];by_cases a:ZF m=true
   ·rw[xe a,xI (by rw[jH];omega)];by_cases h:j=i+32-m
    ·rw[xe h,xe h,a,h];simp
    rw[xg h,xg h]
   rw[xg a];by_cases h:j=i+32-m
   ·rw[xe h,YQ _ |>.mp a];simp
   rw[xg h]
  rw[b,d j];by_cases h:j=i+32-m
  ·rw[xe h,xu (by omega),xy (by omega),show i+32-j=m by omega];simp
  rw[xg h];have:decide (j<=i+32/\i+32<j+(m+1))=decide (j<=i+32/\i+32<j+m):=by rw[xaK];omega
  rw[this]
def Tf(r:Nat->Bool)(b:Bool)(j:Nat):Bool:=(decide (j<31)&&r (j+1)) ^^ ((r 0 ^^ b)&&ZF (31-j))
def jZ(m:Nat->Bool):Nat->Nat->Bool
 |0=>λ_=>true
 |k+1=>Tf (jZ m k) (m k)
def bY(l:List UInt8)(j:Nat):Bool:=(bV l).getD j false
theorem LF(l:List UInt8):∀k,k<=8*l.length->∀j,(rM (eH (bV l++List.replicate 32 false) 32) k).getD (k+j) false=((decide (j<32)&&jZ (bY l) k j) ^^ bY l (k+j)):=by
 have p:(bV l++List.replicate 32 false).length=8*l.length+32:=by rw[xb,dS,xaJ]
 have q:∀j,(bV l++List.replicate 32 false).getD j false=bY l j:=λj=>by
  unfold bY;by_cases h:j<(bV l).length
  ·simp[Uv,Xk h]
  rw[Uv,ya (by omega),xas];rw[Uv,Xo (by omega)];split<;>rfl
 intro k;induction k with
 |zero=>
  intro _ j;rw[rM,Yu,tK _ 32 (by omega),q];by_cases h:j<32
  ·rw[xe h,xy h];simp[jZ]
  rw[xg h,xu h];simp
 |succ k i=>
  intro t j;have i:=i (by omega);have a:=i 0;rw[xal]at a;have r:(rM (eH (bV l++List.replicate 32 false) 32) k).length=8*l.length+32:=by rw[nH,fN,p]
  have b:=i (j+1);have e:k+(j+1)=k+1+j:=by omega
  rw[e]at b;rw[rM];have n:jZ (bY l) (k+1) j=((decide (j<31)&&jZ (bY l) k (j+1)) ^^ ((jZ (bY l) k 0 ^^ bY l k)&&ZF (31-j))):=rfl;generalize s:rM (eH (bV l++List.replicate 32 false) 32) k=E at *;by_cases g:E.getD k false=true
  ·have f:(jZ (bY l) k 0 ^^ bY l k)=true:=by rw[g]at a;simpa using a.symm
   rw[xe g,Aw k _ (by rw[xd];omega) 32 (by omega),xI (by omega),xg (by omega),b,n,f];by_cases c:j<31
   ·rw[xy (show j+1<32 by omega),xy (show k+1+j<=k+32/\k+32<k+1+j+32 by omega),xy (show j<32 by omega),xy c,show k+32-(k+1+j)=31-j by omega]
    cases jZ (bY l) k (j+1)<;>cases bY l (k+1+j)<;>cases ZF (31-j)<;>rfl
   by_cases d:j=31
   ·subst d;rw[xu (show ¬(31+1<32) by omega),xy (show k+1+31<=k+32/\k+32<k+1+31+32 by omega),xy (show 31<32 by omega),xu c,show k+32-(k+1+31)=31-31 by omega]
    cases bY l (k+1+31)<;>cases ZF (31-31)<;>rfl
   rw[xu (show ¬(j+1<32) by omega),xu (show ¬(k+1+j<=k+32/\k+32<k+1+j+32) by omega),xu (show ¬(j<32) by omega)];simp
  have m:E.getD k false=false:=by simpa using g
  have f:(jZ (bY l) k 0 ^^ bY l k)=false:=by rw[m]at a;simpa using a.symm
  rw[xg g,b,n,f];by_cases c:j<31
  ·rw[xy (show j+1<32 by omega),xy (show j<32 by omega),xy c];simp
  rw[xu c];by_cases d:j=31
  ·subst d;simp
  rw[xu (show ¬(j+1<32) by omega),xu (show ¬(j<32) by omega)];simp
theorem LD(l:List UInt8)(j:Nat)(a:j<32):(Ra l).getD (8*l.length+j) false=jZ (bY l) (8*l.length) j:=by
 have h:=LF l (8*l.length) (xc _) j;unfold Ra;rw[h,xy a];have:bY l (8*l.length+j)=false:=by
  unfold bY;rw[Uv,Xo (by rw[dS];omega)];rfl
 rw[this];simp
def Rg(v:Nat)(r:Nat->Bool):Prop:=v<4294967296/\∀j,j<32->v.testBit (31-j)=r j
theorem Jx:∀m,m<32->Nat.testBit 517762881 m=ZF m:=by decide +kernel
theorem Sn:(4294967296:Nat)=2^32:=rfl
variable {r:Nat->Bool}
theorem Rg.congr{b:Nat->Bool}(h:Rg v r)(e:∀j,j<32->r j=b j):Rg v b:=⟨h.1,λj a=>(h.2 j a).trans (e j a)⟩
theorem Rg.ones:Rg 4294967295 (λ_=>true):=⟨by omega,by decide +kernel⟩
theorem Rg.xor{u:Nat}{q:Nat->Bool}(h:Rg v r)(k:Rg u q):Rg (v ^^^ u) (λj=>r j ^^ q j):=by
 refine⟨?_,λj c=>?_⟩
 ·have a:=h.1;have b:=k.1;rw[Sn]at a b ⊢;exact YH a b
 rw[Nat.testBit_xor,h.2 j c,k.2 j c]
def NG(v:Nat):Nat:=if v.testBit 31=true then (v*2%4294967296) ^^^ 517762881 else v*2%4294967296
theorem Rg.poly:Rg 517762881 (λj=>ZF (31-j)):=⟨by omega,λj a=>Jx (31-j) (by omega)⟩
theorem Rg.double(h:Rg v r):Rg (v*2%4294967296) (λj=>decide (j<31)&&r (j+1)):=by
 refine⟨xbS _ (by omega),λj b=>?_⟩;show(v*2%4294967296).testBit (31-j)=(decide (j<31)&&r (j+1));rw[Sn,xbt,xy (show 31-j<32 by omega),Yv];by_cases a:j<31
 ·rw[xy a,Yv,<-h.2 (j+1) (by omega)];rw[show 31-j=(31-(j+1))+1 by omega,Nat.testBit_succ,Nat.mul_div_cancel _ (by omega)]
 rw[xu a,YR,show 31-j=0 by omega,Nat.testBit_zero];have:v*2%2=0:=Nat.mul_mod_left _ _;rw[this];rfl
theorem Rg.step(h:Rg v r):Rg (NG v) (Tf r false):=by
 have b:v.testBit 31=r 0:=h.2 0 (by omega);unfold NG;by_cases a:v.testBit 31=true
 ·rw[xe a];refine(h.double.xor Rg.poly).congr (λj c=>?_);rw[b]at a;show((decide (j<31)&&r (j+1)) ^^ ZF (31-j))=((decide (j<31)&&r (j+1)) ^^ ((r 0 ^^ false)&&ZF (31-j)));rw[a];simp
 rw[xg a];refine h.double.congr (λj c=>?_);rw[b,YQ]at a;show(decide (j<31)&&r (j+1))=((decide (j<31)&&r (j+1)) ^^ ((r 0 ^^ false)&&ZF (31-j)));rw[a];simp
def KY(v:Nat):Nat->Nat
 |0=>v
 |k+1=>NG (KY v k)
def ON(v:Nat)(b:UInt8):Nat:=KY (v ^^^ (b.toNat*16777216)) 8
def yX(l:List UInt8):Nat:=l.foldl ON 4294967295
theorem Rg.top(b:UInt8):Rg (b.toNat*16777216) (λj=>decide (j<8)&&oZ b j):=by
 have c:=XX b;refine⟨by omega,λj d=>?_⟩;show(b.toNat*16777216).testBit (31-j)=(decide (j<8)&&oZ b j);rw[xaz,show(16777216:Nat)=2^24 from rfl,Nat.testBit_two_pow_mul];by_cases h:j<8
 ·rw[xy h,xy (show 31-j≥24 by omega),Yv,Yv,show 31-j-24=7-j by omega];unfold oZ;rw[xaA]
  cases a:(b.toNat / 2^(7-j)%2==1) with
  |true=>simpa using a
  |false=>simpa using a
 rw[xu h,xu (show ¬31-j≥24 by omega),YR,YR]
theorem Hc{m:Nat->Bool}{n:Nat}{b:UInt8}(h:Rg v (jZ m n))(f:∀k,k<8->m (n+k)=oZ b k):Rg (ON v b) (jZ m (n+8)):=by
 have g:∀k,k<=8->Rg (KY (v ^^^ (b.toNat*16777216)) k) (λj=>jZ m (n+k) j ^^ (decide (k+j<8)&&m (n+(k+j)))):=by
  intro k;induction k with
  |zero=>
   intro _;refine(h.xor (Rg.top b)).congr (λj d=>?_);show(jZ m n j ^^ (decide (j<8)&&oZ b j))=(jZ m n j ^^ (decide (0+j<8)&&m (n+(0+j))));rw[Yu];by_cases c:j<8
   ·rw[f j c]
   rw[xu c];simp
  |succ k ih=>
   intro i;refine(ih (by omega)).step.congr (λj d=>?_);have e:n+(k+1)=(n+k)+1:=by omega
   rw[e];show((decide (j<31)&&(jZ m (n+k) (j+1) ^^ (decide (k+(j+1)<8)&&m (n+(k+(j+1)))))) ^^ (((jZ m (n+k) 0 ^^ (decide (k+0<8)&&m (n+(k+0)))) ^^ false)&&ZF (31-j)))=(((decide (j<31)&&jZ m (n+k) (j+1)) ^^ ((jZ m (n+k) 0 ^^ m (n+k))&&ZF (31-j))) ^^ (decide (k+1+j<8)&&m (n+(k+1+j))));rw[xy (show k+0<8 by omega),xal,show k+(j+1)=k+1+j by omega,Yv,Bool.xor_false];by_cases a:j<31
   ·rw[xy a,Yv,Yv]
    cases jZ m (n+k) (j+1)<;>cases (decide (k+1+j<8)&&m (n+(k+1+j)))<;>cases ((jZ m (n+k) 0 ^^ m (n+k))&&ZF (31-j))<;>rfl
   rw[xu a,xu (show ¬k+1+j<8 by omega)];simp
 refine(g 8 (xc _)).congr (λj d=>?_);show(jZ m (n+8) j ^^ (decide (8+j<8)&&m (n+(8+j))))=jZ m (n+8) j;rw[xu (show ¬8+j<8 by omega)];simp
theorem PA(a:List UInt8)(b:UInt8)(r:List UInt8)(k:Nat)(c:k<8):bY (a++b::r) (8*a.length+k)=oZ b k:=by
 unfold bY;have e:bV (a++b::r)=bV a++(ZQ b++bV r):=by simp[bV]
 rw[e,Uv,ya (by rw[dS];omega),dS,show 8*a.length+k-8*a.length=k by omega,Xk (by rw[dK];exact c)];simp[ZQ,c]
theorem Hk:∀(r a:List UInt8),∀v,Rg v (jZ (bY (a++r)) (8*a.length))->Rg (r.foldl ON v) (jZ (bY (a++r)) (8*(a++r).length))
 |[],a,v,h=>by simpa using h
 |b::r,a,v,h=>by
  have c:=Hc h (λk f=>PA a b r k f);have e:a++b::r=(a++[b])++r:=by simp
  have d:8*a.length+8=8*(a++[b]).length:=by rw[xb,Xc];omega
  rw[e,d]at c;rw[e,Yq];exact Hk r (a++[b]) _ c
theorem LC(l:List UInt8):Rg (yX l) (jZ (bY l) (8*l.length)):=Hk l [] 4294967295 Rg.ones
theorem PJ:∀x:Nat,x<256->∀t:Nat,t<8->bits .or .u8 (x:Int) (2^t%256)=((x ||| 2^t:Nat):Int):=by decide +kernel
theorem Jt(D:List Bool)(n:Nat):∀K,K<=32->∀q,q<4->∀t,t<8->(((lC D n K).getD q 0).toNat).testBit (7-t)=(decide (8*q+t<K)&&!(D.getD (n+(8*q+t)) false))
 |0,_,q,hq,t,ht=>by
  rw[xu (by omega),YR];have:(lC D n 0).getD q 0=0:=by
   rcases(show q=0\/q=1\/q=2\/q=3 by omega) with rfl|rfl|rfl|rfl<;>rfl
  rw[this];simp
 |K+1,hK,q,hq,t,ht=>by
  have f:=Jt D n K (by omega);have g:=jO D n K;rw[lC];by_cases a:D.getD (n+K) false=true
  ·rw[xe a,f q hq t ht];by_cases h:8*q+t=K
   ·rw[h,a];simp
   rw[show decide (8*q+t<K+1)=decide (8*q+t<K) by rw[xaK];omega]
  rw[xg a];have d:((lC D n K).getD (K / 8) 0).toNat<256:=XX _;rw[PJ _ d (7-K%8) (by omega),xay];have c:((lC D n K).getD (K / 8) 0).toNat ||| 2^(7-K%8)<256:=by
   rw[show(256:Nat)=2^8 from rfl]at d ⊢;exact Nat.or_lt_two_pow d (Nat.pow_lt_pow_right (by omega) (by omega))
  by_cases b:q=K / 8
  ·subst b;have e:((lC D n K).set (K / 8) (UInt8.ofNat (((lC D n K).getD (K / 8) 0).toNat ||| 2^(7-K%8)))).getD (K / 8) 0=UInt8.ofNat (((lC D n K).getD (K / 8) 0).toNat ||| 2^(7-K%8)):=by
    simp[Uv,g,hq]
   rw[e,XS,xaL c,Nat.testBit_or,f (K / 8) hq t ht,Nat.testBit_two_pow];by_cases h:8*(K / 8)+t=K
   ·rw[h,xy (show 7-K%8=7-t by omega),xy (show K<K+1 by omega)];rw[YQ]at a;rw[a];simp
   rw[xu (show ¬7-K%8=7-t by omega),YF,show decide (8*(K / 8)+t<K+1)=decide (8*(K / 8)+t<K) by rw[xaK];omega]
  have e:∀x,((lC D n K).set (K / 8) x).getD q 0=(lC D n K).getD q 0:=λx=>by
   simp[Uv,Xd,XZ b]
  rw[e,f q hq t ht,show decide (8*q+t<K+1)=decide (8*q+t<K) by rw[xaK];omega]
def Ud(v:Nat):List UInt8:=[UInt8.ofNat (v / 16777216),UInt8.ofNat (v / 65536),UInt8.ofNat (v / 256),UInt8.ofNat v]
theorem OA(v q t:Nat)(b:q<4)(c:t<8):(((Ud v).getD q 0).toNat).testBit (7-t)=v.testBit (31-(8*q+t)):=by
 have a:∀s,(UInt8.ofNat (v / 2^s)).toNat.testBit (7-t)=v.testBit (s+(7-t)):=λs=>by
  rw[XS,show(2^8:Nat)=2^8 from rfl,xbt,xy (by omega),Yv,Nat.testBit_div_two_pow];congr 1;omega
 rcases(show q=0\/q=1\/q=2\/q=3 by omega) with rfl|rfl|rfl|rfl
 ·have:=a 24;rw[show 31-(8*0+t)=24+(7-t) by omega];exact this
 ·have:=a 16;rw[show 31-(8*1+t)=16+(7-t) by omega];exact this
 ·have:=a 8;rw[show 31-(8*2+t)=8+(7-t) by omega];exact this
 have:=a 0;rw[show 31-(8*3+t)=0+(7-t) by omega];rw[Nat.pow_zero,Nat.div_one]at this;exact this
theorem Lv(l:List UInt8):nG l=Ud (yX l ^^^ 4294967295):=by
 have k:=LC l;have m:=k.xor Rg.ones;have ext:∀(A B:List UInt8),A.length=4->B.length=4->(∀q,q<4->A.getD q 0=B.getD q 0)->A=B:=λA B g j h=>by
  refine yn (g.trans j.symm) (λq e f=>?_);have:=h q (by omega);simpa [Uv,e,f] using this
 refine ext _ _ (eF l) rfl (λq d=>?_);apply XI.1;apply Nat.eq_of_testBit_eq;intro i;by_cases p:i<8
 ·have o:=Jt (Ra l) (8*l.length) 32 (xc _) q d (7-i) (by omega);have b:=OA (yX l ^^^ 4294967295) q (7-i) d (by omega);rw[show 7-(7-i)=i by omega]at o b;have n:((nG l).getD q 0).toNat.testBit i=_:=o;rw[n,b,xy (by omega),Yv,LD l _ (by omega),m.2 _ (by omega)];show(!(jZ (bY l) (8*l.length) (8*q+(7-i))))=(jZ (bY l) (8*l.length) (8*q+(7-i)) ^^ true);rw[Bool.xor_true]
 have a:((nG l).getD q 0).toNat<2^i:=xn (XX _) (xaT (by omega) (by omega));have c:((Ud (yX l ^^^ 4294967295)).getD q 0).toNat<2^i:=xn (XX _) (xaT (by omega) (by omega));rw[Nat.testBit_lt_two_pow a,Nat.testBit_lt_two_pow c]
def Uu(l:List UInt8):Option (Nat×Nat) :=
 if Pl.snd l=0\/l.length<Pl.fst l\/l.length<Pl.snd l+Pl.fst l+4 then none
 else if nG (l.take (Pl.snd l+Pl.fst l))=(l.drop (Pl.snd l+Pl.fst l)).take 4 then some (Pl.snd l,Pl.fst l) else none
def Pa(s:ByteArray):Value:=match Uu s.data.toList with
 |none=>.tuple #[.string ⟨#[]⟩,.int .i64 0]
 |some (n,v)=>.tuple #[.string (s.extract n (n+v)),.int .i64 ((n+v+4:Nat):Int)]
theorem pE(s:ByteArray)(a b:Nat):(s.extract a b).data.toList=(s.data.toList.drop a).take (b-a):=by
 rw[Yg,xaU]
theorem Ie(s:ByteArray)(y:s.size<=4194304)(w:World):Calls prog 58 #[.string s] w λe w'=>Below w.heap.size w w'/\e=.returned (Pa s):=by
 have k:Ha (s.data.toList.length=s.size):=by unfold Ha;simp
 have i:=zb (Ah s y w);have x:=Pl.snd_le9 s.data.toList;have p:=Pl.snd_le s.data.toList;have B:=Pl.fst_lt s.data.toList;rw[k.o]at p;have j:Ha (Pa s=if Pl.snd s.data.toList=0\/s.size<Pl.fst s.data.toList\/s.size<Pl.snd s.data.toList+Pl.fst s.data.toList+4 then .tuple #[.string ⟨#[]⟩,.int .i64 0] else if nG (s.extract 0 (Pl.snd s.data.toList+Pl.fst s.data.toList)).data.toList=(s.extract (Pl.snd s.data.toList+Pl.fst s.data.toList) (Pl.snd s.data.toList+Pl.fst s.data.toList+4)).data.toList then .tuple #[.string (s.extract (Pl.snd s.data.toList) (Pl.snd s.data.toList+Pl.fst s.data.toList)),.int .i64 ((Pl.snd s.data.toList+Pl.fst s.data.toList+4:Nat):Int)] else .tuple #[.string ⟨#[]⟩,.int .i64 0]):=by
  unfold Ha Pa Uu;rw[k.o];by_cases h:Pl.snd s.data.toList=0\/s.size<Pl.fst s.data.toList\/s.size<Pl.snd s.data.toList+Pl.fst s.data.toList+4
  ·rw[xe h,xe h]
  rw[xg h,xg h,pE,pE,xbd,xai,show Pl.snd s.data.toList+Pl.fst s.data.toList+4-(Pl.snd s.data.toList+Pl.fst s.data.toList)=4 by omega];by_cases f:nG (s.data.toList.take (Pl.snd s.data.toList+Pl.fst s.data.toList))=(s.data.toList.drop (Pl.snd s.data.toList+Pl.fst s.data.toList)).take 4
  ·rw[xe f,xe f]
  rw[xg f,xg f]
 rw[j.o];generalize Pl.snd s.data.toList=n at *;generalize Pl.fst s.data.toList=v at *;clear j;by_cases r:n=0
 ·rw[xe (Or.inl r)];subst r;go_enter func58,ntmps58;go_wp2_with (go_at_call 87;refine i.mono ?_;rintro e w1 ⟨rfl,a⟩);go_ret2;exact⟨a,rfl⟩
 by_cases t:s.size<v
 ·rw[xe (Or.inr (Or.inl t))];go_enter func58,ntmps58;go_wp2_with (go_at_call 87;refine i.mono ?_;rintro e w1 ⟨rfl,a⟩);go_ret2;exact⟨a,rfl⟩
 by_cases f:s.size<n+v+4
 ·rw[xe (Or.inr (Or.inr f))];go_enter func58,ntmps58;go_wp2_with (go_at_call 87;refine i.mono ?_;rintro e w1 ⟨rfl,a⟩);go_ret2;exact⟨a,rfl⟩
 rw[xg (show ¬(n=0\/s.size<v\/s.size<n+v+4) by omega)];have d:=zb (DL (s.extract 0 (n+v)) (by rw[XC];omega));obtain⟨C,m⟩:=UM (nG (s.extract 0 (n+v)).data.toList);rw[<-m.o]at d ⊢;have u:C.length=4:=by rw[m.o];exact eF _
 clear m;have z:((n:Int)==0)=false:=by rw[xp];omega
 have A:decide ((s.size:Int)<(n:Int)+(v:Int)+4)=false:=xu (by omega);have c:Ha ((s.extract (n+v) (n+v+4)).toList=(s.extract (n+v) (n+v+4)).data.toList):=XM _;by_cases g:C=(s.extract (n+v) (n+v+4)).data.toList
 ·rw[xe g];have q:(C==(s.extract (n+v) (n+v+4)).toList)=true:=by rw[yl,c.o];exact g
  clear g c;go_enter func58,ntmps58;go_wp2_with (first|(go_at_call 87;refine i.mono ?_;rintro e w1 ⟨rfl,a⟩)|(go_at_call 77;refine(d _).mono ?_;rintro e w2 ⟨b,rfl⟩;have l:Ha (Below w.heap.size w w2):=a.trans (b.mono a.size);clear a b));go_ret2;exact⟨l,by go_num⟩
 rw[xg g];have q:(C==(s.extract (n+v) (n+v+4)).toList)=false:=by rw[xp,c.o];exact g
 clear g c;go_enter func58,ntmps58;go_wp2_with (first|(go_at_call 87;refine i.mono ?_;rintro e w1 ⟨rfl,a⟩)|(go_at_call 77;refine(d _).mono ?_;rintro e w2 ⟨b,rfl⟩;have l:Ha (Below w.heap.size w w2):=a.trans (b.mono a.size);clear a b));go_ret2;exact⟨l,rfl⟩
