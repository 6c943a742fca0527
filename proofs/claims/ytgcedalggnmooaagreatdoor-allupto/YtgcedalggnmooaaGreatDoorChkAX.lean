import Derived.Test.YtgcedalggnmooaaGreatDoorRefAX
set_option linter.all false
set_option maxRecDepth 100000
set_option maxHeartbeats 1600000
namespace Go.Proofs.YtgcedalggnmooaaGreatDoor
open Go.RowKit
open Tryz
def pQ(b:UInt8)(m:Nat):Bool:=b.toNat / 2^(7-m)%2==1
def ZM(b:UInt8):List Bool:=(List.range 8).map (pQ b)
def bW(l:List UInt8):List Bool:=l.flatMap ZM
def dK(b:UInt8):(ZM b).length=8:=by simp[ZM]
def dV(l:List UInt8):(bW l).length=8*l.length:=by
 induction l with
 |nil=>rfl
 |cons b r ih=>
  show(ZM b++bW r).length=_;rw[xc,ih,dK,List.length_cons];omega
def FQ(l:List UInt8)(b:UInt8):bW (l++[b])=bW l++ZM b:=by simp[bW]
def IB(b:UInt8){m:Nat}(h:m<8):(ZM b).take (m+1)=(ZM b).take m++[pQ b m]:=by
 rw[xn (by rw[dK];exact h)];simp[ZM]
def Zz(m:Nat):Bool:=517762881 / 2^m%2==1
def eM(l:List Bool):Nat->List Bool
 |0=>l
 |k+1=>(eM l k).set k (!((eM l k).getD k false))
def qR(i:Nat)(l:List Bool):Nat->List Bool
 |0=>l
 |m+1=>if Zz m=true then (qR i l m).set (i+32-m) (!((qR i l m).getD (i+32-m) false)) else qR i l m
def sE(l:List Bool):Nat->List Bool
 |0=>l
 |k+1=>if (sE l k).getD k false=true then qR k ((sE l k).set k false) 32 else sE l k
def lQ(l:List Bool)(n:Nat):Nat->List UInt8
 |0=>[0,0,0,0]
 |k+1=>if l.getD (n+k) false=true then lQ l n k else (lQ l n k).set (k / 8) (UInt8.ofNat (bits .or .u8 (((lQ l n k).getD (k / 8) 0).toNat:Int) (2^(7-k%8)%256)).toNat)
def fR(l:List Bool):∀k,(eM l k).length=l.length
 |0=>rfl
 |k+1=>by rw[eM,xq,fR l k]
def jP(i:Nat)(l:List Bool):∀m,(qR i l m).length=l.length
 |0=>rfl
 |m+1=>by
  rw[qR];split
  ·rw[xq,jP i l m]
  exact jP i l m
def nV(l:List Bool):∀k,(sE l k).length=l.length
 |0=>rfl
 |k+1=>by
  rw[sE];split
  ·rw[jP,xq,nV l k]
  exact nV l k
def jY(l:List Bool)(n:Nat):∀k,(lQ l n k).length=4
 |0=>rfl
 |k+1=>by
  rw[lQ];split
  ·exact jY l n k
  rw[xq];exact jY l n k
def SC(l:List UInt8):List Bool:=sE (eM (bW l++List.replicate 32 false) 32) (8*l.length)
def nU(l:List UInt8):List UInt8:=lQ (SC l) (8*l.length) 32
def eI(l:List UInt8):(nU l).length=4:=jY _ _ _
def bM(c:List UInt8):List UInt8:=(Pl.num c.length++c)++nU (Pl.num c.length++c)
def FK:∀x:Nat,x<256->(bits .and .i64 (x:Int) 1==1)=(x%2==1):=by decide +kernel
def MB(b:UInt8)(m:Nat):(bits .and .i64 ((b.toNat:Int) / 2^(7-m)) 1==1)=pQ b m:=by
 have h:((b.toNat:Int) / 2^(7-m))=((b.toNat / 2^(7-m):Nat):Int):=by
  rw[Int.natCast_ediv,Int.natCast_pow];rfl
 rw[h,FK]
 ·rfl
 exact xaC (Nat.div_le_self _ _) (yz b)
def PT(s:ByteArray)(R:s.size<=4194304)(w:World):Calls prog 121 #[.string s] w λe w'=>Below w.heap.size w w'/\∃a cap,e=.returned (.slice a (8*s.size) cap)/\w'.ownsRow w.heap.size 4 1 (.slice a (8*s.size) cap) (8*s.size) (Bs (bW s.data.toList)):=by
 obtain⟨N,M,E,F,G⟩:=XT SU;have p:Ha (s.data.toList.length=s.size):=by unfold Ha;simp
 have y:Ha (∀k,k<=s.size->(bW (s.data.toList.take k)).length=8*k):=λk t=>by rw[dV,XL,p.o];omega
 have A:Ha (∀k (h:k<s.size),s.data.toList.take (k+1)=s.data.toList.take k++[s[k]]):=λk h=>by
  rw[xn (by rw[p.o];exact h)];rfl
 go_enter func121,ntmps121;go_wp2_with fail;go_loopw [3,4] (λv i wr=>∃(k:Nat),k<=s.size/\i=.int .i64 k/\wr.ownsRow w.heap.size 4 1 v (8*k) (Bs (bW (s.data.toList.take k)))/\Below w.heap.size w wr) (λ_ i _=>s.size-(intOf i).toNat)
 case atStart=>exact⟨0,by omega,rfl,Xx _ _ _ _,xm _ _⟩
 obtain⟨k,t,rfl,b,j⟩:=hrel;by_cases B:k<s.size
 ·have c:=zb b;have g:=zb j;have K:=zb (A k B);have P:=zb (y k t);have H:s[k].toNat<256:=yz _;generalize r:bW (s.data.toList.take k)=bl at *;have x:=zb r;clear b j r;go_wp2_with fail;go_loopw [3,5] (λv i wr=>∃(m:Nat),m<=8/\i=.int .i64 (7-m)/\wr.ownsRow w.heap.size 4 1 v (8*k+m) (Bs (bl++(ZM s[k]).take m))/\Below w.heap.size w wr) (λ_ i _=>(1+intOf i).toNat)
  case atStart=>exact⟨0,by omega,by go_num,by rw[List.take_zero,yo];exact c,g⟩
  clear c g;obtain⟨m,Q,rfl,b,j⟩:=hrel;by_cases C:m<8
  ·have z:=zb (IB s[k] C);have c:=zb b;have g:=zb j;clear b j;go_wp2_with (at_builtin;refine Xr _ rfl _ _ 70 rfl (w.heap.size) 4 N (.bool false) 1 1 TD M E F G rfl (by decide) _ _ _ rfl (c.alloc _) ⟨wr.heap.size,0,none⟩ 1 1 [.bool ?bb] rfl rfl ?c1 ?c2 ?c3 ?c4 ?c5 ?_)
   case c1=>exact Zy _ _ _
   case c2=>intro u J;simp at J;subst J;rfl
   case c3=>unfold maxLen;omega
   case c4=>omega
   case c5=>have:=g.size;simp;omega
   intro v' w2 d f D;have q:Below w.heap.size w w2:=(g.alloc g.size _).grown f (by have:=g.size;simp;omega) (λk t=>(c.lt k t).1);rw[MB]at d;have n:Ha (w2.ownsRow w.heap.size 4 1 v' (8*k+(m+1)) (Bs (bl++(ZM s[k]).take (m+1)))):=by
    unfold Ha;rw[z.o,<-yc];have e:Bs ((bl++(ZM s[k]).take m)++[pQ s[k] m])=Bs (bl++(ZM s[k]).take m)++[.bool (pQ s[k] m)]:=by simp[Bs]
    rw[e];exact d
   have l:=zb q;clear d f c D g q;go_wp2_with fail;go_roundw
   case rel=>exact⟨m+1,by omega,by go_num,n,l⟩
   simp[intOf];omega
  obtain rfl:m=8:=by omega
  have n:Ha (wr.ownsRow w.heap.size 4 1 u3 (8*(k+1)) (Bs (bW (s.data.toList.take (k+1))))):=by
   unfold Ha;rw[K.o,FQ,x.o,show 8*(k+1)=8*k+8 by omega];rw[Xy (by rw[dK];exact xe _)]at b;exact b
  have l:=zb j;clear b j;go_wp2_with fail;go_roundw
  case rel=>exact⟨k+1,by omega,by go_num,n,l⟩
  simp[intOf];omega
 obtain rfl:k=s.size:=by omega
 rw[show s.data.toList.take s.size=s.data.toList by rw[Xy (by rw[p.o];exact xe _)]]at b;obtain⟨a,cap,rfl⟩:=zK b;go_wp2_with fail;go_ret;exact⟨j,a,cap,rfl,b⟩
def PD(l:List Bool)(b:Bool):Bs (l++[b])=Bs l++[.bool b]:=by simp[Bs]
def Og(l:List Bool)(k:Nat):(l++List.replicate k false)++[false]=l++List.replicate (k+1) false:=by rw[yc,List.replicate_succ']
variable {c i v:Nat}{l:List Bool}
def Nq{m:Nat}(h:Zz m=true):qR i l (m+1)=(qR i l m).set (i+32-m) (!((qR i l m).getD (i+32-m) false)):=by rw[qR,xh h]
def QF{m:Nat}(h:Zz m=false):qR i l (m+1)=qR i l m:=by rw[qR,xg (by rw[h];simp)]
def KL:∀m:Nat,m<32->(bits .and .i64 ((517762881:Int) / 2^m) 1==1)=Zz m:=by decide +kernel
def Eu(s:ByteArray)(hs:s.size<=4194304)(w:World):Calls prog 77 #[.string s] w λe w'=>Below w.heap.size w w'/\e=.returned (.string ⟨(nU s.data.toList).toArray⟩):=by
 obtain⟨i0,hi,d6,d7,d8⟩:=XT SU;obtain⟨i5,h5,c7,c8,c9⟩:=XT QB;have a1:Ha (s.data.toList.length=s.size):=by unfold Ha;simp
 have S:=zb (PT s hs w);have W:Ha (nU s.data.toList=lQ (sE (eM (bW s.data.toList++List.replicate 32 false) 32) (8*s.size)) (8*s.size) 32):=by unfold Ha nU SC;rw[a1.o]
 have T:Ha ((bW s.data.toList).length=8*s.size):=by unfold Ha;rw[dV,a1.o]
 rw[W.o];generalize d0:bW s.data.toList=bl at *;obtain⟨N,hN⟩:∃N,N=8*s.size:=⟨_,rfl⟩
 have d9:N<=33554432:=by omega
 rw[<-hN]at S W T ⊢;clear d0 a1 W hN hs;go_enter func77,ntmps77;go_wp2_with (go_at_call 121;refine S.mono ?_;rintro e w1 ⟨a7,a,cap,rfl,c⟩);have q:=zb (And.intro c a7);clear c a7 S;go_loopw [3,5] (λv i wr=>∃(k:Nat),k<=32/\i=.int .i64 k/\wr.ownsRow w.heap.size 4 1 v (N+k) (Bs (bl++List.replicate k false))/\Below w.heap.size w wr) (λ_ i _=>32-(intOf i).toNat)
 case atStart=>exact⟨0,by omega,rfl,by rw[List.replicate_zero,yo];exact q.1,q.2⟩
 clear q;obtain⟨k,M,rfl,c,f⟩:=hrel;by_cases x:k<32
 ·have E:=zb c;have p:=zb f;clear c f;go_wp2_with (at_builtin;refine Xr _ rfl _ _ 70 rfl (w.heap.size) 4 i0 (.bool false) 1 1 TD hi d6 d7 d8 rfl (by decide) _ _ _ rfl (E.alloc _) ⟨wr.heap.size,0,none⟩ 1 1 [.bool false] rfl rfl ?c1 ?c2 ?c3 ?c4 ?c5 ?_)
  case c1=>exact Zy _ _ _
  case c2=>intro u hu;simp at hu;subst hu;rfl
  case c3=>unfold maxLen;omega
  case c4=>omega
  case c5=>have:=p.size;simp;omega
  intro v' w2 G n d3;have a8:Below w.heap.size w w2:=(p.alloc p.size _).grown n (by have:=p.size;simp;omega) (λk M=>(E.lt k M).1);have K:Ha (w2.ownsRow w.heap.size 4 1 v' (N+(k+1)) (Bs (bl++List.replicate (k+1) false))):=by
   unfold Ha;rw[<-Og,PD];exact G
  have J:=zb a8;clear G n E d3 p a8;go_wp2_with fail;go_roundw
  case rel=>exact⟨k+1,by omega,by go_num,K,J⟩
  simp[intOf];omega
 obtain rfl:k=32:=by omega
 clear M x;obtain⟨g,cap2,hv,hg,d2⟩:=zG c (by omega);subst hv;have X:Ha ((bl++List.replicate 32 false).length=N+32):=by unfold Ha;rw[xc,xbr,T.o]
 generalize b1:bl++List.replicate 32 false=L at *;have b7:=zb b1;clear b1;have q:=zb (And.intro c f);clear c f d2 T;go_wp2_with fail;go_loopw [6] (λi wr=>∃(k:Nat),k<=32/\i=.int .i64 k/\wr.ownsRow w.heap.size 4 1 (.slice (some ⟨g,0,none⟩) (N+32) cap2) (N+32) (Bs (eM L k))/\Below w.heap.size w wr) (λi _=>32-(intOf i).toNat)
 case atStart=>exact⟨0,by omega,rfl,q.1,q.2⟩
 clear q;obtain⟨k,M,rfl,c,f⟩:=hrel;by_cases x:k<32
 ·have Q:=kE c (by rw[fR,X.o]) k (by omega);have hf:=c.frozenAt k;have H:=zb (λb=>xY c k b);have p:=zb f;have b9:Ha (eM L (k+1)=(eM L k).set k (!((eM L k).getD k false))):=rfl;generalize (eM L k).getD k false=fb at *;clear c f;go_wp2_with fail;go_roundw
  case rel=>exact⟨k+1,by omega,by go_num,by rw[b9.o];exact H _,p.setCell hg _⟩
  simp[intOf];omega
 obtain rfl:k=32:=by omega
 clear M x;have a5:Ha ((eM L 32).length=N+32):=by unfold Ha;rw[fR,X.o]
 generalize b0:eM L 32=F at *;have b6:Ha (∀j,j=32->eM L j=F):=λj hj=>by rw[hj];exact b0
 clear b0;have q:=zb (And.intro c f);clear c f X;go_wp2_with fail;go_loopw [7,8] (λi _ wr=>∃(k:Nat),k<=N/\i=.int .i64 k/\wr.ownsRow w.heap.size 4 1 (.slice (some ⟨g,0,none⟩) (N+32) cap2) (N+32) (Bs (sE F k))/\Below w.heap.size w wr) (λi _ _=>N-(intOf i).toNat)
 case atStart=>exact⟨0,by omega,rfl,q.1,q.2⟩
 clear q;obtain⟨k,M,rfl,c,f⟩:=hrel;have A:Ha ((sE F k).length=N+32):=by unfold Ha;rw[nV,a5.o]
 by_cases x:k<N
 ·have Q:=kE c A k (by omega);have hf:=c.frozenAt k;have H:=zb (λb=>xY c k b);have t:=zb c;have p:=zb f;have B:Ha (sE F (k+1)=if (sE F k).getD k false=true then qR k ((sE F k).set k false) 32 else sE F k):=rfl;clear c f;by_cases d:(sE F k).getD k false=true
  ·rw[xh d]at B;rw[d]at Q;have c6:Ha (∀m,(qR k ((sE F k).set k false) m).length=N+32):=λm=>by rw[jP,xq,A.o]
   have a4:=zb (H false);generalize (sE F k).set k false=D at *;clear d A H t;go_wp2_with fail;go_loopw [8] (λi wr=>∃(m:Nat),m<=32/\i=.int .i64 m/\wr.ownsRow w.heap.size 4 1 (.slice (some ⟨g,0,none⟩) (N+32) cap2) (N+32) (Bs (qR k D m))/\Below w.heap.size w wr) (λi _=>32-(intOf i).toNat)
   case atStart=>exact⟨0,by omega,rfl,a4,p.setCell hg _⟩
   clear a4 p Q hf;obtain⟨m,hm,rfl,c,f⟩:=hrel;by_cases R:m<32
   ·have e0:(k:Int)+32-m=((k+32-m:Nat):Int):=by omega
    have Q:=kE c (c6 m) (k+32-m) (by omega);have hf:=c.frozenAt (k+32-m);have H:=zb (λb=>xY c (k+32-m) b);have t:=zb c;have p:=zb f;have HY:=zb (@Nq k D m);have Z:=zb (@QF k D m);generalize (qR k D m).getD (k+32-m) false=db at *;clear c f;have b3:=KL m R;by_cases z:Zz m=true
    ·rw[z]at b3;have a0:=zb (HY z);clear HY Z z;go_wp2_with fail;go_roundw
     case rel=>exact⟨m+1,by omega,by go_num,by rw[a0.o];exact H _,p.setCell hg _⟩
     simp[intOf];omega
    rw[xaz]at z;rw[z]at b3;have a0:=zb (Z z);clear HY Z z;go_wp2_with fail;go_roundw
    case rel=>exact⟨m+1,by omega,by go_num,by rw[a0.o];exact t,p⟩
    simp[intOf];omega
   obtain rfl:m=32:=by omega
   clear hm R;have t:=zb c;have p:=zb f;rw[<-B.o]at t;clear c f;go_wp2_with fail;go_roundw
   case rel=>exact⟨k+1,by omega,by go_num,t,p⟩
   simp[intOf];omega
  rw[xg d]at B;rw[xaz]at d;rw[d]at Q;rw[<-B.o]at t;clear B H d A;go_wp2_with fail;go_roundw
  case rel=>exact⟨k+1,by omega,by go_num,t,p⟩
  simp[intOf];omega
 obtain rfl:k=N:=by omega
 clear x M;generalize a9:sE F k=D at *;have b5:=zb a9;clear a9;have t:=zb c;have HL:=zb A;have a3:=f.size;have p:=zb f;clear c A f a5;go_wp2_with (at_make;refine wpList_make_full _ rfl _ _ 89 rfl (w.heap.size) 5 i5 (.int .u8 0) 1 Pu h5 c7 c8 _ _ _ _ 4 rfl rfl (by rfl) (by rfl) (by rw[c9];omega) (by unfold maxLen;omega) (by omega) ?_;intro w2 y n);have d1:g<wr.heap.size:=(t.lt g rfl).2;have K:=zb (t.kept n (Or.inr (by simp[Value.ownBlock])));have J:Ha (Below w.heap.size w w2):=p.grown n a3 (λk M=>by cases M);have HM:Ha (w2.ownsRow w.heap.size 5 1 (.slice (some ⟨wr.heap.size,0,none⟩) 4 4) 4 (U8 [0,0,0,0])):=by rw[Un]at y;exact y
 obtain⟨g2,a2⟩:∃g2,g2=wr.heap.size:=⟨_,rfl⟩
 rw[<-a2]at HM d1 ⊢;rw[<-a2]at a3;clear y n t p a2;go_wp2_with fail;go_loopw [10] (λi wr=>∃(j:Nat),j<=32/\i=.int .i64 j/\wr.ownsRow w.heap.size 5 1 (.slice (some ⟨g2,0,none⟩) 4 4) 4 (U8 (lQ D k j))/\wr.ownsRow w.heap.size 4 1 (.slice (some ⟨g,0,none⟩) (k+32) cap2) (k+32) (Bs D)/\Below w.heap.size w wr) (λi _=>32-(intOf i).toNat)
 case atStart=>exact⟨0,by omega,rfl,HM,K,J⟩
 clear HM K J;obtain⟨j,hj,rfl,r,c,f⟩:=hrel;have a6:=zb (jY D k j);by_cases x:j<32
 ·have Q:=kE c HL (k+j) (by omega);have e1:=rP r a6 (j / 8) (by omega);have e3:=r.frozenAt (j / 8);have H:=zb (λb f=>Om r (j / 8) b f);have t:=zb c;have HU:=zb r;have p:=zb f;have e4:((lQ D k j).getD (j / 8) 0).toNat<256:=yz _;have C:Ha (lQ D k (j+1)=if D.getD (k+j) false=true then lQ D k j else (lQ D k j).set (j / 8) (UInt8.ofNat (bits .or .u8 (((lQ D k j).getD (j / 8) 0).toNat:Int) (2^(7-j%8)%256)).toNat)):=rfl;clear c r f;by_cases d:D.getD (k+j) false=true
  ·rw[d]at Q;rw[xh d]at C;rw[<-C.o]at HU;clear d C H;generalize (lQ D k j).getD (j / 8) 0=ob at *;go_wp2_with fail;go_roundw
   case rel=>exact⟨j+1,by omega,by go_num,HU,t,p⟩
   simp[intOf];omega
  rw[xg d]at C;rw[xaz]at d;rw[d]at Q;clear d;generalize (lQ D k j).getD (j / 8) 0=ob at *;go_wp2_with fail;go_region;go_wp2_with fail;have hr:=vT .or (ob.toNat:Int) (2^(7-j%8)%256);obtain⟨b4,d4⟩:=H.o _ hr;rw[<-C.o]at b4;have d5:=t.kept d4 (Or.inr (by simp[Value.ownBlock];omega));go_roundw
  case rel=>exact⟨j+1,by omega,by go_num,b4,d5,(p.setCell a3 _).drew⟩
  simp[intOf];omega
 obtain rfl:j=32:=by omega
 clear hj x;generalize b2:lQ D k 32=l at *;have b8:Ha (∀j,j=32->lQ D k j=l):=λj hj=>by rw[hj];exact b2
 clear b2;have hl:=a6.o;have e2:(convert 89 9 (.slice (some ⟨g2,0,none⟩) 4 4)).run prog wr=.ok (.string ⟨l.toArray⟩) wr:=by
  have h:=xbe (P:=prog) wr 89 9 5 ⟨g2,0,none⟩ 4 l Pu WW WX (λj hj=>by
   have ha:(Addr.add ⟨g2,0,none⟩ j)=⟨g2,j,none⟩:=by
    unfold Addr.add;split<;>simp_all
   rw[ha,rP r hl j (by omega)];simp[Wc,hj])
  rw[hl]at h;exact h
 have p:=zb f;clear r c hl f;go_wp2_with fail;go_ret;exact⟨p,by rw[b7.o,b6.o 32 rfl,b5.o,b8.o 32 rfl];rfl⟩
def mG(a b:List UInt8):(⟨a.toArray⟩:ByteArray)++(⟨b.toArray⟩:ByteArray)=⟨(a++b).toArray⟩:=by
 apply xau
 simp
def Sf(c:ByteArray):c=⟨c.data.toList.toArray⟩:=by
 apply xau
 simp
def Nb(c:ByteArray)(s:c.size<=4194295)(w:World):Calls prog 52 #[.string c] w λe w'=>Below w.heap.size w w'/\e=.returned (.string ⟨(bM c.data.toList).toArray⟩):=by
 have t:=Pl.num_len c.size (by omega);have g:=zb (lN _ (c.size:Int) (xe _) (by omega) (by omega) w);rw[xbf]at g;have a:Ha (c.data.toList.length=c.size):=by unfold Ha;simp
 have k:Ha ((⟨(Pl.num c.size).toArray⟩:ByteArray)++c=⟨(Pl.num c.size++c.data.toList).toArray⟩):=by
  unfold Ha;conv=>lhs;rw[Sf c]
  exact mG _ _
 have d:Ha (bM c.data.toList=(Pl.num c.size++c.data.toList)++nU (Pl.num c.size++c.data.toList)):=by unfold Ha bM;rw[a.o]
 have j:=zb (Eu ⟨(Pl.num c.size++c.data.toList).toArray⟩ (by rw[YY];simp;omega));rw[d.o];go_enter func52,ntmps52;go_wp2_with (go_at_call 76;refine g.mono ?_;rintro e w1 ⟨rfl,b⟩);rw[k.o];clear k d g;have r:(Pl.num c.size++c.data.toList).length<=4194304:=by rw[xc,a.o];omega
 clear a;generalize m:Pl.num c.size++c.data.toList=T at *;have i:=zb m;clear m;refine(j _).mono ?_
 rintro e w2 ⟨f,rfl⟩;have p:Ha (Below w.heap.size w w2):=b.trans (f.mono b.size);clear j b f;have n:=zb (mG T (nU T));have q:=eI T;generalize l:nU T=C at *;have h:=zb l;clear l;go_wp2_with fail;rw[n.o];go_ret;exact⟨p,by rw[i.o,h.o];rfl⟩
def EE(c:List UInt8)(a:c.length<9223372036854775808):(bM c).length<=c.length+13:=by
 have:=Pl.num_len c.length a
 unfold bM;rw[xc,xc,eI];omega
def Mi(s:ByteArray):ByteArray:=⟨(bM s.data.toList).toArray⟩
def qD(s:ByteArray)(b:s.size<=4194295):(Mi s).size<=s.size+13:=by
 have a:s.data.toList.length=s.size:=by simp
 have:=EE s.data.toList (by omega)
 have e:(Mi s).size=(bM s.data.toList).length:=by unfold Mi;rw[YY];simp
 omega
def oA(c:ByteArray)(a:c.size<=4194295)(w:World):Calls prog 52 #[.string c] w λe w'=>Below w.heap.size w w'/\∃f:ByteArray,e=.returned (.string f)/\f.size<=c.size+13/\f=Mi c :=
 (Nb c a w).mono (λe w' h=>⟨h.1,Mi c,h.2,qD c a,rfl⟩)
def qX(l rep:List UInt8):Bool:=(rep.getD 0 1==0)&&decide ((l.getD 0 0).toNat<=10)
def Rt(rec s:ByteArray):ByteArray:=rec++Mi s
def Tt(rec s:ByteArray)(rep:List UInt8):ByteArray:=if qX s.data.toList rep=true then Rt rec s else rec
structure RecX(rec s rec':ByteArray)(rep:List UInt8):Prop where
 size:rec'.size<=rec.size+(s.size+13)
 eq:rec'=Tt rec s rep
variable {rec s:ByteArray}{rep:List UInt8}
def RecX.no1(h:rep.getD 0 1≠0):RecX rec s rec rep :=
 ⟨by omega,by unfold Tt qX;rw[xr.2 h];rfl⟩
variable {ns:List Nat}
def gH{l:List UInt8}(h:Pl.cmd l=.ok (c,ns)):(l.getD 0 0).toNat=c:=by
 cases l with
 |nil=>simp[Pl.cmd]at h
 |cons b r=>
  simp only[Pl.cmd]at h
  cases e:Pl.nums r with
  |none=>rw[e]at h;simp at h
  |some ms=>
   rw[e]at h;simp only at h;by_cases a:Pl.kindsL b.toNat=[]\/ms.length≠(Pl.kindsL b.toNat).length
   ·rw[xh a]at h;simp at h
   rw[xg a]at h;by_cases d:Pl.mays (Pl.kindsL b.toNat) ms=true
   ·rw[xh d]at h;simp at h;exact h.1
   rw[xg d]at h;simp at h
def RecX.no2(a:Pl.cmd s.data.toList=.ok (c,ns))(b:11<=c):RecX rec s rec rep :=
 ⟨by omega,by unfold Tt qX;rw[gH a,xy (by omega),xaJ];rfl⟩
def RecX.yes{a:ByteArray}(b:Pl.cmd s.data.toList=.ok (c,ns))(d:c<=10)(h:a=Rt rec s)(f:s.size<=4194295)(e:rep.getD 0 1=0):RecX rec s a rep :=
 ⟨by have:=qD s f;rw[h,Rt,ByteArray.size_append'];omega,by unfold Tt qX;rw[gH b,Xt d,e];exact h⟩
def dY(h:c≠0)(b:c<=255):UInt8.ofNat c≠0:=λa=>by
 have e:(UInt8.ofNat c).toNat=c:=by rw[yp];omega
 rw[a]at e;have:(0:UInt8).toNat=0:=rfl;omega
def xZ(a:i<l.length)(b:Bool)(j:Nat):(l.set i b).getD j false=if j=i then b else l.getD j false:=by
 by_cases h:j=i
 ·subst h;rw[xh rfl];simp[Wc,a]
 rw[xg h];simp[Wc,XB,Yl h]
def tZ(l:List Bool):∀k,k<=l.length->∀j,(eM l k).getD j false=if j<k then !(l.getD j false) else l.getD j false
 |0,_,j=>by rw[xg (by omega)];rfl
 |k+1,hk,j=>by
  have c:=tZ l k (by omega);have a:=c k;rw[xg (Yr k)]at a;rw[eM,xZ (by rw[fR];omega),a,c j];by_cases h:j=k
  ·subst h;rw[xh rfl,xh (by omega)]
  rw[xg h];by_cases b:j<k
  ·rw[xh b,xh (by omega)]
  rw[xg b,xg (by omega)]
def AR(i:Nat)(l:List Bool)(c:i+32<l.length):∀m,m<=32->∀j,(qR i l m).getD j false=(l.getD j false ^^ (decide (j<=i+32/\i+32<j+m)&&Zz (i+32-j)))
 |0,_,j=>by rw[xy (by omega)];simp[qR]
 |m+1,hm,j=>by
  have d:=AR i l c m (by omega);have b:(qR i l (m+1)).getD j false=if j=i+32-m then ((qR i l m).getD j false ^^ Zz m) else (qR i l m).getD j false:=by
   rw[qR];by_cases a:Zz m=true
   ·rw[xh a,xZ (by rw[jP];omega)];by_cases h:j=i+32-m
    ·rw[xh h,xh h,a,h];simp
    rw[xg h,xg h]
   rw[xg a];by_cases h:j=i+32-m
   ·rw[xh h,xaz _ |>.mp a];simp
   rw[xg h]
  rw[b,d j];by_cases h:j=i+32-m
  ·rw[xh h,xy (by omega),Xt (by omega),show i+32-j=m by omega];simp
  rw[xg h];have:decide (j<=i+32/\i+32<j+(m+1))=decide (j<=i+32/\i+32<j+m):=by rw[xbt];omega
  rw[this]
def UH(r:Nat->Bool)(b:Bool)(j:Nat):Bool:=(decide (j<31)&&r (j+1)) ^^ ((r 0 ^^ b)&&Zz (31-j))
def kL(m:Nat->Bool):Nat->Nat->Bool
 |0=>λ_=>true
 |k+1=>UH (kL m k) (m k)
def bZ(l:List UInt8)(j:Nat):Bool:=(bW l).getD j false
def MN(l:List UInt8):∀k,k<=8*l.length->∀j,(sE (eM (bW l++List.replicate 32 false) 32) k).getD (k+j) false=((decide (j<32)&&kL (bZ l) k j) ^^ bZ l (k+j)):=by
 have p:(bW l++List.replicate 32 false).length=8*l.length+32:=by rw[xc,dV,xbr]
 have q:∀j,(bW l++List.replicate 32 false).getD j false=bZ l j:=λj=>by
  unfold bZ;by_cases h:j<(bW l).length
  ·simp[Wc,XH h]
  rw[Wc,Yc (by omega),xaY];rw[Wc,XJ (by omega)];split<;>rfl
 intro k;induction k with
 |zero=>
  intro _ j;rw[sE,Yz,tZ _ 32 (by omega),q];by_cases h:j<32
  ·rw[xh h,Xt h];simp[kL]
  rw[xg h,xy h];simp
 |succ k i=>
  intro t j;have i:=i (by omega);have a:=i 0;rw[xaN]at a;have r:(sE (eM (bW l++List.replicate 32 false) 32) k).length=8*l.length+32:=by rw[nV,fR,p]
  have b:=i (j+1);have e:k+(j+1)=k+1+j:=by omega
  rw[e]at b;rw[sE];have n:kL (bZ l) (k+1) j=((decide (j<31)&&kL (bZ l) k (j+1)) ^^ ((kL (bZ l) k 0 ^^ bZ l k)&&Zz (31-j))):=rfl;generalize s:sE (eM (bW l++List.replicate 32 false) 32) k=E at *;by_cases g:E.getD k false=true
  ·have f:(kL (bZ l) k 0 ^^ bZ l k)=true:=by rw[g]at a;simpa using a.symm
   rw[xh g,AR k _ (by rw[xq];omega) 32 (by omega),xZ (by omega),xg (by omega),b,n,f];by_cases c:j<31
   ·rw[Xt (show j+1<32 by omega),Xt (show k+1+j<=k+32/\k+32<k+1+j+32 by omega),Xt (show j<32 by omega),Xt c,show k+32-(k+1+j)=31-j by omega]
    cases kL (bZ l) k (j+1)<;>cases bZ l (k+1+j)<;>cases Zz (31-j)<;>rfl
   by_cases d:j=31
   ·subst d;rw[xy (show ¬(31+1<32) by omega),Xt (show k+1+31<=k+32/\k+32<k+1+31+32 by omega),Xt (show 31<32 by omega),xy c,show k+32-(k+1+31)=31-31 by omega]
    cases bZ l (k+1+31)<;>cases Zz (31-31)<;>rfl
   rw[xy (show ¬(j+1<32) by omega),xy (show ¬(k+1+j<=k+32/\k+32<k+1+j+32) by omega),xy (show ¬(j<32) by omega)];simp
  have m:E.getD k false=false:=by simpa using g
  have f:(kL (bZ l) k 0 ^^ bZ l k)=false:=by rw[m]at a;simpa using a.symm
  rw[xg g,b,n,f];by_cases c:j<31
  ·rw[Xt (show j+1<32 by omega),Xt (show j<32 by omega),Xt c];simp
  rw[xy c];by_cases d:j=31
  ·subst d;simp
  rw[xy (show ¬(j+1<32) by omega),xy (show ¬(j<32) by omega)];simp
def MM(l:List UInt8)(j:Nat)(a:j<32):(SC l).getD (8*l.length+j) false=kL (bZ l) (8*l.length) j:=by
 have h:=MN l (8*l.length) (xe _) j;unfold SC;rw[h,Xt a];have:bZ l (8*l.length+j)=false:=by
  unfold bZ;rw[Wc,XJ (by rw[dV];omega)];rfl
 rw[this];simp
def Rg(v:Nat)(r:Nat->Bool):Prop:=v<4294967296/\∀j,j<32->v.testBit (31-j)=r j
def KK:∀m,m<32->Nat.testBit 517762881 m=Zz m:=by decide +kernel
def TO:(4294967296:Nat)=2^32:=rfl
variable {r:Nat->Bool}
def Rg.congr{b:Nat->Bool}(h:Rg v r)(e:∀j,j<32->r j=b j):Rg v b:=⟨h.1,λj a=>(h.2 j a).trans (e j a)⟩
def Rg.ones:Rg 4294967295 (λ_=>true):=⟨by omega,by decide +kernel⟩
def Rg.xor{u:Nat}{q:Nat->Bool}(h:Rg v r)(k:Rg u q):Rg (v ^^^ u) (λj=>r j ^^ q j):=by
 refine⟨?_,λj c=>?_⟩
 ·have a:=h.1;have b:=k.1;rw[TO]at a b ⊢;exact xam a b
 rw[Nat.testBit_xor,h.2 j c,k.2 j c]
def OW(v:Nat):Nat:=if v.testBit 31=true then (v*2%4294967296) ^^^ 517762881 else v*2%4294967296
def Rg.poly:Rg 517762881 (λj=>Zz (31-j)):=⟨by omega,λj a=>KK (31-j) (by omega)⟩
def Rg.double(h:Rg v r):Rg (v*2%4294967296) (λj=>decide (j<31)&&r (j+1)):=by
 refine⟨xcB _ (by omega),λj b=>?_⟩;show(v*2%4294967296).testBit (31-j)=(decide (j<31)&&r (j+1));rw[TO,xcc,Xt (show 31-j<32 by omega),xab];by_cases a:j<31
 ·rw[Xt a,xab,<-h.2 (j+1) (by omega)];rw[show 31-j=(31-(j+1))+1 by omega,Nat.testBit_succ,Nat.mul_div_cancel _ (by omega)]
 rw[xy a,xaA,show 31-j=0 by omega,Nat.testBit_zero];have:v*2%2=0:=Nat.mul_mod_left _ _;rw[this];rfl
def Rg.step(h:Rg v r):Rg (OW v) (UH r false):=by
 have b:v.testBit 31=r 0:=h.2 0 (by omega);unfold OW;by_cases a:v.testBit 31=true
 ·rw[xh a];refine(h.double.xor Rg.poly).congr (λj c=>?_);rw[b]at a;show((decide (j<31)&&r (j+1)) ^^ Zz (31-j))=((decide (j<31)&&r (j+1)) ^^ ((r 0 ^^ false)&&Zz (31-j)));rw[a];simp
 rw[xg a];refine h.double.congr (λj c=>?_);rw[b,xaz]at a;show(decide (j<31)&&r (j+1))=((decide (j<31)&&r (j+1)) ^^ ((r 0 ^^ false)&&Zz (31-j)));rw[a];simp
def Mh(v:Nat):Nat->Nat
 |0=>v
 |k+1=>OW (Mh v k)
def Qe(v:Nat)(b:UInt8):Nat:=Mh (v ^^^ (b.toNat*16777216)) 8
def Av(l:List UInt8):Nat:=l.foldl Qe 4294967295
def Rg.top(b:UInt8):Rg (b.toNat*16777216) (λj=>decide (j<8)&&pQ b j):=by
 have c:=yz b;refine⟨by omega,λj d=>?_⟩;show(b.toNat*16777216).testBit (31-j)=(decide (j<8)&&pQ b j);rw[xbg,show(16777216:Nat)=2^24 from rfl,Nat.testBit_two_pow_mul];by_cases h:j<8
 ·rw[Xt h,Xt (show 31-j≥24 by omega),xab,xab,show 31-j-24=7-j by omega];unfold pQ;rw[xbh]
  cases a:(b.toNat / 2^(7-j)%2==1) with
  |true=>simpa using a
  |false=>simpa using a
 rw[xy h,xy (show ¬31-j≥24 by omega),xaA,xaA]
def IA{m:Nat->Bool}{n:Nat}{b:UInt8}(h:Rg v (kL m n))(f:∀k,k<8->m (n+k)=pQ b k):Rg (Qe v b) (kL m (n+8)):=by
 have g:∀k,k<=8->Rg (Mh (v ^^^ (b.toNat*16777216)) k) (λj=>kL m (n+k) j ^^ (decide (k+j<8)&&m (n+(k+j)))):=by
  intro k;induction k with
  |zero=>
   intro _;refine(h.xor (Rg.top b)).congr (λj d=>?_);show(kL m n j ^^ (decide (j<8)&&pQ b j))=(kL m n j ^^ (decide (0+j<8)&&m (n+(0+j))));rw[Yz];by_cases c:j<8
   ·rw[f j c]
   rw[xy c];simp
  |succ k ih=>
   intro i;refine(ih (by omega)).step.congr (λj d=>?_);have e:n+(k+1)=(n+k)+1:=by omega
   rw[e];show((decide (j<31)&&(kL m (n+k) (j+1) ^^ (decide (k+(j+1)<8)&&m (n+(k+(j+1)))))) ^^ (((kL m (n+k) 0 ^^ (decide (k+0<8)&&m (n+(k+0)))) ^^ false)&&Zz (31-j)))=(((decide (j<31)&&kL m (n+k) (j+1)) ^^ ((kL m (n+k) 0 ^^ m (n+k))&&Zz (31-j))) ^^ (decide (k+1+j<8)&&m (n+(k+1+j))));rw[Xt (show k+0<8 by omega),xaN,show k+(j+1)=k+1+j by omega,xab,Bool.xor_false];by_cases a:j<31
   ·rw[Xt a,xab,xab]
    cases kL m (n+k) (j+1)<;>cases (decide (k+1+j<8)&&m (n+(k+1+j)))<;>cases ((kL m (n+k) 0 ^^ m (n+k))&&Zz (31-j))<;>rfl
   rw[xy a,xy (show ¬k+1+j<8 by omega)];simp
 refine(g 8 (xe _)).congr (λj d=>?_);show(kL m (n+8) j ^^ (decide (8+j<8)&&m (n+(8+j))))=kL m (n+8) j;rw[xy (show ¬8+j<8 by omega)];simp
def QP(a:List UInt8)(b:UInt8)(r:List UInt8)(k:Nat)(c:k<8):bZ (a++b::r) (8*a.length+k)=pQ b k:=by
 unfold bZ;have e:bW (a++b::r)=bW a++(ZM b++bW r):=by simp[bW]
 rw[e,Wc,Yc (by rw[dV];omega),dV,show 8*a.length+k-8*a.length=k by omega,XH (by rw[dK];exact c)];simp[ZM,c]
def IH:∀(r a:List UInt8),∀v,Rg v (kL (bZ (a++r)) (8*a.length))->Rg (r.foldl Qe v) (kL (bZ (a++r)) (8*(a++r).length))
 |[],a,v,h=>by simpa using h
 |b::r,a,v,h=>by
  have c:=IA h (λk f=>QP a b r k f);have e:a++b::r=(a++[b])++r:=by simp
  have d:8*a.length+8=8*(a++[b]).length:=by rw[xc,Xw];omega
  rw[e,d]at c;rw[e,YA];exact IH r (a++[b]) _ c
def ML(l:List UInt8):Rg (Av l) (kL (bZ l) (8*l.length)):=IH l [] 4294967295 Rg.ones
def QW:∀x:Nat,x<256->∀t:Nat,t<8->bits .or .u8 (x:Int) (2^t%256)=((x ||| 2^t:Nat):Int):=by decide +kernel
def Kx(D:List Bool)(n:Nat):∀K,K<=32->∀q,q<4->∀t,t<8->(((lQ D n K).getD q 0).toNat).testBit (7-t)=(decide (8*q+t<K)&&!(D.getD (n+(8*q+t)) false))
 |0,_,q,hq,t,ht=>by
  rw[xy (by omega),xaA];have:(lQ D n 0).getD q 0=0:=by
   rcases(show q=0\/q=1\/q=2\/q=3 by omega) with rfl|rfl|rfl|rfl<;>rfl
  rw[this];simp
 |K+1,hK,q,hq,t,ht=>by
  have f:=Kx D n K (by omega);have g:=jY D n K;rw[lQ];by_cases a:D.getD (n+K) false=true
  ·rw[xh a,f q hq t ht];by_cases h:8*q+t=K
   ·rw[h,a];simp
   rw[show decide (8*q+t<K+1)=decide (8*q+t<K) by rw[xbt];omega]
  rw[xg a];have d:((lQ D n K).getD (K / 8) 0).toNat<256:=yz _;rw[QW _ d (7-K%8) (by omega),xbf];have c:((lQ D n K).getD (K / 8) 0).toNat ||| 2^(7-K%8)<256:=by
   rw[show(256:Nat)=2^8 from rfl]at d ⊢;exact Nat.or_lt_two_pow d (Nat.pow_lt_pow_right (by omega) (by omega))
  by_cases b:q=K / 8
  ·subst b;have e:((lQ D n K).set (K / 8) (UInt8.ofNat (((lQ D n K).getD (K / 8) 0).toNat ||| 2^(7-K%8)))).getD (K / 8) 0=UInt8.ofNat (((lQ D n K).getD (K / 8) 0).toNat ||| 2^(7-K%8)):=by
    simp[Wc,g,hq]
   rw[e,yp,xaO c,Nat.testBit_or,f (K / 8) hq t ht,Nat.testBit_two_pow];by_cases h:8*(K / 8)+t=K
   ·rw[h,Xt (show 7-K%8=7-t by omega),Xt (show K<K+1 by omega)];rw[xaz]at a;rw[a];simp
   rw[xy (show ¬7-K%8=7-t by omega),xaj,show decide (8*(K / 8)+t<K+1)=decide (8*(K / 8)+t<K) by rw[xbt];omega]
  have e:∀x,((lQ D n K).set (K / 8) x).getD q 0=(lQ D n K).getD q 0:=λx=>by
   simp[Wc,XB,Yl b]
  rw[e,f q hq t ht,show decide (8*q+t<K+1)=decide (8*q+t<K) by rw[xbt];omega]
def VI(v:Nat):List UInt8:=[UInt8.ofNat (v / 16777216),UInt8.ofNat (v / 65536),UInt8.ofNat (v / 256),UInt8.ofNat v]
def PP(v q t:Nat)(b:q<4)(c:t<8):(((VI v).getD q 0).toNat).testBit (7-t)=v.testBit (31-(8*q+t)):=by
 have a:∀s,(UInt8.ofNat (v / 2^s)).toNat.testBit (7-t)=v.testBit (s+(7-t)):=λs=>by
  rw[yp,show(2^8:Nat)=2^8 from rfl,xcc,Xt (by omega),xab,Nat.testBit_div_two_pow];congr 1;omega
 rcases(show q=0\/q=1\/q=2\/q=3 by omega) with rfl|rfl|rfl|rfl
 ·have:=a 24;rw[show 31-(8*0+t)=24+(7-t) by omega];exact this
 ·have:=a 16;rw[show 31-(8*1+t)=16+(7-t) by omega];exact this
 ·have:=a 8;rw[show 31-(8*2+t)=8+(7-t) by omega];exact this
 have:=a 0;rw[show 31-(8*3+t)=0+(7-t) by omega];rw[Nat.pow_zero,Nat.div_one]at this;exact this
def MG(l:List UInt8):nU l=VI (Av l ^^^ 4294967295):=by
 have k:=ML l;have m:=k.xor Rg.ones;have ext:∀(A B:List UInt8),A.length=4->B.length=4->(∀q,q<4->A.getD q 0=B.getD q 0)->A=B:=λA B g j h=>by
  refine YZ (g.trans j.symm) (λq e f=>?_);have:=h q (by omega);simpa [Wc,e,f] using this
 refine ext _ _ (eI l) rfl (λq d=>?_);apply ya.1;apply Nat.eq_of_testBit_eq;intro i;by_cases p:i<8
 ·have o:=Kx (SC l) (8*l.length) 32 (xe _) q d (7-i) (by omega);have b:=PP (Av l ^^^ 4294967295) q (7-i) d (by omega);rw[show 7-(7-i)=i by omega]at o b;have n:((nU l).getD q 0).toNat.testBit i=_:=o;rw[n,b,Xt (by omega),xab,MM l _ (by omega),m.2 _ (by omega)];show(!(kL (bZ l) (8*l.length) (8*q+(7-i))))=(kL (bZ l) (8*l.length) (8*q+(7-i)) ^^ true);rw[Bool.xor_true]
 have a:((nU l).getD q 0).toNat<2^i:=xl (yz _) (xbB (by omega) (by omega));have c:((VI (Av l ^^^ 4294967295)).getD q 0).toNat<2^i:=xl (yz _) (xbB (by omega) (by omega));rw[Nat.testBit_lt_two_pow a,Nat.testBit_lt_two_pow c]
def Wb(l:List UInt8):Option (Nat×Nat) :=
 if Pl.snd l=0\/l.length<Pl.fst l\/l.length<Pl.snd l+Pl.fst l+4 then none
 else if nU (l.take (Pl.snd l+Pl.fst l))=(l.drop (Pl.snd l+Pl.fst l)).take 4 then some (Pl.snd l,Pl.fst l) else none
def Qr(s:ByteArray):Value:=match Wb s.data.toList with
 |none=>.tuple #[.string ⟨#[]⟩,.int .i64 0]
 |some (n,v)=>.tuple #[.string (s.extract n (n+v)),.int .i64 ((n+v+4:Nat):Int)]
def pV(s:ByteArray)(a b:Nat):(s.extract a b).data.toList=(s.data.toList.drop a).take (b-a):=by
 rw[YL,xbC]
def Jc(s:ByteArray)(y:s.size<=4194304)(w:World):Calls prog 58 #[.string s] w λe w'=>Below w.heap.size w w'/\e=.returned (Qr s):=by
 have k:Ha (s.data.toList.length=s.size):=by unfold Ha;simp
 have i:=zb (AF s y w);have x:=Pl.snd_le9 s.data.toList;have p:=Pl.snd_le s.data.toList;have B:=Pl.fst_lt s.data.toList;rw[k.o]at p;have j:Ha (Qr s=if Pl.snd s.data.toList=0\/s.size<Pl.fst s.data.toList\/s.size<Pl.snd s.data.toList+Pl.fst s.data.toList+4 then .tuple #[.string ⟨#[]⟩,.int .i64 0] else if nU (s.extract 0 (Pl.snd s.data.toList+Pl.fst s.data.toList)).data.toList=(s.extract (Pl.snd s.data.toList+Pl.fst s.data.toList) (Pl.snd s.data.toList+Pl.fst s.data.toList+4)).data.toList then .tuple #[.string (s.extract (Pl.snd s.data.toList) (Pl.snd s.data.toList+Pl.fst s.data.toList)),.int .i64 ((Pl.snd s.data.toList+Pl.fst s.data.toList+4:Nat):Int)] else .tuple #[.string ⟨#[]⟩,.int .i64 0]):=by
  unfold Ha Qr Wb;rw[k.o];by_cases h:Pl.snd s.data.toList=0\/s.size<Pl.fst s.data.toList\/s.size<Pl.snd s.data.toList+Pl.fst s.data.toList+4
  ·rw[xh h,xh h]
  rw[xg h,xg h,pV,pV,xbK,xaK,show Pl.snd s.data.toList+Pl.fst s.data.toList+4-(Pl.snd s.data.toList+Pl.fst s.data.toList)=4 by omega];by_cases f:nU (s.data.toList.take (Pl.snd s.data.toList+Pl.fst s.data.toList))=(s.data.toList.drop (Pl.snd s.data.toList+Pl.fst s.data.toList)).take 4
  ·rw[xh f,xh f]
  rw[xg f,xg f]
 rw[j.o];generalize Pl.snd s.data.toList=n at *;generalize Pl.fst s.data.toList=v at *;clear j;by_cases r:n=0
 ·rw[xh (Or.inl r)];subst r;go_enter func58,ntmps58;go_wp2_with (go_at_call 87;refine i.mono ?_;rintro e w1 ⟨rfl,a⟩);go_ret2;exact⟨a,rfl⟩
 by_cases t:s.size<v
 ·rw[xh (Or.inr (Or.inl t))];go_enter func58,ntmps58;go_wp2_with (go_at_call 87;refine i.mono ?_;rintro e w1 ⟨rfl,a⟩);go_ret2;exact⟨a,rfl⟩
 by_cases f:s.size<n+v+4
 ·rw[xh (Or.inr (Or.inr f))];go_enter func58,ntmps58;go_wp2_with (go_at_call 87;refine i.mono ?_;rintro e w1 ⟨rfl,a⟩);go_ret2;exact⟨a,rfl⟩
 rw[xg (show ¬(n=0\/s.size<v\/s.size<n+v+4) by omega)];have d:=zb (Eu (s.extract 0 (n+v)) (by rw[XR];omega));obtain⟨C,m⟩:=Ww (nU (s.extract 0 (n+v)).data.toList);rw[<-m.o]at d ⊢;have u:C.length=4:=by rw[m.o];exact eI _
 clear m;have z:((n:Int)==0)=false:=by rw[xr];omega
 have A:decide ((s.size:Int)<(n:Int)+(v:Int)+4)=false:=xy (by omega);have c:Ha ((s.extract (n+v) (n+v+4)).toList=(s.extract (n+v) (n+v+4)).data.toList):=yd _;by_cases g:C=(s.extract (n+v) (n+v+4)).data.toList
 ·rw[xh g];have q:(C==(s.extract (n+v) (n+v+4)).toList)=true:=by rw[Yi,c.o];exact g
  clear g c;go_enter func58,ntmps58;go_wp2_with (first|(go_at_call 87;refine i.mono ?_;rintro e w1 ⟨rfl,a⟩)|(go_at_call 77;refine(d _).mono ?_;rintro e w2 ⟨b,rfl⟩;have l:Ha (Below w.heap.size w w2):=a.trans (b.mono a.size);clear a b));go_ret2;exact⟨l,by go_num⟩
 rw[xg g];have q:(C==(s.extract (n+v) (n+v+4)).toList)=false:=by rw[xr,c.o];exact g
 clear g c;go_enter func58,ntmps58;go_wp2_with (first|(go_at_call 87;refine i.mono ?_;rintro e w1 ⟨rfl,a⟩)|(go_at_call 77;refine(d _).mono ?_;rintro e w2 ⟨b,rfl⟩;have l:Ha (Below w.heap.size w w2):=a.trans (b.mono a.size);clear a b));go_ret2;exact⟨l,rfl⟩
