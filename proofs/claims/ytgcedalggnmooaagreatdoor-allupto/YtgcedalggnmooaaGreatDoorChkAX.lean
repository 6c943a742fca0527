import Derived.Test.YtgcedalggnmooaaGreatDoorRefAX
set_option linter.all false
set_option maxRecDepth 100000
set_option maxHeartbeats 1600000
namespace Go.Proofs.YtgcedalggnmooaaGreatDoor
open Go.RowKit
open Value renaming int->Y,slice->vd,bool->vf,tuple->vg,string->vh
open IntKind renaming i64->V
open Option renaming none->U,some->vb
open Ending renaming returned->ve
open Tryz
def pT(b:UInt8)(m:Nat):Bool:=b.toNat / 2^(7-m)%2==1
def ZR(b:UInt8):List Bool:=(List.range 8).map (pT b)
def cB(l:List UInt8):List Bool:=l.flatMap ZR
def dM(b:UInt8):(ZR b).length=8:=by simp[ZR]
def dX(l:List UInt8):(cB l).length=8*l.length:=by
 induction l with
 |nil=>rfl
 |cons b r ih=>
  show(ZR b++cB r).length=_;rw[xc,ih,dM,List.length_cons];omega
def Gk(l:List UInt8)(b:UInt8):cB (l++[b])=cB l++ZR b:=by simp[cB]
def IY(b:UInt8){m:Nat}(h:m<8):(ZR b).take (m+1)=(ZR b).take m++[pT b m]:=by
 rw[xn (by rw[dM];exact h)];simp[ZR]
def ZE(m:Nat):Bool:=517762881 / 2^m%2==1
def eP(l:List Bool):Nat->List Bool
 |0=>l
 |k+1=>(eP l k).set k (!((eP l k).getD k false))
def qU(i:Nat)(l:List Bool):Nat->List Bool
 |0=>l
 |m+1=>if ZE m=true then (qU i l m).set (i+32-m) (!((qU i l m).getD (i+32-m) false)) else qU i l m
def sH(l:List Bool):Nat->List Bool
 |0=>l
 |k+1=>if (sH l k).getD k false=true then qU k ((sH l k).set k false) 32 else sH l k
def lT(l:List Bool)(n:Nat):Nat->List UInt8
 |0=>[0,0,0,0]
 |k+1=>if l.getD (n+k) false=true then lT l n k else (lT l n k).set (k / 8) (UInt8.ofNat (bits .or .u8 (((lT l n k).getD (k / 8) 0).toNat:Int) (2^(7-k%8)%256)).toNat)
def fW(l:List Bool):∀k,(eP l k).length=l.length
 |0=>rfl
 |k+1=>by rw[eP,xp,fW l k]
def jR(i:Nat)(l:List Bool):∀m,(qU i l m).length=l.length
 |0=>rfl
 |m+1=>by
  rw[qU];split
  ·rw[xp,jR i l m]
  exact jR i l m
def nY(l:List Bool):∀k,(sH l k).length=l.length
 |0=>rfl
 |k+1=>by
  rw[sH];split
  ·rw[jR,xp,nY l k]
  exact nY l k
def kB(l:List Bool)(n:Nat):∀k,(lT l n k).length=4
 |0=>rfl
 |k+1=>by
  rw[lT];split
  ·exact kB l n k
  rw[xp];exact kB l n k
def Tl(l:List UInt8):List Bool:=sH (eP (cB l++List.replicate 32 false) 32) (8*l.length)
def nX(l:List UInt8):List UInt8:=lT (Tl l) (8*l.length) 32
def eK(l:List UInt8):(nX l).length=4:=kB _ _ _
def bM(c:List UInt8):List UInt8:=(Pl.num c.length++c)++nX (Pl.num c.length++c)
def Ge:∀x:Nat,x<256->(bits .and .i64 (x:Int) 1==1)=(x%2==1):=by decide +kernel
def Nb(b:UInt8)(m:Nat):(bits .and .i64 ((b.toNat:Int) / 2^(7-m)) 1==1)=pT b m:=by
 have h:((b.toNat:Int) / 2^(7-m))=((b.toNat / 2^(7-m):Nat):Int):=by
  rw[Int.natCast_ediv,Int.natCast_pow];rfl
 rw[h,Ge]
 ·rfl
 exact xbg (Nat.div_le_self _ _) (YF b)
def QA(s:ByteArray)(R:s.size<=4194304)(w:World):Calls prog 121 #[vh s] w λe w'=>Below w.heap.size w w'/\∃a cap,e=ve (vd a (8*s.size) cap)/\w'.ownsRow w.heap.size 4 1 (vd a (8*s.size) cap) (8*s.size) (Bs (cB s.data.toList)):=by
 obtain⟨N,M,E,F,G⟩:=Yc TD;have p:Ha (s.data.toList.length=s.size):=by unfold Ha;simp
 have y:Ha (∀k,k<=s.size->(cB (s.data.toList.take k)).length=8*k):=λk t=>by rw[dX,yu,p.o];omega
 have A:Ha (∀k (h:k<s.size),s.data.toList.take (k+1)=s.data.toList.take k++[s[k]]):=λk h=>by
  rw[xn (by rw[p.o];exact h)];rfl
 go_enter func121,ntmps121;go_wp2_with fail;go_loopw [3,4] (λv i wr=>∃(k:Nat),k<=s.size/\i=Y V k/\wr.ownsRow w.heap.size 4 1 v (8*k) (Bs (cB (s.data.toList.take k)))/\Below w.heap.size w wr) (λ_ i _=>s.size-(intOf i).toNat)
 case atStart=>exact⟨0,by omega,rfl,yd _ _ _ _,xm _ _⟩
 obtain⟨k,t,rfl,b,j⟩:=hrel;by_cases B:k<s.size
 ·have c:=zb b;have g:=zb j;have K:=zb (A k B);have P:=zb (y k t);have H:s[k].toNat<256:=YF _;generalize r:cB (s.data.toList.take k)=bl at *;have x:=zb r;clear b j r;go_wp2_with fail;go_loopw [3,5] (λv i wr=>∃(m:Nat),m<=8/\i=Y V (7-m)/\wr.ownsRow w.heap.size 4 1 v (8*k+m) (Bs (bl++(ZR s[k]).take m))/\Below w.heap.size w wr) (λ_ i _=>(1+intOf i).toNat)
  case atStart=>exact⟨0,by omega,by go_num,by rw[List.take_zero,Yw];exact c,g⟩
  clear c g;obtain⟨m,Q,rfl,b,j⟩:=hrel;by_cases C:m<8
  ·have z:=zb (IY s[k] C);have c:=zb b;have g:=zb j;clear b j;go_wp2_with (at_builtin;refine XW _ rfl _ _ 70 rfl (w.heap.size) 4 N (vf false) 1 1 Uj M E F G rfl (by decide) _ _ _ rfl (c.alloc _) ⟨wr.heap.size,0,U⟩ 1 1 [vf ?bb] rfl rfl ?c1 ?c2 ?c3 ?c4 ?c5 ?_)
   case c1=>exact ZD _ _ _
   case c2=>intro u J;simp at J;subst J;rfl
   case c3=>unfold maxLen;omega
   case c4=>omega
   case c5=>have:=g.size;simp;omega
   intro v' w2 d f D;have q:Below w.heap.size w w2:=(g.alloc g.size _).grown f (by have:=g.size;simp;omega) (λk t=>(c.lt k t).1);rw[Nb]at d;have n:Ha (w2.ownsRow w.heap.size 4 1 v' (8*k+(m+1)) (Bs (bl++(ZR s[k]).take (m+1)))):=by
    unfold Ha;rw[z.o,<-Ym];have e:Bs ((bl++(ZR s[k]).take m)++[pT s[k] m])=Bs (bl++(ZR s[k]).take m)++[vf (pT s[k] m)]:=by simp[Bs]
    rw[e];exact d
   have l:=zb q;clear d f c D g q;go_wp2_with fail;go_roundw
   case rel=>exact⟨m+1,by omega,by go_num,n,l⟩
   simp[intOf];omega
  obtain rfl:m=8:=by omega
  have n:Ha (wr.ownsRow w.heap.size 4 1 u3 (8*(k+1)) (Bs (cB (s.data.toList.take (k+1))))):=by
   unfold Ha;rw[K.o,Gk,x.o,show 8*(k+1)=8*k+8 by omega];rw[ye (by rw[dM];exact xe _)]at b;exact b
  have l:=zb j;clear b j;go_wp2_with fail;go_roundw
  case rel=>exact⟨k+1,by omega,by go_num,n,l⟩
  simp[intOf];omega
 obtain rfl:k=s.size:=by omega
 rw[show s.data.toList.take s.size=s.data.toList by rw[ye (by rw[p.o];exact xe _)]]at b;obtain⟨a,cap,rfl⟩:=zM b;go_wp2_with fail;go_ret;exact⟨j,a,cap,rfl,b⟩
def Qo(l:List Bool)(b:Bool):Bs (l++[b])=Bs l++[vf b]:=by simp[Bs]
def OQ(l:List Bool)(k:Nat):(l++List.replicate k false)++[false]=l++List.replicate (k+1) false:=by rw[Ym,List.replicate_succ']
variable {c i v:Nat}{l:List Bool}
def NW{m:Nat}(h:ZE m=true):qU i l (m+1)=(qU i l m).set (i+32-m) (!((qU i l m).getD (i+32-m) false)):=by rw[qU,xh h]
def Rq{m:Nat}(h:ZE m=false):qU i l (m+1)=qU i l m:=by rw[qU,xg (by rw[h];simp)]
def Lm:∀m:Nat,m<32->(bits .and .i64 ((517762881:Int) / 2^m) 1==1)=ZE m:=by decide +kernel
def EK(s:ByteArray)(hs:s.size<=4194304)(w:World):Calls prog 77 #[vh s] w λe w'=>Below w.heap.size w w'/\e=ve (vh ⟨(nX s.data.toList).toArray⟩):=by
 obtain⟨i0,hi,d6,d7,d8⟩:=Yc TD;obtain⟨i5,h5,c7,c8,c9⟩:=Yc Rl;have a1:Ha (s.data.toList.length=s.size):=by unfold Ha;simp
 have S:=zb (QA s hs w);have W:Ha (nX s.data.toList=lT (sH (eP (cB s.data.toList++List.replicate 32 false) 32) (8*s.size)) (8*s.size) 32):=by unfold Ha nX Tl;rw[a1.o]
 have T:Ha ((cB s.data.toList).length=8*s.size):=by unfold Ha;rw[dX,a1.o]
 rw[W.o];generalize d0:cB s.data.toList=bl at *;obtain⟨N,hN⟩:∃N,N=8*s.size:=⟨_,rfl⟩
 have d9:N<=33554432:=by omega
 rw[<-hN]at S W T ⊢;clear d0 a1 W hN hs;go_enter func77,ntmps77;go_wp2_with (go_at_call 121;refine S.mono ?_;rintro e w1 ⟨a7,a,cap,rfl,c⟩);have q:=zb (And.intro c a7);clear c a7 S;go_loopw [3,5] (λv i wr=>∃(k:Nat),k<=32/\i=Y V k/\wr.ownsRow w.heap.size 4 1 v (N+k) (Bs (bl++List.replicate k false))/\Below w.heap.size w wr) (λ_ i _=>32-(intOf i).toNat)
 case atStart=>exact⟨0,by omega,rfl,by rw[List.replicate_zero,Yw];exact q.1,q.2⟩
 clear q;obtain⟨k,M,rfl,c,f⟩:=hrel;by_cases x:k<32
 ·have E:=zb c;have p:=zb f;clear c f;go_wp2_with (at_builtin;refine XW _ rfl _ _ 70 rfl (w.heap.size) 4 i0 (vf false) 1 1 Uj hi d6 d7 d8 rfl (by decide) _ _ _ rfl (E.alloc _) ⟨wr.heap.size,0,U⟩ 1 1 [vf false] rfl rfl ?c1 ?c2 ?c3 ?c4 ?c5 ?_)
  case c1=>exact ZD _ _ _
  case c2=>intro u hu;simp at hu;subst hu;rfl
  case c3=>unfold maxLen;omega
  case c4=>omega
  case c5=>have:=p.size;simp;omega
  intro v' w2 G n d3;have a8:Below w.heap.size w w2:=(p.alloc p.size _).grown n (by have:=p.size;simp;omega) (λk M=>(E.lt k M).1);have K:Ha (w2.ownsRow w.heap.size 4 1 v' (N+(k+1)) (Bs (bl++List.replicate (k+1) false))):=by
   unfold Ha;rw[<-OQ,Qo];exact G
  have J:=zb a8;clear G n E d3 p a8;go_wp2_with fail;go_roundw
  case rel=>exact⟨k+1,by omega,by go_num,K,J⟩
  simp[intOf];omega
 obtain rfl:k=32:=by omega
 clear M x;obtain⟨g,cap2,hv,hg,d2⟩:=zG c (by omega);subst hv;have X:Ha ((bl++List.replicate 32 false).length=N+32):=by unfold Ha;rw[xc,xbW,T.o]
 generalize b1:bl++List.replicate 32 false=L at *;have b7:=zb b1;clear b1;have q:=zb (And.intro c f);clear c f d2 T;go_wp2_with fail;go_loopw [6] (λi wr=>∃(k:Nat),k<=32/\i=Y V k/\wr.ownsRow w.heap.size 4 1 (vd (vb ⟨g,0,U⟩) (N+32) cap2) (N+32) (Bs (eP L k))/\Below w.heap.size w wr) (λi _=>32-(intOf i).toNat)
 case atStart=>exact⟨0,by omega,rfl,q.1,q.2⟩
 clear q;obtain⟨k,M,rfl,c,f⟩:=hrel;by_cases x:k<32
 ·have Q:=kH c (by rw[fW,X.o]) k (by omega);have hf:=c.frozenAt k;have H:=zb (λb=>yK c k b);have p:=zb f;have b9:Ha (eP L (k+1)=(eP L k).set k (!((eP L k).getD k false))):=rfl;generalize (eP L k).getD k false=fb at *;clear c f;go_wp2_with fail;go_roundw
  case rel=>exact⟨k+1,by omega,by go_num,by rw[b9.o];exact H _,p.setCell hg _⟩
  simp[intOf];omega
 obtain rfl:k=32:=by omega
 clear M x;have a5:Ha ((eP L 32).length=N+32):=by unfold Ha;rw[fW,X.o]
 generalize b0:eP L 32=F at *;have b6:Ha (∀j,j=32->eP L j=F):=λj hj=>by rw[hj];exact b0
 clear b0;have q:=zb (And.intro c f);clear c f X;go_wp2_with fail;go_loopw [7,8] (λi _ wr=>∃(k:Nat),k<=N/\i=Y V k/\wr.ownsRow w.heap.size 4 1 (vd (vb ⟨g,0,U⟩) (N+32) cap2) (N+32) (Bs (sH F k))/\Below w.heap.size w wr) (λi _ _=>N-(intOf i).toNat)
 case atStart=>exact⟨0,by omega,rfl,q.1,q.2⟩
 clear q;obtain⟨k,M,rfl,c,f⟩:=hrel;have A:Ha ((sH F k).length=N+32):=by unfold Ha;rw[nY,a5.o]
 by_cases x:k<N
 ·have Q:=kH c A k (by omega);have hf:=c.frozenAt k;have H:=zb (λb=>yK c k b);have t:=zb c;have p:=zb f;have B:Ha (sH F (k+1)=if (sH F k).getD k false=true then qU k ((sH F k).set k false) 32 else sH F k):=rfl;clear c f;by_cases d:(sH F k).getD k false=true
  ·rw[xh d]at B;rw[d]at Q;have c6:Ha (∀m,(qU k ((sH F k).set k false) m).length=N+32):=λm=>by rw[jR,xp,A.o]
   have a4:=zb (H false);generalize (sH F k).set k false=D at *;clear d A H t;go_wp2_with fail;go_loopw [8] (λi wr=>∃(m:Nat),m<=32/\i=Y V m/\wr.ownsRow w.heap.size 4 1 (vd (vb ⟨g,0,U⟩) (N+32) cap2) (N+32) (Bs (qU k D m))/\Below w.heap.size w wr) (λi _=>32-(intOf i).toNat)
   case atStart=>exact⟨0,by omega,rfl,a4,p.setCell hg _⟩
   clear a4 p Q hf;obtain⟨m,hm,rfl,c,f⟩:=hrel;by_cases R:m<32
   ·have e0:(k:Int)+32-m=((k+32-m:Nat):Int):=by omega
    have Q:=kH c (c6 m) (k+32-m) (by omega);have hf:=c.frozenAt (k+32-m);have H:=zb (λb=>yK c (k+32-m) b);have t:=zb c;have p:=zb f;have HY:=zb (@NW k D m);have Z:=zb (@Rq k D m);generalize (qU k D m).getD (k+32-m) false=db at *;clear c f;have b3:=Lm m R;by_cases z:ZE m=true
    ·rw[z]at b3;have a0:=zb (HY z);clear HY Z z;go_wp2_with fail;go_roundw
     case rel=>exact⟨m+1,by omega,by go_num,by rw[a0.o];exact H _,p.setCell hg _⟩
     simp[intOf];omega
    rw[xbd]at z;rw[z]at b3;have a0:=zb (Z z);clear HY Z z;go_wp2_with fail;go_roundw
    case rel=>exact⟨m+1,by omega,by go_num,by rw[a0.o];exact t,p⟩
    simp[intOf];omega
   obtain rfl:m=32:=by omega
   clear hm R;have t:=zb c;have p:=zb f;rw[<-B.o]at t;clear c f;go_wp2_with fail;go_roundw
   case rel=>exact⟨k+1,by omega,by go_num,t,p⟩
   simp[intOf];omega
  rw[xg d]at B;rw[xbd]at d;rw[d]at Q;rw[<-B.o]at t;clear B H d A;go_wp2_with fail;go_roundw
  case rel=>exact⟨k+1,by omega,by go_num,t,p⟩
  simp[intOf];omega
 obtain rfl:k=N:=by omega
 clear x M;generalize a9:sH F k=D at *;have b5:=zb a9;clear a9;have t:=zb c;have HL:=zb A;have a3:=f.size;have p:=zb f;clear c A f a5;go_wp2_with (at_make;refine wpList_make_full _ rfl _ _ 89 rfl (w.heap.size) 5 i5 (.int .u8 0) 1 Qf h5 c7 c8 _ _ _ _ 4 rfl rfl (by rfl) (by rfl) (by rw[c9];omega) (by unfold maxLen;omega) (by omega) ?_;intro w2 y n);have d1:g<wr.heap.size:=(t.lt g rfl).2;have K:=zb (t.kept n (Or.inr (by simp[Value.ownBlock])));have J:Ha (Below w.heap.size w w2):=p.grown n a3 (λk M=>by cases M);have HM:Ha (w2.ownsRow w.heap.size 5 1 (vd (vb ⟨wr.heap.size,0,U⟩) 4 4) 4 (U8 [0,0,0,0])):=by rw[US]at y;exact y
 obtain⟨g2,a2⟩:∃g2,g2=wr.heap.size:=⟨_,rfl⟩
 rw[<-a2]at HM d1 ⊢;rw[<-a2]at a3;clear y n t p a2;go_wp2_with fail;go_loopw [10] (λi wr=>∃(j:Nat),j<=32/\i=Y V j/\wr.ownsRow w.heap.size 5 1 (vd (vb ⟨g2,0,U⟩) 4 4) 4 (U8 (lT D k j))/\wr.ownsRow w.heap.size 4 1 (vd (vb ⟨g,0,U⟩) (k+32) cap2) (k+32) (Bs D)/\Below w.heap.size w wr) (λi _=>32-(intOf i).toNat)
 case atStart=>exact⟨0,by omega,rfl,HM,K,J⟩
 clear HM K J;obtain⟨j,hj,rfl,r,c,f⟩:=hrel;have a6:=zb (kB D k j);by_cases x:j<32
 ·have Q:=kH c HL (k+j) (by omega);have e1:=rT r a6 (j / 8) (by omega);have e3:=r.frozenAt (j / 8);have H:=zb (λb f=>OV r (j / 8) b f);have t:=zb c;have HU:=zb r;have p:=zb f;have e4:((lT D k j).getD (j / 8) 0).toNat<256:=YF _;have C:Ha (lT D k (j+1)=if D.getD (k+j) false=true then lT D k j else (lT D k j).set (j / 8) (UInt8.ofNat (bits .or .u8 (((lT D k j).getD (j / 8) 0).toNat:Int) (2^(7-j%8)%256)).toNat)):=rfl;clear c r f;by_cases d:D.getD (k+j) false=true
  ·rw[d]at Q;rw[xh d]at C;rw[<-C.o]at HU;clear d C H;generalize (lT D k j).getD (j / 8) 0=ob at *;go_wp2_with fail;go_roundw
   case rel=>exact⟨j+1,by omega,by go_num,HU,t,p⟩
   simp[intOf];omega
  rw[xg d]at C;rw[xbd]at d;rw[d]at Q;clear d;generalize (lT D k j).getD (j / 8) 0=ob at *;go_wp2_with fail;go_region;go_wp2_with fail;have hr:=wB .or (ob.toNat:Int) (2^(7-j%8)%256);obtain⟨b4,d4⟩:=H.o _ hr;rw[<-C.o]at b4;have d5:=t.kept d4 (Or.inr (by simp[Value.ownBlock];omega));go_roundw
  case rel=>exact⟨j+1,by omega,by go_num,b4,d5,(p.setCell a3 _).drew⟩
  simp[intOf];omega
 obtain rfl:j=32:=by omega
 clear hj x;generalize b2:lT D k 32=l at *;have b8:Ha (∀j,j=32->lT D k j=l):=λj hj=>by rw[hj];exact b2
 clear b2;have hl:=a6.o;have e2:(convert 89 9 (vd (vb ⟨g2,0,U⟩) 4 4)).run prog wr=.ok (vh ⟨l.toArray⟩) wr:=by
  have h:=xbI (P:=prog) wr 89 9 5 ⟨g2,0,U⟩ 4 l Qf XB XC (λj hj=>by
   have ha:(Addr.add ⟨g2,0,U⟩ j)=⟨g2,j,U⟩:=by
    unfold Addr.add;split<;>simp_all
   rw[ha,rT r hl j (by omega)];simp[WI,hj])
  rw[hl]at h;exact h
 have p:=zb f;clear r c hl f;go_wp2_with fail;go_ret;exact⟨p,by rw[b7.o,b6.o 32 rfl,b5.o,b8.o 32 rfl];rfl⟩
def mJ(a b:List UInt8):(⟨a.toArray⟩:ByteArray)++(⟨b.toArray⟩:ByteArray)=⟨(a++b).toArray⟩:=by
 apply xaY
 simp
def SP(c:ByteArray):c=⟨c.data.toList.toArray⟩:=by
 apply xaY
 simp
def NE(c:ByteArray)(s:c.size<=4194295)(w:World):Calls prog 52 #[vh c] w λe w'=>Below w.heap.size w w'/\e=ve (vh ⟨(bM c.data.toList).toArray⟩):=by
 have t:=Pl.num_len c.size (by omega);have g:=zb (lP _ (c.size:Int) (xe _) (by omega) (by omega) w);rw[xbJ]at g;have a:Ha (c.data.toList.length=c.size):=by unfold Ha;simp
 have k:Ha ((⟨(Pl.num c.size).toArray⟩:ByteArray)++c=⟨(Pl.num c.size++c.data.toList).toArray⟩):=by
  unfold Ha;conv=>lhs;rw[SP c]
  exact mJ _ _
 have d:Ha (bM c.data.toList=(Pl.num c.size++c.data.toList)++nX (Pl.num c.size++c.data.toList)):=by unfold Ha bM;rw[a.o]
 have j:=zb (EK ⟨(Pl.num c.size++c.data.toList).toArray⟩ (by rw[xaG];simp;omega));rw[d.o];go_enter func52,ntmps52;go_wp2_with (go_at_call 76;refine g.mono ?_;rintro e w1 ⟨rfl,b⟩);rw[k.o];clear k d g;have r:(Pl.num c.size++c.data.toList).length<=4194304:=by rw[xc,a.o];omega
 clear a;generalize m:Pl.num c.size++c.data.toList=T at *;have i:=zb m;clear m;refine(j _).mono ?_
 rintro e w2 ⟨f,rfl⟩;have p:Ha (Below w.heap.size w w2):=b.trans (f.mono b.size);clear j b f;have n:=zb (mJ T (nX T));have q:=eK T;generalize l:nX T=C at *;have h:=zb l;clear l;go_wp2_with fail;rw[n.o];go_ret;exact⟨p,by rw[i.o,h.o];rfl⟩
def wP(c:List UInt8)(a:c.length<9223372036854775808):(bM c).length<=c.length+13:=by
 have:=Pl.num_len c.length a
 unfold bM;rw[xc,xc,eK];omega
def MK(s:ByteArray):ByteArray:=⟨(bM s.data.toList).toArray⟩
def qG(s:ByteArray)(b:s.size<=4194295):(MK s).size<=s.size+13:=by
 have a:s.data.toList.length=s.size:=by simp
 have:=wP s.data.toList (by omega)
 have e:(MK s).size=(bM s.data.toList).length:=by unfold MK;rw[xaG];simp
 omega
def oD(c:ByteArray)(a:c.size<=4194295)(w:World):Calls prog 52 #[vh c] w λe w'=>Below w.heap.size w w'/\∃f:ByteArray,e=ve (vh f)/\f.size<=c.size+13/\f=MK c :=
 (NE c a w).mono (λe w' h=>⟨h.1,MK c,h.2,qG c a,rfl⟩)
def rA(l rep:List UInt8):Bool:=(rep.getD 0 1==0)&&decide ((l.getD 0 0).toNat<=10)
def Sm(rec s:ByteArray):ByteArray:=rec++MK s
def Ua(rec s:ByteArray)(rep:List UInt8):ByteArray:=if rA s.data.toList rep=true then Sm rec s else rec
structure RecX(rec s rec':ByteArray)(rep:List UInt8):Prop where
 size:rec'.size<=rec.size+(s.size+13)
 eq:rec'=Ua rec s rep
variable {rec s:ByteArray}{rep:List UInt8}
def RecX.no1(h:rep.getD 0 1≠0):RecX rec s rec rep :=
 ⟨by omega,by unfold Ua rA;rw[xr.2 h];rfl⟩
variable {ns:List Nat}
def gK{l:List UInt8}(h:Pl.cmd l=.ok (c,ns)):(l.getD 0 0).toNat=c:=by
 cases l with
 |nil=>simp[Pl.cmd]at h
 |cons b r=>
  simp only[Pl.cmd]at h
  cases e:Pl.nums r with
  |none=>rw[e]at h;simp at h
  |some ms=>
   rw[e]at h;simp only at h;by_cases a:Pl.kindsL b.toNat=[]\/ms.length≠(Pl.kindsL b.toNat).length
   ·rw[xh a]at h;simp at h
   rw[xg a]at h;by_cases d:Pl.mays (Pl.kindsL b.toNat) ms=true
   ·rw[xh d]at h;simp at h;exact h.1
   rw[xg d]at h;simp at h
def RecX.no2(a:Pl.cmd s.data.toList=.ok (c,ns))(b:11<=c):RecX rec s rec rep :=
 ⟨by omega,by unfold Ua rA;rw[gK a,xy (by omega),xbo];rfl⟩
def RecX.yes{a:ByteArray}(b:Pl.cmd s.data.toList=.ok (c,ns))(d:c<=10)(h:a=Sm rec s)(f:s.size<=4194295)(e:rep.getD 0 1=0):RecX rec s a rep :=
 ⟨by have:=qG s f;rw[h,Sm,ByteArray.size_append'];omega,by unfold Ua rA;rw[gK b,ya d,e];exact h⟩
def eA(h:c≠0)(b:c<=255):UInt8.ofNat c≠0:=λa=>by
 have e:(UInt8.ofNat c).toNat=c:=by rw[Yx];omega
 rw[a]at e;have:(0:UInt8).toNat=0:=rfl;omega
def yL(a:i<l.length)(b:Bool)(j:Nat):(l.set i b).getD j false=if j=i then b else l.getD j false:=by
 by_cases h:j=i
 ·subst h;rw[xh rfl];simp[WI,a]
 rw[xg h];simp[WI,yi,YM h]
def uE(l:List Bool):∀k,k<=l.length->∀j,(eP l k).getD j false=if j<k then !(l.getD j false) else l.getD j false
 |0,_,j=>by rw[xg (by omega)];rfl
 |k+1,hk,j=>by
  have c:=uE l k (by omega);have a:=c k;rw[xg (xaa k)]at a;rw[eP,yL (by rw[fW];omega),a,c j];by_cases h:j=k
  ·subst h;rw[xh rfl,xh (by omega)]
  rw[xg h];by_cases b:j<k
  ·rw[xh b,xh (by omega)]
  rw[xg b,xg (by omega)]
def Bf(i:Nat)(l:List Bool)(c:i+32<l.length):∀m,m<=32->∀j,(qU i l m).getD j false=(l.getD j false ^^ (decide (j<=i+32/\i+32<j+m)&&ZE (i+32-j)))
 |0,_,j=>by rw[xy (by omega)];simp[qU]
 |m+1,hm,j=>by
  have d:=Bf i l c m (by omega);have b:(qU i l (m+1)).getD j false=if j=i+32-m then ((qU i l m).getD j false ^^ ZE m) else (qU i l m).getD j false:=by
   rw[qU];by_cases a:ZE m=true
   ·rw[xh a,yL (by rw[jR];omega)];by_cases h:j=i+32-m
    ·rw[xh h,xh h,a,h];simp
    rw[xg h,xg h]
   rw[xg a];by_cases h:j=i+32-m
   ·rw[xh h,xbd _ |>.mp a];simp
   rw[xg h]
  rw[b,d j];by_cases h:j=i+32-m
  ·rw[xh h,xy (by omega),ya (by omega),show i+32-j=m by omega];simp
  rw[xg h];have:decide (j<=i+32/\i+32<j+(m+1))=decide (j<=i+32/\i+32<j+m):=by rw[xbZ];omega
  rw[this]
def Vo(r:Nat->Bool)(b:Bool)(j:Nat):Bool:=(decide (j<31)&&r (j+1)) ^^ ((r 0 ^^ b)&&ZE (31-j))
def kO(m:Nat->Bool):Nat->Nat->Bool
 |0=>λ_=>true
 |k+1=>Vo (kO m k) (m k)
def cE(l:List UInt8)(j:Nat):Bool:=(cB l).getD j false
def No(l:List UInt8):∀k,k<=8*l.length->∀j,(sH (eP (cB l++List.replicate 32 false) 32) k).getD (k+j) false=((decide (j<32)&&kO (cE l) k j) ^^ cE l (k+j)):=by
 have p:(cB l++List.replicate 32 false).length=8*l.length+32:=by rw[xc,dX,xbW]
 have q:∀j,(cB l++List.replicate 32 false).getD j false=cE l j:=λj=>by
  unfold cE;by_cases h:j<(cB l).length
  ·simp[WI,yj h]
  rw[WI,YI (by omega),xbC];rw[WI,yo (by omega)];split<;>rfl
 intro k;induction k with
 |zero=>
  intro _ j;rw[sH,xaj,uE _ 32 (by omega),q];by_cases h:j<32
  ·rw[xh h,ya h];simp[kO]
  rw[xg h,xy h];simp
 |succ k i=>
  intro t j;have i:=i (by omega);have a:=i 0;rw[xbr]at a;have r:(sH (eP (cB l++List.replicate 32 false) 32) k).length=8*l.length+32:=by rw[nY,fW,p]
  have b:=i (j+1);have e:k+(j+1)=k+1+j:=by omega
  rw[e]at b;rw[sH];have n:kO (cE l) (k+1) j=((decide (j<31)&&kO (cE l) k (j+1)) ^^ ((kO (cE l) k 0 ^^ cE l k)&&ZE (31-j))):=rfl;generalize s:sH (eP (cB l++List.replicate 32 false) 32) k=E at *;by_cases g:E.getD k false=true
  ·have f:(kO (cE l) k 0 ^^ cE l k)=true:=by rw[g]at a;simpa using a.symm
   rw[xh g,Bf k _ (by rw[xp];omega) 32 (by omega),yL (by omega),xg (by omega),b,n,f];by_cases c:j<31
   ·rw[ya (show j+1<32 by omega),ya (show k+1+j<=k+32/\k+32<k+1+j+32 by omega),ya (show j<32 by omega),ya c,show k+32-(k+1+j)=31-j by omega]
    cases kO (cE l) k (j+1)<;>cases cE l (k+1+j)<;>cases ZE (31-j)<;>rfl
   by_cases d:j=31
   ·subst d;rw[xy (show ¬(31+1<32) by omega),ya (show k+1+31<=k+32/\k+32<k+1+31+32 by omega),ya (show 31<32 by omega),xy c,show k+32-(k+1+31)=31-31 by omega]
    cases cE l (k+1+31)<;>cases ZE (31-31)<;>rfl
   rw[xy (show ¬(j+1<32) by omega),xy (show ¬(k+1+j<=k+32/\k+32<k+1+j+32) by omega),xy (show ¬(j<32) by omega)];simp
  have m:E.getD k false=false:=by simpa using g
  have f:(kO (cE l) k 0 ^^ cE l k)=false:=by rw[m]at a;simpa using a.symm
  rw[xg g,b,n,f];by_cases c:j<31
  ·rw[ya (show j+1<32 by omega),ya (show j<32 by omega),ya c];simp
  rw[xy c];by_cases d:j=31
  ·subst d;simp
  rw[xy (show ¬(j+1<32) by omega),xy (show ¬(j<32) by omega)];simp
def Nn(l:List UInt8)(j:Nat)(a:j<32):(Tl l).getD (8*l.length+j) false=kO (cE l) (8*l.length) j:=by
 have h:=No l (8*l.length) (xe _) j;unfold Tl;rw[h,ya a];have:cE l (8*l.length+j)=false:=by
  unfold cE;rw[WI,yo (by rw[dX];omega)];rfl
 rw[this];simp
def Rg(v:Nat)(r:Nat->Bool):Prop:=v<4294967296/\∀j,j<32->v.testBit (31-j)=r j
def Ll:∀m,m<32->Nat.testBit 517762881 m=ZE m:=by decide +kernel
def Ut:(4294967296:Nat)=2^32:=rfl
variable {r:Nat->Bool}
def Rg.congr{b:Nat->Bool}(h:Rg v r)(e:∀j,j<32->r j=b j):Rg v b:=⟨h.1,λj a=>(h.2 j a).trans (e j a)⟩
def Rg.ones:Rg 4294967295 (λ_=>true):=⟨by omega,by decide +kernel⟩
def Rg.xor{u:Nat}{q:Nat->Bool}(h:Rg v r)(k:Rg u q):Rg (v ^^^ u) (λj=>r j ^^ q j):=by
 refine⟨?_,λj c=>?_⟩
 ·have a:=h.1;have b:=k.1;rw[Ut]at a b ⊢;exact xaQ a b
 rw[Nat.testBit_xor,h.2 j c,k.2 j c]
def Py(v:Nat):Nat:=if v.testBit 31=true then (v*2%4294967296) ^^^ 517762881 else v*2%4294967296
def Rg.poly:Rg 517762881 (λj=>ZE (31-j)):=⟨by omega,λj a=>Ll (31-j) (by omega)⟩
def Rg.double(h:Rg v r):Rg (v*2%4294967296) (λj=>decide (j<31)&&r (j+1)):=by
 refine⟨xdg _ (by omega),λj b=>?_⟩;show(v*2%4294967296).testBit (31-j)=(decide (j<31)&&r (j+1));rw[Ut,xcH,ya (show 31-j<32 by omega),xaJ];by_cases a:j<31
 ·rw[ya a,xaJ,<-h.2 (j+1) (by omega)];rw[show 31-j=(31-(j+1))+1 by omega,Nat.testBit_succ,Nat.mul_div_cancel _ (by omega)]
 rw[xy a,xbe,show 31-j=0 by omega,Nat.testBit_zero];have:v*2%2=0:=Nat.mul_mod_left _ _;rw[this];rfl
def Rg.step(h:Rg v r):Rg (Py v) (Vo r false):=by
 have b:v.testBit 31=r 0:=h.2 0 (by omega);unfold Py;by_cases a:v.testBit 31=true
 ·rw[xh a];refine(h.double.xor Rg.poly).congr (λj c=>?_);rw[b]at a;show((decide (j<31)&&r (j+1)) ^^ ZE (31-j))=((decide (j<31)&&r (j+1)) ^^ ((r 0 ^^ false)&&ZE (31-j)));rw[a];simp
 rw[xg a];refine h.double.congr (λj c=>?_);rw[b,xbd]at a;show(decide (j<31)&&r (j+1))=((decide (j<31)&&r (j+1)) ^^ ((r 0 ^^ false)&&ZE (31-j)));rw[a];simp
def MJ(v:Nat):Nat->Nat
 |0=>v
 |k+1=>Py (MJ v k)
def QJ(v:Nat)(b:UInt8):Nat:=MJ (v ^^^ (b.toNat*16777216)) 8
def AI(l:List UInt8):Nat:=l.foldl QJ 4294967295
def Rg.top(b:UInt8):Rg (b.toNat*16777216) (λj=>decide (j<8)&&pT b j):=by
 have c:=YF b;refine⟨by omega,λj d=>?_⟩;show(b.toNat*16777216).testBit (31-j)=(decide (j<8)&&pT b j);rw[xbK,show(16777216:Nat)=2^24 from rfl,Nat.testBit_two_pow_mul];by_cases h:j<8
 ·rw[ya h,ya (show 31-j≥24 by omega),xaJ,xaJ,show 31-j-24=7-j by omega];unfold pT;rw[xbL]
  cases a:(b.toNat / 2^(7-j)%2==1) with
  |true=>simpa using a
  |false=>simpa using a
 rw[xy h,xy (show ¬31-j≥24 by omega),xbe,xbe]
def IX{m:Nat->Bool}{n:Nat}{b:UInt8}(h:Rg v (kO m n))(f:∀k,k<8->m (n+k)=pT b k):Rg (QJ v b) (kO m (n+8)):=by
 have g:∀k,k<=8->Rg (MJ (v ^^^ (b.toNat*16777216)) k) (λj=>kO m (n+k) j ^^ (decide (k+j<8)&&m (n+(k+j)))):=by
  intro k;induction k with
  |zero=>
   intro _;refine(h.xor (Rg.top b)).congr (λj d=>?_);show(kO m n j ^^ (decide (j<8)&&pT b j))=(kO m n j ^^ (decide (0+j<8)&&m (n+(0+j))));rw[xaj];by_cases c:j<8
   ·rw[f j c]
   rw[xy c];simp
  |succ k ih=>
   intro i;refine(ih (by omega)).step.congr (λj d=>?_);have e:n+(k+1)=(n+k)+1:=by omega
   rw[e];show((decide (j<31)&&(kO m (n+k) (j+1) ^^ (decide (k+(j+1)<8)&&m (n+(k+(j+1)))))) ^^ (((kO m (n+k) 0 ^^ (decide (k+0<8)&&m (n+(k+0)))) ^^ false)&&ZE (31-j)))=(((decide (j<31)&&kO m (n+k) (j+1)) ^^ ((kO m (n+k) 0 ^^ m (n+k))&&ZE (31-j))) ^^ (decide (k+1+j<8)&&m (n+(k+1+j))));rw[ya (show k+0<8 by omega),xbr,show k+(j+1)=k+1+j by omega,xaJ,Bool.xor_false];by_cases a:j<31
   ·rw[ya a,xaJ,xaJ]
    cases kO m (n+k) (j+1)<;>cases (decide (k+1+j<8)&&m (n+(k+1+j)))<;>cases ((kO m (n+k) 0 ^^ m (n+k))&&ZE (31-j))<;>rfl
   rw[xy a,xy (show ¬k+1+j<8 by omega)];simp
 refine(g 8 (xe _)).congr (λj d=>?_);show(kO m (n+8) j ^^ (decide (8+j<8)&&m (n+(8+j))))=kO m (n+8) j;rw[xy (show ¬8+j<8 by omega)];simp
def RE(a:List UInt8)(b:UInt8)(r:List UInt8)(k:Nat)(c:k<8):cE (a++b::r) (8*a.length+k)=pT b k:=by
 unfold cE;have e:cB (a++b::r)=cB a++(ZR b++cB r):=by simp[cB]
 rw[e,WI,YI (by rw[dX];omega),dX,show 8*a.length+k-8*a.length=k by omega,yj (by rw[dM];exact c)];simp[ZR,c]
def Je:∀(r a:List UInt8),∀v,Rg v (kO (cE (a++r)) (8*a.length))->Rg (r.foldl QJ v) (kO (cE (a++r)) (8*(a++r).length))
 |[],a,v,h=>by simpa using h
 |b::r,a,v,h=>by
  have c:=IX h (λk f=>RE a b r k f);have e:a++b::r=(a++[b])++r:=by simp
  have d:8*a.length+8=8*(a++[b]).length:=by rw[xc,XX];omega
  rw[e,d]at c;rw[e,YS];exact Je r (a++[b]) _ c
def Nm(l:List UInt8):Rg (AI l) (kO (cE l) (8*l.length)):=Je l [] 4294967295 Rg.ones
def RN:∀x:Nat,x<256->∀t:Nat,t<8->bits .or .u8 (x:Int) (2^t%256)=((x ||| 2^t:Nat):Int):=by decide +kernel
def Lf(D:List Bool)(n:Nat):∀K,K<=32->∀q,q<4->∀t,t<8->(((lT D n K).getD q 0).toNat).testBit (7-t)=(decide (8*q+t<K)&&!(D.getD (n+(8*q+t)) false))
 |0,_,q,hq,t,ht=>by
  rw[xy (by omega),xbe];have:(lT D n 0).getD q 0=0:=by
   rcases(show q=0\/q=1\/q=2\/q=3 by omega) with rfl|rfl|rfl|rfl<;>rfl
  rw[this];simp
 |K+1,hK,q,hq,t,ht=>by
  have f:=Lf D n K (by omega);have g:=kB D n K;rw[lT];by_cases a:D.getD (n+K) false=true
  ·rw[xh a,f q hq t ht];by_cases h:8*q+t=K
   ·rw[h,a];simp
   rw[show decide (8*q+t<K+1)=decide (8*q+t<K) by rw[xbZ];omega]
  rw[xg a];have d:((lT D n K).getD (K / 8) 0).toNat<256:=YF _;rw[RN _ d (7-K%8) (by omega),xbJ];have c:((lT D n K).getD (K / 8) 0).toNat ||| 2^(7-K%8)<256:=by
   rw[show(256:Nat)=2^8 from rfl]at d ⊢;exact Nat.or_lt_two_pow d (Nat.pow_lt_pow_right (by omega) (by omega))
  by_cases b:q=K / 8
  ·subst b;have e:((lT D n K).set (K / 8) (UInt8.ofNat (((lT D n K).getD (K / 8) 0).toNat ||| 2^(7-K%8)))).getD (K / 8) 0=UInt8.ofNat (((lT D n K).getD (K / 8) 0).toNat ||| 2^(7-K%8)):=by
    simp[WI,g,hq]
   rw[e,Yx,xbs c,Nat.testBit_or,f (K / 8) hq t ht,Nat.testBit_two_pow];by_cases h:8*(K / 8)+t=K
   ·rw[h,ya (show 7-K%8=7-t by omega),ya (show K<K+1 by omega)];rw[xbd]at a;rw[a];simp
   rw[xy (show ¬7-K%8=7-t by omega),xaO,show decide (8*(K / 8)+t<K+1)=decide (8*(K / 8)+t<K) by rw[xbZ];omega]
  have e:∀x,((lT D n K).set (K / 8) x).getD q 0=(lT D n K).getD q 0:=λx=>by
   simp[WI,yi,YM b]
  rw[e,f q hq t ht,show decide (8*q+t<K+1)=decide (8*q+t<K) by rw[xbZ];omega]
def Wq(v:Nat):List UInt8:=[UInt8.ofNat (v / 16777216),UInt8.ofNat (v / 65536),UInt8.ofNat (v / 256),UInt8.ofNat v]
def Qz(v q t:Nat)(b:q<4)(c:t<8):(((Wq v).getD q 0).toNat).testBit (7-t)=v.testBit (31-(8*q+t)):=by
 have a:∀s,(UInt8.ofNat (v / 2^s)).toNat.testBit (7-t)=v.testBit (s+(7-t)):=λs=>by
  rw[Yx,show(2^8:Nat)=2^8 from rfl,xcH,ya (by omega),xaJ,Nat.testBit_div_two_pow];congr 1;omega
 rcases(show q=0\/q=1\/q=2\/q=3 by omega) with rfl|rfl|rfl|rfl
 ·have:=a 24;rw[show 31-(8*0+t)=24+(7-t) by omega];exact this
 ·have:=a 16;rw[show 31-(8*1+t)=16+(7-t) by omega];exact this
 ·have:=a 8;rw[show 31-(8*2+t)=8+(7-t) by omega];exact this
 have:=a 0;rw[show 31-(8*3+t)=0+(7-t) by omega];rw[Nat.pow_zero,Nat.div_one]at this;exact this
def Nh(l:List UInt8):nX l=Wq (AI l ^^^ 4294967295):=by
 have k:=Nm l;have m:=k.xor Rg.ones;have ext:∀(A B:List UInt8),A.length=4->B.length=4->(∀q,q<4->A.getD q 0=B.getD q 0)->A=B:=λA B g j h=>by
  refine YT (g.trans j.symm) (λq e f=>?_);have:=h q (by omega);simpa [WI,e,f] using this
 refine ext _ _ (eK l) rfl (λq d=>?_);apply Yk.1;apply Nat.eq_of_testBit_eq;intro i;by_cases p:i<8
 ·have o:=Lf (Tl l) (8*l.length) 32 (xe _) q d (7-i) (by omega);have b:=Qz (AI l ^^^ 4294967295) q (7-i) d (by omega);rw[show 7-(7-i)=i by omega]at o b;have n:((nX l).getD q 0).toNat.testBit i=_:=o;rw[n,b,ya (by omega),xaJ,Nn l _ (by omega),m.2 _ (by omega)];show(!(kO (cE l) (8*l.length) (8*q+(7-i))))=(kO (cE l) (8*l.length) (8*q+(7-i)) ^^ true);rw[Bool.xor_true]
 have a:((nX l).getD q 0).toNat<2^i:=xl (YF _) (xcg (by omega) (by omega));have c:((Wq (AI l ^^^ 4294967295)).getD q 0).toNat<2^i:=xl (YF _) (xcg (by omega) (by omega));rw[Nat.testBit_lt_two_pow a,Nat.testBit_lt_two_pow c]
def WH(l:List UInt8):Option (Nat×Nat) :=
 if Pl.snd l=0\/l.length<Pl.fst l\/l.length<Pl.snd l+Pl.fst l+4 then U
 else if nX (l.take (Pl.snd l+Pl.fst l))=(l.drop (Pl.snd l+Pl.fst l)).take 4 then vb (Pl.snd l,Pl.fst l) else U
def QV(s:ByteArray):Value:=match WH s.data.toList with
 |none=>vg #[vh ⟨#[]⟩,Y V 0]
 |some (n,v)=>vg #[vh (s.extract n (n+v)),Y V ((n+v+4:Nat):Int)]
def pY(s:ByteArray)(a b:Nat):(s.extract a b).data.toList=(s.data.toList.drop a).take (b-a):=by
 rw[xat,xch]
def Jy(s:ByteArray)(y:s.size<=4194304)(w:World):Calls prog 58 #[vh s] w λe w'=>Below w.heap.size w w'/\e=ve (QV s):=by
 have k:Ha (s.data.toList.length=s.size):=by unfold Ha;simp
 have i:=zb (AS s y w);have x:=Pl.snd_le9 s.data.toList;have p:=Pl.snd_le s.data.toList;have B:=Pl.fst_lt s.data.toList;rw[k.o]at p;have j:Ha (QV s=if Pl.snd s.data.toList=0\/s.size<Pl.fst s.data.toList\/s.size<Pl.snd s.data.toList+Pl.fst s.data.toList+4 then vg #[vh ⟨#[]⟩,Y V 0] else if nX (s.extract 0 (Pl.snd s.data.toList+Pl.fst s.data.toList)).data.toList=(s.extract (Pl.snd s.data.toList+Pl.fst s.data.toList) (Pl.snd s.data.toList+Pl.fst s.data.toList+4)).data.toList then vg #[vh (s.extract (Pl.snd s.data.toList) (Pl.snd s.data.toList+Pl.fst s.data.toList)),Y V ((Pl.snd s.data.toList+Pl.fst s.data.toList+4:Nat):Int)] else vg #[vh ⟨#[]⟩,Y V 0]):=by
  unfold Ha QV WH;rw[k.o];by_cases h:Pl.snd s.data.toList=0\/s.size<Pl.fst s.data.toList\/s.size<Pl.snd s.data.toList+Pl.fst s.data.toList+4
  ·rw[xh h,xh h]
  rw[xg h,xg h,pY,pY,xcq,xbp,show Pl.snd s.data.toList+Pl.fst s.data.toList+4-(Pl.snd s.data.toList+Pl.fst s.data.toList)=4 by omega];by_cases f:nX (s.data.toList.take (Pl.snd s.data.toList+Pl.fst s.data.toList))=(s.data.toList.drop (Pl.snd s.data.toList+Pl.fst s.data.toList)).take 4
  ·rw[xh f,xh f]
  rw[xg f,xg f]
 rw[j.o];generalize Pl.snd s.data.toList=n at *;generalize Pl.fst s.data.toList=v at *;clear j;by_cases r:n=0
 ·rw[xh (Or.inl r)];subst r;go_enter func58,ntmps58;go_wp2_with (go_at_call 87;refine i.mono ?_;rintro e w1 ⟨rfl,a⟩);go_ret2;exact⟨a,rfl⟩
 by_cases t:s.size<v
 ·rw[xh (Or.inr (Or.inl t))];go_enter func58,ntmps58;go_wp2_with (go_at_call 87;refine i.mono ?_;rintro e w1 ⟨rfl,a⟩);go_ret2;exact⟨a,rfl⟩
 by_cases f:s.size<n+v+4
 ·rw[xh (Or.inr (Or.inr f))];go_enter func58,ntmps58;go_wp2_with (go_at_call 87;refine i.mono ?_;rintro e w1 ⟨rfl,a⟩);go_ret2;exact⟨a,rfl⟩
 rw[xg (show ¬(n=0\/s.size<v\/s.size<n+v+4) by omega)];have d:=zb (EK (s.extract 0 (n+v)) (by rw[Ya];omega));obtain⟨C,m⟩:=Xc (nX (s.extract 0 (n+v)).data.toList);rw[<-m.o]at d ⊢;have u:C.length=4:=by rw[m.o];exact eK _
 clear m;have z:((n:Int)==0)=false:=by rw[xr];omega
 have A:decide ((s.size:Int)<(n:Int)+(v:Int)+4)=false:=xy (by omega);have c:Ha ((s.extract (n+v) (n+v+4)).toList=(s.extract (n+v) (n+v+4)).data.toList):=Yo _;by_cases g:C=(s.extract (n+v) (n+v+4)).data.toList
 ·rw[xh g];have q:(C==(s.extract (n+v) (n+v+4)).toList)=true:=by rw[YQ,c.o];exact g
  clear g c;go_enter func58,ntmps58;go_wp2_with (first|(go_at_call 87;refine i.mono ?_;rintro e w1 ⟨rfl,a⟩)|(go_at_call 77;refine(d _).mono ?_;rintro e w2 ⟨b,rfl⟩;have l:Ha (Below w.heap.size w w2):=a.trans (b.mono a.size);clear a b));go_ret2;exact⟨l,by go_num⟩
 rw[xg g];have q:(C==(s.extract (n+v) (n+v+4)).toList)=false:=by rw[xr,c.o];exact g
 clear g c;go_enter func58,ntmps58;go_wp2_with (first|(go_at_call 87;refine i.mono ?_;rintro e w1 ⟨rfl,a⟩)|(go_at_call 77;refine(d _).mono ?_;rintro e w2 ⟨b,rfl⟩;have l:Ha (Below w.heap.size w w2):=a.trans (b.mono a.size);clear a b));go_ret2;exact⟨l,rfl⟩
