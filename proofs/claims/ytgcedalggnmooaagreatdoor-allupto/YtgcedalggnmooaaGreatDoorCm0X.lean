import Derived.Test.YtgcedalggnmooaaGreatDoorSqX
import Derived.Test.YtgcedalggnmooaaGreatDoorFgX
import Derived.Test.YtgcedalggnmooaaGreatDoorRp1X
set_option linter.all false
set_option maxRecDepth 100000
set_option maxHeartbeats 6400000
namespace Go.Proofs.YtgcedalggnmooaaGreatDoor
open Go.RowKit
open Tryz
def pR(x y:Int):Lib.compareInt x y<0↔x<y:=by
 unfold Lib.compareInt;split
 ·simp[*]
 split<;>simp[*]
def Se(a b:Nat×Nat):Int:=if a.1=b.1 then Lib.compareInt (a.2:Int) (b.2:Int) else Lib.compareInt (a.1:Int) (b.1:Int)
def KU(a b:Nat×Nat):Se a b<0↔aC a b=true:=by
 unfold Se;split
 ·rw[pR];rename_i h;simp[aC,h]
 rw[pR];rename_i h;simp[aC,h]
def Fk(a b:Nat×Nat)(W:World)(x:Ex):Calls prog 131 #[.agg #[.int .i64 a.1,.int .i64 a.2],.agg #[.int .i64 b.1,.int .i64 b.2]] (ext W x) λe w'=>e=.returned (.int .i64 (Se a b))/\∃g,w'=ext W g:=by
 unfold Se;by_cases h:a.1=b.1
 ·have c:=λd=>vW (a.2:Int) (b.2:Int) d
  have f:=aR h;rw[xh h];generalize Lib.compareInt (a.2:Int) (b.2:Int)=r at c;clear h;go_enter func131,ntmps131;go_wp2_with (go_at_call 165;refine(c _).mono ?_;rintro e w' ⟨rfl,rfl⟩);go_ret;exact⟨rfl,_,by rw[ZE,ZE]⟩
 have c:=λd=>vW (a.1:Int) (b.1:Int) d
 have f:=ZT h;rw[xg h];generalize Lib.compareInt (a.1:Int) (b.1:Int)=r at c;clear h;go_enter func131,ntmps131;go_wp2_with (go_at_call 165;refine(c _).mono ?_;rintro e w' ⟨rfl,rfl⟩);go_ret;exact⟨rfl,_,by rw[ZE,ZE]⟩
def uT{ls:List L}{g:Nat}:∀{k p:Nat} {b d:List (Nat×Nat)} {l r:List UInt8},sG ls g k p b l=some (d,r)->d.length=b.length+k/\r.length<=l.length
 |0,p,b,d,l,r,h=>by simp only[sG,XC,XY]at h;obtain⟨rfl,rfl⟩:=h;exact⟨by omega,xe _⟩
 |k+1,p,b,d,l,r,h=>by
  rw[sG]at h
  cases e:WG (p+1) 2147483647 l with
  |none=>rw[e]at h;cases h
  |some a=>
   obtain⟨m,q⟩:=a;rw[e]at h;simp only[xk]at h;split at h
   ·cases f:WG 1 2147483647 q with
    |none=>rw[f]at h;cases h
    |some a2=>
     obtain⟨c,j⟩:=a2;rw[f]at h;simp only[xk]at h;obtain⟨_,n,s⟩:=zv e;obtain⟨_,t,u⟩:=zv f;obtain⟨i,v⟩:=uT h;exact⟨by rw[i,xc,Xw];omega,by omega⟩
   cases h
variable {g:Nat}{l r:List UInt8}{ls:List L}
def jZ{c:List (Nat×Nat)}(h:aD ls g l=some (c,r)):c.length<=30/\r.length<=l.length:=by
 unfold aD at h
 cases b:WG 1 30 l with
 |none=>rw[b]at h;cases h
 |some a=>
  obtain⟨k,q⟩:=a;rw[b]at h;simp only[xk]at h;obtain⟨_,e,f⟩:=zv b;obtain⟨d,i⟩:=uT h;exact⟨by rw[d];simp;omega,by omega⟩
def yQ(ls:List L):Nat->Nat->List O->List UInt8->Option (List O×List UInt8)
 |0,_,os,l=>some (os,l)
 |k+1,p,os,l=>(WG (p+1) 2147483647 l).bind λa=>(WG 1 2147483647 a.2).bind λg=>(aD ls g.1 g.2).bind λx=>yQ ls k a.1 (os++[⟨a.1,g.1,x.1⟩]) x.2
def ZQ(ls:List L)(l:List UInt8):Option (List O×List UInt8):=(WG 0 10 l).bind λk=>yQ ls k.1 0 [] k.2
def Vh(Z:Nat->Prop)(N b:Nat)(rj:List (Nat×Nat))(w:World)(S:Nat)(M:Mx)(v:Value)(td:Nat)(bs:List Nat)(pvs:List Value)(ls:List L)(X:Option (List O×List UInt8))(e:Ending)(w':World):Prop:=match X with
 |some (os,r)=>e=.returned (.tuple #[])/\PR N os rj w' S M v td bs pvs ls/\Kz Z b w w' r
 |none=>Bz Z w e w'
variable {w:World}
def tL{Z:Nat->Prop}{N b:Nat}{rj:List (Nat×Nat)}{S:Nat}{M:Mx}{v:Value}{td:Nat}{R:List Nat}{j:List Value}(A:Zo Z b)(e4:Z M.h)(e5:Z M.o)(l:List UInt8)(hl:l.length<=1000000000)(hg:Gl w)(hu:Gu w)(hr:w.heap[b]?=some (.cells #[.string (VM l)] 225 (0,0)))(h:PR N [] rj w S M v td R j ls):Calls prog 178 #[.pointer (some ⟨S,0,none⟩),.pointer (some ⟨b,0,none⟩)] w (Vh Z N b rj w S M v td R j ls (ZQ ls l)):=by
 obtain⟨X,HX⟩:=Ww (ZQ ls l);rw[<-HX.o];have hb:=A.low b A.b;have k0:Kz Z b w w l:=Kz.refl hr;have c7:=zb h;clear h;go_enter func178,ntmps178;go_wp2_with fail;refine(Zt b hb l hl 0 10 (by omega) (by omega) w hg hu (Rd.refl hr)).mono ?_
 intro e w1 c;rcases h1:WG 0 10 l with _|⟨n,r1⟩
 ·rw[h1]at c;obtain⟨t,v',rfl⟩:=c.1;refine⟨rfl,?_⟩;show Vh Z N b rj w S M v td R j ls X _ _;rw[show X=none by rw[HX.o];unfold ZQ;simp only[h1,XF]];exact k0.broke A c
 rw[h1]at c;obtain⟨rfl,b2⟩:=c;have K1:=zb (k0.step A b2);obtain⟨_,e9,f1⟩:=zv h1;have c8:=zb (c7.o.rd hr b2);have F:Ha (X=yQ ls n 0 [] r1):=by unfold Ha;rw[HX.o];unfold ZQ;simp only[h1,xk]
 clear b2 k0 h1 HX c7;go_wp2_with fail;go_loopw [4,7] (λnv ii wr=>∃(k p:Nat) (os:List O) (q:List UInt8),ii=.int .i64 k/\k<=n/\nv=.int .i64 p/\p<=2147483647/\os.length=k/\(∀o∈os,o.id<=p)/\Zc os<=30*k/\q.length<=1000000000/\PR N os rj wr S M v td R j ls/\Kz Z b w wr q/\yQ ls (n-k) p os q=X) (λ_ ii _=>n-(intOf ii).toNat)
 case atStart=>exact⟨0,0,[],r1,rfl,by omega,rfl,by omega,rfl,λx hx=>by simp at hx,by simp[Zc],by omega,c8.o,K1.o,F.o.symm⟩
 clear c8 K1 F;obtain⟨k,p,os,q,rfl,hk,rfl,hp,d4,b7,f4,e8,W,B,hX⟩:=hrel;by_cases f3:k<n
 ·have F:Ha ((WG (p+1) 2147483647 q).bind (λa=>(WG 1 2147483647 a.2).bind λg=>(aD ls g.1 g.2).bind λx=>yQ ls (n-(k+1)) a.1 (os++[⟨a.1,g.1,x.1⟩]) x.2)=X):=by
   unfold Ha;rw[<-hX,show n-k=(n-(k+1))+1 by omega];rfl
  clear hX;have HA:=zb (iM b hb q e8 p hp wr (B.gl A hg) (B.gu A hu) B.rd);have Q:=zb W;have E:=zb B;have a6:=zb b7;clear W B b7;go_wp2_with fail;refine(HA.o).mono ?_
  intro e w5 c;rcases h5:WG (p+1) 2147483647 q with _|⟨num,q5⟩
  ·rw[h5]at c;obtain⟨t,v',rfl⟩:=c.1;refine⟨rfl,?_⟩;show Vh Z N b rj w S M v td R j ls X _ _;rw[show X=none by rw[<-F.o,h5];rfl];exact E.o.broke A c
  rw[h5]at c;obtain⟨rfl,b3⟩:=c;obtain⟨f5,D,f6⟩:=zv h5;have k5:=E.o.step A b3;have d5:=Q.o.rd E.o.here b3;have a9:Ha ((WG 1 2147483647 q5).bind (λg=>(aD ls g.1 g.2).bind λx=>yQ ls (n-(k+1)) num (os++[⟨num,g.1,x.1⟩]) x.2)=X):=by
   rw[Ha,<-F.o,h5];rfl
  have u:=zb (k5.after ((xm _ _).drew:Below _ _ w5.drew));have a7:=zb (d5.below ((xm _ _).drew:Below _ _ w5.drew));have s2:w5.drew.cell? ⟨S,2,none⟩=some (.map (some M.o)):=by rw[za a7.o.sb];rfl
  have HB:=zb (Zt b hb q5 (by omega) 1 2147483647 (by omega) (by omega) w5.drew (u.o.gl A hg) (u.o.gu A hu) u.o.rd);clear HA Q E b3 h5 F k5 d5;go_wp2_with fail;rcases h6:WG 1 2147483647 q5 with _|⟨gd,q7⟩
  ·rw[h6]at HB;have e2:Ha (X=none):=by rw[Ha,<-a9.o,h6];rfl
   clear h6;obtain⟨G,s⟩:∃G:World->Prop,∀w',G w'↔(w'.cell? ⟨S,2,none⟩=some (.map (some M.o))):=⟨_,λ_=>xaw⟩
   have z0:∀x:Wd G,x.w.cell? ⟨S,2,none⟩=some (.map (some M.o)):=λx=>((s _).1 x.h)
   have y:G w5.drew:=(s _).2 s2;clear s s2;haveI hinh:Inhabited (Wd G):=⟨⟨_,y⟩⟩
   refine zw (n:=8) (m:=2) 6 7 (λw'=>∃x:Wd G,w'=x.w) (by kernel_rfl) (by kernel_rfl) (λ_ _ d _ _ h=>by cases d<;>exact h) (by kernel_rfl) (by kernel_rfl) rfl rfl ⟨⟨_,y⟩,rfl⟩ ?_
   clear y;dsimp only[List.take];repeat (go_big_quiet_step (fail))
   refine yi ?_
   refine zR (i:=6) (by kernel_rfl) rfl rfl (λK hK=>?_);go_wp2_with (go_at_call 176;refine(HB.o).mono ?_;rintro e w7 d0;obtain⟨t,v',rfl⟩:=d0.1);refine⟨rfl,?_⟩;show Vh Z N b rj w S M v td R j ls X _ _;rw[e2.o];exact u.o.broke A d0
  rw[h6]at HB;obtain⟨_,d1,f7⟩:=zv h6;have a8:Ha ((aD ls gd q7).bind (λx=>yQ ls (n-(k+1)) num (os++[⟨num,gd,x.1⟩]) x.2)=X):=by rw[Ha,<-a9.o,h6];rfl
  clear h6 a9;obtain⟨G,s⟩:∃G:World->Prop,∀w',G w'↔(w'.cell? ⟨S,2,none⟩=some (.map (some M.o))):=⟨_,λ_=>xaw⟩
  have z0:∀x:Wd G,x.w.cell? ⟨S,2,none⟩=some (.map (some M.o)):=λx=>((s _).1 x.h)
  have y:G w5.drew:=(s _).2 s2;have c9:=zb s;clear s s2;haveI hinh:Inhabited (Wd G):=⟨⟨_,y⟩⟩
  refine zw (n:=8) (m:=2) 6 7 (λw'=>∃x:Wd G,w'=x.w) (by kernel_rfl) (by kernel_rfl) (λ_ _ d _ _ h=>by cases d<;>exact h) (by kernel_rfl) (by kernel_rfl) rfl rfl ⟨⟨_,y⟩,rfl⟩ ?_
  clear y;dsimp only[List.take];repeat (go_big_quiet_step (fail))
  refine yi ?_
  refine zR (i:=6) (by kernel_rfl) rfl rfl (λK hK=>?_);go_wp2_with (go_at_call 176;refine(HB.o).mono ?_;rintro e w7 ⟨rfl,b4⟩);have C:=a7.o.rd u.o.here b4;have k7:=u.o.step A b4;refine hK _ _ (Or.inr ⟨⟨_,(c9.o _).2 (by rw[za C.sb];rfl)⟩,rfl⟩) ?_
  obtain⟨Do,T,J⟩:=C.mp.o;obtain⟨Dh,b0,a0⟩:=C.mp.h;obtain⟨Dr,b1,a2⟩:=C.mp.r;have d8:Maps.size Do<maxLen:=by rw[J.size,d4];unfold maxLen;omega
  obtain⟨w8,f0,P,f⟩:=Yp (w:=w7) T AV Ii d8 (qS D) (xaE (H:=Unit) WZ (RY (n:=gd) d1));have a3:Maps.Tidy Do:=Yj T AV;have a5:Ha (∀o'∈os,o'.id≠num):=λo' e7 e=>by
   have:=a6.o o' e7
   omega
  have b6:os.any (λo=>o.id==num)=false:=Yn.2 (λo ho=>by simpa using a5.o o ho);have a1:=J.put a3 D b6 (g:=gd);have b9:Ha (Mp (os++[⟨num,gd,[]⟩]) rj w8 M):=by
   have c:=C.mp;exact⟨⟨Dr,zu b1 (f.block M.r (XG b1) (λe=>c.ro (xt e))),a2⟩,c.rc,⟨_,Z7 P,a1⟩,⟨Dh,zu b0 (f.block M.h (XG b0) (λe=>c.oh (xt e).symm)),a0.snoc b6⟩,c.ro,c.rh,c.oh⟩
  obtain⟨es,cl,b5⟩:=ZP T;have d6:PR N (os++[⟨num,gd,[]⟩]) rj w8 S M v td R j ls:=C.map b5 f b9.o;have k8:Kz Z b w w8 q7:=⟨k7.kp.grown f (λz hz=>Or.inl (by cases hz;exact e5)),(f.block b (zc k7.here) (λe=>zX k7.here b5 (xt e))).trans k7.here⟩
  have b8:=zb (xW A e4 q7 (by omega) (k8.gl A hg) (k8.gu A hu) k8.here d6 D d1 a5.o (by omega));have a4:=zb k8;clear C k7 T J b0 a0 b1 a2 d8 a3 a1 b5 b9 b4 f P HB a7 u c9 b6 d6 k8;refine zR (i:=7) (by kernel_rfl) rfl rfl (λK hK=>?_);go_wp2_with fail;refine hK _ _ (by first|exact Or.inl rfl|exact Or.inl trivial|trivial) ?_
  refine bO (by kernel_rfl) ?_
  clear hK z0;go_wp2_with fail;refine(b8.o).mono ?_
  intro e w9 c;rcases h9:aD ls gd q7 with _|⟨ln,q9⟩
  ·rw[h9]at c;have d3:Bz Z w8 e w9:=c;obtain⟨t,v',rfl⟩:=d3.1;refine⟨rfl,?_⟩;show Vh Z N b rj w S M v td R j ls X _ _;rw[show X=none by rw[<-a8.o,h9];rfl];exact a4.o.bz d3
  rw[h9]at c;obtain⟨rfl,d7,d2⟩:=c;obtain⟨f2,f8⟩:=jZ h9;have e1:Ha (yQ ls (n-(k+1)) num (os++[⟨num,gd,ln⟩]) q9=X):=by rw[Ha,<-a8.o,h9];rfl
  have e0:=zb d7;have d9:=zb (a4.o.trans d2);have c6:Ha (∀o∈os++[⟨num,gd,ln⟩],o.id<=num):=λo ho=>by
   rcases xx.1 ho with ho|ho
   ·have:=a6.o o ho;omega
   simp at ho;subst ho;exact xe _
  have c5:Ha (Zc (os++[⟨num,gd,ln⟩])<=30*(k+1)):=by
   have:Zc (os++[⟨num,gd,ln⟩])=Zc os+ln.length:=by simp[Zc]
   rw[Ha,this];omega
  clear d7 d2 h9 a8 b8 a4 a6 a5;go_wp2_with fail;go_roundw
  case rel=>exact⟨k+1,num,os++[⟨num,gd,ln⟩],q9,by go_num,by omega,rfl,D,by simp[d4],c6.o,c5.o,by omega,e0.o,d9.o,e1.o⟩
  simp[intOf];omega
 have e6:k=n:=by omega
 subst e6;rw[xap]at hX;have e3:Ha (X=some (os,q)):=by rw[Ha,<-hX];rfl
 have Q:=zb W;have E:=zb B;clear W B hX b7;go_wp2_with fail;go_end0;show Vh Z N b rj w S M v td R j ls X _ _;rw[e3.o];exact⟨rfl,Q.o,E.o⟩
def MW(w:World):ext w ⟨0,#[]⟩=w:=by cases w;simp[ext]
def KM{p q:Nat×Nat}(h:aC p q=true)(a:aC q p=true):False:=by
 simp[aC]at h a;omega
def GX{p q r:Nat×Nat}(h:aC p q=true)(a:aC q r=true):aC p r=true:=by
 simp[aC]at h a ⊢;omega
def DH(ls:List L):Nat->Nat×Nat->List (Nat×Nat)->List UInt8->Option (List (Nat×Nat)×List UInt8)
 |0,_,rj,l=>some (rj,l)
 |k+1,a,rj,l=>(WG 1 2147483647 l).bind λx=>(WG 1 2147483647 x.2).bind λy=>if aC a (x.1,y.1)=true/\Wj x.1 ls<ls.length then DH ls k (x.1,y.1) (rj++[(x.1,y.1)]) y.2 else none
def eD(ls:List L)(l:List UInt8):Option (List (Nat×Nat)×List UInt8):=(WG 0 10 l).bind λk=>DH ls k.1 (0,0) [] k.2
def Vj(Z:Nat->Prop)(N b:Nat)(os:List O)(w:World)(S:Nat)(M:Mx)(v:Value)(td:Nat)(bs:List Nat)(pvs:List Value)(ls:List L)(X:Option (List (Nat×Nat)×List UInt8))(e:Ending)(w':World):Prop:=match X with
 |some (rj,r)=>e=.returned (.tuple #[])/\PR N os rj w' S M v td bs pvs ls/\Kz Z b w w' r
 |none=>Bz Z w e w'
def BM{Z:Nat->Prop}{N b:Nat}{os:List O}{S:Nat}{M:Mx}{v:Value}{td:Nat}{P:List Nat}{j:List Value}(u:Zo Z b)(i0:Z M.r)(l:List UInt8)(hl:l.length<=1000000000)(hg:Gl w)(hu:Gu w)(hr:w.heap[b]?=some (.cells #[.string (VM l)] 225 (0,0)))(h:PR N os [] w S M v td P j ls):Calls prog 179 #[.pointer (some ⟨S,0,none⟩),.pointer (some ⟨b,0,none⟩)] w (Vj Z N b os w S M v td P j ls (eD ls l)):=by
 obtain⟨X,HX⟩:=Ww (eD ls l);rw[<-HX.o];have hb:=u.low b u.b;have ha:=VE w (.cells #[.int .i64 ((0:Nat):Int),.int .i64 ((0:Nat):Int)] 202);have hA:=xp w (.cells #[.int .i64 ((0:Nat):Int),.int .i64 ((0:Nat):Int)] 202);have k0:Kz Z b w (w.alloc (.cells #[.int .i64 ((0:Nat):Int),.int .i64 ((0:Nat):Int)] 202)) l:=(Kz.refl hr).after ha;have f6:=zb (h.below ha);have f2:=zb (Zt b hb l hl 0 10 (by omega) (by omega) _ (k0.gl u hg) (k0.gu u hu) k0.rd);obtain⟨A,d6⟩:=Ww w.heap.size;have g4:Ha (w.heap.size<=A):=by rw[Ha,d6.o];exact xe _
 rw[<-d6.o]at hA;have d3:=zb hA;have a0:=zb k0;clear h ha hA k0;go_enter func179,ntmps179;go_wp2_with fail;rw[<-d6.o];refine(f2.o).mono ?_
 intro e w1 f;rcases h1:WG 0 10 l with _|⟨n,r1⟩
 ·rw[h1]at f;obtain⟨t,v',rfl⟩:=f.1;refine⟨rfl,?_⟩;show Vj Z N b os w S M v td P j ls X _ _;rw[show X=none by rw[HX.o];unfold eD;simp only[h1,XF]];exact a0.o.broke u f
 rw[h1]at f;obtain⟨rfl,b7⟩:=f;have K1:=zb (a0.o.step u b7);obtain⟨_,i5,j0⟩:=zv h1;have f7:=zb (f6.o.rd a0.o.here b7);have e9:Ha (w1.heap[A]?=some (.cells #[.int .i64 ((0:Nat):Int),.int .i64 ((0:Nat):Int)] 202 (0,0))):=(b7.block A (zt d3.o a0.o.here (by decide))).trans d3.o;have E:Ha (X=DH ls n (0,0) [] r1):=by unfold Ha;rw[HX.o];unfold eD;simp only[h1,xk]
 clear b7 h1 HX f6 f2 d3 a0;go_wp2_with fail;go_loopw [5,8] (λ_ ii wr=>∃(k m s:Nat) (rj:List (Nat×Nat)) (q:List UInt8),ii=.int .i64 k/\k<=n/\rj.length=k/\(∀p∈rj,p=(m,s)\/aC p (m,s)=true)/\q.length<=1000000000/\wr.heap[A]?=some (.cells #[.int .i64 m,.int .i64 s] 202 (0,0))/\PR N os rj wr S M v td P j ls/\Kz Z b w wr q/\DH ls (n-k) (m,s) rj q=X) (λ_ ii _=>n-(intOf ii).toNat)
 case atStart=>exact⟨0,0,0,[],r1,rfl,by omega,rfl,λx hx=>by simp at hx,by omega,e9.o,f7.o,K1.o,E.o.symm⟩
 clear f7 K1 E e9;obtain⟨k,m,s,rj,q,rfl,hk,e7,e8,i2,hA,c5,K,hX⟩:=hrel;by_cases j1:k<n
 ·have E:Ha ((WG 1 2147483647 q).bind (λx=>(WG 1 2147483647 x.2).bind λy=>if aC (m,s) (x.1,y.1)=true/\Wj x.1 ls<ls.length then DH ls (n-(k+1)) (x.1,y.1) (rj++[(x.1,y.1)]) y.2 else none)=X):=by
   unfold Ha;rw[<-hX,show n-k=(n-(k+1))+1 by omega];rfl
  clear hX;have f3:=zb (Zt b hb q i2 1 2147483647 (by omega) (by omega) wr (K.gl u hg) (K.gu u hu) K.rd);have b4:=zb c5;have D:=zb K;have g2:=zb e8;have HA:=zb hA;clear c5 K e8 hA;go_wp2_with fail;refine(f3.o).mono ?_
  intro e w5 f;rcases h5:WG 1 2147483647 q with _|⟨x,q5⟩
  ·rw[h5]at f;obtain⟨t,v',rfl⟩:=f.1;refine⟨rfl,?_⟩;show Vj Z N b os w S M v td P j ls X _ _;rw[show X=none by rw[<-E.o,h5];rfl];exact D.o.broke u f
  rw[h5]at f;obtain⟨rfl,b8⟩:=f;obtain⟨_,hx,j2⟩:=zv h5;have k5:=D.o.step u b8;have g7:=b4.o.rd D.o.here b8;have d4:Ha (w5.heap[A]?=some (.cells #[.int .i64 m,.int .i64 s] 202 (0,0))):=(b8.block A (zt HA.o D.o.here (by decide))).trans HA.o;have f4:=zb (Zt b hb q5 (by omega) 1 2147483647 (by omega) (by omega) w5 (k5.gl u hg) (k5.gu u hu) k5.rd);have a3:=zb k5;have f8:=zb g7;clear f3 b4 D HA b8 k5 g7;go_wp2_with fail;refine(f4.o).mono ?_
  intro e T f;rcases h6:WG 1 2147483647 q5 with _|⟨y,q6⟩
  ·rw[h6]at f;obtain⟨t,v',rfl⟩:=f.1;refine⟨rfl,?_⟩;show Vj Z N b os w S M v td P j ls X _ _;rw[show X=none by rw[<-E.o,h5];show(WG 1 2147483647 q5).bind _=none;rw[h6];rfl];exact a3.o.broke u f
  rw[h6]at f;obtain⟨rfl,b9⟩:=f;obtain⟨_,hy,j3⟩:=zv h6;have d9:Ha ((if aC (m,s) (x,y)=true/\Wj x ls<ls.length then DH ls (n-(k+1)) (x,y) (rj++[(x,y)]) q6 else none)=X):=by
   rw[Ha,<-E.o,h5];show _=(WG 1 2147483647 q5).bind _;rw[h6];rfl
  have k6:=a3.o.step u b9;have g8:=f8.o.rd a3.o.here b9;have b5:=(b9.block A (zt d4.o a3.o.here (by decide))).trans d4.o;have hB:=VE T (.cells #[.int .i64 x,.int .i64 y] 202);have Q:=xp T (.cells #[.int .i64 x,.int .i64 y] 202);have d7:=zb (k6.after hB);have h7:=zb (g8.below hB);have b0:=zb ((hB.block A (zc b5)).trans b5);have a6:=Fk (m,s) (x,y) (T.alloc (.cells #[.int .i64 x,.int .i64 y] 202)) ⟨0,#[]⟩;rw[show ext (T.alloc (.cells #[.int .i64 x,.int .i64 y] 202)) ⟨0,#[]⟩=T.alloc (.cells #[.int .i64 x,.int .i64 y] 202) from MW _]at a6;have b2:Ha (Calls prog 131 #[.agg #[.int .i64 m,.int .i64 s],.agg #[.int .i64 x,.int .i64 y]] (T.alloc (.cells #[.int .i64 x,.int .i64 y] 202)) λe w'=>e=.returned (.int .i64 (Se (m,s) (x,y)))/\w'.cell? ⟨T.heap.size,0,none⟩=some (.int .i64 x)/\Ha (Below (T.alloc (.cells #[.int .i64 x,.int .i64 y] 202)).heap.size (T.alloc (.cells #[.int .i64 x,.int .i64 y] 202)) w')):=by
   refine a6.mono ?_
   rintro e w' ⟨h1,x',rfl⟩;exact⟨h1,((zp _ _).cell (zc Q)).trans (by rw[za Q];rfl),zp _ _⟩
  have g0:(T.alloc (.cells #[.int .i64 x,.int .i64 y] 202)).cell? ⟨A,0,none⟩=some (.int .i64 m):=by rw[za b0.o];rfl
  have g1:(T.alloc (.cells #[.int .i64 x,.int .i64 y] 202)).cell? ⟨A,1,none⟩=some (.int .i64 s):=by rw[za b0.o];rfl
  have i4:=zc b5;obtain⟨B,e4⟩:∃B,B=T.heap.size:=⟨_,rfl⟩
  have h2:=zb e4;have c6:Ha ((T.alloc (.cells #[.int .i64 x,.int .i64 y] 202)).heap[B]?=some (.cells #[.int .i64 x,.int .i64 y] 202 (0,0))):=by rw[e4];exact Q
  obtain⟨rc,f9⟩:=Ww (Se (m,s) (x,y));rw[<-f9.o]at b2;have C:=KU (m,s) (x,y);rw[<-f9.o]at C;clear f4 d4 a3 f8 b9 k6 g8 b5 hB Q a6 h5 h6 E e4;by_cases R:aC (m,s) (x,y)=true
  ·have i3:=C.2 R;have a4:=zb R;clear C R;go_wp2_with (go_at_call 131;refine(b2.o).mono ?_;rintro _ w7 ⟨rfl,c7,J⟩);have i:=h7.o.below J.o;have k7:=d7.o.after J.o;refine(pY i.pw x hx).mono ?_
   rintro _ wz ⟨rfl,rfl⟩;by_cases hj:Wj x ls<ls.length
   ·have a7:zJ P ls x=.pointer (some ⟨P.getD (Wj x ls) 0,0,none⟩):=by unfold zJ;rw[xh hj]
    rw[a7];generalize P.getD (Wj x ls) 0=bf;have h8:Ha (DH ls (n-(k+1)) (x,y) (rj++[(x,y)]) q6=X):=by
     rw[Ha,<-d9.o,xh ⟨a4.o,hj⟩]
    have b3:=zb k7;have i9:=zb i;have b1:Ha (wz.heap[A]?=some (.cells #[.int .i64 m,.int .i64 s] 202 (0,0))):=(J.o.block A (zc b0.o)).trans b0.o;have G:=(J.o.block B (zc c6.o)).trans c6.o;have h3:=zb G;have m0:wz.cell? ⟨B,0,none⟩=some (.int .i64 x):=by rw[za G];rfl
    have m1:wz.cell? ⟨B,1,none⟩=some (.int .i64 y):=by rw[za G];rfl
    have s4:wz.cell? ⟨S,4,none⟩=some (.map (some M.r)):=by rw[za i.sb];rfl
    obtain⟨Do,e6,c9⟩:=i.mp.o;obtain⟨Dh,e5,c8⟩:=i.mp.h;obtain⟨Dr,b6,a5⟩:=i.mp.r;have h0:Maps.size Dr<maxLen:=by rw[a5.size,e7];unfold maxLen;omega
    obtain⟨w8,i7,a9,g⟩:=Yp (w:=wz.drew) b6 Ib OC h0 (JK hx hy) (xaZ (H:=Unit));have d2:Maps.Tidy Dr:=Yj b6 Ib;have g6:(x,y) ∉ rj:=λf=>by
     rcases g2.o _ f with h|h
     ·have:=a4.o
      rw[<-h]at this;simp[aC]at this
     exact KM h a4.o
    have d1:=λd=>a5.put d2 hx hy (by simpa using g6) d
    have d0:Rc (rj++[(x,y)]):=by
     have f:=i.mp.rc;refine⟨?_,by simp[e7];omega,λp W=>?_⟩
     ·rw[XP];exact⟨f.nodup,by simp,λa ha b' g5 e=>by simp at g5;subst g5;exact g6 (e ▸ ha)⟩
     rcases xx.1 W with W|W
     ·exact f.fits p W
     simp at W;subst W;exact⟨hx,hy⟩
    have f5:Ha (Mp os (rj++[(x,y)]) w8 M):=by
     have f:=i.mp;exact⟨⟨_,Z7 a9,d1 _⟩,d0,⟨Do,zu e6 (g.block M.o (XG e6) (λe=>f.ro (xt e).symm)),c9⟩,⟨Dh,zu e5 (g.block M.h (XG e5) (λe=>f.rh (xt e).symm)),c8⟩,f.ro,f.rh,f.oh⟩
    obtain⟨es,cl,a8⟩:=ZP b6;have g9:PR N os (rj++[(x,y)]) w8 S M v td P j ls:=(i.below ((xm _ _).drew)).map a8 g f5.o;have k8:Kz Z b w w8 q6:=⟨(k7.after ((xm _ _).drew)).kp.grown g (λz hz=>Or.inl (by cases hz;exact i0)),(g.block b (zc k7.here) (λe=>zX k7.here a8 (xt e))).trans k7.here⟩
    have F:w8.heap[A]?=some (.cells #[.int .i64 m,.int .i64 s] 202 (0,0)):=(g.block A (zc b1.o) (λe=>zX b1.o a8 (xt e))).trans b1.o;have e3:w8.heap[B]?=some (.cells #[.int .i64 x,.int .i64 y] 202 (0,0)):=(g.block B (zc G) (λe=>zX G a8 (xt e))).trans G;have n0:w8.cell? ⟨B,0,none⟩=some (.int .i64 x):=by rw[za e3];rfl
    have n1:w8.cell? ⟨B,1,none⟩=some (.int .i64 y):=by rw[za e3];rfl
    have p0:w8.cell? ⟨A,0,none⟩=some (.int .i64 m):=by rw[za F];rfl
    have p1:w8.cell? ⟨A,1,none⟩=some (.int .i64 s):=by rw[za F];rfl
    have f0:=ze F 0;have f1:=ze F 1;have i8:Ha (∀z:Nat,∀es c,w8.heap[z]?=some (.map es c)->z≠A):=λz es c hz e=>zX F hz e.symm
    have h4:=zb g9;have d8:=zb k8;have d5:=zb F;have g3:Ha (∀p∈rj++[(x,y)],p=(x,y)\/aC p (x,y)=true):=λp W=>by
     rcases xx.1 W with W|W
     ·right
      rcases g2.o p W with h|h
      ·rw[h];exact a4.o
      exact GX h a4.o
     left;simpa using W
    clear a7 hj i k7 e6 c9 e5 c8 b6 a5 h0 d2 d1 d0 a9 g a8 g9 k8 F e3 G c7 h3 b1 f5 b2;rw[<-h2.o];go_wp2_with fail;refine(zI true wz (b3.o.gu u hu)).mono ?_
    rintro _ w9 ⟨rfl,f⟩;rw[xh rfl]at f;subst f;go_wp2_with fail;go_region;go_wp2_with fail;have e1:=xu w8 A 0 _ 202 (.int .i64 x) d5.o;have e2:=xu _ A 1 _ 202 (.int .i64 y) e1;have eb:=zt d8.o.here d5.o (by decide);refine⟨⟨k+1,x,y,rj++[(x,y)],q6,by go_num,by omega,by simp[e7],g3.o,by omega,e2,(h4.o.box d5.o 0 _).box e1 1 _,⟨(d8.o.kp.setCell (p:=⟨A,0,none⟩) (Or.inr g4.o) _).setCell (p:=⟨A,1,none⟩) (Or.inr g4.o) _,((xd _ _ _ _ eb).trans (xd _ _ _ _ eb)).trans d8.o.here⟩,h8.o⟩,?_⟩;simp[intOf];omega
   have e0:Ha (X=none):=by
    rw[Ha,<-d9.o,xg (λhc=>hj hc.2)]
   have a7:zJ P ls x=.pointer none:=by unfold zJ;rw[xg hj]
   rw[a7];have b3:=zb k7;clear a7 hj i k7;go_wp2_with fail;refine(zI false wz (b3.o.gu u hu)).mono ?_
   rintro _ w9 ⟨rfl,f⟩;rw[xg (by simp)]at f;obtain⟨t,v',rfl⟩:=f;refine⟨rfl,?_⟩;show Vj Z N b os w S M v td P j ls X _ _;rw[e0.o];exact⟨⟨t,v',rfl⟩,b3.o.kp⟩
  have i3:¬rc<0:=λhc=>R (C.1 hc)
  have i6:(0:Int)<=rc:=by omega
  have e0:Ha (X=none):=by
   rw[Ha,<-d9.o,xg (λhc=>R hc.1)]
  clear C R;go_wp2_with (go_at_call 131;refine(b2.o).mono ?_;rintro _ w7 ⟨rfl,c7,J⟩);refine(zI false w7 ((d7.o.after J.o).gu u hu)).mono ?_
  rintro _ w9 ⟨rfl,f⟩;rw[xg (by simp)]at f;obtain⟨t,v',rfl⟩:=f;refine⟨rfl,?_⟩;show Vj Z N b os w S M v td P j ls X _ _;rw[e0.o];exact⟨⟨t,v',rfl⟩,(d7.o.after J.o).kp⟩
 have i1:k=n:=by omega
 subst i1;rw[xap]at hX;have h9:Ha (X=some (rj,q)):=by rw[Ha,<-hX];rfl
 have b4:=zb c5;have D:=zb K;clear c5 K hX e8 hA;go_wp2_with fail;go_end0;show Vj Z N b os w S M v td P j ls X _ _;rw[h9.o];exact⟨rfl,b4.o,D.o⟩
def Oc{num com:Nat}{x:L}(h:cT num com l=some (x,r)):Cs x:=by
 unfold cT at h;rcases h1:WG 1 2147483647 l with _|⟨s,i⟩
 ·rw[h1]at h;cases h
 rcases h2:WG 0 2147483647 i with _|⟨t,j⟩
 ·simp only[h1,h2,xk,XF]at h;cases h
 rcases h3:WG 1 com j with _|⟨u,k⟩
 ·simp only[h1,h2,h3,xk,XF]at h;cases h
 rcases h4:WG 0 2147483647 k with _|⟨v,m⟩
 ·simp only[h1,h2,h3,h4,xk,XF]at h;cases h
 rcases h5:WG 0 2147483647 m with _|⟨w,n⟩
 ·simp only[h1,h2,h3,h4,h5,xk,XF]at h;cases h
 rcases h6:WG 0 2147483647 n with _|⟨y,p⟩
 ·simp only[h1,h2,h3,h4,h5,h6,xk,XF]at h;cases h
 rcases h7:WG 0 2147483647 p with _|⟨z,q⟩
 ·simp only[h1,h2,h3,h4,h5,h6,h7,xk,XF]at h;cases h
 rcases h8:fA q with _|⟨ps,b⟩
 ·simp only[h1,h2,h3,h4,h5,h6,h7,h8,xk,XF]at h;cases h
 simp only[h1,h2,h3,h4,h5,h6,h7,h8,xk]at h;have c:=(zv h4).2.1;have d:=(zv h5).2.1;have e:=(zv h6).2.1;have f:=(zv h7).2.1
 cases a:(if ps.length=0 then WF b else some ((ps.map Prod.snd).sum,b)) with
 |none=>rw[a]at h;cases h
 |some gt=>
  rw[a]at h;simp only[xk]at h;split at h
  ·rename_i g
   cases h;exact⟨g.2,c,d,e,f⟩
  cases h
def Fo{P:L->Prop}{c:Nat}(i:∀num l x r,cT num c l=some (x,r)->P x):∀{k p:Nat} {e b:List (Option L)} {l r:List UInt8},xV c k p e l=some (b,r)->(∀x,some x∈e->P x)->(∀x,some x∈b->P x)/\r.length<=l.length/\b.length=e.length
 |0,p,e,b,l,r,h,hs=>by simp only[xV,XC,XY]at h;obtain⟨rfl,rfl⟩:=h;exact⟨hs,xe _,rfl⟩
 |k+1,p,e,b,l,r,h,hs=>by
  rw[xV]at h
  cases g:WG (p+1) 2147483647 l with
  |none=>rw[g]at h;cases h
  |some a=>
   obtain⟨m,q⟩:=a;rw[g]at h;simp only[xk]at h
   cases f:cT m c q with
   |none=>rw[f]at h;cases h
   |some a2=>
    obtain⟨x,s⟩:=a2;rw[f]at h;simp only[xk]at h;split at h
    ·obtain⟨j,t,n⟩:=Fo i h (λy d=>by
      rcases XU d with d|d
      ·exact hs y d
      cases d;exact i _ _ _ _ f)
     have:=(zv g).2.2
     have:=(rL f).2.2.2.2.2.2
     exact⟨j,by omega,by rw[n,xq]⟩
    cases h
def LQ{P:L->Prop}(d:∀x n,P x->P (Wg x n))(l:L):∀{ps:List (Nat×Nat)} {e b:Nat} {ls a:List L},Xc l ps e ls=some (a,b)->(∀x∈ls,P x)->(∀x∈a,P x)/\a.length=ls.length
 |[],e,b,ls,a,h,hs=>by simp only[Xc,XC,XY]at h;obtain⟨rfl,rfl⟩:=h;exact⟨hs,rfl⟩
 |p::ps,e,b,ls,a,h,hs=>by
  rw[Xc]at h;split at h
  ·rename_i f;obtain⟨g,i⟩:=LQ d l h (λx c=>by
    rcases XU c with c|rfl
    ·exact hs x c
    exact d _ _ (hs _ (zf f.1)))
   exact⟨g,by rw[i,xq]⟩
  cases h
variable {P:L->Prop}
def RP(e:∀x n,P x->P (Wg x n)){ls b:List L}{i:Nat}(h:Xd ls i=some b)(d:∀x∈ls,P x):(∀x∈b,P x)/\b.length=ls.length:=by
 unfold Xd at h;split at h
 ·cases h;exact⟨d,rfl⟩
 cases c:Xc (ls.getD i L0) (ls.getD i L0).par 2147483647 ls with
 |none=>rw[c]at h;cases h
 |some a=>
  obtain⟨g,f⟩:=a;rw[c]at h;simp only[xk]at h;split at h
  ·cases h;exact LQ e _ c d
  cases h
def LO{P:L->Prop}(c:∀x n,P x->P (Wg x n)):∀{k i:Nat} {ls a:List L},Xb k i ls=some a->(∀x∈ls,P x)->(∀x∈a,P x)/\a.length=ls.length
 |0,i,ls,a,h,hs=>by simp only[Xb,XC]at h;subst h;exact⟨hs,rfl⟩
 |k+1,i,ls,a,h,hs=>by
  rw[Xb]at h
  cases b:Xd ls i with
  |none=>rw[b]at h;cases h
  |some l2=>
   rw[b]at h;simp only[xk]at h;obtain⟨d,e⟩:=RP c b hs;obtain⟨f,g⟩:=LO c h d;exact⟨f,by rw[g,e]⟩
def KP(h:cH l=some (ls,r)):(∀x∈ls,Cs x)/\r.length<=l.length:=by
 unfold cH at h;rcases h1:WG 0 30 l with _|⟨c,g⟩
 ·rw[h1]at h;cases h
 rcases h2:WF g with _|⟨d,i⟩
 ·simp only[h1,h2,xk,XF]at h;cases h
 simp only[h1,h2,xk]at h;split at h
 ·rcases h3:xV c c 0 (List.replicate c none) i with _|⟨j,m⟩
  ·rw[h3]at h;cases h
  rw[h3]at h;simp only[xk]at h;rcases h4:Xb c 0 (j.map λo=>o.getD L0) with _|f
  ·rw[h4]at h;cases h
  rw[h4]at h;simp only[xk,XC,XY]at h;obtain⟨rfl,rfl⟩:=h;obtain⟨k,p,q⟩:=Fo (P:=Cs) (λ_ _ _ _ b=>Oc b) h3 (λx a=>by simp at a);have:=(zv h1).2.2;have:=xT h2;refine⟨(LO (P:=Cs) (λx n a=>a) h4 (λx a=>?_)).1,by omega⟩;obtain⟨o,e,rfl⟩:=Xz.1 a
  cases o with
  |none=>exact⟨by show 0<=_;omega,by show 0<=_;omega,by show 0<=_;omega,by show 0<=_;omega,by show 0<=_;omega⟩
  |some x=>exact k x e
 cases h
def Fl{ls:List L}{g:Nat}:∀{k p:Nat} {b e:List (Nat×Nat)} {l r:List UInt8},sG ls g k p b l=some (e,r)->(∀q∈b,q.2<=2147483647)->∀q∈e,q.2<=2147483647
 |0,p,b,e,l,r,h,ha=>by simp only[sG,XC,XY]at h;obtain⟨rfl,rfl⟩:=h;exact ha
 |k+1,p,b,e,l,r,h,ha=>by
  rw[sG]at h
  cases i:WG (p+1) 2147483647 l with
  |none=>rw[i]at h;cases h
  |some a=>
   obtain⟨m,q⟩:=a;rw[i]at h;simp only[xk]at h;split at h
   ·cases f:WG 1 2147483647 q with
    |none=>rw[f]at h;cases h
    |some a2=>
     obtain⟨c,j⟩:=a2;rw[f]at h;simp only[xk]at h;exact Fl h (λx d=>by
      rcases xx.1 d with d|d
      ·exact ha x d
      simp at d;subst d;exact(zv f).2.1)
   cases h
def KQ{ls:List L}:∀{k p:Nat} {d os:List O} {l r:List UInt8},yQ ls k p d l=some (os,r)->((d.map O.id).Nodup/\(∀o∈d,o.id<=p/\o.id<=2147483647)/\∀o∈d,∀q∈o.li,q.2<=2147483647)->((os.map O.id).Nodup/\(∀o∈os,o.id<=2147483647)/\∀o∈os,∀q∈o.li,q.2<=2147483647)/\os.length=d.length+k/\r.length<=l.length
 |0,p,d,os,l,r,h,ha=>by simp only[yQ,XC,XY]at h;obtain⟨rfl,rfl⟩:=h;exact⟨⟨ha.1,λo c=>(ha.2.1 o c).2,ha.2.2⟩,rfl,xe _⟩
 |k+1,p,d,os,l,r,h,ha=>by
  rw[yQ]at h;rcases h1:WG (p+1) 2147483647 l with _|⟨m,u⟩
  ·rw[h1]at h;cases h
  rcases h2:WG 1 2147483647 u with _|⟨g,j⟩
  ·simp only[h1,h2,xk,XF]at h;cases h
  rcases h3:aD ls g j with _|⟨t,x⟩
  ·simp only[h1,h2,h3,xk,XF]at h;cases h
  simp only[h1,h2,h3,xk]at h;obtain⟨A,v,B⟩:=zv h1;have C:=(zv h2).2.2;have D:=(jZ h3).2;have i:∀q∈t,q.2<=2147483647:=by
   unfold aD at h3;rcases h4:WG 1 30 j with _|⟨w,y⟩
   ·rw[h4]at h3;cases h3
   rw[h4]at h3;exact Fl h3 (λq s=>by simp at s)
  obtain⟨w1,w2,z⟩:=KQ h ⟨by
   rw[Yq,XP];refine⟨ha.1,by simp,λa f b n e=>?_⟩;simp at n;obtain⟨o,c,rfl⟩:=Xz.1 f;have:=(ha.2.1 o c).1;omega,λo c=>by
   rcases xx.1 c with c|c
   ·have:=ha.2.1 o c;omega
   ·simp at c;subst c;exact⟨xe _,v⟩,λo c=>by
   rcases xx.1 c with c|c
   ·exact ha.2.2 o c
   simp at c;subst c;exact i⟩
  exact⟨w1,by rw[w2,xc,Xw];omega,by omega⟩
def DF{os:List O}(h:ZQ ls l=some (os,r)):OF os/\r.length<=l.length:=by
 unfold ZQ at h;rcases h1:WG 0 10 l with _|⟨k,q⟩
 ·rw[h1]at h;cases h
 rw[h1]at h;simp only[xk]at h;obtain⟨_,g,i⟩:=zv h1;obtain⟨⟨a,b,c⟩,d,e⟩:=KQ h ⟨by simp,λo f=>by simp at f,λo f=>by simp at f⟩;exact⟨⟨a,by rw[d];simp;omega,b,c⟩,by omega⟩
def zE:List UInt8->Option (Nat×List L×List O×List (Nat×Nat))
 |[]=>none
 |c::r=>if c=13 then (WG 0 2147483647 r).bind λd=>(cH d.2).bind λx=>(ZQ x.1 x.2).bind λy=>(eD x.1 y.2).bind λz=>if z.2=[]/\x.1.all (VD y.1)=true then some (d.1,x.1,y.1,z.1) else none else none
def St(s:ByteArray):VM s.data.toList=s:=by cases s;simp[VM]
def Ds(w:World):World:=(((w.alloc (.map #[] 0)).alloc (.map #[] 0)).alloc (.map #[] 0)).alloc (.cells #[.int .i64 0,.slice none 0 0,.map (some w.heap.size),.map (some (w.heap.size+1)),.map (some (w.heap.size+1+1))] 117)
def gF{k:Nat}{o a:Obj}(h:w.heap[k]?=some o):(w.alloc a).heap[k]?=some o:=((VE w a).block k (zc h)).trans h
def nR(w:World)(o:Obj){k:Nat}(a:k=w.heap.size):(w.alloc o).heap[k]?=some o:=by subst a;exact xp w o
def GO(w:World):Sb (Ds w) (w.heap.size+3) 0 (.slice none 0 0) ⟨w.heap.size+1+1,w.heap.size,w.heap.size+1⟩/\Mp [] [] (Ds w) ⟨w.heap.size+1+1,w.heap.size,w.heap.size+1⟩/\Below w.heap.size w (Ds w):=by
 have c:(Ds w).heap[w.heap.size]?=some (.map #[] 0):=gF (gF (gF (nR _ _ rfl)));have d:(Ds w).heap[w.heap.size+1]?=some (.map #[] 0):=gF (gF (nR _ _ (by first|(simp;done)|(simp;omega))));have e:(Ds w).heap[w.heap.size+1+1]?=some (.map #[] 0):=gF (nR _ _ (by first|(simp;done)|(simp;omega)));have f:(Ds w).heap[w.heap.size+3]?=some (.cells #[.int .i64 0,.slice none 0 0,.map (some w.heap.size),.map (some (w.heap.size+1)),.map (some (w.heap.size+1+1))] 117):=nR _ _ (by first|(simp;done)|(simp;omega));refine⟨f,⟨⟨.map [],cO e,⟨rfl,λa b _ _=>rfl,λg h=>by cases h⟩⟩,⟨by simp,by simp,by simp⟩,⟨.map [],cO c,⟨rfl,λn _=>rfl,λn _=>rfl,λg h=>by cases h⟩⟩,⟨.map [],cO d,⟨rfl,λa b _ _=>rfl,λa b _ _=>rfl⟩⟩,by show w.heap.size+1+1≠w.heap.size;omega,by show w.heap.size+1+1≠w.heap.size+1;omega,by show w.heap.size≠w.heap.size+1;omega⟩,?_⟩;exact((((xm _ _).alloc (xe _) _).alloc (by simp) _).alloc (by first|(simp;done)|(simp;omega)) _).alloc (by first|(simp;done)|(simp;omega)) _
def NG(w:World):Calls prog 49 #[] w λe w'=>∃S M,e=.returned (.pointer (some ⟨S,0,none⟩))/\Sb w' S 0 (.slice none 0 0) M/\Mp [] [] w' M/\Below w.heap.size w w'/\w.heap.size<=S/\w.heap.size<=M.r/\w.heap.size<=M.o/\w.heap.size<=M.h:=by
 have d:=@xbT prog;go_enter func49,ntmps49;go_wp2_with fail;go_ret;obtain⟨a,b,c⟩:=GO w;exact⟨w.heap.size+3,_,rfl,a,b,c,by omega,by show _<=w.heap.size+1+1;omega,by show _<=w.heap.size;omega,by show _<=w.heap.size+1;omega⟩
def QR(s:ByteArray)(w:World):Calls prog 94 #[.string s] w λe w'=>e=.returned (.pointer (some ⟨w.heap.size,0,none⟩))/\w'=w.alloc (.cells #[.string s] 225):=by
 go_enter func94,ntmps94;go_wp2_with fail;go_ret;exact⟨rfl,rfl⟩
def Vy(w:World)(X:Option (Nat×List L×List O×List (Nat×Nat)))(e:Ending)(w':World):Prop:=match X with
 |some (td,ls,os,rj)=>∃S,e=.returned (.pointer (some ⟨S,0,none⟩))/\PI os rj (λk=>w.heap.size<=k) w' S td ls/\Below w.heap.size w w'
 |none=>(∃t v,e=.panicked [{ v:=.iface t v,recovered:=false }])/\Below w.heap.size w w'
def wI(s:ByteArray)(hs:s.size<=1000000000)(w:World)(P:Gl w)(hu:Gu w):Calls prog 134 #[.string s] w (Vy w (zE s.data.toList)):=by
 obtain⟨l,HL⟩:=Ww s.data.toList;have h9:s=VM l:=by rw[HL.o,St]
 have g9:l.length<=1000000000:=by
  have:l.length=s.size:=by rw[HL.o];simp
  omega
 rw[<-HL.o];subst h9;obtain⟨X,HX⟩:=Ww (zE l);rw[<-HX.o];have d5:NU<=w.heap.size:=by
  obtain⟨t,v,A⟩:=hu;have h1:=bY A;have h2:=P.2.2;have h3:4<w.heap.size:=h1;unfold NU;omega
 have ha:=VE w (.cells #[.string (VM l)] 225);have T:=xp w (.cells #[.string (VM l)] 225);have g7:=P.below ha;have i2:Gu (w.alloc (.cells #[.string (VM l)] 225)):=by
  obtain⟨t,v,A⟩:=hu;exact⟨t,v,(ha.cell (bY A)).trans A⟩
 obtain⟨b,b3⟩:∃b,b=w.heap.size:=⟨_,rfl⟩
 have f7:=zb b3;go_enter func134,ntmps134;go_wp2_with (go_at_call 94;refine(QR _ _).mono ?_;rintro _ w0 ⟨rfl,rfl⟩);rw[<-f7.o];rw[<-b3]at T;have i4:w.heap.size<=b:=by omega
 have hb:NU<=b:=by omega
 have k1:Kz (λk=>w.heap.size<=k) b w (w.alloc (.cells #[.string (VM l)] 225)) l:=⟨Wo ha,T⟩
 have n:Zo (λk=>w.heap.size<=k) b:=⟨λk hk=>xj d5 hk,i4⟩
 have m:Ha (∀{w':World},Kp (λk=>w.heap.size<=k) w w'->Below w.heap.size w w'):=λ{w'} k=>⟨k.os,k.tape,k.output,k.size,λj hj=>k.block j hj (by show ¬w.heap.size<=j;omega)⟩
 clear b3 ha g7 i2
 cases l with
 |nil=>
  have G:Ha (X=none):=by rw[Ha,HX.o];rfl
  refine(kY b (by unfold NU at hb;omega) (VM []) (by rw[iW];rfl) _ _ (k1.gl n P) k1.rd).mono ?_
  intro e w1 f;obtain⟨t,v,rfl⟩:=f.1;refine⟨rfl,?_⟩;show Vy w X _ _;rw[G.o];exact⟨⟨t,v,rfl⟩,m.o (k1.broke n f).2⟩
 |cons c r=>
  refine(vV b (VM (c::r)) (by rw[iW];simp) _ _ k1.rd).mono ?_
  rintro _ w1 ⟨rfl,b4⟩;rw[Ix]at b4;have k2:=k1.step n (r:=r) b4;have e2:(VM (c::r))[0]'(by rw[iW];simp)=c:=rfl;rw[e2];have g5:=c.toNat_lt;clear b4 e2;by_cases A:c=13
  ·have g6:((c.toNat:Int)==13)=true:=by rw[A];rfl
   have a8:Ha (X=(WG 0 2147483647 r).bind λd=>(cH d.2).bind λx=>(ZQ x.1 x.2).bind λy=>(eD x.1 y.2).bind λz=>if z.2=[]/\x.1.all (VD y.1)=true then some (d.1,x.1,y.1,z.1) else none):=by
    rw[Ha,HX.o,zE,xh A]
   have B:=zb k2;have h5:r.length<=1000000000:=by simp at g9;omega
   clear A k1 k2 T HX;generalize c.toNat=cn at *;go_wp2_with fail;refine(zI true w1 (B.o.gu n hu)).mono ?_
   rintro _ w2 ⟨rfl,f⟩;rw[xh rfl]at f;subst f;go_wp2_with fail;refine(NG w2).mono ?_
   rintro _ w3 ⟨S,M,rfl,N,f1,e0,hS,g4,g3,g2⟩;have k3:=B.o.after e0;have D:=zb k3;have a7:=zb N;have c9:=zb f1;have c5:=zb (Zt b hb r h5 0 2147483647 (by omega) (by omega) w3 (k3.gl n P) (k3.gu n hu) k3.rd);have i3:=B.o.kp.size;have b2:w.heap.size<=S:=by omega
   have d8:w.heap.size<=M.r:=by omega
   have d7:w.heap.size<=M.o:=by omega
   have d4:w.heap.size<=M.h:=by omega
   clear e0 N f1 k3 B hS g4 g3 g2 i3;go_wp2_with fail;refine(c5.o).mono ?_
   intro e w4 f;rcases h4:WG 0 2147483647 r with _|⟨td,r4⟩
   ·rw[h4]at f;obtain⟨t,v,rfl⟩:=f.1;refine⟨rfl,?_⟩;show Vy w X _ _;rw[show X=none by rw[a8.o,h4];rfl];exact⟨⟨t,v,rfl⟩,m.o (D.o.broke n f).2⟩
   rw[h4]at f;obtain⟨rfl,W⟩:=f;obtain⟨_,i1,i5⟩:=zv h4;have a9:Ha (X=(cH r4).bind λx=>(ZQ x.1 x.2).bind λy=>(eD x.1 y.2).bind λz=>if z.2=[]/\x.1.all (VD y.1)=true then some (td,x.1,y.1,z.1) else none):=by rw[Ha,a8.o,h4];rfl
   have k4:=D.o.step n (r:=r4) W;have d9:S≠b:=zt a7.o D.o.here (by decide);have K:Sb w4 S 0 (.slice none 0 0) M:=(W.block S d9).trans a7.o;have e8:Mp [] [] w4 M:=c9.o.congr (λz es c C=>W.block z (zX D.o.here C).symm);have c0:w4.cell? ⟨S,0,none⟩=some (.int .i64 0):=by rw[za K];rfl
   have f0:=ze K 0;have b5:=xu w4 S 0 _ 117 (.int .i64 td) K;have a3:Sb (w4.setCell ⟨S,0,none⟩ (.int .i64 td)) S td (.slice none 0 0) M:=b5;have c8:Ha (Mp [] [] (w4.setCell ⟨S,0,none⟩ (.int .i64 td)) M):=e8.congr (λz es c C=>xd _ _ _ _ (zX K C).symm);have k5:Kz (λk=>w.heap.size<=k) b w (w4.setCell ⟨S,0,none⟩ (.int .i64 td)) r4:=⟨k4.kp.setCell (p:=⟨S,0,none⟩) (Or.inl b2) _,(xd _ _ _ _ (Yl d9)).trans k4.here⟩
   have a2:Ha (∀(es:Array MapEntry) (c:Nat),(w4.setCell ⟨S,0,none⟩ (.int .i64 td)).heap[S]?=some (.map es c)->False):=λes c C=>zX b5 C rfl
   have c7:=zb (BK b S hb (xj d5 b2) r4 (by omega) _ (k5.gl n P) (k5.gu n hu) k5.here td _ M a3);have E:=zb k5;clear W h4 a8 D a7 c9 c5 k4 K e8 b5 a3 k5;go_wp2_with fail;refine(c7.o).mono ?_
   intro e w6 f;rcases h6:cH r4 with _|⟨ls,r6⟩
   ·rw[h6]at f;obtain⟨⟨t,v,rfl⟩,g8⟩:=f;refine⟨rfl,?_⟩;show Vy w X _ _;rw[show X=none by rw[a9.o,h6];rfl];exact⟨⟨t,v,rfl⟩,m.o (E.o.kp.trans (g8.mono (λz C=>Or.inl (by rcases C with rfl|rfl<;>assumption))))⟩
   rw[h6]at f;obtain⟨rfl,⟨v6,bs,b6,f6,N,e5,e6,e7⟩,Z⟩:=f;have b0:Ha (X=(ZQ ls r6).bind λy=>(eD ls y.2).bind λz=>if z.2=[]/\ls.all (VD y.1)=true then some (td,ls,y.1,z.1) else none):=by rw[Ha,a9.o,h6];rfl
   obtain⟨d3,i6⟩:=KP h6;have k6:Kz (λk=>w.heap.size<=k) b w w6 r6:=⟨E.o.kp.trans (Z.kp.mono (λz C=>Or.inl (by rcases C with rfl|rfl<;>assumption))),Z.here⟩
   have e9:Mp [] [] w6 M:=c8.o.congr (λz es c C=>Z.kp.block z (zc C) (by
    rintro(rfl|rfl)
    ·exact zX E.o.here C rfl
    have i0:(w4.setCell ⟨z,0,none⟩ (.int .i64 td)).heap[z]?=some (.map es c):=C;exact a2.o es c i0))
   have f3:PR 128849018820 [] [] w6 S M v6 td bs b6 ls:=⟨f6,N,e9⟩
   have a1:=E.o.kp.size;have f8:Ha (PIn (λk=>w.heap.size<=k) S M v6 bs b6):=⟨b2,d8,d7,d4,λg P=>xj a1 (e7 g P),λk hk=>xj a1 (e5 k hk),λpv h0 q hq=>xj a1 (e6 pv h0 q hq)⟩
   have d0:=zb (tL n d4 d7 r6 (by omega) (k6.gl n P) (k6.gu n hu) k6.here f3);have a4:=zb k6;have c6:=zb d3;clear f6 N e5 e6 e7 Z h6 a9 c7 c8 E k6 e9 f3 d3 a2 c0 f0 a1;go_wp2_with fail;refine(d0.o).mono ?_
   intro e w7 f;rcases h7:ZQ ls r6 with _|⟨os,r7⟩
   ·rw[h7]at f;have J:Bz (λk=>w.heap.size<=k) w6 e w7:=f;obtain⟨t,v,rfl⟩:=J.1;refine⟨rfl,?_⟩;show Vy w X _ _;rw[show X=none by rw[b0.o,h7];rfl];exact⟨⟨t,v,rfl⟩,m.o (a4.o.bz J).2⟩
   rw[h7]at f;obtain⟨rfl,f4,e3⟩:=f;have k7:=a4.o.trans e3;obtain⟨d6,i7⟩:=DF h7;have b1:Ha (X=(eD ls r7).bind λz=>if z.2=[]/\ls.all (VD os)=true then some (td,ls,os,z.1) else none):=by rw[Ha,b0.o,h7];rfl
   have d2:=zb (BM n d8 r7 (by omega) (k7.gl n P) (k7.gu n hu) k7.here f4);have a5:=zb k7;have f9:=zb d6;clear f4 e3 h7 b0 d0 a4 k7 d6;go_wp2_with fail;refine(d2.o).mono ?_
   intro e w8 f;rcases h8:eD ls r7 with _|⟨rj,r8⟩
   ·rw[h8]at f;have J:Bz (λk=>w.heap.size<=k) w7 e w8:=f;obtain⟨t,v,rfl⟩:=J.1;refine⟨rfl,?_⟩;show Vy w X _ _;rw[show X=none by rw[b1.o,h8];rfl];exact⟨⟨t,v,rfl⟩,m.o (a5.o.bz J).2⟩
   rw[h8]at f;obtain⟨rfl,f5,e4⟩:=f;have k8:=a5.o.trans e4;have R:Ha (X=if r8=[]/\ls.all (VD os)=true then some (td,ls,os,rj) else none):=by rw[Ha,b1.o,h8];rfl
   have F:=zb k8;have a6:=zb f5;have cb:w8.cell? ⟨b,0,none⟩=some (.string (VM r8)):=by rw[za k8.here];rfl
   have H:=k8.gl n P;clear h8 b1 d2 a5 k8 f5 e4;by_cases a0:r8=[]
   ·subst a0;have Q:=zb (Pa b w8 cb);have b7:=zb (Iq a6.o (by omega) f9.o c6.o (F.o.gu n hu));clear cb H;go_wp2_with fail;refine(Q.o).mono ?_
    rintro _ w9 ⟨rfl,rfl⟩;go_wp2_with fail;refine(b7.o).mono ?_
    intro e i8 f
    cases i:ls.all (VD os) with
    |true=>
     rw[i]at f;obtain⟨rfl,u⟩:=f;have g0:Ha (X=some (td,ls,os,rj)):=by rw[Ha,R.o,i];simp
     have d1:=zb (a6.o.below u);have b9:=zb (m.o (F.o.kp.after u));have b8:=zb i;clear u Q b7 F a6 R i;go_wp2_with fail;go_ret;show Vy w X _ _;rw[g0.o];refine⟨S,rfl,⟨M,v6,bs,b6,?_,f8.o⟩,b9.o⟩;have p:=d1.o;refine⟨p.sb,p.mp,p.pw.row,p.pw.len,p.pw.plen,p.pw.lot,p.pw.par,p.pw.nodup,i1,λx hx=>?_,p.pw.room⟩;have h1:=p.pw.ids x hx;have h2:=p.pw.pars x hx;have h3:=c6.o x hx;have h4:=xak.1 b8.o x hx;simp only[VD,XK,XI]at h4;obtain⟨g1,_⟩:=h3;exact⟨h1.1,h1.2.1,h1.2.2.2,h1.2.2.1,by omega,g1,h2.1,λq hq=>(h2.2 q hq).1⟩
    |false=>
     rw[i]at f;obtain⟨⟨t,v,rfl⟩,u⟩:=f;refine⟨rfl,?_⟩;show Vy w X _ _;rw[show X=none by rw[R.o,xg (λA=>by rw[i]at A;cases A.2)]];exact⟨⟨t,v,rfl⟩,m.o (F.o.kp.after u)⟩
   obtain⟨t,v,e1⟩:=H.2.1;have f2:(VM r8).toList.isEmpty=false:=by
    rw[yd,Er]
    cases r8 with
    |nil=>exact absurd rfl a0
    |cons a b=>rfl
   have Q:=zb (OZ b (VM r8) f2 w8 cb t v e1);have G:Ha (X=none):=by rw[Ha,R.o,xg (λA=>a0 A.1)]
   clear cb H e1 f2 a0;go_wp2_with fail;refine(Q.o).mono ?_
   rintro _ w9 ⟨rfl,rfl⟩;refine⟨rfl,?_⟩;show Vy w X _ _;rw[G.o];exact⟨⟨t,v,rfl⟩,m.o F.o.kp⟩
  have g6:((c.toNat:Int)==13)=false:=by
   rw[xr];intro e;exact A (ya.1 (by show c.toNat=13;omega))
  have G:Ha (X=none):=by rw[Ha,HX.o,zE,xg A]
  have B:=zb k2;clear A k1 k2 T;generalize c.toNat=cn at *;go_wp2_with fail;refine(zI false w1 (B.o.gu n hu)).mono ?_
  rintro _ w2 ⟨rfl,f⟩;rw[xg (by simp)]at f;obtain⟨t,v,rfl⟩:=f;refine⟨rfl,?_⟩;show Vy w X _ _;rw[G.o];exact⟨⟨t,v,rfl⟩,m.o B.o.kp⟩
