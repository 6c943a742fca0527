import Derived.Test.YtgcedalggnmooaaGreatDoorSqX
import Derived.Test.YtgcedalggnmooaaGreatDoorFgX
import Derived.Test.YtgcedalggnmooaaGreatDoorRp1X
set_option linter.all false
set_option maxRecDepth 100000
set_option maxHeartbeats 6400000
namespace Go.Proofs.YtgcedalggnmooaaGreatDoor
open Go.RowKit
theorem yQ(x y:Int):Lib.compareInt x y<0↔x<y:=by
 unfold Lib.compareInt;split
 ·simp[*]
 split<;>simp[*]
def QB(a b:Nat×Nat):Int:=if a.1=b.1 then Lib.compareInt (a.2:Int) (b.2:Int) else Lib.compareInt (a.1:Int) (b.1:Int)
theorem PX(a b:Nat×Nat):QB a b<0↔bG a b=true:=by
 unfold QB;split
 ·rw[yQ];rename_i h;simp[bG,h]
 rw[yQ];rename_i h;simp[bG,h]
theorem MQ(a b:Nat×Nat)(W:World)(x:Ex):Calls Tryz.prog 131 #[.agg #[.int .i64 a.1,.int .i64 a.2],.agg #[.int .i64 b.1,.int .i64 b.2]] (ext W x) λe w'=>e=.returned (.int .i64 (QB a b))/\∃g,w'=ext W g:=by
 unfold QB;by_cases h:a.1=b.1
 ·have c:=λd=>BT (a.2:Int) (b.2:Int) d
  have f:=aM h;rw[xd h];generalize Lib.compareInt (a.2:Int) (b.2:Int)=r at c;clear h;go_enter Tryz.func131,Tryz.ntmps131;go_wp2_with (go_at_call 165;refine(c _).mono ?_;rintro e w' ⟨rfl,rfl⟩);go_ret;exact⟨rfl,_,by rw[aC,aC]⟩
 have c:=λd=>BT (a.1:Int) (b.1:Int) d
 have f:=ZU h;rw[xe h];generalize Lib.compareInt (a.1:Int) (b.1:Int)=r at c;clear h;go_enter Tryz.func131,Tryz.ntmps131;go_wp2_with (go_at_call 165;refine(c _).mono ?_;rintro e w' ⟨rfl,rfl⟩);go_ret;exact⟨rfl,_,by rw[aC,aC]⟩
theorem uF{ls:List L}{g:Nat}:∀{k p:Nat} {b d:List (Nat×Nat)} {l r:List UInt8},rQ ls g k p b l=some (d,r)->d.length=b.length+k/\r.length<=l.length
 |0,p,b,d,l,r,h=>by simp only[rQ,Xj,XD]at h;obtain⟨rfl,rfl⟩:=h;exact⟨by omega,xc _⟩
 |k+1,p,b,d,l,r,h=>by
  rw[rQ]at h
  cases e:UL (p+1) 2147483647 l with
  |none=>rw[e]at h;cases h
  |some a=>
   obtain⟨m,q⟩:=a;rw[e]at h;simp only[xi]at h;split at h
   ·cases f:UL 1 2147483647 q with
    |none=>rw[f]at h;cases h
    |some a2=>
     obtain⟨c,j⟩:=a2;rw[f]at h;simp only[xi]at h;obtain⟨_,n,s⟩:=zu e;obtain⟨_,t,u⟩:=zu f;obtain⟨i,v⟩:=uF h;exact⟨by rw[i,xb,Xc];omega,by omega⟩
   cases h
variable {g:Nat}{l r:List UInt8}{ls:List L}
theorem jN{c:List (Nat×Nat)}(h:Z9 ls g l=some (c,r)):c.length<=30/\r.length<=l.length:=by
 unfold Z9 at h
 cases b:UL 1 30 l with
 |none=>rw[b]at h;cases h
 |some a=>
  obtain⟨k,q⟩:=a;rw[b]at h;simp only[xi]at h;obtain⟨_,e,f⟩:=zu b;obtain⟨d,i⟩:=uF h;exact⟨by rw[d];simp;omega,by omega⟩
def yD(ls:List L):Nat->Nat->List O->List UInt8->Option (List O×List UInt8)
 |0,_,os,l=>some (os,l)
 |k+1,p,os,l=>(UL (p+1) 2147483647 l).bind λa=>(UL 1 2147483647 a.2).bind λg=>(Z9 ls g.1 g.2).bind λx=>yD ls k a.1 (os++[⟨a.1,g.1,x.1⟩]) x.2
def ZR(ls:List L)(l:List UInt8):Option (List O×List UInt8):=(UL 0 10 l).bind λk=>yD ls k.1 0 [] k.2
def Tw(Z:Nat->Prop)(N b:Nat)(rcs:List (Nat×Nat))(w:World)(S:Nat)(M:Mx)(v:Value)(td:Nat)(bs:List Nat)(pvs:List Value)(ls:List L)(X:Option (List O×List UInt8))(e:Ending)(w':World):Prop:=match X with
 |some (os,r)=>e=.returned (.tuple #[])/\PR N os rcs w' S M v td bs pvs ls/\Kz Z b w w' r
 |none=>Bz Z w e w'
variable {w:World}
theorem sX{Z:Nat->Prop}{N b:Nat}{rcs:List (Nat×Nat)}{S:Nat}{M:Mx}{v:Value}{td:Nat}{R:List Nat}{j:List Value}(A:Zo Z b)(e4:Z M.h)(e5:Z M.o)(l:List UInt8)(hl:l.length<=1000000000)(hg:Gl w)(hu:Gu w)(hr:w.heap[b]?=some (.cells #[.string (TW l)] 225 (0,0)))(h:PR N [] rcs w S M v td R j ls):Calls Tryz.prog 178 #[.pointer (some ⟨S,0,none⟩),.pointer (some ⟨b,0,none⟩)] w (Tw Z N b rcs w S M v td R j ls (ZR ls l)):=by
 obtain⟨X,HX⟩:=UC (ZR ls l);rw[<-HX.out];have hb:=A.low b A.b;have k0:Kz Z b w w l:=Kz.refl hr;have c7:=zb h;clear h;go_enter Tryz.func178,Tryz.ntmps178;go_wp2_with fail;refine(ZA b hb l hl 0 10 (by omega) (by omega) w hg hu (Rd.refl hr)).mono ?_
 intro e w1 c;rcases h1:UL 0 10 l with _|⟨n,r1⟩
 ·rw[h1]at c;obtain⟨t,v',rfl⟩:=c.1;refine⟨rfl,?_⟩;show Tw Z N b rcs w S M v td R j ls X _ _;rw[show X=none by rw[HX.out];unfold ZR;simp only[h1,Xm]];exact k0.broke A c
 rw[h1]at c;obtain⟨rfl,b2⟩:=c;have K1:=zb (k0.step A b2);obtain⟨_,e9,f1⟩:=zu h1;have c8:=zb (c7.out.rd hr b2);have F:Hid (X=yD ls n 0 [] r1):=by unfold Hid;rw[HX.out];unfold ZR;simp only[h1,xi]
 clear b2 k0 h1 HX c7;go_wp2_with fail;go_loopw [4,7] (λnv ii wr=>∃(k p:Nat) (os:List O) (q:List UInt8),ii=.int .i64 k/\k<=n/\nv=.int .i64 p/\p<=2147483647/\os.length=k/\(∀o∈os,o.id<=p)/\Zc os<=30*k/\q.length<=1000000000/\PR N os rcs wr S M v td R j ls/\Kz Z b w wr q/\yD ls (n-k) p os q=X) (λ_ ii _=>n-(intOf ii).toNat)
 case atStart=>exact⟨0,0,[],r1,rfl,by omega,rfl,by omega,rfl,λx hx=>by simp at hx,by simp[Zc],by omega,c8.out,K1.out,F.out.symm⟩
 clear c8 K1 F;obtain⟨k,p,os,q,rfl,hk,rfl,hp,d4,b7,f4,e8,W,B,hX⟩:=hrel;by_cases f3:k<n
 ·have F:Hid ((UL (p+1) 2147483647 q).bind (λa=>(UL 1 2147483647 a.2).bind λg=>(Z9 ls g.1 g.2).bind λx=>yD ls (n-(k+1)) a.1 (os++[⟨a.1,g.1,x.1⟩]) x.2)=X):=by
   unfold Hid;rw[<-hX,show n-k=(n-(k+1))+1 by omega];rfl
  clear hX;have HA:=zb (iB b hb q e8 p hp wr (B.gl A hg) (B.gu A hu) B.rd);have Q:=zb W;have E:=zb B;have a6:=zb b7;clear W B b7;go_wp2_with fail;refine(HA.out).mono ?_
  intro e w5 c;rcases h5:UL (p+1) 2147483647 q with _|⟨num,q5⟩
  ·rw[h5]at c;obtain⟨t,v',rfl⟩:=c.1;refine⟨rfl,?_⟩;show Tw Z N b rcs w S M v td R j ls X _ _;rw[show X=none by rw[<-F.out,h5];rfl];exact E.out.broke A c
  rw[h5]at c;obtain⟨rfl,b3⟩:=c;obtain⟨f5,D,f6⟩:=zu h5;have k5:=E.out.step A b3;have d5:=Q.out.rd E.out.here b3;have a9:Hid ((UL 1 2147483647 q5).bind (λg=>(Z9 ls g.1 g.2).bind λx=>yD ls (n-(k+1)) num (os++[⟨num,g.1,x.1⟩]) x.2)=X):=by
   rw[Hid,<-F.out,h5];rfl
  have u:=zb (k5.after ((xg _ _).drew:Below _ _ w5.drew));have a7:=zb (d5.below ((xg _ _).drew:Below _ _ w5.drew));have s2:w5.drew.cell? ⟨S,2,none⟩=some (.map (some M.o)):=by rw[za a7.out.sb];rfl
  have HB:=zb (ZA b hb q5 (by omega) 1 2147483647 (by omega) (by omega) w5.drew (u.out.gl A hg) (u.out.gu A hu) u.out.rd);clear HA Q E b3 h5 F k5 d5;go_wp2_with fail;rcases h6:UL 1 2147483647 q5 with _|⟨gd,q7⟩
  ·rw[h6]at HB;have e2:Hid (X=none):=by rw[Hid,<-a9.out,h6];rfl
   clear h6;obtain⟨G,s⟩:∃G:World->Prop,∀w',G w'↔(w'.cell? ⟨S,2,none⟩=some (.map (some M.o))):=⟨_,λ_=>YN⟩
   have z0:∀x:Wd G,x.w.cell? ⟨S,2,none⟩=some (.map (some M.o)):=λx=>((s _).1 x.h)
   have y:G w5.drew:=(s _).2 s2;clear s s2;haveI hinh:Inhabited (Wd G):=⟨⟨_,y⟩⟩
   refine zB (n:=8) (m:=2) 6 7 (λw'=>∃x:Wd G,w'=x.w) (by kernel_rfl) (by kernel_rfl) (λ_ _ d _ _ h=>by cases d<;>exact h) (by kernel_rfl) (by kernel_rfl) rfl rfl ⟨⟨_,y⟩,rfl⟩ ?_
   clear y;dsimp only[List.take];repeat (go_big_quiet_step (fail))
   refine XN ?_
   refine zV (i:=6) (by kernel_rfl) rfl rfl (λK hK=>?_);go_wp2_with (go_at_call 176;refine(HB.out).mono ?_;rintro e w7 d0;obtain⟨t,v',rfl⟩:=d0.1);refine⟨rfl,?_⟩;show Tw Z N b rcs w S M v td R j ls X _ _;rw[e2.out];exact u.out.broke A d0
  rw[h6]at HB;obtain⟨_,d1,f7⟩:=zu h6;have a8:Hid ((Z9 ls gd q7).bind (λx=>yD ls (n-(k+1)) num (os++[⟨num,gd,x.1⟩]) x.2)=X):=by rw[Hid,<-a9.out,h6];rfl
  clear h6 a9;obtain⟨G,s⟩:∃G:World->Prop,∀w',G w'↔(w'.cell? ⟨S,2,none⟩=some (.map (some M.o))):=⟨_,λ_=>YN⟩
  have z0:∀x:Wd G,x.w.cell? ⟨S,2,none⟩=some (.map (some M.o)):=λx=>((s _).1 x.h)
  have y:G w5.drew:=(s _).2 s2;have c9:=zb s;clear s s2;haveI hinh:Inhabited (Wd G):=⟨⟨_,y⟩⟩
  refine zB (n:=8) (m:=2) 6 7 (λw'=>∃x:Wd G,w'=x.w) (by kernel_rfl) (by kernel_rfl) (λ_ _ d _ _ h=>by cases d<;>exact h) (by kernel_rfl) (by kernel_rfl) rfl rfl ⟨⟨_,y⟩,rfl⟩ ?_
  clear y;dsimp only[List.take];repeat (go_big_quiet_step (fail))
  refine XN ?_
  refine zV (i:=6) (by kernel_rfl) rfl rfl (λK hK=>?_);go_wp2_with (go_at_call 176;refine(HB.out).mono ?_;rintro e w7 ⟨rfl,b4⟩);have C:=a7.out.rd u.out.here b4;have k7:=u.out.step A b4;refine hK _ _ (Or.inr ⟨⟨_,(c9.out _).2 (by rw[za C.sb];rfl)⟩,rfl⟩) ?_
  obtain⟨Do,T,J⟩:=C.mp.o;obtain⟨Dh,b0,a0⟩:=C.mp.h;obtain⟨Dr,b1,a2⟩:=C.mp.r;have d8:Maps.size Do<maxLen:=by rw[J.size,d4];unfold maxLen;omega
  obtain⟨w8,f0,P,f⟩:=yr (w:=w7) T BJ Lc d8 (sU D) (YZ (H:=Unit) Va (Qw (n:=gd) d1));have a3:Maps.Tidy Do:=yl T BJ;have a5:Hid (∀o'∈os,o'.id≠num):=λo' e7 e=>by
   have:=a6.out o' e7
   omega
  have b6:os.any (λo=>o.id==num)=false:=yp.2 (λo ho=>by simpa using a5.out o ho);have a1:=J.put a3 D b6 (g:=gd);have b9:Hid (Mp (os++[⟨num,gd,[]⟩]) rcs w8 M):=by
   have c:=C.mp;exact⟨⟨Dr,zz b1 (f.block M.r (Xr b1) (λe=>c.ro (xq e))),a2⟩,c.rc,⟨_,Z5 P,a1⟩,⟨Dh,zz b0 (f.block M.h (Xr b0) (λe=>c.oh (xq e).symm)),a0.snoc b6⟩,c.ro,c.rh,c.oh⟩
  obtain⟨es,cl,b5⟩:=ZQ T;have d6:PR N (os++[⟨num,gd,[]⟩]) rcs w8 S M v td R j ls:=C.map b5 f b9.out;have k8:Kz Z b w w8 q7:=⟨k7.kp.grown f (λz hz=>Or.inl (by cases hz;exact e5)),(f.block b (zc k7.here) (λe=>Zb k7.here b5 (xq e))).trans k7.here⟩
  have b8:=zb (xH A e4 q7 (by omega) (k8.gl A hg) (k8.gu A hu) k8.here d6 D d1 a5.out (by omega));have a4:=zb k8;clear C k7 T J b0 a0 b1 a2 d8 a3 a1 b5 b9 b4 f P HB a7 u c9 b6 d6 k8;refine zV (i:=7) (by kernel_rfl) rfl rfl (λK hK=>?_);go_wp2_with fail;refine hK _ _ (by first|exact Or.inl rfl|exact Or.inl trivial|trivial) ?_
  refine bM (by kernel_rfl) ?_
  clear hK z0;go_wp2_with fail;refine(b8.out).mono ?_
  intro e w9 c;rcases h9:Z9 ls gd q7 with _|⟨ln,q9⟩
  ·rw[h9]at c;have d3:Bz Z w8 e w9:=c;obtain⟨t,v',rfl⟩:=d3.1;refine⟨rfl,?_⟩;show Tw Z N b rcs w S M v td R j ls X _ _;rw[show X=none by rw[<-a8.out,h9];rfl];exact a4.out.bz d3
  rw[h9]at c;obtain⟨rfl,d7,d2⟩:=c;obtain⟨f2,f8⟩:=jN h9;have e1:Hid (yD ls (n-(k+1)) num (os++[⟨num,gd,ln⟩]) q9=X):=by rw[Hid,<-a8.out,h9];rfl
  have e0:=zb d7;have d9:=zb (a4.out.trans d2);have c6:Hid (∀o∈os++[⟨num,gd,ln⟩],o.id<=num):=λo ho=>by
   rcases xw.1 ho with ho|ho
   ·have:=a6.out o ho;omega
   simp at ho;subst ho;exact xc _
  have c5:Hid (Zc (os++[⟨num,gd,ln⟩])<=30*(k+1)):=by
   have:Zc (os++[⟨num,gd,ln⟩])=Zc os+ln.length:=by simp[Zc]
   rw[Hid,this];omega
  clear d7 d2 h9 a8 b8 a4 a6 a5;go_wp2_with fail;go_roundw
  case rel=>exact⟨k+1,num,os++[⟨num,gd,ln⟩],q9,by go_num,by omega,rfl,D,by simp[d4],c6.out,c5.out,by omega,e0.out,d9.out,e1.out⟩
  simp[intOf];omega
 have e6:k=n:=by omega
 subst e6;rw[YL]at hX;have e3:Hid (X=some (os,q)):=by rw[Hid,<-hX];rfl
 have Q:=zb W;have E:=zb B;clear W B hX b7;go_wp2_with fail;go_end0;show Tw Z N b rcs w S M v td R j ls X _ _;rw[e3.out];exact⟨rfl,Q.out,E.out⟩
theorem LL(w:World):ext w ⟨0,#[]⟩=w:=by cases w;simp[ext]
theorem Jw{p q:Nat×Nat}(h:bG p q=true)(a:bG q p=true):False:=by
 simp[bG]at h a;omega
theorem Gg{p q r:Nat×Nat}(h:bG p q=true)(a:bG q r=true):bG p r=true:=by
 simp[bG]at h a ⊢;omega
def Dd(ls:List L):Nat->Nat×Nat->List (Nat×Nat)->List UInt8->Option (List (Nat×Nat)×List UInt8)
 |0,_,rcs,l=>some (rcs,l)
 |k+1,a,rcs,l=>(UL 1 2147483647 l).bind λx=>(UL 1 2147483647 x.2).bind λy=>if bG a (x.1,y.1)=true/\Ur x.1 ls<ls.length then Dd ls k (x.1,y.1) (rcs++[(x.1,y.1)]) y.2 else none
def dX(ls:List L)(l:List UInt8):Option (List (Nat×Nat)×List UInt8):=(UL 0 10 l).bind λk=>Dd ls k.1 (0,0) [] k.2
def Tx(Z:Nat->Prop)(N b:Nat)(os:List O)(w:World)(S:Nat)(M:Mx)(v:Value)(td:Nat)(bs:List Nat)(pvs:List Value)(ls:List L)(X:Option (List (Nat×Nat)×List UInt8))(e:Ending)(w':World):Prop:=match X with
 |some (rcs,r)=>e=.returned (.tuple #[])/\PR N os rcs w' S M v td bs pvs ls/\Kz Z b w w' r
 |none=>Bz Z w e w'
theorem Be{Z:Nat->Prop}{N b:Nat}{os:List O}{S:Nat}{M:Mx}{v:Value}{td:Nat}{P:List Nat}{j:List Value}(u:Zo Z b)(i0:Z M.r)(l:List UInt8)(hl:l.length<=1000000000)(hg:Gl w)(hu:Gu w)(hr:w.heap[b]?=some (.cells #[.string (TW l)] 225 (0,0)))(h:PR N os [] w S M v td P j ls):Calls Tryz.prog 179 #[.pointer (some ⟨S,0,none⟩),.pointer (some ⟨b,0,none⟩)] w (Tx Z N b os w S M v td P j ls (dX ls l)):=by
 obtain⟨X,HX⟩:=UC (dX ls l);rw[<-HX.out];have hb:=u.low b u.b;have ha:=TQ w (.cells #[.int .i64 ((0:Nat):Int),.int .i64 ((0:Nat):Int)] 202);have hA:=xo w (.cells #[.int .i64 ((0:Nat):Int),.int .i64 ((0:Nat):Int)] 202);have k0:Kz Z b w (w.alloc (.cells #[.int .i64 ((0:Nat):Int),.int .i64 ((0:Nat):Int)] 202)) l:=(Kz.refl hr).after ha;have f6:=zb (h.below ha);have f2:=zb (ZA b hb l hl 0 10 (by omega) (by omega) _ (k0.gl u hg) (k0.gu u hu) k0.rd);obtain⟨A,d6⟩:=UC w.heap.size;have g4:Hid (w.heap.size<=A):=by rw[Hid,d6.out];exact xc _
 rw[<-d6.out]at hA;have d3:=zb hA;have a0:=zb k0;clear h ha hA k0;go_enter Tryz.func179,Tryz.ntmps179;go_wp2_with fail;rw[<-d6.out];refine(f2.out).mono ?_
 intro e w1 f;rcases h1:UL 0 10 l with _|⟨n,r1⟩
 ·rw[h1]at f;obtain⟨t,v',rfl⟩:=f.1;refine⟨rfl,?_⟩;show Tx Z N b os w S M v td P j ls X _ _;rw[show X=none by rw[HX.out];unfold dX;simp only[h1,Xm]];exact a0.out.broke u f
 rw[h1]at f;obtain⟨rfl,b7⟩:=f;have K1:=zb (a0.out.step u b7);obtain⟨_,i5,j0⟩:=zu h1;have f7:=zb (f6.out.rd a0.out.here b7);have e9:Hid (w1.heap[A]?=some (.cells #[.int .i64 ((0:Nat):Int),.int .i64 ((0:Nat):Int)] 202 (0,0))):=(b7.block A (zv d3.out a0.out.here (by decide))).trans d3.out;have E:Hid (X=Dd ls n (0,0) [] r1):=by unfold Hid;rw[HX.out];unfold dX;simp only[h1,xi]
 clear b7 h1 HX f6 f2 d3 a0;go_wp2_with fail;go_loopw [5,8] (λ_ ii wr=>∃(k m s:Nat) (rcs:List (Nat×Nat)) (q:List UInt8),ii=.int .i64 k/\k<=n/\rcs.length=k/\(∀p∈rcs,p=(m,s)\/bG p (m,s)=true)/\q.length<=1000000000/\wr.heap[A]?=some (.cells #[.int .i64 m,.int .i64 s] 202 (0,0))/\PR N os rcs wr S M v td P j ls/\Kz Z b w wr q/\Dd ls (n-k) (m,s) rcs q=X) (λ_ ii _=>n-(intOf ii).toNat)
 case atStart=>exact⟨0,0,0,[],r1,rfl,by omega,rfl,λx hx=>by simp at hx,by omega,e9.out,f7.out,K1.out,E.out.symm⟩
 clear f7 K1 E e9;obtain⟨k,m,s,rcs,q,rfl,hk,e7,e8,i2,hA,c5,K,hX⟩:=hrel;by_cases j1:k<n
 ·have E:Hid ((UL 1 2147483647 q).bind (λx=>(UL 1 2147483647 x.2).bind λy=>if bG (m,s) (x.1,y.1)=true/\Ur x.1 ls<ls.length then Dd ls (n-(k+1)) (x.1,y.1) (rcs++[(x.1,y.1)]) y.2 else none)=X):=by
   unfold Hid;rw[<-hX,show n-k=(n-(k+1))+1 by omega];rfl
  clear hX;have f3:=zb (ZA b hb q i2 1 2147483647 (by omega) (by omega) wr (K.gl u hg) (K.gu u hu) K.rd);have b4:=zb c5;have D:=zb K;have g2:=zb e8;have HA:=zb hA;clear c5 K e8 hA;go_wp2_with fail;refine(f3.out).mono ?_
  intro e w5 f;rcases h5:UL 1 2147483647 q with _|⟨x,q5⟩
  ·rw[h5]at f;obtain⟨t,v',rfl⟩:=f.1;refine⟨rfl,?_⟩;show Tx Z N b os w S M v td P j ls X _ _;rw[show X=none by rw[<-E.out,h5];rfl];exact D.out.broke u f
  rw[h5]at f;obtain⟨rfl,b8⟩:=f;obtain⟨_,hx,j2⟩:=zu h5;have k5:=D.out.step u b8;have g7:=b4.out.rd D.out.here b8;have d4:Hid (w5.heap[A]?=some (.cells #[.int .i64 m,.int .i64 s] 202 (0,0))):=(b8.block A (zv HA.out D.out.here (by decide))).trans HA.out;have f4:=zb (ZA b hb q5 (by omega) 1 2147483647 (by omega) (by omega) w5 (k5.gl u hg) (k5.gu u hu) k5.rd);have a3:=zb k5;have f8:=zb g7;clear f3 b4 D HA b8 k5 g7;go_wp2_with fail;refine(f4.out).mono ?_
  intro e T f;rcases h6:UL 1 2147483647 q5 with _|⟨y,q6⟩
  ·rw[h6]at f;obtain⟨t,v',rfl⟩:=f.1;refine⟨rfl,?_⟩;show Tx Z N b os w S M v td P j ls X _ _;rw[show X=none by rw[<-E.out,h5];show(UL 1 2147483647 q5).bind _=none;rw[h6];rfl];exact a3.out.broke u f
  rw[h6]at f;obtain⟨rfl,b9⟩:=f;obtain⟨_,hy,j3⟩:=zu h6;have d9:Hid ((if bG (m,s) (x,y)=true/\Ur x ls<ls.length then Dd ls (n-(k+1)) (x,y) (rcs++[(x,y)]) q6 else none)=X):=by
   rw[Hid,<-E.out,h5];show _=(UL 1 2147483647 q5).bind _;rw[h6];rfl
  have k6:=a3.out.step u b9;have g8:=f8.out.rd a3.out.here b9;have b5:=(b9.block A (zv d4.out a3.out.here (by decide))).trans d4.out;have hB:=TQ T (.cells #[.int .i64 x,.int .i64 y] 202);have Q:=xo T (.cells #[.int .i64 x,.int .i64 y] 202);have d7:=zb (k6.after hB);have h7:=zb (g8.below hB);have b0:=zb ((hB.block A (zc b5)).trans b5);have a6:=MQ (m,s) (x,y) (T.alloc (.cells #[.int .i64 x,.int .i64 y] 202)) ⟨0,#[]⟩;rw[show ext (T.alloc (.cells #[.int .i64 x,.int .i64 y] 202)) ⟨0,#[]⟩=T.alloc (.cells #[.int .i64 x,.int .i64 y] 202) from LL _]at a6;have b2:Hid (Calls Tryz.prog 131 #[.agg #[.int .i64 m,.int .i64 s],.agg #[.int .i64 x,.int .i64 y]] (T.alloc (.cells #[.int .i64 x,.int .i64 y] 202)) λe w'=>e=.returned (.int .i64 (QB (m,s) (x,y)))/\w'.cell? ⟨T.heap.size,0,none⟩=some (.int .i64 x)/\Hid (Below (T.alloc (.cells #[.int .i64 x,.int .i64 y] 202)).heap.size (T.alloc (.cells #[.int .i64 x,.int .i64 y] 202)) w')):=by
   refine a6.mono ?_
   rintro e w' ⟨h1,x',rfl⟩;exact⟨h1,((zw _ _).cell (zc Q)).trans (by rw[za Q];rfl),zw _ _⟩
  have g0:(T.alloc (.cells #[.int .i64 x,.int .i64 y] 202)).cell? ⟨A,0,none⟩=some (.int .i64 m):=by rw[za b0.out];rfl
  have g1:(T.alloc (.cells #[.int .i64 x,.int .i64 y] 202)).cell? ⟨A,1,none⟩=some (.int .i64 s):=by rw[za b0.out];rfl
  have i4:=zc b5;obtain⟨B,e4⟩:∃B,B=T.heap.size:=⟨_,rfl⟩
  have h2:=zb e4;have c6:Hid ((T.alloc (.cells #[.int .i64 x,.int .i64 y] 202)).heap[B]?=some (.cells #[.int .i64 x,.int .i64 y] 202 (0,0))):=by rw[e4];exact Q
  obtain⟨rc,f9⟩:=UC (QB (m,s) (x,y));rw[<-f9.out]at b2;have C:=PX (m,s) (x,y);rw[<-f9.out]at C;clear f4 d4 a3 f8 b9 k6 g8 b5 hB Q a6 h5 h6 E e4;by_cases R:bG (m,s) (x,y)=true
  ·have i3:=C.2 R;have a4:=zb R;clear C R;go_wp2_with (go_at_call 131;refine(b2.out).mono ?_;rintro _ w7 ⟨rfl,c7,J⟩);have i:=h7.out.below J.out;have k7:=d7.out.after J.out;refine(pI i.pw x hx).mono ?_
   rintro _ wz ⟨rfl,rfl⟩;by_cases hj:Ur x ls<ls.length
   ·have a7:zM P ls x=.pointer (some ⟨P.getD (Ur x ls) 0,0,none⟩):=by unfold zM;rw[xd hj]
    rw[a7];generalize P.getD (Ur x ls) 0=bf;have h8:Hid (Dd ls (n-(k+1)) (x,y) (rcs++[(x,y)]) q6=X):=by
     rw[Hid,<-d9.out,xd ⟨a4.out,hj⟩]
    have b3:=zb k7;have i9:=zb i;have b1:Hid (wz.heap[A]?=some (.cells #[.int .i64 m,.int .i64 s] 202 (0,0))):=(J.out.block A (zc b0.out)).trans b0.out;have G:=(J.out.block B (zc c6.out)).trans c6.out;have h3:=zb G;have m0:wz.cell? ⟨B,0,none⟩=some (.int .i64 x):=by rw[za G];rfl
    have m1:wz.cell? ⟨B,1,none⟩=some (.int .i64 y):=by rw[za G];rfl
    have s4:wz.cell? ⟨S,4,none⟩=some (.map (some M.r)):=by rw[za i.sb];rfl
    obtain⟨Do,e6,c9⟩:=i.mp.o;obtain⟨Dh,e5,c8⟩:=i.mp.h;obtain⟨Dr,b6,a5⟩:=i.mp.r;have h0:Maps.size Dr<maxLen:=by rw[a5.size,e7];unfold maxLen;omega
    obtain⟨w8,i7,a9,g⟩:=yr (w:=wz.drew) b6 KY Qi h0 (IJ hx hy) (xat (H:=Unit));have d2:Maps.Tidy Dr:=yl b6 KY;have g6:(x,y) ∉ rcs:=λf=>by
     rcases g2.out _ f with h|h
     ·have:=a4.out
      rw[<-h]at this;simp[bG]at this
     exact Jw h a4.out
    have d1:=λd=>a5.put d2 hx hy (by simpa using g6) d
    have d0:Rc (rcs++[(x,y)]):=by
     have f:=i.mp.rc;refine⟨?_,by simp[e7];omega,λp W=>?_⟩
     ·rw[Xx];exact⟨f.nodup,by simp,λa ha b' g5 e=>by simp at g5;subst g5;exact g6 (e ▸ ha)⟩
     rcases xw.1 W with W|W
     ·exact f.fits p W
     simp at W;subst W;exact⟨hx,hy⟩
    have f5:Hid (Mp os (rcs++[(x,y)]) w8 M):=by
     have f:=i.mp;exact⟨⟨_,Z5 a9,d1 _⟩,d0,⟨Do,zz e6 (g.block M.o (Xr e6) (λe=>f.ro (xq e).symm)),c9⟩,⟨Dh,zz e5 (g.block M.h (Xr e5) (λe=>f.rh (xq e).symm)),c8⟩,f.ro,f.rh,f.oh⟩
    obtain⟨es,cl,a8⟩:=ZQ b6;have g9:PR N os (rcs++[(x,y)]) w8 S M v td P j ls:=(i.below ((xg _ _).drew)).map a8 g f5.out;have k8:Kz Z b w w8 q6:=⟨(k7.after ((xg _ _).drew)).kp.grown g (λz hz=>Or.inl (by cases hz;exact i0)),(g.block b (zc k7.here) (λe=>Zb k7.here a8 (xq e))).trans k7.here⟩
    have F:w8.heap[A]?=some (.cells #[.int .i64 m,.int .i64 s] 202 (0,0)):=(g.block A (zc b1.out) (λe=>Zb b1.out a8 (xq e))).trans b1.out;have e3:w8.heap[B]?=some (.cells #[.int .i64 x,.int .i64 y] 202 (0,0)):=(g.block B (zc G) (λe=>Zb G a8 (xq e))).trans G;have n0:w8.cell? ⟨B,0,none⟩=some (.int .i64 x):=by rw[za e3];rfl
    have n1:w8.cell? ⟨B,1,none⟩=some (.int .i64 y):=by rw[za e3];rfl
    have p0:w8.cell? ⟨A,0,none⟩=some (.int .i64 m):=by rw[za F];rfl
    have p1:w8.cell? ⟨A,1,none⟩=some (.int .i64 s):=by rw[za F];rfl
    have f0:=zf F 0;have f1:=zf F 1;have i8:Hid (∀z:Nat,∀es c,w8.heap[z]?=some (.map es c)->z≠A):=λz es c hz e=>Zb F hz e.symm
    have h4:=zb g9;have d8:=zb k8;have d5:=zb F;have g3:Hid (∀p∈rcs++[(x,y)],p=(x,y)\/bG p (x,y)=true):=λp W=>by
     rcases xw.1 W with W|W
     ·right
      rcases g2.out p W with h|h
      ·rw[h];exact a4.out
      exact Gg h a4.out
     left;simpa using W
    clear a7 hj i k7 e6 c9 e5 c8 b6 a5 h0 d2 d1 d0 a9 g a8 g9 k8 F e3 G c7 h3 b1 f5 b2;rw[<-h2.out];go_wp2_with fail;refine(zL true wz (b3.out.gu u hu)).mono ?_
    rintro _ w9 ⟨rfl,f⟩;rw[xd rfl]at f;subst f;go_wp2_with fail;go_region;go_wp2_with fail;have e1:=xp w8 A 0 _ 202 (.int .i64 x) d5.out;have e2:=xp _ A 1 _ 202 (.int .i64 y) e1;have eb:=zv d8.out.here d5.out (by decide);refine⟨⟨k+1,x,y,rcs++[(x,y)],q6,by go_num,by omega,by simp[e7],g3.out,by omega,e2,(h4.out.box d5.out 0 _).box e1 1 _,⟨(d8.out.kp.setCell (p:=⟨A,0,none⟩) (Or.inr g4.out) _).setCell (p:=⟨A,1,none⟩) (Or.inr g4.out) _,((xa _ _ _ _ eb).trans (xa _ _ _ _ eb)).trans d8.out.here⟩,h8.out⟩,?_⟩;simp[intOf];omega
   have e0:Hid (X=none):=by
    rw[Hid,<-d9.out,xe (λhc=>hj hc.2)]
   have a7:zM P ls x=.pointer none:=by unfold zM;rw[xe hj]
   rw[a7];have b3:=zb k7;clear a7 hj i k7;go_wp2_with fail;refine(zL false wz (b3.out.gu u hu)).mono ?_
   rintro _ w9 ⟨rfl,f⟩;rw[xe (by simp)]at f;obtain⟨t,v',rfl⟩:=f;refine⟨rfl,?_⟩;show Tx Z N b os w S M v td P j ls X _ _;rw[e0.out];exact⟨⟨t,v',rfl⟩,b3.out.kp⟩
  have i3:¬rc<0:=λhc=>R (C.1 hc)
  have i6:(0:Int)<=rc:=by omega
  have e0:Hid (X=none):=by
   rw[Hid,<-d9.out,xe (λhc=>R hc.1)]
  clear C R;go_wp2_with (go_at_call 131;refine(b2.out).mono ?_;rintro _ w7 ⟨rfl,c7,J⟩);refine(zL false w7 ((d7.out.after J.out).gu u hu)).mono ?_
  rintro _ w9 ⟨rfl,f⟩;rw[xe (by simp)]at f;obtain⟨t,v',rfl⟩:=f;refine⟨rfl,?_⟩;show Tx Z N b os w S M v td P j ls X _ _;rw[e0.out];exact⟨⟨t,v',rfl⟩,(d7.out.after J.out).kp⟩
 have i1:k=n:=by omega
 subst i1;rw[YL]at hX;have h9:Hid (X=some (rcs,q)):=by rw[Hid,<-hX];rfl
 have b4:=zb c5;have D:=zb K;clear c5 K hX e8 hA;go_wp2_with fail;go_end0;show Tx Z N b os w S M v td P j ls X _ _;rw[h9.out];exact⟨rfl,b4.out,D.out⟩
theorem MR{num com:Nat}{x:L}(h:cL num com l=some (x,r)):Cs x:=by
 unfold cL at h;rcases h1:UL 1 2147483647 l with _|⟨s,i⟩
 ·rw[h1]at h;cases h
 rcases h2:UL 0 2147483647 i with _|⟨t,j⟩
 ·simp only[h1,h2,xi,Xm]at h;cases h
 rcases h3:UL 1 com j with _|⟨u,k⟩
 ·simp only[h1,h2,h3,xi,Xm]at h;cases h
 rcases h4:UL 0 2147483647 k with _|⟨v,m⟩
 ·simp only[h1,h2,h3,h4,xi,Xm]at h;cases h
 rcases h5:UL 0 2147483647 m with _|⟨w,n⟩
 ·simp only[h1,h2,h3,h4,h5,xi,Xm]at h;cases h
 rcases h6:UL 0 2147483647 n with _|⟨y,p⟩
 ·simp only[h1,h2,h3,h4,h5,h6,xi,Xm]at h;cases h
 rcases h7:UL 0 2147483647 p with _|⟨z,q⟩
 ·simp only[h1,h2,h3,h4,h5,h6,h7,xi,Xm]at h;cases h
 rcases h8:eR q with _|⟨ps,b⟩
 ·simp only[h1,h2,h3,h4,h5,h6,h7,h8,xi,Xm]at h;cases h
 simp only[h1,h2,h3,h4,h5,h6,h7,h8,xi]at h;have c:=(zu h4).2.1;have d:=(zu h5).2.1;have e:=(zu h6).2.1;have f:=(zu h7).2.1
 cases a:(if ps.length=0 then UK b else some ((ps.map Prod.snd).sum,b)) with
 |none=>rw[a]at h;cases h
 |some gt=>
  rw[a]at h;simp only[xi]at h;split at h
  ·rename_i g
   cases h;exact⟨g.2,c,d,e,f⟩
  cases h
theorem EJ{P:L->Prop}{c:Nat}(i:∀num l x r,cL num c l=some (x,r)->P x):∀{k p:Nat} {e b:List (Option L)} {l r:List UInt8},xG c k p e l=some (b,r)->(∀x,some x∈e->P x)->(∀x,some x∈b->P x)/\r.length<=l.length/\b.length=e.length
 |0,p,e,b,l,r,h,hs=>by simp only[xG,Xj,XD]at h;obtain⟨rfl,rfl⟩:=h;exact⟨hs,xc _,rfl⟩
 |k+1,p,e,b,l,r,h,hs=>by
  rw[xG]at h
  cases g:UL (p+1) 2147483647 l with
  |none=>rw[g]at h;cases h
  |some a=>
   obtain⟨m,q⟩:=a;rw[g]at h;simp only[xi]at h
   cases f:cL m c q with
   |none=>rw[f]at h;cases h
   |some a2=>
    obtain⟨x,s⟩:=a2;rw[f]at h;simp only[xi]at h;split at h
    ·obtain⟨j,t,n⟩:=EJ i h (λy d=>by
      rcases Xy d with d|d
      ·exact hs y d
      cases d;exact i _ _ _ _ f)
     have:=(zu g).2.2
     have:=(qV f).2.2.2.2.2.2
     exact⟨j,by omega,by rw[n,xl]⟩
    cases h
theorem Ky{P:L->Prop}(c:∀x n,P x->P (Uo x n))(l:L):∀{ps:List (Nat×Nat)} {e a:Nat} {ls ls':List L},Vd l ps e ls=some (ls',a)->(∀x∈ls,P x)->(∀x∈ls',P x)/\ls'.length=ls.length
 |[],e,a,ls,ls',h,hs=>by simp only[Vd,Xj,XD]at h;obtain⟨rfl,rfl⟩:=h;exact⟨hs,rfl⟩
 |p::ps,e,a,ls,ls',h,hs=>by
  rw[Vd]at h;split at h
  ·rename_i d;obtain⟨f,g⟩:=Ky c l h (λx b=>by
    rcases Xy b with b|rfl
    ·exact hs x b
    exact c _ _ (hs _ (zg d.1)))
   exact⟨f,by rw[g,xl]⟩
  cases h
variable {P:L->Prop}
theorem Qp(d:∀x n,P x->P (Uo x n)){ls ls':List L}{i:Nat}(h:Ve ls i=some ls')(c:∀x∈ls,P x):(∀x∈ls',P x)/\ls'.length=ls.length:=by
 unfold Ve at h;split at h
 ·cases h;exact⟨c,rfl⟩
 cases b:Vd (ls.getD i L0) (ls.getD i L0).par 2147483647 ls with
 |none=>rw[b]at h;cases h
 |some a=>
  obtain⟨f,e⟩:=a;rw[b]at h;simp only[xi]at h;split at h
  ·cases h;exact Ky d _ b c
  cases h
theorem Ku{P:L->Prop}(b:∀x n,P x->P (Uo x n)):∀{k i:Nat} {ls ls':List L},Vc k i ls=some ls'->(∀x∈ls,P x)->(∀x∈ls',P x)/\ls'.length=ls.length
 |0,i,ls,ls',h,hs=>by simp only[Vc,Xj]at h;subst h;exact⟨hs,rfl⟩
 |k+1,i,ls,ls',h,hs=>by
  rw[Vc]at h
  cases a:Ve ls i with
  |none=>rw[a]at h;cases h
  |some l2=>
   rw[a]at h;simp only[xi]at h;obtain⟨c,d⟩:=Qp b a hs;obtain⟨e,f⟩:=Ku b h c;exact⟨e,by rw[f,d]⟩
theorem Jz(h:cF l=some (ls,r)):(∀x∈ls,Cs x)/\r.length<=l.length:=by
 unfold cF at h;rcases h1:UL 0 30 l with _|⟨c,g⟩
 ·rw[h1]at h;cases h
 rcases h2:UK g with _|⟨d,i⟩
 ·simp only[h1,h2,xi,Xm]at h;cases h
 simp only[h1,h2,xi]at h;split at h
 ·rcases h3:xG c c 0 (List.replicate c none) i with _|⟨j,m⟩
  ·rw[h3]at h;cases h
  rw[h3]at h;simp only[xi]at h;rcases h4:Vc c 0 (j.map λo=>o.getD L0) with _|f
  ·rw[h4]at h;cases h
  rw[h4]at h;simp only[xi,Xj,XD]at h;obtain⟨rfl,rfl⟩:=h;obtain⟨k,p,q⟩:=EJ (P:=Cs) (λ_ _ _ _ b=>MR b) h3 (λx a=>by simp at a);have:=(zu h1).2.2;have:=xE h2;refine⟨(Ku (P:=Cs) (λx n a=>a) h4 (λx a=>?_)).1,by omega⟩;obtain⟨o,e,rfl⟩:=Xg.1 a
  cases o with
  |none=>exact⟨by show 0<=_;omega,by show 0<=_;omega,by show 0<=_;omega,by show 0<=_;omega,by show 0<=_;omega⟩
  |some x=>exact k x e
 cases h
theorem EH{ls:List L}{g:Nat}:∀{k p:Nat} {b e:List (Nat×Nat)} {l r:List UInt8},rQ ls g k p b l=some (e,r)->(∀q∈b,q.2<=2147483647)->∀q∈e,q.2<=2147483647
 |0,p,b,e,l,r,h,ha=>by simp only[rQ,Xj,XD]at h;obtain⟨rfl,rfl⟩:=h;exact ha
 |k+1,p,b,e,l,r,h,ha=>by
  rw[rQ]at h
  cases i:UL (p+1) 2147483647 l with
  |none=>rw[i]at h;cases h
  |some a=>
   obtain⟨m,q⟩:=a;rw[i]at h;simp only[xi]at h;split at h
   ·cases f:UL 1 2147483647 q with
    |none=>rw[f]at h;cases h
    |some a2=>
     obtain⟨c,j⟩:=a2;rw[f]at h;simp only[xi]at h;exact EH h (λx d=>by
      rcases xw.1 d with d|d
      ·exact ha x d
      simp at d;subst d;exact(zu f).2.1)
   cases h
theorem JA{ls:List L}:∀{k p:Nat} {d os:List O} {l r:List UInt8},yD ls k p d l=some (os,r)->((d.map O.id).Nodup/\(∀o∈d,o.id<=p/\o.id<=2147483647)/\∀o∈d,∀q∈o.li,q.2<=2147483647)->((os.map O.id).Nodup/\(∀o∈os,o.id<=2147483647)/\∀o∈os,∀q∈o.li,q.2<=2147483647)/\os.length=d.length+k/\r.length<=l.length
 |0,p,d,os,l,r,h,ha=>by simp only[yD,Xj,XD]at h;obtain⟨rfl,rfl⟩:=h;exact⟨⟨ha.1,λo c=>(ha.2.1 o c).2,ha.2.2⟩,rfl,xc _⟩
 |k+1,p,d,os,l,r,h,ha=>by
  rw[yD]at h;rcases h1:UL (p+1) 2147483647 l with _|⟨m,u⟩
  ·rw[h1]at h;cases h
  rcases h2:UL 1 2147483647 u with _|⟨g,j⟩
  ·simp only[h1,h2,xi,Xm]at h;cases h
  rcases h3:Z9 ls g j with _|⟨t,x⟩
  ·simp only[h1,h2,h3,xi,Xm]at h;cases h
  simp only[h1,h2,h3,xi]at h;obtain⟨A,v,B⟩:=zu h1;have C:=(zu h2).2.2;have D:=(jN h3).2;have i:∀q∈t,q.2<=2147483647:=by
   unfold Z9 at h3;rcases h4:UL 1 30 j with _|⟨w,y⟩
   ·rw[h4]at h3;cases h3
   rw[h4]at h3;exact EH h3 (λq s=>by simp at s)
  obtain⟨w1,w2,z⟩:=JA h ⟨by
   rw[yz,Xx];refine⟨ha.1,by simp,λa f b n e=>?_⟩;simp at n;obtain⟨o,c,rfl⟩:=Xg.1 f;have:=(ha.2.1 o c).1;omega,λo c=>by
   rcases xw.1 c with c|c
   ·have:=ha.2.1 o c;omega
   ·simp at c;subst c;exact⟨xc _,v⟩,λo c=>by
   rcases xw.1 c with c|c
   ·exact ha.2.2 o c
   simp at c;subst c;exact i⟩
  exact⟨w1,by rw[w2,xb,Xc];omega,by omega⟩
theorem Db{os:List O}(h:ZR ls l=some (os,r)):OF os/\r.length<=l.length:=by
 unfold ZR at h;rcases h1:UL 0 10 l with _|⟨k,q⟩
 ·rw[h1]at h;cases h
 rw[h1]at h;simp only[xi]at h;obtain⟨_,g,i⟩:=zu h1;obtain⟨⟨a,b,c⟩,d,e⟩:=JA h ⟨by simp,λo f=>by simp at f,λo f=>by simp at f⟩;exact⟨⟨a,by rw[d];simp;omega,b,c⟩,by omega⟩
def zH:List UInt8->Option (Nat×List L×List O×List (Nat×Nat))
 |[]=>none
 |c::r=>if c=13 then (UL 0 2147483647 r).bind λd=>(cF d.2).bind λx=>(ZR x.1 x.2).bind λy=>(dX x.1 y.2).bind λz=>if z.2=[]/\x.1.all (TP y.1)=true then some (d.1,x.1,y.1,z.1) else none else none
theorem QK(s:ByteArray):TW s.data.toList=s:=by cases s;simp[TW]
def CM(w:World):World:=(((w.alloc (.map #[] 0)).alloc (.map #[] 0)).alloc (.map #[] 0)).alloc (.cells #[.int .i64 0,.slice none 0 0,.map (some w.heap.size),.map (some (w.heap.size+1)),.map (some (w.heap.size+1+1))] 117)
theorem fY{k:Nat}{o a:Obj}(h:w.heap[k]?=some o):(w.alloc a).heap[k]?=some o:=((TQ w a).block k (zc h)).trans h
theorem nD(w:World)(o:Obj){k:Nat}(a:k=w.heap.size):(w.alloc o).heap[k]?=some o:=by subst a;exact xo w o
theorem FZ(w:World):Sb (CM w) (w.heap.size+3) 0 (.slice none 0 0) ⟨w.heap.size+1+1,w.heap.size,w.heap.size+1⟩/\Mp [] [] (CM w) ⟨w.heap.size+1+1,w.heap.size,w.heap.size+1⟩/\Below w.heap.size w (CM w):=by
 have c:(CM w).heap[w.heap.size]?=some (.map #[] 0):=fY (fY (fY (nD _ _ rfl)));have d:(CM w).heap[w.heap.size+1]?=some (.map #[] 0):=fY (fY (nD _ _ (by first|(simp;done)|(simp;omega))));have e:(CM w).heap[w.heap.size+1+1]?=some (.map #[] 0):=fY (nD _ _ (by first|(simp;done)|(simp;omega)));have f:(CM w).heap[w.heap.size+3]?=some (.cells #[.int .i64 0,.slice none 0 0,.map (some w.heap.size),.map (some (w.heap.size+1)),.map (some (w.heap.size+1+1))] 117):=nD _ _ (by first|(simp;done)|(simp;omega));refine⟨f,⟨⟨.map [],gH e,⟨rfl,λa b _ _=>rfl,λg h=>by cases h⟩⟩,⟨by simp,by simp,by simp⟩,⟨.map [],gH c,⟨rfl,λn _=>rfl,λn _=>rfl,λg h=>by cases h⟩⟩,⟨.map [],gH d,⟨rfl,λa b _ _=>rfl,λa b _ _=>rfl⟩⟩,by show w.heap.size+1+1≠w.heap.size;omega,by show w.heap.size+1+1≠w.heap.size+1;omega,by show w.heap.size≠w.heap.size+1;omega⟩,?_⟩;exact((((xg _ _).alloc (xc _) _).alloc (by simp) _).alloc (by first|(simp;done)|(simp;omega)) _).alloc (by first|(simp;done)|(simp;omega)) _
theorem Mt(w:World):Calls Tryz.prog 49 #[] w λe w'=>∃S M,e=.returned (.pointer (some ⟨S,0,none⟩))/\Sb w' S 0 (.slice none 0 0) M/\Mp [] [] w' M/\Below w.heap.size w w'/\w.heap.size<=S/\w.heap.size<=M.r/\w.heap.size<=M.o/\w.heap.size<=M.h:=by
 have d:=@run_makeMap Tryz.prog;go_enter Tryz.func49,Tryz.ntmps49;go_wp2_with fail;go_ret;obtain⟨a,b,c⟩:=FZ w;exact⟨w.heap.size+3,_,rfl,a,b,c,by omega,by show _<=w.heap.size+1+1;omega,by show _<=w.heap.size;omega,by show _<=w.heap.size+1;omega⟩
theorem Pv(s:ByteArray)(w:World):Calls Tryz.prog 94 #[.string s] w λe w'=>e=.returned (.pointer (some ⟨w.heap.size,0,none⟩))/\w'=w.alloc (.cells #[.string s] 225):=by
 go_enter Tryz.func94,Tryz.ntmps94;go_wp2_with fail;go_ret;exact⟨rfl,rfl⟩
def TM(w:World)(X:Option (Nat×List L×List O×List (Nat×Nat)))(e:Ending)(w':World):Prop:=match X with
 |some (td,ls,os,rcs)=>∃S,e=.returned (.pointer (some ⟨S,0,none⟩))/\PI os rcs (λk=>w.heap.size<=k) w' S td ls/\Below w.heap.size w w'
 |none=>(∃t v,e=.panicked [{ v:=.iface t v,recovered:=false }])/\Below w.heap.size w w'
theorem vT(s:ByteArray)(hs:s.size<=1000000000)(w:World)(P:Gl w)(hu:Gu w):Calls Tryz.prog 134 #[.string s] w (TM w (zH s.data.toList)):=by
 obtain⟨l,HL⟩:=UC s.data.toList;have h9:s=TW l:=by rw[HL.out,QK]
 have g9:l.length<=1000000000:=by
  have:l.length=s.size:=by rw[HL.out];simp
  omega
 rw[<-HL.out];subst h9;obtain⟨X,HX⟩:=UC (zH l);rw[<-HX.out];have d5:NU<=w.heap.size:=by
  obtain⟨t,v,A⟩:=hu;have h1:=bU A;have h2:=P.2.2;have h3:4<w.heap.size:=h1;unfold NU;omega
 have ha:=TQ w (.cells #[.string (TW l)] 225);have T:=xo w (.cells #[.string (TW l)] 225);have g7:=P.below ha;have i2:Gu (w.alloc (.cells #[.string (TW l)] 225)):=by
  obtain⟨t,v,A⟩:=hu;exact⟨t,v,(ha.cell (bU A)).trans A⟩
 obtain⟨b,b3⟩:∃b,b=w.heap.size:=⟨_,rfl⟩
 have f7:=zb b3;go_enter Tryz.func134,Tryz.ntmps134;go_wp2_with (go_at_call 94;refine(Pv _ _).mono ?_;rintro _ w0 ⟨rfl,rfl⟩);rw[<-f7.out];rw[<-b3]at T;have i4:w.heap.size<=b:=by omega
 have hb:NU<=b:=by omega
 have k1:Kz (λk=>w.heap.size<=k) b w (w.alloc (.cells #[.string (TW l)] 225)) l:=⟨Ut ha,T⟩
 have n:Zo (λk=>w.heap.size<=k) b:=⟨λk hk=>xj d5 hk,i4⟩
 have m:Hid (∀{w':World},Kp (λk=>w.heap.size<=k) w w'->Below w.heap.size w w'):=λ{w'} k=>⟨k.os,k.tape,k.output,k.size,λj hj=>k.block j hj (by show ¬w.heap.size<=j;omega)⟩
 clear b3 ha g7 i2
 cases l with
 |nil=>
  have G:Hid (X=none):=by rw[Hid,HX.out];rfl
  refine(kM b (by unfold NU at hb;omega) (TW []) (by rw[iK];rfl) _ _ (k1.gl n P) k1.rd).mono ?_
  intro e w1 f;obtain⟨t,v,rfl⟩:=f.1;refine⟨rfl,?_⟩;show TM w X _ _;rw[G.out];exact⟨⟨t,v,rfl⟩,m.out (k1.broke n f).2⟩
 |cons c r=>
  refine(vE b (TW (c::r)) (by rw[iK];simp) _ _ k1.rd).mono ?_
  rintro _ w1 ⟨rfl,b4⟩;rw[GW]at b4;have k2:=k1.step n (r:=r) b4;have e2:(TW (c::r))[0]'(by rw[iK];simp)=c:=rfl;rw[e2];have g5:=c.toNat_lt;clear b4 e2;by_cases A:c=13
  ·have g6:((c.toNat:Int)==13)=true:=by rw[A];rfl
   have a8:Hid (X=(UL 0 2147483647 r).bind λd=>(cF d.2).bind λx=>(ZR x.1 x.2).bind λy=>(dX x.1 y.2).bind λz=>if z.2=[]/\x.1.all (TP y.1)=true then some (d.1,x.1,y.1,z.1) else none):=by
    rw[Hid,HX.out,zH,xd A]
   have B:=zb k2;have h5:r.length<=1000000000:=by simp at g9;omega
   clear A k1 k2 T HX;generalize c.toNat=cn at *;go_wp2_with fail;refine(zL true w1 (B.out.gu n hu)).mono ?_
   rintro _ w2 ⟨rfl,f⟩;rw[xd rfl]at f;subst f;go_wp2_with fail;refine(Mt w2).mono ?_
   rintro _ w3 ⟨S,M,rfl,N,f1,e0,hS,g4,g3,g2⟩;have k3:=B.out.after e0;have D:=zb k3;have a7:=zb N;have c9:=zb f1;have c5:=zb (ZA b hb r h5 0 2147483647 (by omega) (by omega) w3 (k3.gl n P) (k3.gu n hu) k3.rd);have i3:=B.out.kp.size;have b2:w.heap.size<=S:=by omega
   have d8:w.heap.size<=M.r:=by omega
   have d7:w.heap.size<=M.o:=by omega
   have d4:w.heap.size<=M.h:=by omega
   clear e0 N f1 k3 B hS g4 g3 g2 i3;go_wp2_with fail;refine(c5.out).mono ?_
   intro e w4 f;rcases h4:UL 0 2147483647 r with _|⟨td,r4⟩
   ·rw[h4]at f;obtain⟨t,v,rfl⟩:=f.1;refine⟨rfl,?_⟩;show TM w X _ _;rw[show X=none by rw[a8.out,h4];rfl];exact⟨⟨t,v,rfl⟩,m.out (D.out.broke n f).2⟩
   rw[h4]at f;obtain⟨rfl,W⟩:=f;obtain⟨_,i1,i5⟩:=zu h4;have a9:Hid (X=(cF r4).bind λx=>(ZR x.1 x.2).bind λy=>(dX x.1 y.2).bind λz=>if z.2=[]/\x.1.all (TP y.1)=true then some (td,x.1,y.1,z.1) else none):=by rw[Hid,a8.out,h4];rfl
   have k4:=D.out.step n (r:=r4) W;have d9:S≠b:=zv a7.out D.out.here (by decide);have K:Sb w4 S 0 (.slice none 0 0) M:=(W.block S d9).trans a7.out;have e8:Mp [] [] w4 M:=c9.out.congr (λz es c C=>W.block z (Zb D.out.here C).symm);have c0:w4.cell? ⟨S,0,none⟩=some (.int .i64 0):=by rw[za K];rfl
   have f0:=zf K 0;have b5:=xp w4 S 0 _ 117 (.int .i64 td) K;have a3:Sb (w4.setCell ⟨S,0,none⟩ (.int .i64 td)) S td (.slice none 0 0) M:=b5;have c8:Hid (Mp [] [] (w4.setCell ⟨S,0,none⟩ (.int .i64 td)) M):=e8.congr (λz es c C=>xa _ _ _ _ (Zb K C).symm);have k5:Kz (λk=>w.heap.size<=k) b w (w4.setCell ⟨S,0,none⟩ (.int .i64 td)) r4:=⟨k4.kp.setCell (p:=⟨S,0,none⟩) (Or.inl b2) _,(xa _ _ _ _ (yk d9)).trans k4.here⟩
   have a2:Hid (∀(es:Array MapEntry) (c:Nat),(w4.setCell ⟨S,0,none⟩ (.int .i64 td)).heap[S]?=some (.map es c)->False):=λes c C=>Zb b5 C rfl
   have c7:=zb (Bc b S hb (xj d5 b2) r4 (by omega) _ (k5.gl n P) (k5.gu n hu) k5.here td _ M a3);have E:=zb k5;clear W h4 a8 D a7 c9 c5 k4 K e8 b5 a3 k5;go_wp2_with fail;refine(c7.out).mono ?_
   intro e w6 f;rcases h6:cF r4 with _|⟨ls,r6⟩
   ·rw[h6]at f;obtain⟨⟨t,v,rfl⟩,g8⟩:=f;refine⟨rfl,?_⟩;show TM w X _ _;rw[show X=none by rw[a9.out,h6];rfl];exact⟨⟨t,v,rfl⟩,m.out (E.out.kp.trans (g8.mono (λz C=>Or.inl (by rcases C with rfl|rfl<;>assumption))))⟩
   rw[h6]at f;obtain⟨rfl,⟨v6,bs,b6,f6,N,e5,e6,e7⟩,Z⟩:=f;have b0:Hid (X=(ZR ls r6).bind λy=>(dX ls y.2).bind λz=>if z.2=[]/\ls.all (TP y.1)=true then some (td,ls,y.1,z.1) else none):=by rw[Hid,a9.out,h6];rfl
   obtain⟨d3,i6⟩:=Jz h6;have k6:Kz (λk=>w.heap.size<=k) b w w6 r6:=⟨E.out.kp.trans (Z.kp.mono (λz C=>Or.inl (by rcases C with rfl|rfl<;>assumption))),Z.here⟩
   have e9:Mp [] [] w6 M:=c8.out.congr (λz es c C=>Z.kp.block z (zc C) (by
    rintro(rfl|rfl)
    ·exact Zb E.out.here C rfl
    have i0:(w4.setCell ⟨z,0,none⟩ (.int .i64 td)).heap[z]?=some (.map es c):=C;exact a2.out es c i0))
   have f3:PR 128849018820 [] [] w6 S M v6 td bs b6 ls:=⟨f6,N,e9⟩
   have a1:=E.out.kp.size;have f8:Hid (PIn (λk=>w.heap.size<=k) S M v6 bs b6):=⟨b2,d8,d7,d4,λg P=>xj a1 (e7 g P),λk hk=>xj a1 (e5 k hk),λpv h0 q hq=>xj a1 (e6 pv h0 q hq)⟩
   have d0:=zb (sX n d4 d7 r6 (by omega) (k6.gl n P) (k6.gu n hu) k6.here f3);have a4:=zb k6;have c6:=zb d3;clear f6 N e5 e6 e7 Z h6 a9 c7 c8 E k6 e9 f3 d3 a2 c0 f0 a1;go_wp2_with fail;refine(d0.out).mono ?_
   intro e w7 f;rcases h7:ZR ls r6 with _|⟨os,r7⟩
   ·rw[h7]at f;have J:Bz (λk=>w.heap.size<=k) w6 e w7:=f;obtain⟨t,v,rfl⟩:=J.1;refine⟨rfl,?_⟩;show TM w X _ _;rw[show X=none by rw[b0.out,h7];rfl];exact⟨⟨t,v,rfl⟩,m.out (a4.out.bz J).2⟩
   rw[h7]at f;obtain⟨rfl,f4,e3⟩:=f;have k7:=a4.out.trans e3;obtain⟨d6,i7⟩:=Db h7;have b1:Hid (X=(dX ls r7).bind λz=>if z.2=[]/\ls.all (TP os)=true then some (td,ls,os,z.1) else none):=by rw[Hid,b0.out,h7];rfl
   have d2:=zb (Be n d8 r7 (by omega) (k7.gl n P) (k7.gu n hu) k7.here f4);have a5:=zb k7;have f9:=zb d6;clear f4 e3 h7 b0 d0 a4 k7 d6;go_wp2_with fail;refine(d2.out).mono ?_
   intro e w8 f;rcases h8:dX ls r7 with _|⟨rcs,r8⟩
   ·rw[h8]at f;have J:Bz (λk=>w.heap.size<=k) w7 e w8:=f;obtain⟨t,v,rfl⟩:=J.1;refine⟨rfl,?_⟩;show TM w X _ _;rw[show X=none by rw[b1.out,h8];rfl];exact⟨⟨t,v,rfl⟩,m.out (a5.out.bz J).2⟩
   rw[h8]at f;obtain⟨rfl,f5,e4⟩:=f;have k8:=a5.out.trans e4;have R:Hid (X=if r8=[]/\ls.all (TP os)=true then some (td,ls,os,rcs) else none):=by rw[Hid,b1.out,h8];rfl
   have F:=zb k8;have a6:=zb f5;have cb:w8.cell? ⟨b,0,none⟩=some (.string (TW r8)):=by rw[za k8.here];rfl
   have H:=k8.gl n P;clear h8 b1 d2 a5 k8 f5 e4;by_cases a0:r8=[]
   ·subst a0;have Q:=zb (ND b w8 cb);have b7:=zb (GR a6.out (by omega) f9.out c6.out (F.out.gu n hu));clear cb H;go_wp2_with fail;refine(Q.out).mono ?_
    rintro _ w9 ⟨rfl,rfl⟩;go_wp2_with fail;refine(b7.out).mono ?_
    intro e i8 f
    cases i:ls.all (TP os) with
    |true=>
     rw[i]at f;obtain⟨rfl,u⟩:=f;have g0:Hid (X=some (td,ls,os,rcs)):=by rw[Hid,R.out,i];simp
     have d1:=zb (a6.out.below u);have b9:=zb (m.out (F.out.kp.after u));have b8:=zb i;clear u Q b7 F a6 R i;go_wp2_with fail;go_ret;show TM w X _ _;rw[g0.out];refine⟨S,rfl,⟨M,v6,bs,b6,?_,f8.out⟩,b9.out⟩;have p:=d1.out;refine⟨p.sb,p.mp,p.pw.row,p.pw.len,p.pw.plen,p.pw.lot,p.pw.par,p.pw.nodup,i1,λx hx=>?_,p.pw.room⟩;have h1:=p.pw.ids x hx;have h2:=p.pw.pars x hx;have h3:=c6.out x hx;have h4:=YF.1 b8.out x hx;simp only[TP,Xs,Xu]at h4;obtain⟨g1,_⟩:=h3;exact⟨h1.1,h1.2.1,h1.2.2.2,h1.2.2.1,by omega,g1,h2.1,λq hq=>(h2.2 q hq).1⟩
    |false=>
     rw[i]at f;obtain⟨⟨t,v,rfl⟩,u⟩:=f;refine⟨rfl,?_⟩;show TM w X _ _;rw[show X=none by rw[R.out,xe (λA=>by rw[i]at A;cases A.2)]];exact⟨⟨t,v,rfl⟩,m.out (F.out.kp.after u)⟩
   obtain⟨t,v,e1⟩:=H.2.1;have f2:(TW r8).toList.isEmpty=false:=by
    rw[XL,DM]
    cases r8 with
    |nil=>exact absurd rfl a0
    |cons a b=>rfl
   have Q:=zb (NC b (TW r8) f2 w8 cb t v e1);have G:Hid (X=none):=by rw[Hid,R.out,xe (λA=>a0 A.1)]
   clear cb H e1 f2 a0;go_wp2_with fail;refine(Q.out).mono ?_
   rintro _ w9 ⟨rfl,rfl⟩;refine⟨rfl,?_⟩;show TM w X _ _;rw[G.out];exact⟨⟨t,v,rfl⟩,m.out F.out.kp⟩
  have g6:((c.toNat:Int)==13)=false:=by
   rw[xr];intro e;exact A (XI.1 (by show c.toNat=13;omega))
  have G:Hid (X=none):=by rw[Hid,HX.out,zH,xe A]
  have B:=zb k2;clear A k1 k2 T;generalize c.toNat=cn at *;go_wp2_with fail;refine(zL false w1 (B.out.gu n hu)).mono ?_
  rintro _ w2 ⟨rfl,f⟩;rw[xe (by simp)]at f;obtain⟨t,v,rfl⟩:=f;refine⟨rfl,?_⟩;show TM w X _ _;rw[G.out];exact⟨⟨t,v,rfl⟩,m.out B.out.kp⟩
