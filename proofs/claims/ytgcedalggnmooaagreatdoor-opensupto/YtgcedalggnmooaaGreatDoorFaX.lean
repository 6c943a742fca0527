import Derived.Test.YtgcedalggnmooaaGreatDoorWireAX
import Derived.Test.YtgcedalggnmooaaGreatDoorOrdX
set_option linter.all false
set_option maxRecDepth 100000
set_option maxHeartbeats 6400000
namespace Go.Proofs.YtgcedalggnmooaaGreatDoor
open Go.RowKit
open Tryz
def UU(l:List UInt8):Option (Nat×List UInt8):=if Pl.snd l=0 then none else some (Pl.fst l,l.drop (Pl.snd l))
def UV(lo hi:Nat)(l:List UInt8):Option (Nat×List UInt8):=(UU l).bind λp=>if lo<=p.1/\p.1<=hi then some p else none
def Gu(w:World):Prop:=∃t v,w.cell? ⟨4,0,none⟩=some (.iface t v)
def NU:Nat:=1+max 4 4
variable {b n:Nat}{w w' w'':World}
theorem Gu.rd{s:ByteArray}(h:Gu w)(k:Rd b w w' s)(a:NU<=b):Gu w':=by
 obtain⟨t,v,c⟩:=h;exact⟨t,v,by rw[k.other _ (by simp;unfold NU at a;omega)];exact c⟩
def Ug(l:List UInt8):ByteArray:=⟨l.toArray⟩
theorem DJ(l:List UInt8):(Ug l).data.toList=l:=by simp[Ug]
theorem iM(l:List UInt8):(Ug l).size=l.length:=by show l.toArray.size=_;simp
theorem GY(l:List UInt8)(k:Nat):(Ug l).extract k (Ug l).size=Ug (l.drop k):=by
 apply YN
 rw[Yg,iM];apply xbs.1;simp[Ug];exact Xh (by simp)
variable {l r:List UInt8}
theorem xC(h:UU l=some (n,r)):r.length<=l.length:=by
 unfold UU at h;split at h
 ·cases h
 cases h;simp
theorem qV(b:Nat)(f:NU<=b)(l:List UInt8)(j:l.length<=1000000000)(w:World)(g:Gl w)(i:Rd b w w (Ug l)):Calls prog 136 #[.pointer (some ⟨b,0,none⟩)] w λe w' =>
   match UU l with
   |some (n,r)=>e=.returned (.int .i64 n)/\Rd b w w' (Ug r)
   |none=>iB b w e w':=by
 refine(kZ b (by unfold NU at f;omega) (Ug l) (by rw[iM];omega) w w g i).mono ?_
 intro e w' h;rw[DJ,GY]at h;unfold UU;rcases h with ⟨a,rfl,d⟩|⟨a,c⟩
 ·rw[xg a];exact⟨rfl,d⟩
 rw[xe a];exact c
theorem zM(a:Bool)(w:World)(b:Gu w):Calls prog 175 #[.bool a] w λe w'=>w'=w/\(if a then e=.returned (.tuple #[]) else ∃t v,e=.panicked [{ v:=.iface t v,recovered:=false }]):=by
 obtain⟨t,v,c⟩:=b
 cases a
 ·go_enter func175,ntmps175;go_wp2_with fail;exact⟨rfl,rfl,t,v,rfl⟩
 go_enter func175,ntmps175;go_wp2_with fail;go_end0;exact⟨rfl,rfl⟩
theorem ZA(b:Nat)(m:NU<=b)(l:List UInt8)(z:l.length<=1000000000)(lo c:Nat)(A:lo<=2147483648)(y:c<=2147483647)(w:World)(x:Gl w)(s:Gu w)(B:Rd b w w (Ug l)):Calls prog 176 #[.pointer (some ⟨b,0,none⟩),.int .i64 lo,.int .i64 c] w λe w' =>
   match UV lo c l with
   |some (n,r)=>e=.returned (.int .i64 n)/\Rd b w w' (Ug r)
   |none=>iB b w e w':=by
 have g:=zb (qV b m l z w x B);unfold UV
 cases i:UU l with
 |none=>
  rw[i]at g;clear i;go_enter func176,ntmps176;go_wp2_with (go_at_call 136;refine g.mono ?_;rintro e w1 ⟨⟨t,v,rfl⟩,a⟩);exact⟨rfl,⟨t,v,rfl⟩,a⟩
 |some p=>
  obtain⟨n,r⟩:=p;rw[i]at g;by_cases j:lo<=n/\n<=c
  ·have f:(lo:Int)<=(n:Int):=by omega
   have k:(n:Int)<=(c:Int):=by omega
   have h:Ha (((some (n,r)).bind λp:Nat×List UInt8=>if lo<=p.1/\p.1<=c then some p else none)=some (n,r)):=by unfold Ha;simp[j]
   rw[h.o];clear i j h;go_enter func176,ntmps176;go_wp2_with (go_at_call 136;refine g.mono ?_;rintro e w1 ⟨rfl,a⟩);refine(zM true w1 (s.rd a m)).mono ?_
   rintro e w2 ⟨rfl,d⟩;rw[xe rfl]at d;subst d;go_wp2_with fail;go_ret;exact⟨rfl,a⟩
  have h:Ha (((some (n,r)).bind λp:Nat×List UInt8=>if lo<=p.1/\p.1<=c then some p else none)=none):=by unfold Ha;simp[j]
  rw[h.o];clear i h;by_cases f:lo<=n
  ·have u:(lo:Int)<=(n:Int):=by omega
   have k:¬(n:Int)<=(c:Int):=by omega
   have q:(c:Int)<(n:Int):=by omega
   have hd:decide (n<=c)=false:=xu (by omega);clear j f;go_enter func176,ntmps176;go_wp2_with (go_at_call 136;refine g.mono ?_;rintro e w1 ⟨rfl,a⟩);refine(zM false w1 (s.rd a m)).mono ?_
   rintro e w2 ⟨rfl,d⟩;rw[xg (by simp)]at d;obtain⟨t,v,rfl⟩:=d;exact⟨rfl,⟨t,v,rfl⟩,_,a⟩
  have k:¬(lo:Int)<=(n:Int):=by omega
  have q:(n:Int)<(lo:Int):=by omega
  clear j f;go_enter func176,ntmps176;go_wp2_with (go_at_call 136;refine g.mono ?_;rintro e w1 ⟨rfl,a⟩);refine(zM false w1 (s.rd a m)).mono ?_
  rintro e w2 ⟨rfl,d⟩;rw[xg (by simp)]at d;obtain⟨t,v,rfl⟩:=d;exact⟨rfl,⟨t,v,rfl⟩,_,a⟩
theorem iC(b:Nat)(f:NU<=b)(l:List UInt8)(h:l.length<=1000000000)(p:Nat)(k:p<=2147483647)(w:World)(g:Gl w)(j:Gu w)(i:Rd b w w (Ug l)):Calls prog 193 #[.pointer (some ⟨b,0,none⟩),.int .i64 p] w λe w' =>
   match UV (p+1) 2147483647 l with
   |some (n,r)=>e=.returned (.int .i64 n)/\Rd b w w' (Ug r)
   |none=>iB b w e w':=by
 have c:=zb (ZA b f l h (p+1) 2147483647 (by omega) (by omega) w g j i)
 cases d:UV (p+1) 2147483647 l with
 |none=>
  rw[d]at c;go_enter func193,ntmps193;go_wp2_with (go_at_call 176;refine c.mono ?_;rintro e w1 ⟨⟨t,v,rfl⟩,a⟩);exact⟨rfl,⟨t,v,rfl⟩,a⟩
 |some q=>
  obtain⟨n,r⟩:=q;rw[d]at c;go_enter func193,ntmps193;go_wp2_with (go_at_call 176;refine c.mono ?_;rintro e w1 ⟨rfl,a⟩);go_ret;exact⟨rfl,a⟩
structure Kr(b:Nat)(w w':World)(l:List UInt8):Prop where
 kp:Kp (λk=>k=b) w w'
 here:w'.heap[b]?=some (.cells #[.string (Ug l)] 225 (0,0))
theorem Kr.rd(h:Kr b w w' l):Rd b w' w' (Ug l):=Rd.refl h.here
theorem Kr.step(h:Kr b w w' l)(k:Rd b w' w'' (Ug r)):Kr b w w'' r :=
 ⟨h.kp.trans ⟨k.os,k.tape,k.output,by rw[k.size];exact xc _,λi _ a=>k.block i (λe=>a (Or.inl e))⟩,k.here⟩
theorem Kr.after{b:Nat}{w w' a:World}{l:List UInt8}(h:Kr b w w' l)(k:Below w'.heap.size w' a):Kr b w a l :=
 ⟨h.kp.after k,(k.block b (zc h.here)).trans h.here⟩
theorem Kr.refl{b:Nat}{w:World}{l:List UInt8}(h:w.heap[b]?=some (.cells #[.string (Ug l)] 225 (0,0))):Kr b w w l:=⟨Kp.refl _ _,h⟩
theorem Kr.gl(h:Kr b w w' l)(e:NU<=b)(f:Gl w):Gl w':=by
 obtain⟨⟨g,j,c⟩,⟨i,k,d⟩,m⟩:=f;have n:=h.kp.size;unfold NU at e;refine⟨⟨g,j,(xm (a:=⟨2,0,none⟩) (h.kp.block _ (by show 2<_;omega) (by show ¬2=b;omega))).trans c⟩,⟨i,k,(xm (a:=⟨3,0,none⟩) (h.kp.block _ (by show 3<_;omega) (by show ¬3=b;omega))).trans d⟩,by omega⟩
theorem bW{a:Addr}{x:Value}(h:w.cell? a=some x):a.block<w.heap.size:=by
 rcases YD a.block w.heap.size with b|b
 ·exact b
 simp[World.cell?,YW b]at h
theorem Kr.gu(h:Kr b w w' l)(d:NU<=b)(e:Gu w):Gu w':=by
 obtain⟨t,v,c⟩:=e;unfold NU at d;exact⟨t,v,(xm (a:=⟨4,0,none⟩) (h.kp.block _ (bW c) (by show ¬4=b;omega))).trans c⟩
def Bk(b:Nat)(w:World)(e:Ending)(w':World):Prop:=(∃t v,e=.panicked [{ v:=.iface t v,recovered:=false }])/\Kp (λk=>k=b) w w'
theorem Kr.broke{e:Ending}(h:Kr b w w' l)(k:iB b w' e w''):Bk b w e w'':=by
 obtain⟨d,s,a⟩:=k;exact⟨d,h.kp.trans ⟨a.os,a.tape,a.output,by rw[a.size];exact xc _,λi _ c=>a.block i (λe=>c (Or.inl e))⟩⟩
theorem zv{lo c:Nat}(h:UV lo c l=some (n,r)):lo<=n/\n<=c/\r.length<=l.length:=by
 unfold UV at h
 cases a:UU l with
 |none=>rw[a]at h;cases h
 |some p=>
  rw[a]at h;simp only[xk]at h;split at h
  ·rename_i b
   cases h;exact⟨b.1,b.2,xC a⟩
  cases h
def eX:Nat->Nat->List (Nat×Nat)->List UInt8->Option (List (Nat×Nat)×List UInt8)
 |0,_,acc,l=>some (acc,l)
 |k+1,p,acc,l=>(UV (p+1) 2147483647 l).bind λa=>(UV 0 2147483647 a.2).bind λg=>eX k a.1 (acc++[(a.1,g.1)]) g.2
def eU(l:List UInt8):Option (List (Nat×Nat)×List UInt8):=(UV 0 2 l).bind λk=>eX k.1 0 [] k.2
theorem AA:∀(l:List (Nat×Nat)) (p:Nat×Nat),zA (l++[p])=zA l++[.int .i64 p.1,.int .i64 p.2]
 |[],p=>rfl
 |q::l,p=>by show _::_::zA (l++[p])=_;rw[AA l p];rfl
theorem Mj:(prog.info? 234).map (λi=>(i.zero,i.size,i.bytes))=some (some (.agg #[.int .i64 0,.int .i64 0]),2,16):=by kernel_rfl
theorem Qt:prog.underlying 229=some (.slice 234):=by kernel_rfl
def Sz(b:Nat)(w:World)(X:Option (List (Nat×Nat)×List UInt8))(e:Ending)(w':World):Prop:=match X with
 |some (ps,r)=>(∃v,e=.returned v/\w'.ownsRow w.heap.size 234 2 v ps.length (zA ps))/\Kr b w w' r
 |none=>Bk b w e w'
theorem Bc(b:Nat)(G:NU<=b)(l:List UInt8)(hl:l.length<=1000000000)(w:World)(hg:Gl w)(K:Gu w)(hr:w.heap[b]?=some (.cells #[.string (Ug l)] 225 (0,0))):Calls prog 237 #[.pointer (some ⟨b,0,none⟩)] w (Sz b w (eU l)):=by
 obtain⟨i0,hi,b3,b4,b5⟩:=XH Mj;have Z:=zb (ZA b G l hl 0 2 (by omega) (by omega) w hg K (Rd.refl hr));have N:=zb (Kr.refl hr);unfold eU
 cases y:UV 0 2 l with
 |none=>
  rw[y]at Z;go_enter func237,ntmps237;go_wp2_with (go_at_call 176;refine Z.mono ?_;rintro e w1 h;obtain⟨t,v,rfl⟩:=h.1);exact⟨rfl,N.broke h⟩
 |some p=>
  obtain⟨n,r⟩:=p;rw[y]at Z;obtain⟨_,b8,c7⟩:=zv y;show Calls _ _ _ _ (Sz b w (eX n 0 [] r));obtain⟨X,HX⟩:=UM (eX n 0 [] r);rw[<-HX.o];clear y;go_enter func237,ntmps237;go_wp2_with (go_at_call 176;refine Z.mono ?_;rintro e w1 ⟨rfl,a3⟩);have a0:=zb (N.step a3);clear N Z a3;go_loopw [3,4,7] (λpv nv ii wr=>∃(k p:Nat) (d:List (Nat×Nat)) (q:List UInt8),ii=.int .i64 k/\k<=n/\nv=.int .i64 p/\p<=2147483647/\d.length=k/\q.length<=1000000000/\wr.ownsRow w.heap.size 234 2 pv k (zA d)/\Kr b w wr q/\eX (n-k) p d q=X) (λ_ _ ii _=>n-(intOf ii).toNat)
  case atStart=>exact⟨0,0,[],r,rfl,by omega,rfl,by omega,rfl,by omega,Xi _ _ _ _,a0,HX.symm⟩
  clear a0;obtain⟨k,p,d,q,rfl,hk,rfl,hp,a1,b1,f,i,hX⟩:=hrel;obtain⟨pa,M,b0⟩:=zm f;subst b0;by_cases b7:k<n
  ·have T:=zb (iC b G q b1 p hp wr (i.gl G hg) (i.gu G K) i.rd);have x:Ha ((UV (p+1) 2147483647 q).bind (λa=>(UV 0 2147483647 a.2).bind λg=>eX (n-(k+1)) a.1 (d++[(a.1,g.1)]) g.2)=X):=by
    unfold Ha;rw[<-hX,show n-k=(n-(k+1))+1 by omega];rfl
   clear hX
   cases y:UV (p+1) 2147483647 q with
   |none=>
    rw[y]at T x;have C:Ha (X=none):=by rw[<-x.o];rfl
    rw[C.o];have B:=zb i;clear i f x y;go_wp2_with (go_at_call 193;refine T.mono ?_;rintro e w2 h;obtain⟨t,v,rfl⟩:=h.1);exact⟨rfl,B.broke h⟩
   |some a=>
    obtain⟨m,q2⟩:=a;rw[y]at T x;obtain⟨_,hm,b9⟩:=zv y;have B:=zb i;have Q:=zb f;clear i f y
    cases W:UV 0 2147483647 q2 with
    |none=>
     have C:Ha (X=none):=by rw[<-x.o];show(UV 0 2147483647 q2).bind _=none;rw[W];rfl
     rw[C.o];go_wp2_with (go_at_call 193;refine T.mono ?_;rintro e w2 ⟨rfl,s⟩);have c:=B.step s;have A:=ZA b G q2 (by omega) 0 2147483647 (by omega) (by omega) w2 (c.gl G hg) (c.gu G K) c.rd;rw[W]at A;refine A.mono ?_
     rintro e w3 h;obtain⟨t,v,rfl⟩:=h.1;exact⟨rfl,c.broke h⟩
    |some a2=>
     obtain⟨gv,q3⟩:=a2;obtain⟨_,b6,c6⟩:=zv W;have a6:Ha (eX (n-(k+1)) m (d++[(m,gv)]) q3=X):=by
      unfold Ha;rw[<-x.o];show _=(UV 0 2147483647 q2).bind _;rw[W];rfl
     go_wp2_with (go_at_call 193;refine T.mono ?_;rintro e w2 ⟨rfl,s⟩)
     have c:=B.step s;have A:=ZA b G q2 (by omega) 0 2147483647 (by omega) (by omega) w2 (c.gl G hg) (c.gu G K) c.rd;rw[W]at A;refine A.mono ?_
     rintro e w3 ⟨rfl,F⟩;have D:=c.step F;have E:w3.ownsRow w.heap.size 234 2 (.slice pa k M) k (zA d):=ze Q (λz hz=>by
      obtain⟨cs,J⟩:=zi Q hz;have e1:=s.block z (λe=>zw J B.here (by decide) e);have e2:=F.block z (λe=>zw (e1.trans J) c.here (by decide) e);exact e2.trans e1)
     have P:=zb D;have H:=zb E;have c8:=D.kp.size;clear D E c s F A B Q T x W;go_wp2_with (at_builtin;refine Xb _ rfl _ _ 229 rfl w.heap.size 234 i0 (.agg #[.int .i64 0,.int .i64 0]) 2 16 Qt hi b3 b4 b5 rfl (by decide) _ k (zA d) rfl ((H.alloc _)) ⟨w3.heap.size,0,none⟩ 1 1 [.int .i64 m,.int .i64 gv] rfl rfl ?c1 ?c2 ?c3 ?c4 ?c5 ?_)
     case c1=>intro j u K;have:=Yb w3 (.int .i64 m) (.int .i64 gv) 234 j u K;simpa using this
     case c2=>intro u K;simp at K;rcases K with rfl|rfl<;>rfl
     case c3=>unfold maxLen;omega
     case c4=>omega
     case c5=>simp;omega
     intro v4 w4 S R a8;obtain⟨g4,c4,b2,_,_⟩:=ZE S (by omega);subst b2;have a4:Ha (Kr b w w4 q3):=by
      have y:=P.after (TZ w3 (.cells #[.int .i64 m,.int .i64 gv] 234));have a9:∀z,(Value.slice pa k M).ownBlock=some z->z≠b:=λz hz e=>by
       obtain⟨cs,J⟩:=zi H hz;exact zw J P.here (by decide) e
      refine⟨y.kp.grown R (λz hz=>Or.inr (H.lt z hz).1),(R.block b (zc y.here) (λe=>?_)).trans y.here⟩;exact a9 b e.symm rfl
     have a5:Ha (w4.ownsRow w.heap.size 234 2 (.slice (some ⟨g4,0,none⟩) (k+1) c4) (k+1) (zA (d++[(m,gv)]))):=by
      unfold Ha;rw[AA];exact S
     clear S R a8 P H;go_wp2_with fail;go_roundw
     case rel=>exact⟨k+1,m,d++[(m,gv)],q3,by go_num,by omega,rfl,by omega,by simp[a1],by omega,a5,a4,a6⟩
     simp[intOf];omega
  have a7:k=n:=by omega
  subst a7;have C:Ha (X=some (d,q)):=by unfold Ha;rw[<-hX,YM];rfl
  have HO:=zb f;clear f hX;go_wp2_with fail;go_ret;show Sz b w X _ _;rw[C.o];exact⟨⟨_,rfl,by rw[a1];exact HO⟩,i⟩
def cN(num com:Nat)(l:List UInt8):Option (L×List UInt8) :=
 (UV 1 2147483647 l).bind λg=>(UV 0 2147483647 g.2).bind λx=>(UV 1 com x.2).bind λp=>(UV 0 2147483647 p.2).bind λf=>(UV 0 2147483647 f.2).bind λh=>(UV 0 2147483647 h.2).bind λs=>(UV 0 2147483647 s.2).bind λc=>(eU c.2).bind λps=>
  (if ps.1.length=0 then UU ps.2 else some ((ps.1.map Prod.snd).sum,ps.2)).bind λgt=>
   if 1<=gt.1/\gt.1<=2147483647 then some (⟨num,g.1,x.1,p.1,gt.1,f.1,h.1,s.1,c.1,0,ps.1⟩,gt.2) else none
def BH(b:Nat)(w:World)(X:Option (L×List UInt8))(e:Ending)(w':World):Prop:=match X with
 |some (l,r)=>(∃q pv,e=.returned (.pointer (some ⟨q,0,none⟩))/\w.heap.size<=q/\w'.heap[q]?=some (.cells (zn l pv) 231 (0,0))/\w'.ownsRow w.heap.size 234 2 pv l.par.length (zA l.par))/\Kr b w w' r
 |none=>Bk b w e w'
theorem Kr.bk{e:Ending}(h:Kr b w w' l)(k:Bk b w' e w''):Bk b w e w'':=⟨k.1,h.kp.trans (k.2.mono (λ_ q=>Or.inl q))⟩
theorem Kr.trans{b:Nat}{w w' a:World}{l r:List UInt8}(h:Kr b w w' l)(k:Kr b w' a r):Kr b w a r:=⟨h.kp.trans (k.kp.mono (λ_ q=>Or.inl q)),k.here⟩
theorem fT{B b:Nat}{e:TypeId}{size:Nat}{v:Value}{xs:List Value}(h:w.ownsRow B e size v n xs)(i:b<=B):w.ownsRow b e size v n xs:=by
 refine⟨h.1,?_⟩;rcases h.2 with h|⟨g,cap,a,c,d,f⟩
 ·exact Or.inl h
 exact Or.inr ⟨g,cap,a,c,xj i d,f⟩
theorem qW:∀{k p:Nat} {b ps:List (Nat×Nat)} {l r:List UInt8},eX k p b l=some (ps,r)->(∀q∈b,q.1<=2147483647/\q.2<=2147483647)->ps.length=b.length+k/\(∀q∈ps,q.1<=2147483647/\q.2<=2147483647)/\r.length<=l.length
 |0,p,b,ps,l,r,h,ha=>by simp only[eX,Xj,XD]at h;obtain⟨rfl,rfl⟩:=h;exact⟨by omega,ha,xc _⟩
 |k+1,p,b,ps,l,r,h,ha=>by
  rw[eX]at h
  cases d:UV (p+1) 2147483647 l with
  |none=>rw[d]at h;cases h
  |some a=>
   obtain⟨m,q⟩:=a;rw[d]at h;simp only[xk]at h
   cases e:UV 0 2147483647 q with
   |none=>rw[e]at h;cases h
   |some a2=>
    obtain⟨g,s⟩:=a2;rw[e]at h;simp only[xk]at h;obtain⟨_,f,t⟩:=zv d;obtain⟨_,i,u⟩:=zv e;obtain⟨j,n,v⟩:=qW h (λq c=>by
     rcases xw.1 c with c|c
     ·exact ha q c
     simp at c;subst c;exact⟨f,i⟩)
    refine⟨by rw[j,xb,Xc];omega,n,by omega⟩
theorem mE{ps:List (Nat×Nat)}(h:eU l=some (ps,r)):ps.length<=2/\(∀q∈ps,q.1<=2147483647/\q.2<=2147483647)/\r.length<=l.length:=by
 unfold eU at h
 cases b:UV 0 2 l with
 |none=>rw[b]at h;cases h
 |some a=>
  obtain⟨k,q⟩:=a;rw[b]at h;simp only[xk]at h;obtain⟨_,f,g⟩:=zv b;obtain⟨d,e,i⟩:=qW h (λq c=>by simp at c);exact⟨by rw[d];simp;omega,e,by omega⟩
theorem Kj:∀(l:List (Nat×Nat)),(∀q∈l,q.2<=2147483647)->(l.map Prod.snd).sum<=l.length*2147483647
 |[],_=>by simp
 |q::l,h=>by
  have b:=Kj l (λx a=>h x (by simp[a]));have c:=h q (by simp);simp only[List.map_cons,List.sum_cons,List.length_cons];omega
theorem qE:∀(l:List (Nat×Nat)) (i:Nat),i<l.length->(zA l)[i*2]?=some (.int .i64 ((l.getD i (0,0)).1:Int))/\(zA l)[i*2+1]?=some (.int .i64 ((l.getD i (0,0)).2:Int))
 |[],i,h=>by simp at h
 |q::l,0,h=>⟨rfl,rfl⟩
 |q::l,i+1,h=>by
  have a:=qE l i (by simpa using h);rw[show(i+1)*2=i*2+2 by omega];simpa [zA] using a
theorem SO{b:Nat}{a:Option Addr}{cap:Nat}{l:List (Nat×Nat)}(h:w.ownsRow b 234 2 (.slice a n cap) n (zA l))(k:Nat)(e:k<l.length)(g:n=l.length):∃G,a=some ⟨G,0,none⟩/\G<w.heap.size/\w.cell? ⟨G,k*2,none⟩=some (.int .i64 ((l.getD k (0,0)).1:Int))/\w.cell? ⟨G,k*2+1,none⟩=some (.int .i64 ((l.getD k (0,0)).2:Int)):=by
 obtain⟨G,d,f,_,c⟩:=ZE h (by omega)
 cases f;have q:=qE l k e
 refine⟨G,rfl,c,?_,?_⟩
 ·rw[h.cellAt (k*2) (by omega)];exact q.1
 rw[h.cellAt (k*2+1) (by omega)];exact q.2
theorem Dc(b:Nat)(f:NU<=b)(num com:Nat)(f8:num<=2147483647)(f6:com<=30)(l:List UInt8)(hl:l.length<=1000000000)(w:World)(hg:Gl w)(F:Gu w)(hr:w.heap[b]?=some (.cells #[.string (Ug l)] 225 (0,0))):Calls prog 194 #[.pointer (some ⟨b,0,none⟩),.int .i64 num,.int .i64 com] w (BH b w (cN num com l)):=by
 obtain⟨X,HX⟩:=UM (cN num com l);rw[<-HX.o];have k0:=Kr.refl hr;go_enter func194,ntmps194;go_wp2_with fail;refine(ZA b f l (by omega) 1 2147483647 (by omega) (by omega) w (k0.gl f hg) (k0.gu f F) k0.rd).mono ?_
 intro e w1 a;rcases u:UV 1 2147483647 l with _|⟨N,r1⟩
 ·rw[u]at a;obtain⟨t,v,rfl⟩:=a.1;refine⟨rfl,?_⟩;show BH b w X _ _;rw[show X=none by rw[HX.o];unfold cN;simp only[u,xk,Xm]];exact k0.broke a
 rw[u]at a;obtain⟨rfl,d5⟩:=a;have k1:=k0.step d5;obtain⟨a1,u1,v1⟩:=zv u;clear d5;go_wp2_with fail;refine(ZA b f r1 (by omega) 0 2147483647 (by omega) (by omega) w1 (k1.gl f hg) (k1.gu f F) k1.rd).mono ?_
 intro e w2 a;rcases J:UV 0 2147483647 r1 with _|⟨P,r2⟩
 ·rw[J]at a;obtain⟨t,v,rfl⟩:=a.1;refine⟨rfl,?_⟩;show BH b w X _ _;rw[show X=none by rw[HX.o];unfold cN;simp only[u,J,xk,Xm]];exact k1.broke a
 rw[J]at a;obtain⟨rfl,d6⟩:=a;have k2:=k1.step d6;obtain⟨a2,u2,v2⟩:=zv J;clear d6;go_wp2_with fail;refine(ZA b f r2 (by omega) 1 com (by omega) (by omega) w2 (k2.gl f hg) (k2.gu f F) k2.rd).mono ?_
 intro e w3 a;rcases h3:UV 1 com r2 with _|⟨Q,r3⟩
 ·rw[h3]at a;obtain⟨t,v,rfl⟩:=a.1;refine⟨rfl,?_⟩;show BH b w X _ _;rw[show X=none by rw[HX.o];unfold cN;simp only[u,J,h3,xk,Xm]];exact k2.broke a
 rw[h3]at a;obtain⟨rfl,d7⟩:=a;have k3:=k2.step d7;obtain⟨a3,u3,v3⟩:=zv h3;clear d7;go_wp2_with fail;refine(ZA b f r3 (by omega) 0 2147483647 (by omega) (by omega) w3 (k3.gl f hg) (k3.gu f F) k3.rd).mono ?_
 intro e w4 a;rcases h4:UV 0 2147483647 r3 with _|⟨R,r4⟩
 ·rw[h4]at a;obtain⟨t,v,rfl⟩:=a.1;refine⟨rfl,?_⟩;show BH b w X _ _;rw[show X=none by rw[HX.o];unfold cN;simp only[u,J,h3,h4,xk,Xm]];exact k3.broke a
 rw[h4]at a;obtain⟨rfl,d8⟩:=a;have k4:=k3.step d8;obtain⟨a4,u4,v4⟩:=zv h4;clear d8;go_wp2_with fail;refine(ZA b f r4 (by omega) 0 2147483647 (by omega) (by omega) w4 (k4.gl f hg) (k4.gu f F) k4.rd).mono ?_
 intro e w5 a;rcases h5:UV 0 2147483647 r4 with _|⟨S,r5⟩
 ·rw[h5]at a;obtain⟨t,v,rfl⟩:=a.1;refine⟨rfl,?_⟩;show BH b w X _ _;rw[show X=none by rw[HX.o];unfold cN;simp only[u,J,h3,h4,h5,xk,Xm]];exact k4.broke a
 rw[h5]at a;obtain⟨rfl,d9⟩:=a;have k5:=k4.step d9;obtain⟨a5,u5,v5⟩:=zv h5;clear d9;go_wp2_with fail;refine(ZA b f r5 (by omega) 0 2147483647 (by omega) (by omega) w5 (k5.gl f hg) (k5.gu f F) k5.rd).mono ?_
 intro e w6 a;rcases h6:UV 0 2147483647 r5 with _|⟨T,r6⟩
 ·rw[h6]at a;obtain⟨t,v,rfl⟩:=a.1;refine⟨rfl,?_⟩;show BH b w X _ _;rw[show X=none by rw[HX.o];unfold cN;simp only[u,J,h3,h4,h5,h6,xk,Xm]];exact k5.broke a
 rw[h6]at a;obtain⟨rfl,e0⟩:=a;have k6:=k5.step e0;obtain⟨a6,u6,v6⟩:=zv h6;clear e0;go_wp2_with fail;refine(ZA b f r6 (by omega) 0 2147483647 (by omega) (by omega) w6 (k6.gl f hg) (k6.gu f F) k6.rd).mono ?_
 intro e w7 a;rcases h7:UV 0 2147483647 r6 with _|⟨W,r7⟩
 ·rw[h7]at a;obtain⟨t,v,rfl⟩:=a.1;refine⟨rfl,?_⟩;show BH b w X _ _;rw[show X=none by rw[HX.o];unfold cN;simp only[u,J,h3,h4,h5,h6,h7,xk,Xm]];exact k6.broke a
 rw[h7]at a;obtain⟨rfl,e1⟩:=a;have k7:=k6.step e1;obtain⟨a7,u7,v7⟩:=zv h7;clear e1;go_wp2_with fail;refine(Bc b f r7 (by omega) w7 (k7.gl f hg) (k7.gu f F) k7.here).mono ?_
 intro e w8 a;rcases h8:eU r7 with _|⟨ps,r8⟩
 ·rw[h8]at a;have e3:Bk b w7 e w8:=a;obtain⟨t,v,rfl⟩:=e3.1;refine⟨rfl,?_⟩;show BH b w X _ _;rw[show X=none by rw[HX.o];unfold cN;simp only[u,J,h3,h4,h5,h6,h7,h8,xk,Xm]];exact k7.bk e3
 rw[h8]at a;obtain⟨⟨pv,rfl,r⟩,e2⟩:=a;have k8:=k7.trans e2;have a0:Ha (X=(if ps.length=0 then UU r8 else some ((ps.map Prod.snd).sum,r8)).bind λc=>if 1<=c.1/\c.1<=2147483647 then some (⟨num,N,P,Q,c.1,R,S,T,W,0,ps⟩,c.2) else none):=by
  unfold Ha;rw[HX.o];unfold cN;simp only[u,J,h3,h4,h5,h6,h7,h8,xk]
 have b3:=mE h8;obtain⟨Z,d,f0⟩:=zm r;subst f0;have H:=zb (fT r k7.kp.size);have K8:=zb k8;clear u J h3 h4 h5 h6 h7 h8 k0 k1 k2 k3 k4 k5 k6 k7 e2 k8 r HX;obtain⟨j,d0⟩:∃j,j=w8.heap.size:=⟨_,rfl⟩
 have C:=zb d0;have b9:=K8.kp.size;by_cases b2:ps.length=0
 ·rw[b2]at H ⊢;have ha:=TZ w8 (.cells #[.int .i64 num,.int .i64 N,.int .i64 P,.int .i64 Q,.slice Z 0 d,.int .i64 0,.int .i64 R,.int .i64 S,.int .i64 T,.int .i64 W,.int .i64 0] 231);have M:=xo w8 (.cells #[.int .i64 num,.int .i64 N,.int .i64 P,.int .i64 Q,.slice Z 0 d,.int .i64 0,.int .i64 R,.int .i64 S,.int .i64 T,.int .i64 W,.int .i64 0] 231);have k9:=K8.after ha;have HN:=zb (qV b f r8 (by omega) _ (k9.gl f hg) k9.rd);have s:=zb (zh H ha);have A:=zb M;have K9:=zb k9;rw[xe b2]at a0;clear K8 H ha M k9 d0;go_wp2_with fail;refine HN.mono ?_
  intro e w9 a;rcases h9:UU r8 with _|⟨c,r9⟩
  ·rw[h9]at a;obtain⟨t,v,rfl⟩:=a.1;refine⟨rfl,?_⟩;show BH b w X _ _;rw[show X=none by rw[a0.o,h9];rfl];exact K9.broke a
  rw[h9]at a;obtain⟨rfl,b7⟩:=a;have a8:Ha (X=if 1<=c/\c<=2147483647 then some (⟨num,N,P,Q,c,R,S,T,W,0,ps⟩,r9) else none):=by unfold Ha;rw[a0.o,h9];rfl
  have d2:=K9.step b7;have K:b≠w8.heap.size:=λe=>by
   have u:=K9.here;rw[e,A.o]at u;simp at u
  have h:=(b7.block w8.heap.size (XZ K)).trans A;have b4:w9.ownsRow w.heap.size 234 2 (.slice Z 0 d) 0 (zA ps):=ze s (λz hz=>b7.block z (λe=>by
   obtain⟨cs,b0⟩:=zi s hz;exact zw b0 K9.here (by decide) e))
  rw[<-C.o]at h K ⊢;have x4:w9.cell? ⟨j,4,none⟩=some (.slice Z 0 d):=by rw[za h];rfl
  have x5:w9.cell? ⟨j,5,none⟩=some (.int .i64 0):=by rw[za h];rfl
  have f5:=zf h 5;have b5:=xq w9 j 5 _ 231 (.int .i64 c) h;have b6:Ha ((w9.setCell ⟨j,5,none⟩ (.int .i64 c)).heap[j]?=some (.cells (zn ⟨num,N,P,Q,c,R,S,T,W,0,ps⟩ (.slice Z 0 d)) 231 (0,0))):=b5;have m:Ha (Kr b w (w9.setCell ⟨j,5,none⟩ (.int .i64 c)) r9):=⟨d2.kp.setCell (p:=⟨j,5,none⟩) (Or.inr (by show w.heap.size<=j;rw[C.o];exact b9)) _,(xa _ _ _ _ K).trans d2.here⟩
  have e8:Ha ((w9.setCell ⟨j,5,none⟩ (.int .i64 c)).ownsRow w.heap.size 234 2 (.slice Z 0 d) 0 (zA ps)):=ze b4 (λz hz=>xa _ _ _ _ (λe=>by
   obtain⟨cs,b0⟩:=zi b4 hz;exact zw b0 h (by decide) e))
  have y5:(w9.setCell ⟨j,5,none⟩ (.int .i64 c)).cell? ⟨j,5,none⟩=some (.int .i64 c):=by rw[za b6.o];rfl
  have b1:c<9223372036854775808:=by
   unfold UU at h9;split at h9
   ·cases h9
   cases h9;exact Pl.fst_lt _
  clear b5 K9 s A HN b7 d2 b4 h h9;go_wp2_with fail;have c7:Ha ((w9.setCell ⟨j,5,none⟩ (.int .i64 c)).ownsRow w.heap.size 234 2 (.slice Z 0 d) ps.length (zA ps)):=by unfold Ha;rw[b2];exact e8
  refine Yw 1 ?_
  rw[YU];by_cases g:1<=c/\c<=2147483647
  ·have c8:Ha (X=some (⟨num,N,P,Q,c,R,S,T,W,0,ps⟩,r9)):=by unfold Ha;rw[a8.o,xe g]
   have i1:(1:Int)<=((c:Nat):Int):=by omega
   have i2:((c:Nat):Int)<=2147483647:=by omega
   have i3:1<=c:=g.1;have i4:c<=2147483647:=g.2;clear g;go_wp2_with fail;refine(zM true _ (m.gu f F)).mono ?_
   rintro e wz ⟨rfl,a⟩;rw[xe rfl]at a;subst a;go_wp2_with fail;go_ret;show BH b w X _ _;rw[c8.o];exact⟨⟨j,_,rfl,by rw[C.o];exact b9,b6,c7⟩,m⟩
  have a9:Ha (X=none):=by unfold Ha;rw[a8.o,xg g]
  by_cases g1:1<=c
  ·have i1:(1:Int)<=((c:Nat):Int):=by omega
   have i2:¬((c:Nat):Int)<=2147483647:=by omega
   have i3:decide (c<=2147483647)=false:=xu (by omega);have i4:(2147483647:Int)<((c:Nat):Int):=by omega
   clear g;go_wp2_with fail;refine(zM false _ (m.gu f F)).mono ?_
   rintro e wz ⟨rfl,a⟩;rw[xg (by simp)]at a;obtain⟨t,v,rfl⟩:=a;refine⟨rfl,?_⟩;show BH b w X _ _;rw[a9.o];exact⟨⟨t,v,rfl⟩,m.kp⟩
  have i1:((c:Nat):Int)<1:=by omega
  clear g g1;go_wp2_with fail;refine(zM false _ (m.gu f F)).mono ?_
  rintro e wz ⟨rfl,a⟩;rw[xg (by simp)]at a;obtain⟨t,v,rfl⟩:=a;refine⟨rfl,?_⟩;show BH b w X _ _;rw[a9.o];exact⟨⟨t,v,rfl⟩,m.kp⟩
 rw[xg b2]at a0;obtain⟨E,c9⟩:∃E,E=ps.length:=⟨_,rfl⟩
 have B:=zb c9;rw[<-c9]at b2 H b3 ⊢;have ha:=TZ w8 (.cells #[.int .i64 num,.int .i64 N,.int .i64 P,.int .i64 Q,.slice Z E d,.int .i64 0,.int .i64 R,.int .i64 S,.int .i64 T,.int .i64 W,.int .i64 0] 231);have M:=xo w8 (.cells #[.int .i64 num,.int .i64 N,.int .i64 P,.int .i64 Q,.slice Z E d,.int .i64 0,.int .i64 R,.int .i64 S,.int .i64 T,.int .i64 W,.int .i64 0] 231);have K9:=zb (K8.after ha);have s:=zb (zh H ha);have A:=zb M;have f7:¬((E:Int)==0)=true:=by simp;omega
 have K:b≠w8.heap.size:=λe=>by
  have u:=K9.here;rw[e,M]at u;simp at u
 rw[<-C.o]at A K;clear K8 H ha M c9 d0;go_wp2_with fail;rw[<-C.o];go_loopw [9,46] (λ_ ii wr=>∃k:Nat,ii=.int .i64 k/\k<=E/\wr.heap[j]?=some (.cells (zn ⟨num,N,P,Q,((ps.take k).map Prod.snd).sum,R,S,T,W,0,ps⟩ (.slice Z E d)) 231 (0,0))/\wr.ownsRow w.heap.size 234 2 (.slice Z E d) E (zA ps)/\Kr b w wr r8) (λ_ ii _=>E-(intOf ii).toNat)
 case atStart=>exact⟨0,rfl,by omega,A,s,K9⟩
 clear A s K9;obtain⟨k,rfl,hk,i,r,b8⟩:=hrel;by_cases D:k<E
 ·obtain⟨G,rfl,f4,g1,g2⟩:=SO r k (by rw[<-B.o];exact D) B;have e4:ps.getD k (0,0)∈ps:=by rw[B.o]at D;simp[Uv,D]
  have f3:=(b3.2.1 _ e4).2;have f1:=Kj (ps.take k) (λq hq=>(b3.2.1 q (yt hq)).2);have f2:(ps.take k).length<=2:=xj (Ym _ _) (by omega);have d4:Ha (((ps.take (k+1)).map Prod.snd).sum=((ps.take k).map Prod.snd).sum+(ps.getD k (0,0)).2):=by
   rw[B.o]at D;unfold Ha;rw[xl D,yz,List.sum_append];simp only[Uv,xi D,Xw,List.map_cons,xbD,List.sum_cons,List.sum_nil,xal]
  generalize ((ps.take k).map Prod.snd).sum=sk at *;generalize ps.getD k (0,0)=x at *;obtain⟨x1,y⟩:=x;simp only at g1 g2 f3 d4;have hB:=TZ wr (.cells #[.int .i64 x1,.int .i64 y] 234);have n:=(hB.block j (zc i)).trans i;have z5:(wr.alloc (.cells #[.int .i64 x1,.int .i64 y] 234)).cell? ⟨j,5,none⟩=some (.int .i64 sk):=by rw[za n];rfl
  have f5:=zf n 5;have g3:sk<=4294967294:=by omega
  have c6:((sk:Int)+(y:Int))=((sk+y:Nat):Int):=by omega
  have d3:Ha (((wr.alloc (.cells #[.int .i64 x1,.int .i64 y] 234)).setCell ⟨j,5,none⟩ (.int .i64 ((sk:Int)+(y:Int)))).heap[j]?=some (.cells (zn ⟨num,N,P,Q,sk+y,R,S,T,W,0,ps⟩ (.slice (some ⟨G,0,none⟩) E d)) 231 (0,0))):=by
   rw[c6];exact xq _ j 5 _ 231 (.int .i64 ((sk+y:Nat):Int)) n
  have e7:Ha (((wr.alloc (.cells #[.int .i64 x1,.int .i64 y] 234)).setCell ⟨j,5,none⟩ (.int .i64 ((sk:Int)+(y:Int)))).ownsRow w.heap.size 234 2 (.slice (some ⟨G,0,none⟩) E d) E (zA ps)):=ze (zh r hB) (λz hz=>xa _ _ _ _ (λe=>by
   obtain⟨cs,b0⟩:=zi (zh r hB) hz;exact zw b0 n (by decide) e))
  have e6:Ha (Kr b w ((wr.alloc (.cells #[.int .i64 x1,.int .i64 y] 234)).setCell ⟨j,5,none⟩ (.int .i64 ((sk:Int)+(y:Int)))) r8):=by
   have k1:=b8.after hB;exact⟨k1.kp.setCell (p:=⟨j,5,none⟩) (Or.inr (by show w.heap.size<=j;rw[C.o];exact b9)) _,(xa _ _ _ _ K).trans k1.here⟩
  have f9:=zc i;have c5:=xo wr (.cells #[.int .i64 x1,.int .i64 y] 234);have d1:(wr.alloc (.cells #[.int .i64 x1,.int .i64 y] 234)).cell? ⟨wr.heap.size,1,none⟩=some (.int .i64 y):=by rw[za c5];rfl
  clear i r b8 n hB e4 f1 f2 c6 c5;go_wp2_with fail;generalize (wr.alloc (.cells #[.int .i64 x1,.int .i64 y] 234))=wb at *;go_region;go_wp2_with fail;go_roundw
  case rel=>exact⟨k+1,by go_num,by omega,by rw[d4.o];exact((xh _ _).drew.block j (zc d3)).trans d3,zh e7 ((xh _ _).drew),e6.after ((xh _ _).drew)⟩
  simp[intOf];omega
 have e9:k=E:=by omega
 subst e9;have e5:ps.take k=ps:=by rw[B.o];exact Xa
 rw[e5]at i;obtain⟨c,b1⟩:∃c,c=(ps.map Prod.snd).sum:=⟨_,rfl⟩
 have g0:c<=4294967294:=by
  have u:=Kj ps (λq hq=>(b3.2.1 q hq).2);have J:ps.length<=2:=by rw[<-B.o];exact b3.1
  rw[b1];omega
 have a8:Ha (X=if 1<=c/\c<=2147483647 then some (⟨num,N,P,Q,c,R,S,T,W,0,ps⟩,r8) else none):=by unfold Ha;rw[a0.o,b1];rfl
 rw[<-b1]at i;have b6:=zb i;have m:=zb b8;have c7:Ha (wr.ownsRow w.heap.size 234 2 (.slice Z k d) ps.length (zA ps)):=by unfold Ha;rw[<-B.o];exact r
 have y5:wr.cell? ⟨j,5,none⟩=some (.int .i64 c):=by rw[za i];rfl
 clear i r b8 e5 b1 D;by_cases g:1<=c/\c<=2147483647
 ·have c8:Ha (X=some (⟨num,N,P,Q,c,R,S,T,W,0,ps⟩,r8)):=by unfold Ha;rw[a8.o,xe g]
  have i1:(1:Int)<=((c:Nat):Int):=by omega
  have i2:((c:Nat):Int)<=2147483647:=by omega
  have i3:1<=c:=g.1;have i4:c<=2147483647:=g.2;clear g;go_wp2_with fail;refine(zM true _ (m.gu f F)).mono ?_
  rintro e wz ⟨rfl,a⟩;rw[xe rfl]at a;subst a;go_wp2_with fail;go_ret;show BH b w X _ _;rw[c8.o];exact⟨⟨j,_,rfl,by rw[C.o];exact b9,b6,c7⟩,m⟩
 have a9:Ha (X=none):=by unfold Ha;rw[a8.o,xg g]
 by_cases g1:1<=c
 ·have i1:(1:Int)<=((c:Nat):Int):=by omega
  have i2:¬((c:Nat):Int)<=2147483647:=by omega
  have i3:decide (c<=2147483647)=false:=xu (by omega);have i4:(2147483647:Int)<((c:Nat):Int):=by omega
  clear g;go_wp2_with fail;refine(zM false _ (m.gu f F)).mono ?_
  rintro e wz ⟨rfl,a⟩;rw[xg (by simp)]at a;obtain⟨t,v,rfl⟩:=a;refine⟨rfl,?_⟩;show BH b w X _ _;rw[a9.o];exact⟨⟨t,v,rfl⟩,m.kp⟩
 have i1:((c:Nat):Int)<1:=by omega
 clear g g1;go_wp2_with fail;refine(zM false _ (m.gu f F)).mono ?_
 rintro e wz ⟨rfl,a⟩;rw[xg (by simp)]at a;obtain⟨t,v,rfl⟩:=a;refine⟨rfl,?_⟩;show BH b w X _ _;rw[a9.o];exact⟨⟨t,v,rfl⟩,m.kp⟩
