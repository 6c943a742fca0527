import Derived.Test.YtgcedalggnmooaaGreatDoorOrdX
import Derived.Test.YtgcedalggnmooaaGreatDoorRepX
import Derived.StillTailTactics
import Derived.Deep.OwnRows
set_option linter.all false
set_option maxRecDepth 100000
set_option maxHeartbeats 6400000
namespace Go.Proofs.YtgcedalggnmooaaGreatDoor
open Go.RowKit
open Tryz
def WF(l:List UInt8):Option (Nat×List UInt8):=if Pl.snd l=0 then none else some (Pl.fst l,l.drop (Pl.snd l))
def WG(lo hi:Nat)(l:List UInt8):Option (Nat×List UInt8):=(WF l).bind λp=>if lo<=p.1/\p.1<=hi then some p else none
def Gu(w:World):Prop:=∃t v,w.cell? ⟨4,0,none⟩=some (.iface t v)
def NU:Nat:=1+max 4 4
variable {B N S b n:Nat}{w w' w'':World}
def Gu.rd{s:ByteArray}(h:Gu w)(k:Rd b w w' s)(a:NU<=b):Gu w':=by
 obtain⟨t,v,c⟩:=h;exact⟨t,v,by rw[k.other _ (by simp;unfold NU at a;omega)];exact c⟩
def VM(l:List UInt8):ByteArray:=⟨l.toArray⟩
def Er(l:List UInt8):(VM l).data.toList=l:=by simp[VM]
def iW(l:List UInt8):(VM l).size=l.length:=by show l.toArray.size=_;simp
def Ix(l:List UInt8)(k:Nat):(VM l).extract k (VM l).size=VM (l.drop k):=by
 apply xau
 rw[YL,iW];apply xcb.1;simp[VM];exact Xy (by simp)
variable {l r:List UInt8}
def xT(h:WF l=some (n,r)):r.length<=l.length:=by
 unfold WF at h;split at h
 ·cases h
 cases h;simp
def rM(b:Nat)(f:NU<=b)(l:List UInt8)(j:l.length<=1000000000)(w:World)(g:Gl w)(i:Rd b w w (VM l)):Calls prog 136 #[.pointer (some ⟨b,0,none⟩)] w λe w' =>
   match WF l with
   |some (n,r)=>e=.returned (.int .i64 n)/\Rd b w w' (VM r)
   |none=>iL b w e w':=by
 refine(lO b (by unfold NU at f;omega) (VM l) (by rw[iW];omega) w w g i).mono ?_
 intro e w' h;rw[Er,Ix]at h;unfold WF;rcases h with ⟨a,rfl,d⟩|⟨a,c⟩
 ·rw[xg a];exact⟨rfl,d⟩
 rw[xh a];exact c
def zI(a:Bool)(w:World)(b:Gu w):Calls prog 175 #[.bool a] w λe w'=>w'=w/\(if a then e=.returned (.tuple #[]) else ∃t v,e=.panicked [{ v:=.iface t v,recovered:=false }]):=by
 obtain⟨t,v,c⟩:=b
 cases a
 ·go_enter func175,ntmps175;go_wp2_with fail;exact⟨rfl,rfl,t,v,rfl⟩
 go_enter func175,ntmps175;go_wp2_with fail;go_end0;exact⟨rfl,rfl⟩
def Zt(b:Nat)(m:NU<=b)(l:List UInt8)(z:l.length<=1000000000)(lo c:Nat)(A:lo<=2147483648)(y:c<=2147483647)(w:World)(x:Gl w)(s:Gu w)(B:Rd b w w (VM l)):Calls prog 176 #[.pointer (some ⟨b,0,none⟩),.int .i64 lo,.int .i64 c] w λe w' =>
   match WG lo c l with
   |some (n,r)=>e=.returned (.int .i64 n)/\Rd b w w' (VM r)
   |none=>iL b w e w':=by
 have g:=zb (rM b m l z w x B);unfold WG
 cases i:WF l with
 |none=>
  rw[i]at g;clear i;go_enter func176,ntmps176;go_wp2_with (go_at_call 136;refine g.mono ?_;rintro e w1 ⟨⟨t,v,rfl⟩,a⟩);exact⟨rfl,⟨t,v,rfl⟩,a⟩
 |some p=>
  obtain⟨n,r⟩:=p;rw[i]at g;by_cases j:lo<=n/\n<=c
  ·have f:(lo:Int)<=(n:Int):=by omega
   have k:(n:Int)<=(c:Int):=by omega
   have h:Ha (((some (n,r)).bind λp:Nat×List UInt8=>if lo<=p.1/\p.1<=c then some p else none)=some (n,r)):=by unfold Ha;simp[j]
   rw[h.o];clear i j h;go_enter func176,ntmps176;go_wp2_with (go_at_call 136;refine g.mono ?_;rintro e w1 ⟨rfl,a⟩);refine(zI true w1 (s.rd a m)).mono ?_
   rintro e w2 ⟨rfl,d⟩;rw[xh rfl]at d;subst d;go_wp2_with fail;go_ret;exact⟨rfl,a⟩
  have h:Ha (((some (n,r)).bind λp:Nat×List UInt8=>if lo<=p.1/\p.1<=c then some p else none)=none):=by unfold Ha;simp[j]
  rw[h.o];clear i h;by_cases f:lo<=n
  ·have u:(lo:Int)<=(n:Int):=by omega
   have k:¬(n:Int)<=(c:Int):=by omega
   have q:(c:Int)<(n:Int):=by omega
   have hd:decide (n<=c)=false:=xy (by omega);clear j f;go_enter func176,ntmps176;go_wp2_with (go_at_call 136;refine g.mono ?_;rintro e w1 ⟨rfl,a⟩);refine(zI false w1 (s.rd a m)).mono ?_
   rintro e w2 ⟨rfl,d⟩;rw[xg (by simp)]at d;obtain⟨t,v,rfl⟩:=d;exact⟨rfl,⟨t,v,rfl⟩,_,a⟩
  have k:¬(lo:Int)<=(n:Int):=by omega
  have q:(n:Int)<(lo:Int):=by omega
  clear j f;go_enter func176,ntmps176;go_wp2_with (go_at_call 136;refine g.mono ?_;rintro e w1 ⟨rfl,a⟩);refine(zI false w1 (s.rd a m)).mono ?_
  rintro e w2 ⟨rfl,d⟩;rw[xg (by simp)]at d;obtain⟨t,v,rfl⟩:=d;exact⟨rfl,⟨t,v,rfl⟩,_,a⟩
def iM(b:Nat)(f:NU<=b)(l:List UInt8)(h:l.length<=1000000000)(p:Nat)(k:p<=2147483647)(w:World)(g:Gl w)(j:Gu w)(i:Rd b w w (VM l)):Calls prog 193 #[.pointer (some ⟨b,0,none⟩),.int .i64 p] w λe w' =>
   match WG (p+1) 2147483647 l with
   |some (n,r)=>e=.returned (.int .i64 n)/\Rd b w w' (VM r)
   |none=>iL b w e w':=by
 have c:=zb (Zt b f l h (p+1) 2147483647 (by omega) (by omega) w g j i)
 cases d:WG (p+1) 2147483647 l with
 |none=>
  rw[d]at c;go_enter func193,ntmps193;go_wp2_with (go_at_call 176;refine c.mono ?_;rintro e w1 ⟨⟨t,v,rfl⟩,a⟩);exact⟨rfl,⟨t,v,rfl⟩,a⟩
 |some q=>
  obtain⟨n,r⟩:=q;rw[d]at c;go_enter func193,ntmps193;go_wp2_with (go_at_call 176;refine c.mono ?_;rintro e w1 ⟨rfl,a⟩);go_ret;exact⟨rfl,a⟩
structure Kr(b:Nat)(w w':World)(l:List UInt8):Prop where
 kp:Kp (λk=>k=b) w w'
 here:w'.heap[b]?=some (.cells #[.string (VM l)] 225 (0,0))
def Kr.rd(h:Kr b w w' l):Rd b w' w' (VM l):=Rd.refl h.here
def Kr.step(h:Kr b w w' l)(k:Rd b w' w'' (VM r)):Kr b w w'' r :=
 ⟨h.kp.trans ⟨k.os,k.tape,k.output,by rw[k.size];exact xe _,λi _ a=>k.block i (λe=>a (Or.inl e))⟩,k.here⟩
def Kr.after{b:Nat}{w w' a:World}{l:List UInt8}(h:Kr b w w' l)(k:Below w'.heap.size w' a):Kr b w a l :=
 ⟨h.kp.after k,(k.block b (zc h.here)).trans h.here⟩
def Kr.refl{b:Nat}{w:World}{l:List UInt8}(h:w.heap[b]?=some (.cells #[.string (VM l)] 225 (0,0))):Kr b w w l:=⟨Kp.refl _ _,h⟩
def Kr.gl(h:Kr b w w' l)(e:NU<=b)(f:Gl w):Gl w':=by
 obtain⟨⟨g,j,c⟩,⟨i,k,d⟩,m⟩:=f;have n:=h.kp.size;unfold NU at e;refine⟨⟨g,j,(xo (a:=⟨2,0,none⟩) (h.kp.block _ (by show 2<_;omega) (by show ¬2=b;omega))).trans c⟩,⟨i,k,(xo (a:=⟨3,0,none⟩) (h.kp.block _ (by show 3<_;omega) (by show ¬3=b;omega))).trans d⟩,by omega⟩
def bY{a:Addr}{x:Value}(h:w.cell? a=some x):a.block<w.heap.size:=by
 rcases xai a.block w.heap.size with b|b
 ·exact b
 simp[World.cell?,xaB b]at h
def Kr.gu(h:Kr b w w' l)(d:NU<=b)(e:Gu w):Gu w':=by
 obtain⟨t,v,c⟩:=e;unfold NU at d;exact⟨t,v,(xo (a:=⟨4,0,none⟩) (h.kp.block _ (bY c) (by show ¬4=b;omega))).trans c⟩
def Bk(b:Nat)(w:World)(e:Ending)(w':World):Prop:=(∃t v,e=.panicked [{ v:=.iface t v,recovered:=false }])/\Kp (λk=>k=b) w w'
variable {e:Ending}
def Kr.broke(h:Kr b w w' l)(k:iL b w' e w''):Bk b w e w'':=by
 obtain⟨d,s,a⟩:=k;exact⟨d,h.kp.trans ⟨a.os,a.tape,a.output,by rw[a.size];exact xe _,λi _ c=>a.block i (λe=>c (Or.inl e))⟩⟩
def zv{lo c:Nat}(h:WG lo c l=some (n,r)):lo<=n/\n<=c/\r.length<=l.length:=by
 unfold WG at h
 cases a:WF l with
 |none=>rw[a]at h;cases h
 |some p=>
  rw[a]at h;simp only[xk]at h;split at h
  ·rename_i b
   cases h;exact⟨b.1,b.2,xT a⟩
  cases h
def fC:Nat->Nat->List (Nat×Nat)->List UInt8->Option (List (Nat×Nat)×List UInt8)
 |0,_,acc,l=>some (acc,l)
 |k+1,p,acc,l=>(WG (p+1) 2147483647 l).bind λa=>(WG 0 2147483647 a.2).bind λg=>fC k a.1 (acc++[(a.1,g.1)]) g.2
def fA(l:List UInt8):Option (List (Nat×Nat)×List UInt8):=(WG 0 2 l).bind λk=>fC k.1 0 [] k.2
def Bc:∀(l:List (Nat×Nat)) (p:Nat×Nat),zl (l++[p])=zl l++[.int .i64 p.1,.int .i64 p.2]
 |[],p=>rfl
 |q::l,p=>by show _::_::zl (l++[p])=_;rw[Bc l p];rfl
def Np:(prog.info? 234).map (λi=>(i.zero,i.size,i.bytes))=some (some (.agg #[.int .i64 0,.int .i64 0]),2,16):=by kernel_rfl
def RL:prog.underlying 229=some (.slice 234):=by kernel_rfl
def Ua(b:Nat)(w:World)(X:Option (List (Nat×Nat)×List UInt8))(e:Ending)(w':World):Prop:=match X with
 |some (ps,r)=>(∃v,e=.returned v/\w'.ownsRow w.heap.size 234 2 v ps.length (zl ps))/\Kr b w w' r
 |none=>Bk b w e w'
def BL(b:Nat)(G:NU<=b)(l:List UInt8)(hl:l.length<=1000000000)(w:World)(hg:Gl w)(K:Gu w)(hr:w.heap[b]?=some (.cells #[.string (VM l)] 225 (0,0))):Calls prog 237 #[.pointer (some ⟨b,0,none⟩)] w (Ua b w (fA l)):=by
 obtain⟨i0,hi,b3,b4,b5⟩:=XT Np;have Z:=zb (Zt b G l hl 0 2 (by omega) (by omega) w hg K (Rd.refl hr));have N:=zb (Kr.refl hr);unfold fA
 cases y:WG 0 2 l with
 |none=>
  rw[y]at Z;go_enter func237,ntmps237;go_wp2_with (go_at_call 176;refine Z.mono ?_;rintro e w1 h;obtain⟨t,v,rfl⟩:=h.1);exact⟨rfl,N.broke h⟩
 |some p=>
  obtain⟨n,r⟩:=p;rw[y]at Z;obtain⟨_,b8,c7⟩:=zv y;show Calls _ _ _ _ (Ua b w (fC n 0 [] r));obtain⟨X,HX⟩:=Ww (fC n 0 [] r);rw[<-HX.o];clear y;go_enter func237,ntmps237;go_wp2_with (go_at_call 176;refine Z.mono ?_;rintro e w1 ⟨rfl,a3⟩);have a0:=zb (N.step a3);clear N Z a3;go_loopw [3,4,7] (λpv nv ii wr=>∃(k p:Nat) (d:List (Nat×Nat)) (q:List UInt8),ii=.int .i64 k/\k<=n/\nv=.int .i64 p/\p<=2147483647/\d.length=k/\q.length<=1000000000/\wr.ownsRow w.heap.size 234 2 pv k (zl d)/\Kr b w wr q/\fC (n-k) p d q=X) (λ_ _ ii _=>n-(intOf ii).toNat)
  case atStart=>exact⟨0,0,[],r,rfl,by omega,rfl,by omega,rfl,by omega,Xx _ _ _ _,a0,HX.symm⟩
  clear a0;obtain⟨k,p,d,q,rfl,hk,rfl,hp,a1,b1,f,i,hX⟩:=hrel;obtain⟨pa,M,b0⟩:=zj f;subst b0;by_cases b7:k<n
  ·have T:=zb (iM b G q b1 p hp wr (i.gl G hg) (i.gu G K) i.rd);have x:Ha ((WG (p+1) 2147483647 q).bind (λa=>(WG 0 2147483647 a.2).bind λg=>fC (n-(k+1)) a.1 (d++[(a.1,g.1)]) g.2)=X):=by
    unfold Ha;rw[<-hX,show n-k=(n-(k+1))+1 by omega];rfl
   clear hX
   cases y:WG (p+1) 2147483647 q with
   |none=>
    rw[y]at T x;have C:Ha (X=none):=by rw[<-x.o];rfl
    rw[C.o];have B:=zb i;clear i f x y;go_wp2_with (go_at_call 193;refine T.mono ?_;rintro e w2 h;obtain⟨t,v,rfl⟩:=h.1);exact⟨rfl,B.broke h⟩
   |some a=>
    obtain⟨m,q2⟩:=a;rw[y]at T x;obtain⟨_,hm,b9⟩:=zv y;have B:=zb i;have Q:=zb f;clear i f y
    cases W:WG 0 2147483647 q2 with
    |none=>
     have C:Ha (X=none):=by rw[<-x.o];show(WG 0 2147483647 q2).bind _=none;rw[W];rfl
     rw[C.o];go_wp2_with (go_at_call 193;refine T.mono ?_;rintro e w2 ⟨rfl,s⟩);have c:=B.step s;have A:=Zt b G q2 (by omega) 0 2147483647 (by omega) (by omega) w2 (c.gl G hg) (c.gu G K) c.rd;rw[W]at A;refine A.mono ?_
     rintro e w3 h;obtain⟨t,v,rfl⟩:=h.1;exact⟨rfl,c.broke h⟩
    |some a2=>
     obtain⟨gv,q3⟩:=a2;obtain⟨_,b6,c6⟩:=zv W;have a6:Ha (fC (n-(k+1)) m (d++[(m,gv)]) q3=X):=by
      unfold Ha;rw[<-x.o];show _=(WG 0 2147483647 q2).bind _;rw[W];rfl
     go_wp2_with (go_at_call 193;refine T.mono ?_;rintro e w2 ⟨rfl,s⟩)
     have c:=B.step s;have A:=Zt b G q2 (by omega) 0 2147483647 (by omega) (by omega) w2 (c.gl G hg) (c.gu G K) c.rd;rw[W]at A;refine A.mono ?_
     rintro e w3 ⟨rfl,F⟩;have D:=c.step F;have E:w3.ownsRow w.heap.size 234 2 (.slice pa k M) k (zl d):=zd Q (λz hz=>by
      obtain⟨cs,J⟩:=zh Q hz;have e1:=s.block z (λe=>zt J B.here (by decide) e);have e2:=F.block z (λe=>zt (e1.trans J) c.here (by decide) e);exact e2.trans e1)
     have P:=zb D;have H:=zb E;have c8:=D.kp.size;clear D E c s F A B Q T x W;go_wp2_with (at_builtin;refine Xr _ rfl _ _ 229 rfl w.heap.size 234 i0 (.agg #[.int .i64 0,.int .i64 0]) 2 16 RL hi b3 b4 b5 rfl (by decide) _ k (zl d) rfl ((H.alloc _)) ⟨w3.heap.size,0,none⟩ 1 1 [.int .i64 m,.int .i64 gv] rfl rfl ?c1 ?c2 ?c3 ?c4 ?c5 ?_)
     case c1=>intro j u K;have:=Yt w3 (.int .i64 m) (.int .i64 gv) 234 j u K;simpa using this
     case c2=>intro u K;simp at K;rcases K with rfl|rfl<;>rfl
     case c3=>unfold maxLen;omega
     case c4=>omega
     case c5=>simp;omega
     intro v4 w4 S R a8;obtain⟨g4,c4,b2,_,_⟩:=zL S (by omega);subst b2;have a4:Ha (Kr b w w4 q3):=by
      have y:=P.after (VE w3 (.cells #[.int .i64 m,.int .i64 gv] 234));have a9:∀z,(Value.slice pa k M).ownBlock=some z->z≠b:=λz hz e=>by
       obtain⟨cs,J⟩:=zh H hz;exact zt J P.here (by decide) e
      refine⟨y.kp.grown R (λz hz=>Or.inr (H.lt z hz).1),(R.block b (zc y.here) (λe=>?_)).trans y.here⟩;exact a9 b e.symm rfl
     have a5:Ha (w4.ownsRow w.heap.size 234 2 (.slice (some ⟨g4,0,none⟩) (k+1) c4) (k+1) (zl (d++[(m,gv)]))):=by
      unfold Ha;rw[Bc];exact S
     clear S R a8 P H;go_wp2_with fail;go_roundw
     case rel=>exact⟨k+1,m,d++[(m,gv)],q3,by go_num,by omega,rfl,by omega,by simp[a1],by omega,a5,a4,a6⟩
     simp[intOf];omega
  have a7:k=n:=by omega
  subst a7;have C:Ha (X=some (d,q)):=by unfold Ha;rw[<-hX,xap];rfl
  have HO:=zb f;clear f hX;go_wp2_with fail;go_ret;show Ua b w X _ _;rw[C.o];exact⟨⟨_,rfl,by rw[a1];exact HO⟩,i⟩
def cT(num com:Nat)(l:List UInt8):Option (L×List UInt8) :=
 (WG 1 2147483647 l).bind λg=>(WG 0 2147483647 g.2).bind λx=>(WG 1 com x.2).bind λp=>(WG 0 2147483647 p.2).bind λf=>(WG 0 2147483647 f.2).bind λh=>(WG 0 2147483647 h.2).bind λs=>(WG 0 2147483647 s.2).bind λc=>(fA c.2).bind λps=>
  (if ps.1.length=0 then WF ps.2 else some ((ps.1.map Prod.snd).sum,ps.2)).bind λgt=>
   if 1<=gt.1/\gt.1<=2147483647 then some (⟨num,g.1,x.1,p.1,gt.1,f.1,h.1,s.1,c.1,0,ps.1⟩,gt.2) else none
def Cl(b:Nat)(w:World)(X:Option (L×List UInt8))(e:Ending)(w':World):Prop:=match X with
 |some (l,r)=>(∃q pv,e=.returned (.pointer (some ⟨q,0,none⟩))/\w.heap.size<=q/\w'.heap[q]?=some (.cells (zm l pv) 231 (0,0))/\w'.ownsRow w.heap.size 234 2 pv l.par.length (zl l.par))/\Kr b w w' r
 |none=>Bk b w e w'
def Kr.bk(h:Kr b w w' l)(k:Bk b w' e w''):Bk b w e w'':=⟨k.1,h.kp.trans (k.2.mono (λ_ q=>Or.inl q))⟩
def Kr.trans{b:Nat}{w w' a:World}{l r:List UInt8}(h:Kr b w w' l)(k:Kr b w' a r):Kr b w a r:=⟨h.kp.trans (k.kp.mono (λ_ q=>Or.inl q)),k.here⟩
variable {v:Value}
def dZ{b:Nat}{e:TypeId}{size:Nat}{xs:List Value}(h:w.ownsRow B e size v n xs)(i:b<=B):w.ownsRow b e size v n xs:=by
 refine⟨h.1,?_⟩;rcases h.2 with h|⟨g,cap,a,c,d,f⟩
 ·exact Or.inl h
 exact Or.inr ⟨g,cap,a,c,xj i d,f⟩
def rN:∀{k p:Nat} {b ps:List (Nat×Nat)} {l r:List UInt8},fC k p b l=some (ps,r)->(∀q∈b,q.1<=2147483647/\q.2<=2147483647)->ps.length=b.length+k/\(∀q∈ps,q.1<=2147483647/\q.2<=2147483647)/\r.length<=l.length
 |0,p,b,ps,l,r,h,ha=>by simp only[fC,XC,XY]at h;obtain⟨rfl,rfl⟩:=h;exact⟨by omega,ha,xe _⟩
 |k+1,p,b,ps,l,r,h,ha=>by
  rw[fC]at h
  cases d:WG (p+1) 2147483647 l with
  |none=>rw[d]at h;cases h
  |some a=>
   obtain⟨m,q⟩:=a;rw[d]at h;simp only[xk]at h
   cases e:WG 0 2147483647 q with
   |none=>rw[e]at h;cases h
   |some a2=>
    obtain⟨g,s⟩:=a2;rw[e]at h;simp only[xk]at h;obtain⟨_,f,t⟩:=zv d;obtain⟨_,i,u⟩:=zv e;obtain⟨j,n,v⟩:=rN h (λq c=>by
     rcases xx.1 c with c|c
     ·exact ha q c
     simp at c;subst c;exact⟨f,i⟩)
    refine⟨by rw[j,xc,Xw];omega,n,by omega⟩
def mS{ps:List (Nat×Nat)}(h:fA l=some (ps,r)):ps.length<=2/\(∀q∈ps,q.1<=2147483647/\q.2<=2147483647)/\r.length<=l.length:=by
 unfold fA at h
 cases b:WG 0 2 l with
 |none=>rw[b]at h;cases h
 |some a=>
  obtain⟨k,q⟩:=a;rw[b]at h;simp only[xk]at h;obtain⟨_,f,g⟩:=zv b;obtain⟨d,e,i⟩:=rN h (λq c=>by simp at c);exact⟨by rw[d];simp;omega,e,by omega⟩
def LA:∀(l:List (Nat×Nat)),(∀q∈l,q.2<=2147483647)->(l.map Prod.snd).sum<=l.length*2147483647
 |[],_=>by simp
 |q::l,h=>by
  have b:=LA l (λx a=>h x (by simp[a]));have c:=h q (by simp);simp only[Xv,XZ,List.length_cons];omega
def qU:∀(l:List (Nat×Nat)) (i:Nat),i<l.length->(zl l)[i*2]?=some (.int .i64 ((l.getD i (0,0)).1:Int))/\(zl l)[i*2+1]?=some (.int .i64 ((l.getD i (0,0)).2:Int))
 |[],i,h=>by simp at h
 |q::l,0,h=>⟨rfl,rfl⟩
 |q::l,i+1,h=>by
  have a:=qU l i (by simpa using h);rw[show(i+1)*2=i*2+2 by omega];simpa [zl] using a
def Uq{b:Nat}{a:Option Addr}{cap:Nat}{l:List (Nat×Nat)}(h:w.ownsRow b 234 2 (.slice a n cap) n (zl l))(k:Nat)(e:k<l.length)(g:n=l.length):∃G,a=some ⟨G,0,none⟩/\G<w.heap.size/\w.cell? ⟨G,k*2,none⟩=some (.int .i64 ((l.getD k (0,0)).1:Int))/\w.cell? ⟨G,k*2+1,none⟩=some (.int .i64 ((l.getD k (0,0)).2:Int)):=by
 obtain⟨G,d,f,_,c⟩:=zL h (by omega)
 cases f;have q:=qU l k e
 refine⟨G,rfl,c,?_,?_⟩
 ·rw[h.cellAt (k*2) (by omega)];exact q.1
 rw[h.cellAt (k*2+1) (by omega)];exact q.2
def DI(b:Nat)(f:NU<=b)(num com:Nat)(f8:num<=2147483647)(f6:com<=30)(l:List UInt8)(hl:l.length<=1000000000)(w:World)(hg:Gl w)(F:Gu w)(hr:w.heap[b]?=some (.cells #[.string (VM l)] 225 (0,0))):Calls prog 194 #[.pointer (some ⟨b,0,none⟩),.int .i64 num,.int .i64 com] w (Cl b w (cT num com l)):=by
 obtain⟨X,HX⟩:=Ww (cT num com l);rw[<-HX.o];have k0:=Kr.refl hr;go_enter func194,ntmps194;go_wp2_with fail;refine(Zt b f l (by omega) 1 2147483647 (by omega) (by omega) w (k0.gl f hg) (k0.gu f F) k0.rd).mono ?_
 intro e w1 a;rcases u:WG 1 2147483647 l with _|⟨N,r1⟩
 ·rw[u]at a;obtain⟨t,v,rfl⟩:=a.1;refine⟨rfl,?_⟩;show Cl b w X _ _;rw[show X=none by rw[HX.o];unfold cT;simp only[u,xk,XF]];exact k0.broke a
 rw[u]at a;obtain⟨rfl,d5⟩:=a;have k1:=k0.step d5;obtain⟨a1,u1,v1⟩:=zv u;clear d5;go_wp2_with fail;refine(Zt b f r1 (by omega) 0 2147483647 (by omega) (by omega) w1 (k1.gl f hg) (k1.gu f F) k1.rd).mono ?_
 intro e w2 a;rcases J:WG 0 2147483647 r1 with _|⟨P,r2⟩
 ·rw[J]at a;obtain⟨t,v,rfl⟩:=a.1;refine⟨rfl,?_⟩;show Cl b w X _ _;rw[show X=none by rw[HX.o];unfold cT;simp only[u,J,xk,XF]];exact k1.broke a
 rw[J]at a;obtain⟨rfl,d6⟩:=a;have k2:=k1.step d6;obtain⟨a2,u2,v2⟩:=zv J;clear d6;go_wp2_with fail;refine(Zt b f r2 (by omega) 1 com (by omega) (by omega) w2 (k2.gl f hg) (k2.gu f F) k2.rd).mono ?_
 intro e w3 a;rcases h3:WG 1 com r2 with _|⟨Q,r3⟩
 ·rw[h3]at a;obtain⟨t,v,rfl⟩:=a.1;refine⟨rfl,?_⟩;show Cl b w X _ _;rw[show X=none by rw[HX.o];unfold cT;simp only[u,J,h3,xk,XF]];exact k2.broke a
 rw[h3]at a;obtain⟨rfl,d7⟩:=a;have k3:=k2.step d7;obtain⟨a3,u3,v3⟩:=zv h3;clear d7;go_wp2_with fail;refine(Zt b f r3 (by omega) 0 2147483647 (by omega) (by omega) w3 (k3.gl f hg) (k3.gu f F) k3.rd).mono ?_
 intro e w4 a;rcases h4:WG 0 2147483647 r3 with _|⟨R,r4⟩
 ·rw[h4]at a;obtain⟨t,v,rfl⟩:=a.1;refine⟨rfl,?_⟩;show Cl b w X _ _;rw[show X=none by rw[HX.o];unfold cT;simp only[u,J,h3,h4,xk,XF]];exact k3.broke a
 rw[h4]at a;obtain⟨rfl,d8⟩:=a;have k4:=k3.step d8;obtain⟨a4,u4,v4⟩:=zv h4;clear d8;go_wp2_with fail;refine(Zt b f r4 (by omega) 0 2147483647 (by omega) (by omega) w4 (k4.gl f hg) (k4.gu f F) k4.rd).mono ?_
 intro e w5 a;rcases h5:WG 0 2147483647 r4 with _|⟨S,r5⟩
 ·rw[h5]at a;obtain⟨t,v,rfl⟩:=a.1;refine⟨rfl,?_⟩;show Cl b w X _ _;rw[show X=none by rw[HX.o];unfold cT;simp only[u,J,h3,h4,h5,xk,XF]];exact k4.broke a
 rw[h5]at a;obtain⟨rfl,d9⟩:=a;have k5:=k4.step d9;obtain⟨a5,u5,v5⟩:=zv h5;clear d9;go_wp2_with fail;refine(Zt b f r5 (by omega) 0 2147483647 (by omega) (by omega) w5 (k5.gl f hg) (k5.gu f F) k5.rd).mono ?_
 intro e w6 a;rcases h6:WG 0 2147483647 r5 with _|⟨T,r6⟩
 ·rw[h6]at a;obtain⟨t,v,rfl⟩:=a.1;refine⟨rfl,?_⟩;show Cl b w X _ _;rw[show X=none by rw[HX.o];unfold cT;simp only[u,J,h3,h4,h5,h6,xk,XF]];exact k5.broke a
 rw[h6]at a;obtain⟨rfl,e0⟩:=a;have k6:=k5.step e0;obtain⟨a6,u6,v6⟩:=zv h6;clear e0;go_wp2_with fail;refine(Zt b f r6 (by omega) 0 2147483647 (by omega) (by omega) w6 (k6.gl f hg) (k6.gu f F) k6.rd).mono ?_
 intro e w7 a;rcases h7:WG 0 2147483647 r6 with _|⟨W,r7⟩
 ·rw[h7]at a;obtain⟨t,v,rfl⟩:=a.1;refine⟨rfl,?_⟩;show Cl b w X _ _;rw[show X=none by rw[HX.o];unfold cT;simp only[u,J,h3,h4,h5,h6,h7,xk,XF]];exact k6.broke a
 rw[h7]at a;obtain⟨rfl,e1⟩:=a;have k7:=k6.step e1;obtain⟨a7,u7,v7⟩:=zv h7;clear e1;go_wp2_with fail;refine(BL b f r7 (by omega) w7 (k7.gl f hg) (k7.gu f F) k7.here).mono ?_
 intro e w8 a;rcases h8:fA r7 with _|⟨ps,r8⟩
 ·rw[h8]at a;have e3:Bk b w7 e w8:=a;obtain⟨t,v,rfl⟩:=e3.1;refine⟨rfl,?_⟩;show Cl b w X _ _;rw[show X=none by rw[HX.o];unfold cT;simp only[u,J,h3,h4,h5,h6,h7,h8,xk,XF]];exact k7.bk e3
 rw[h8]at a;obtain⟨⟨pv,rfl,r⟩,e2⟩:=a;have k8:=k7.trans e2;have a0:Ha (X=(if ps.length=0 then WF r8 else some ((ps.map Prod.snd).sum,r8)).bind λc=>if 1<=c.1/\c.1<=2147483647 then some (⟨num,N,P,Q,c.1,R,S,T,W,0,ps⟩,c.2) else none):=by
  unfold Ha;rw[HX.o];unfold cT;simp only[u,J,h3,h4,h5,h6,h7,h8,xk]
 have b3:=mS h8;obtain⟨Z,d,f0⟩:=zj r;subst f0;have H:=zb (dZ r k7.kp.size);have K8:=zb k8;clear u J h3 h4 h5 h6 h7 h8 k0 k1 k2 k3 k4 k5 k6 k7 e2 k8 r HX;obtain⟨j,d0⟩:∃j,j=w8.heap.size:=⟨_,rfl⟩
 have C:=zb d0;have b9:=K8.kp.size;by_cases b2:ps.length=0
 ·rw[b2]at H ⊢;have ha:=VE w8 (.cells #[.int .i64 num,.int .i64 N,.int .i64 P,.int .i64 Q,.slice Z 0 d,.int .i64 0,.int .i64 R,.int .i64 S,.int .i64 T,.int .i64 W,.int .i64 0] 231);have M:=xp w8 (.cells #[.int .i64 num,.int .i64 N,.int .i64 P,.int .i64 Q,.slice Z 0 d,.int .i64 0,.int .i64 R,.int .i64 S,.int .i64 T,.int .i64 W,.int .i64 0] 231);have k9:=K8.after ha;have HN:=zb (rM b f r8 (by omega) _ (k9.gl f hg) k9.rd);have s:=zb (zg H ha);have A:=zb M;have K9:=zb k9;rw[xh b2]at a0;clear K8 H ha M k9 d0;go_wp2_with fail;refine HN.mono ?_
  intro e w9 a;rcases h9:WF r8 with _|⟨c,r9⟩
  ·rw[h9]at a;obtain⟨t,v,rfl⟩:=a.1;refine⟨rfl,?_⟩;show Cl b w X _ _;rw[show X=none by rw[a0.o,h9];rfl];exact K9.broke a
  rw[h9]at a;obtain⟨rfl,b7⟩:=a;have a8:Ha (X=if 1<=c/\c<=2147483647 then some (⟨num,N,P,Q,c,R,S,T,W,0,ps⟩,r9) else none):=by unfold Ha;rw[a0.o,h9];rfl
  have d2:=K9.step b7;have K:b≠w8.heap.size:=λe=>by
   have u:=K9.here;rw[e,A.o]at u;simp at u
  have h:=(b7.block w8.heap.size (Yl K)).trans A;have b4:w9.ownsRow w.heap.size 234 2 (.slice Z 0 d) 0 (zl ps):=zd s (λz hz=>b7.block z (λe=>by
   obtain⟨cs,b0⟩:=zh s hz;exact zt b0 K9.here (by decide) e))
  rw[<-C.o]at h K ⊢;have x4:w9.cell? ⟨j,4,none⟩=some (.slice Z 0 d):=by rw[za h];rfl
  have x5:w9.cell? ⟨j,5,none⟩=some (.int .i64 0):=by rw[za h];rfl
  have f5:=ze h 5;have b5:=xu w9 j 5 _ 231 (.int .i64 c) h;have b6:Ha ((w9.setCell ⟨j,5,none⟩ (.int .i64 c)).heap[j]?=some (.cells (zm ⟨num,N,P,Q,c,R,S,T,W,0,ps⟩ (.slice Z 0 d)) 231 (0,0))):=b5;have m:Ha (Kr b w (w9.setCell ⟨j,5,none⟩ (.int .i64 c)) r9):=⟨d2.kp.setCell (p:=⟨j,5,none⟩) (Or.inr (by show w.heap.size<=j;rw[C.o];exact b9)) _,(xd _ _ _ _ K).trans d2.here⟩
  have e8:Ha ((w9.setCell ⟨j,5,none⟩ (.int .i64 c)).ownsRow w.heap.size 234 2 (.slice Z 0 d) 0 (zl ps)):=zd b4 (λz hz=>xd _ _ _ _ (λe=>by
   obtain⟨cs,b0⟩:=zh b4 hz;exact zt b0 h (by decide) e))
  have y5:(w9.setCell ⟨j,5,none⟩ (.int .i64 c)).cell? ⟨j,5,none⟩=some (.int .i64 c):=by rw[za b6.o];rfl
  have b1:c<9223372036854775808:=by
   unfold WF at h9;split at h9
   ·cases h9
   cases h9;exact Pl.fst_lt _
  clear b5 K9 s A HN b7 d2 b4 h h9;go_wp2_with fail;have c7:Ha ((w9.setCell ⟨j,5,none⟩ (.int .i64 c)).ownsRow w.heap.size 234 2 (.slice Z 0 d) ps.length (zl ps)):=by unfold Ha;rw[b2];exact e8
  refine YM 1 ?_
  rw[xar];by_cases g:1<=c/\c<=2147483647
  ·have c8:Ha (X=some (⟨num,N,P,Q,c,R,S,T,W,0,ps⟩,r9)):=by unfold Ha;rw[a8.o,xh g]
   have i1:(1:Int)<=((c:Nat):Int):=by omega
   have i2:((c:Nat):Int)<=2147483647:=by omega
   have i3:1<=c:=g.1;have i4:c<=2147483647:=g.2;clear g;go_wp2_with fail;refine(zI true _ (m.gu f F)).mono ?_
   rintro e wz ⟨rfl,a⟩;rw[xh rfl]at a;subst a;go_wp2_with fail;go_ret;show Cl b w X _ _;rw[c8.o];exact⟨⟨j,_,rfl,by rw[C.o];exact b9,b6,c7⟩,m⟩
  have a9:Ha (X=none):=by unfold Ha;rw[a8.o,xg g]
  by_cases g1:1<=c
  ·have i1:(1:Int)<=((c:Nat):Int):=by omega
   have i2:¬((c:Nat):Int)<=2147483647:=by omega
   have i3:decide (c<=2147483647)=false:=xy (by omega);have i4:(2147483647:Int)<((c:Nat):Int):=by omega
   clear g;go_wp2_with fail;refine(zI false _ (m.gu f F)).mono ?_
   rintro e wz ⟨rfl,a⟩;rw[xg (by simp)]at a;obtain⟨t,v,rfl⟩:=a;refine⟨rfl,?_⟩;show Cl b w X _ _;rw[a9.o];exact⟨⟨t,v,rfl⟩,m.kp⟩
  have i1:((c:Nat):Int)<1:=by omega
  clear g g1;go_wp2_with fail;refine(zI false _ (m.gu f F)).mono ?_
  rintro e wz ⟨rfl,a⟩;rw[xg (by simp)]at a;obtain⟨t,v,rfl⟩:=a;refine⟨rfl,?_⟩;show Cl b w X _ _;rw[a9.o];exact⟨⟨t,v,rfl⟩,m.kp⟩
 rw[xg b2]at a0;obtain⟨E,c9⟩:∃E,E=ps.length:=⟨_,rfl⟩
 have B:=zb c9;rw[<-c9]at b2 H b3 ⊢;have ha:=VE w8 (.cells #[.int .i64 num,.int .i64 N,.int .i64 P,.int .i64 Q,.slice Z E d,.int .i64 0,.int .i64 R,.int .i64 S,.int .i64 T,.int .i64 W,.int .i64 0] 231);have M:=xp w8 (.cells #[.int .i64 num,.int .i64 N,.int .i64 P,.int .i64 Q,.slice Z E d,.int .i64 0,.int .i64 R,.int .i64 S,.int .i64 T,.int .i64 W,.int .i64 0] 231);have K9:=zb (K8.after ha);have s:=zb (zg H ha);have A:=zb M;have f7:¬((E:Int)==0)=true:=by simp;omega
 have K:b≠w8.heap.size:=λe=>by
  have u:=K9.here;rw[e,M]at u;simp at u
 rw[<-C.o]at A K;clear K8 H ha M c9 d0;go_wp2_with fail;rw[<-C.o];go_loopw [9,46] (λ_ ii wr=>∃k:Nat,ii=.int .i64 k/\k<=E/\wr.heap[j]?=some (.cells (zm ⟨num,N,P,Q,((ps.take k).map Prod.snd).sum,R,S,T,W,0,ps⟩ (.slice Z E d)) 231 (0,0))/\wr.ownsRow w.heap.size 234 2 (.slice Z E d) E (zl ps)/\Kr b w wr r8) (λ_ ii _=>E-(intOf ii).toNat)
 case atStart=>exact⟨0,rfl,by omega,A,s,K9⟩
 clear A s K9;obtain⟨k,rfl,hk,i,r,b8⟩:=hrel;by_cases D:k<E
 ·obtain⟨G,rfl,f4,g1,g2⟩:=Uq r k (by rw[<-B.o];exact D) B;have e4:ps.getD k (0,0)∈ps:=by rw[B.o]at D;simp[Wc,D]
  have f3:=(b3.2.1 _ e4).2;have f1:=LA (ps.take k) (λq hq=>(b3.2.1 q (Yg hq)).2);have f2:(ps.take k).length<=2:=xj (Yw _ _) (by omega);have d4:Ha (((ps.take (k+1)).map Prod.snd).sum=((ps.take k).map Prod.snd).sum+(ps.getD k (0,0)).2):=by
   rw[B.o]at D;unfold Ha;rw[xn D,Yq,List.sum_append];simp only[Wc,xi D,XQ,Xv,xbd,XZ,List.sum_nil,xaN]
  generalize ((ps.take k).map Prod.snd).sum=sk at *;generalize ps.getD k (0,0)=x at *;obtain⟨x1,y⟩:=x;simp only at g1 g2 f3 d4;have hB:=VE wr (.cells #[.int .i64 x1,.int .i64 y] 234);have n:=(hB.block j (zc i)).trans i;have z5:(wr.alloc (.cells #[.int .i64 x1,.int .i64 y] 234)).cell? ⟨j,5,none⟩=some (.int .i64 sk):=by rw[za n];rfl
  have f5:=ze n 5;have g3:sk<=4294967294:=by omega
  have c6:((sk:Int)+(y:Int))=((sk+y:Nat):Int):=by omega
  have d3:Ha (((wr.alloc (.cells #[.int .i64 x1,.int .i64 y] 234)).setCell ⟨j,5,none⟩ (.int .i64 ((sk:Int)+(y:Int)))).heap[j]?=some (.cells (zm ⟨num,N,P,Q,sk+y,R,S,T,W,0,ps⟩ (.slice (some ⟨G,0,none⟩) E d)) 231 (0,0))):=by
   rw[c6];exact xu _ j 5 _ 231 (.int .i64 ((sk+y:Nat):Int)) n
  have e7:Ha (((wr.alloc (.cells #[.int .i64 x1,.int .i64 y] 234)).setCell ⟨j,5,none⟩ (.int .i64 ((sk:Int)+(y:Int)))).ownsRow w.heap.size 234 2 (.slice (some ⟨G,0,none⟩) E d) E (zl ps)):=zd (zg r hB) (λz hz=>xd _ _ _ _ (λe=>by
   obtain⟨cs,b0⟩:=zh (zg r hB) hz;exact zt b0 n (by decide) e))
  have e6:Ha (Kr b w ((wr.alloc (.cells #[.int .i64 x1,.int .i64 y] 234)).setCell ⟨j,5,none⟩ (.int .i64 ((sk:Int)+(y:Int)))) r8):=by
   have k1:=b8.after hB;exact⟨k1.kp.setCell (p:=⟨j,5,none⟩) (Or.inr (by show w.heap.size<=j;rw[C.o];exact b9)) _,(xd _ _ _ _ K).trans k1.here⟩
  have f9:=zc i;have c5:=xp wr (.cells #[.int .i64 x1,.int .i64 y] 234);have d1:(wr.alloc (.cells #[.int .i64 x1,.int .i64 y] 234)).cell? ⟨wr.heap.size,1,none⟩=some (.int .i64 y):=by rw[za c5];rfl
  clear i r b8 n hB e4 f1 f2 c6 c5;go_wp2_with fail;generalize (wr.alloc (.cells #[.int .i64 x1,.int .i64 y] 234))=wb at *;go_region;go_wp2_with fail;go_roundw
  case rel=>exact⟨k+1,by go_num,by omega,by rw[d4.o];exact((xm _ _).drew.block j (zc d3)).trans d3,zg e7 ((xm _ _).drew),e6.after ((xm _ _).drew)⟩
  simp[intOf];omega
 have e9:k=E:=by omega
 subst e9;have e5:ps.take k=ps:=by rw[B.o];exact Xs
 rw[e5]at i;obtain⟨c,b1⟩:∃c,c=(ps.map Prod.snd).sum:=⟨_,rfl⟩
 have g0:c<=4294967294:=by
  have u:=LA ps (λq hq=>(b3.2.1 q hq).2);have J:ps.length<=2:=by rw[<-B.o];exact b3.1
  rw[b1];omega
 have a8:Ha (X=if 1<=c/\c<=2147483647 then some (⟨num,N,P,Q,c,R,S,T,W,0,ps⟩,r8) else none):=by unfold Ha;rw[a0.o,b1];rfl
 rw[<-b1]at i;have b6:=zb i;have m:=zb b8;have c7:Ha (wr.ownsRow w.heap.size 234 2 (.slice Z k d) ps.length (zl ps)):=by unfold Ha;rw[<-B.o];exact r
 have y5:wr.cell? ⟨j,5,none⟩=some (.int .i64 c):=by rw[za i];rfl
 clear i r b8 e5 b1 D;by_cases g:1<=c/\c<=2147483647
 ·have c8:Ha (X=some (⟨num,N,P,Q,c,R,S,T,W,0,ps⟩,r8)):=by unfold Ha;rw[a8.o,xh g]
  have i1:(1:Int)<=((c:Nat):Int):=by omega
  have i2:((c:Nat):Int)<=2147483647:=by omega
  have i3:1<=c:=g.1;have i4:c<=2147483647:=g.2;clear g;go_wp2_with fail;refine(zI true _ (m.gu f F)).mono ?_
  rintro e wz ⟨rfl,a⟩;rw[xh rfl]at a;subst a;go_wp2_with fail;go_ret;show Cl b w X _ _;rw[c8.o];exact⟨⟨j,_,rfl,by rw[C.o];exact b9,b6,c7⟩,m⟩
 have a9:Ha (X=none):=by unfold Ha;rw[a8.o,xg g]
 by_cases g1:1<=c
 ·have i1:(1:Int)<=((c:Nat):Int):=by omega
  have i2:¬((c:Nat):Int)<=2147483647:=by omega
  have i3:decide (c<=2147483647)=false:=xy (by omega);have i4:(2147483647:Int)<((c:Nat):Int):=by omega
  clear g;go_wp2_with fail;refine(zI false _ (m.gu f F)).mono ?_
  rintro e wz ⟨rfl,a⟩;rw[xg (by simp)]at a;obtain⟨t,v,rfl⟩:=a;refine⟨rfl,?_⟩;show Cl b w X _ _;rw[a9.o];exact⟨⟨t,v,rfl⟩,m.kp⟩
 have i1:((c:Nat):Int)<1:=by omega
 clear g g1;go_wp2_with fail;refine(zI false _ (m.gu f F)).mono ?_
 rintro e wz ⟨rfl,a⟩;rw[xg (by simp)]at a;obtain⟨t,v,rfl⟩:=a;refine⟨rfl,?_⟩;show Cl b w X _ _;rw[a9.o];exact⟨⟨t,v,rfl⟩,m.kp⟩
structure PW(N:Nat)(w:World)(S:Nat)(v:Value)(bs:List Nat)(pvs:List Value)(ls:List L):Prop where
 c1:w.cell? ⟨S,1,none⟩=some v
 row:w.ownsRow 0 191 1 v bs.length (aV bs)
 len:bs.length=ls.length
 plen:pvs.length=ls.length
 lot:∀i,i<ls.length->w.heap[bs.getD i 0]?=some (.cells (zm (ls.getD i L0) (pvs.getD i default)) 231 (0,0))
 par:∀i,i<ls.length->Par w (pvs.getD i default) (ls.getD i L0).par
 nodup:bs.Nodup
 ids:∀l∈ls,l.id<=2147483647/\l.gd<=2147483647/\l.place<=30/\l.ex<=2147483647
 pars:∀l∈ls,l.par.length<=2/\∀p∈l.par,p.1<=2147483647/\p.2<=2147483647
 giv:∀l∈ls,l.gv<=N
 room:ls.length<=30
variable {bs:List Nat}{ls:List L}{pvs:List Value}
def PW.shape(h:PW N w S v bs pvs ls):∃a cap,v=.slice a ls.length cap/\(0<ls.length->∃G,a=some ⟨G,0,none⟩/\∀i,i<ls.length->w.cell? ⟨G,i,none⟩=some (.pointer (some ⟨bs.getD i 0,0,none⟩))):=by
 obtain⟨a,cap,d⟩:=zK h.row;refine⟨a,cap,by rw[<-h.len];exact d,λk=>?_⟩;obtain⟨g,e,b,_,_⟩:=zG h.row (by rw[h.len];exact k);rw[d]at b
 cases b;refine⟨g,rfl,λi j=>?_⟩
 have f:=h.row;rw[d]at f;rw[f.cellAt i (by rw[h.len];omega)];have c:i<bs.length:=by rw[h.len];exact j
 simp[aV,Wc,c]
def PW.cl(h:PW N w S v bs pvs ls)(i:Nat)(a:i<ls.length)(j:Nat):w.cell? ⟨bs.getD i 0,j,none⟩=(zm (ls.getD i L0) (pvs.getD i default))[j]?:=za (h.lot i a) j
def pY(h:PW N w S v bs pvs ls)(n:Nat)(H:n<=2147483647):Calls prog 148 #[.pointer (some ⟨S,0,none⟩),.int .i64 n] w λe w'=>e=.returned (zJ bs ls n)/\w'=w:=by
 obtain⟨a,cap,C,f⟩:=h.shape;have c1:=h.c1;rw[C]at c1;have y:=h.room;have A:=zb h;clear h C;go_enter func148,ntmps148;go_wp2_with fail;go_loop [6,12] (λ_ i=>∃k:Nat,k<=ls.length/\i=.int .i64 k/\(∀j,j<k->(ls.getD j L0).id≠n)) (λ_ i=>ls.length-(intOf i).toNat)
 case atStart=>exact⟨0,by omega,rfl,λj h=>absurd h (by omega)⟩
 obtain⟨k,F,rfl,g⟩:=hrel;by_cases d:k<ls.length
 ·obtain⟨G,B,c⟩:=f (by omega);rw[B];have s:=c k d;have p:w.cell? ⟨bs.getD k 0,0,none⟩=some (.int .i64 ((ls.getD k L0).id:Int)):=by rw[A.o.cl k d 0];rfl
  have t:(ls.getD k L0).id<=2147483647:=(A.ids _ (zf d)).1;obtain⟨m,r⟩:=Ww ((ls.getD k L0).id);obtain⟨b,z⟩:=Ww (bs.getD k 0);rw[<-r.o]at p t;rw[<-z.o]at p s;clear c B f;by_cases l:m=n
  ·have x:((m:Int)==(n:Int))=true:=aR l;have q:Ha (zJ bs ls n=.pointer (some ⟨b,0,none⟩)):=by
    have:=fV d g (by rw[<-r.o];exact l)
    unfold Ha zJ;rw[this,xh d,<-z.o]
   clear l;go_wp2_with fail;go_ret;exact⟨by rw[q.o];rfl,rfl⟩
  have x:((m:Int)==(n:Int))=false:=ZT l;have D:=zb l;clear l;go_wp2_with fail;go_round
  case rel=>
   refine⟨k+1,by omega,by go_num,?_⟩;intro j E;by_cases u:j=k
   ·subst u;rw[<-r.o];exact D
   exact g j (by omega)
  simp[intOf];omega
 obtain rfl:k=ls.length:=by omega
 have q:Ha (zJ bs ls n=.pointer none):=by
  have:=wP g
  unfold Ha zJ;rw[this,xg (by omega)]
 clear f d;go_wp2_with fail;go_ret;exact⟨by rw[q.o];rfl,rfl⟩
def Wg(l:L)(n:Nat):L:={ l with gv:=l.gv+n }
def Xc(l:L):List (Nat×Nat)->Nat->List L->Option (List L×Nat)
 |[],e,ls=>some (ls,e)
 |p::ps,e,ls=>if Wj p.1 ls<ls.length/\(ls.getD (Wj p.1 ls) L0).gd=l.gd/\(ls.getD (Wj p.1 ls) L0).place<l.place then Xc l ps (min e (ls.getD (Wj p.1 ls) L0).ex) (ls.set (Wj p.1 ls) (Wg (ls.getD (Wj p.1 ls) L0) p.2)) else none
def Xd(ls:List L)(i:Nat):Option (List L) :=
 if (ls.getD i L0).par.length=0 then some ls else (Xc (ls.getD i L0) (ls.getD i L0).par 2147483647 ls).bind λr=>if (ls.getD i L0).ex=r.2 then some r.1 else none
def PW.below(h:PW N w S v bs pvs ls)(b:Below w.heap.size w w'):PW N w' S v bs pvs ls:={
 c1:=(b.cell (p:=⟨S,1,none⟩) (bY h.c1)).trans h.c1
 row:=zg h.row b
 len:=h.len
 plen:=h.plen
 lot:=λi a=>(b.block _ (zc (h.lot i a))).trans (h.lot i a)
 par:=λi a=>(h.par i a).congr (λq d=>by obtain⟨e,c⟩:=(h.par i a).blk d;exact b.block q (zc c))
 nodup:=h.nodup
 ids:=h.ids
 pars:=h.pars
 giv:=h.giv
 room:=h.room}
def PW.give(h:PW N w S v bs pvs ls){j n:Nat}(t:j<ls.length)(K:n<=2147483647):PW (N+2147483647) (w.setCell ⟨bs.getD j 0,10,none⟩ (.int .i64 (((ls.getD j L0).gv+n:Nat):Int))) S v bs pvs (ls.set j (Wg (ls.getD j L0) n)):=by
 have b:=h.lot j t;obtain⟨a,cap,J,_⟩:=h.shape;have E:S≠bs.getD j 0:=λe=>by
  have y:=h.c1;rw[e,za b,J]at y;simp[zm]at y
 have c:∀k,k≠bs.getD j 0->(w.setCell ⟨bs.getD j 0,10,none⟩ (.int .i64 (((ls.getD j L0).gv+n:Nat):Int))).heap[k]?=w.heap[k]?:=λk G=>xd _ _ _ _ G
 have r:=xu w (bs.getD j 0) 10 _ 231 (.int .i64 (((ls.getD j L0).gv+n:Nat):Int)) b;have m:∀i,i<ls.length->(ls.set j (Wg (ls.getD j L0) n)).getD i L0=if i=j then Wg (ls.getD j L0) n else ls.getD i L0:=λi f=>by
  by_cases e:i=j
  ·subst e;rw[xh rfl];simp[Wc,f]
  rw[xg e];simp[Wc,XB,Yl e]
 have d:∀{P:L->Prop},(∀l∈ls,P l)->P (Wg (ls.getD j L0) n)->∀l∈ls.set j (Wg (ls.getD j L0) n),P l:=λy D l x=>by
  rcases XU x with x|rfl
  ·exact y l x
  exact D
 have z:=h.ids (ls.getD j L0) (zf t);have A:=h.pars (ls.getD j L0) (zf t);refine⟨(xo (a:=⟨S,1,none⟩) (c S E)).trans h.c1,zd h.row (λg F=>c g (λe=>?_)),by rw[xq];exact h.len,by rw[xq];exact h.plen,λi f=>?_,λi f=>?_,h.nodup,d h.ids z,d h.pars A,?_,by rw[xq];exact h.room⟩
 ·obtain⟨C,p⟩:=zh h.row F;exact zt p b (by decide) e
 ·rw[xq]at f;rw[m i f];by_cases e:i=j
  ·subst e;rw[xh rfl];exact r
  rw[xg e,c _ (λq=>e ?_)]
  ·exact h.lot i f
  have s:i<bs.length:=by rw[h.len];exact f
  have u:j<bs.length:=by rw[h.len];exact t
  have:=xce (i:=i) (j:=j) (h₀:=s) (h₁:=u) h.nodup
  exact this.1 (by simpa [Wc,s,u] using q)
 ·rw[xq]at f;have B:Par w (pvs.getD i default) ((ls.set j (Wg (ls.getD j L0) n)).getD i L0).par:=by
   rw[m i f];by_cases e:i=j
   ·subst e;rw[xh rfl];exact h.par i f
   rw[xg e];exact h.par i f
  exact B.congr (λq H=>c q (λe=>by
   obtain⟨C,p⟩:=B.blk H;exact zt p b (by decide) e))
 have:=h.giv _ (zf t)
 refine d (λl x=>?_) ?_
 ·have:=h.giv l x;omega
 show(ls.getD j L0).gv+n<=_;omega
def Vz(N:Nat)(w:World)(S:Nat)(v:Value)(bs:List Nat)(pvs:List Value)(X:Option (List L))(e:Ending)(w':World):Prop:=match X with
 |some ls=>e=.returned (.tuple #[])/\PW N w' S v bs pvs ls/\Kp (λk=>k∈bs) w w'
 |none=>(∃t v,e=.panicked [{ v:=.iface t v,recovered:=false }])/\Kp (λk=>k∈bs) w w'
def LJ(h:PW N w S v bs pvs ls)(hN:N<=1000000000000)(i:Nat)(hi:i<ls.length)(hu:Gu w)(g5:∀k∈bs,k≠4):Calls prog 195 #[.pointer (some ⟨S,0,none⟩),.pointer (some ⟨bs.getD i 0,0,none⟩)] w (Vz (N+4294967294) w S v bs pvs (Xd ls i)):=by
 obtain⟨X,HX⟩:=Ww (Xd ls i);rw[<-HX.o];have z:=h.lot i hi;have M:=h.par i hi;have b6:=h.ids _ (zf hi);have d5:=h.pars _ (zf hi);obtain⟨pa,b7,a5⟩:=Prs.isSl M;obtain⟨l,HL⟩:=Ww (ls.getD i L0);obtain⟨bl,b8⟩:=Ww (bs.getD i 0);rw[<-HL.o]at z M b6 d5 a5;rw[<-b8.o]at z ⊢;rw[a5]at z M;have x4:w.cell? ⟨bl,4,none⟩=some (.slice pa l.par.length b7):=by rw[za z];rfl
 obtain⟨np,b1⟩:∃np,np=l.par.length:=⟨_,rfl⟩
 have a9:=zb b1;rw[<-b1]at x4 d5;have e7:=zb h;have f3:Ha (pvs.getD i default=.slice pa l.par.length b7):=a5;by_cases d4:np=0
 ·have c7:Ha (X=some ls):=by unfold Ha;rw[HX.o,Xd,<-HL.o,<-a9.o,xh d4]
  subst d4;clear h z M a5 b1;go_enter func195,ntmps195;go_wp2_with fail;go_returns;show Vz _ w S v bs pvs X _ _;rw[c7.o];refine⟨rfl,?_,Kp.refl _ _⟩;have q:=e7.o;exact⟨q.c1,q.row,q.len,q.plen,q.lot,q.par,q.nodup,q.ids,q.pars,λl hl=>xj (q.giv l hl) (by omega),q.room⟩
 have h5:¬((np:Int)==0)=true:=by simp;omega
 have P:Ha (X=(Xc l l.par 2147483647 ls).bind λr=>if l.ex=r.2 then some r.1 else none):=by unfold Ha;rw[HX.o,Xd,<-HL.o,<-a9.o,xg d4]
 clear h z a5 b1;go_enter func195,ntmps195;go_wp2_with fail;obtain⟨Y,HY⟩:=Ww (Xc l l.par 2147483647 ls);rw[<-HY.o]at P;go_loopw [4,6,7,19] (λev _ _ ii wr=>∃(k e:Nat) (b:List L),ii=.int .i64 k/\k<=np/\ev=.int .i64 e/\e<=2147483647/\b.length=ls.length/\b.getD i L0=l/\PW (N+k*2147483647) wr S v bs pvs b/\Kp (λk=>k∈bs) w wr/\Xc l (l.par.drop k) e b=Y) (λ_ _ _ ii _=>np-(intOf ii).toNat)
 case atStart=>exact⟨0,2147483647,ls,rfl,by omega,rfl,by omega,rfl,HL.symm,by simpa using e7.o,Kp.refl _ _,by rw[xaK];exact HY.symm⟩
 obtain⟨k,e,b,rfl,hk,rfl,he,d2,Z,G,W,Q⟩:=hrel;have c9:i<b.length:=by rw[d2];exact hi
 have c6:Ha (Gu wr):=by
  obtain⟨t,v,H⟩:=hu;exact⟨t,v,(xo (a:=⟨4,0,none⟩) (W.block _ (bY H) (λhm=>g5 _ hm rfl))).trans H⟩
 by_cases f8:k<np
 ·have b2:=G.par i c9;rw[Z,f3.o]at b2;have T:k<l.par.length:=by rw[<-a9.o];exact f8
  obtain⟨q,g8,cs,d7,d8,d9⟩:=b2.resolve_left (λh=>by rw[h.2]at T;simp at T);obtain⟨g1,g2⟩:=d9 k T;rw[<-za d8]at g1 g2;have g4:pa=some ⟨q,0,none⟩:=by cases d7;rfl
  subst g4;rw[show 2*k=k*2 by omega]at g1 g2;have g3:l.par.getD k (0,0)∈l.par:=by simp[Wc,T]
  have a4:=d5.2 _ g3;have c8:l.par.drop k=l.par.getD k (0,0)::l.par.drop (k+1):=by rw[YW T];simp[Wc,T]
  rw[c8,Xc]at Q;generalize l.par.getD k (0,0)=pp at *;obtain⟨g,j⟩:=pp;simp only at g1 g2 a4 Q;have hB:=VE wr (.cells #[.int .i64 g,.int .i64 j] 234);have y:=xp wr (.cells #[.int .i64 g,.int .i64 j] 234);have f:=G.below hB;have HF:=zb (pY f g a4.1);have a0:=zb (W.after hB);have b0:Ha (Gu (wr.alloc (.cells #[.int .i64 g,.int .i64 j] 234))):=by
   obtain⟨t,v,H⟩:=c6.o;exact⟨t,v,(hB.cell (bY H)).trans H⟩
  have d0:(wr.alloc (.cells #[.int .i64 g,.int .i64 j] 234)).cell? ⟨wr.heap.size,0,none⟩=some (.int .i64 g):=by rw[za y];rfl
  have d1:(wr.alloc (.cells #[.int .i64 g,.int .i64 j] 234)).cell? ⟨wr.heap.size,1,none⟩=some (.int .i64 j):=by rw[za y];rfl
  have s:=f.lot i c9;rw[Z,<-b8.o]at s;by_cases hj:Wj g b<b.length
  ·obtain⟨D,a7⟩:=Ww (bs.getD (Wj g b) 0);obtain⟨c,a8⟩:=Ww (b.getD (Wj g b) L0);have E:=f.lot _ hj;rw[<-a8.o,<-a7.o]at E;have a2:zJ bs b g=.pointer (some ⟨D,0,none⟩):=by unfold zJ;rw[xh hj,<-a7.o]
   rw[a2]at HF;have b5:=f.ids _ (zf hj);have f6:=f.giv _ (zf hj);rw[<-a8.o]at b5 f6 Q;have b4:=zb f;have f1:D∈bs:=by
    rw[a7.o];have:Wj g b<bs.length:=by rw[f.len];exact hj
    simp[Wc,this]
   have h4:wr.heap.size≠D:=λe=>by rw[<-e,y]at E;cases E
   have b3:=zb E;have x1:=za E 1;have x3:=za E 3;have y1:=za s 1;have y3:=za s 3;have HJ:=zb hj;have e0:=zb y;clear G W f y hB s d7 d8 d9 b2 c8 a2 E hj;go_wp2_with (go_at_call 148;refine HF.mono ?_;rintro _ w3 ⟨rfl,rfl⟩);have b9:Ha (Calls prog 175 #[.bool false] (wr.alloc (.cells #[.int .i64 g,.int .i64 j] 234)).drew λe w'=>w'=(wr.alloc (.cells #[.int .i64 g,.int .i64 j] 234)).drew/\∃t v,e=.panicked [{ v:=.iface t v,recovered:=false }]):=by
    refine(zI false _ (show Gu (wr.alloc (.cells #[.int .i64 g,.int .i64 j] 234)).drew from b0)).mono ?_
    rintro e w' ⟨h1,h2⟩;rw[xg (by simp)]at h2;exact⟨h1,h2⟩
   have e4:Ha (Calls prog 175 #[.bool true] (wr.alloc (.cells #[.int .i64 g,.int .i64 j] 234)).drew λe w'=>w'=(wr.alloc (.cells #[.int .i64 g,.int .i64 j] 234)).drew/\e=.returned (.tuple #[])):=by
    refine(zI true _ (show Gu (wr.alloc (.cells #[.int .i64 g,.int .i64 j] 234)).drew from b0)).mono ?_
    rintro e w' ⟨h1,h2⟩;rw[xh rfl]at h2;exact⟨h1,h2⟩
   generalize (wr.alloc (.cells #[.int .i64 g,.int .i64 j] 234))=wb at *;obtain⟨B,u⟩:∃B:World->Prop,∀w',B w'↔(w'.cell? ⟨D,1,none⟩=some (.int .i64 c.gd)/\w'.cell? ⟨D,3,none⟩=some (.int .i64 c.place)/\w'.cell? ⟨bl,1,none⟩=some (.int .i64 l.gd)/\w'.cell? ⟨bl,3,none⟩=some (.int .i64 l.place)):=⟨_,λ_=>xaw⟩
   have z1:∀x:Wd B,x.w.cell? ⟨D,1,none⟩=some (.int .i64 c.gd):=λx=>((u _).1 x.h).1
   have z2:∀x:Wd B,x.w.cell? ⟨D,3,none⟩=some (.int .i64 c.place):=λx=>((u _).1 x.h).2.1
   have z3:∀x:Wd B,x.w.cell? ⟨bl,1,none⟩=some (.int .i64 l.gd):=λx=>((u _).1 x.h).2.2.1
   have z4:∀x:Wd B,x.w.cell? ⟨bl,3,none⟩=some (.int .i64 l.place):=λx=>((u _).1 x.h).2.2.2
   have A:B wb.drew:=(u _).2 ⟨x1,x3,y1,y3⟩;clear u;by_cases a3:c.gd=l.gd
   ·have f5:=aR a3;by_cases d6:c.place<l.place
    ·have f0:(c.place:Int)<(l.place:Int):=by omega
     have a1:Ha (Xc l (l.par.drop (k+1)) (min e c.ex) (b.set (Wj g b) (Wg c j))=Y):=by
      unfold Ha;rw[<-Q,xh ⟨HJ.o,a3,d6⟩]
     clear Q a3 d6;clear x1 x3 y1 y3;haveI hinh:Inhabited (Wd B):=⟨⟨_,A⟩⟩
     refine zw (n:=8) (m:=1) 24 24 (λw'=>∃x:Wd B,w'=x.w) (by kernel_rfl) (by kernel_rfl) (λ_ _ d _ _ h=>by cases d<;>exact h) (by kernel_rfl) (by kernel_rfl) rfl rfl ⟨⟨_,A⟩,rfl⟩ ?_
     clear A;dsimp only[List.take];repeat (go_big_quiet_step (fail))
     refine yi ?_
     refine zR (i:=24) (by kernel_rfl) rfl rfl (λK hK=>?_);go_wp2_with (go_at_call 175;refine e4.mono ?_;rintro _ w4 ⟨rfl,rfl⟩);refine hK _ _ (by first|exact Or.inl rfl|exact Or.inl trivial|trivial) ?_
     refine bO (by kernel_rfl) ?_
     clear hK z1 z2 z3 z4;have e9:Wj g b≠i:=λe=>by
      have:c=l:=by rw[a8.o,e];exact Z
      rw[this]at f0;omega
     have e5:=zb (b4.below ((xm _ _).drew:Below _ wb wb.drew));have e1:=zb (a0.after ((xm _ _).drew));have g9:wb.drew.cell? ⟨wr.heap.size,1,none⟩=some (.int .i64 j):=d1;have J:wb.drew.heap[D]?=some (.cells (zm c (pvs.getD (Wj g b) default)) 231 (0,0)):=b3.o;clear d1 d0 HF e4 b9 a0 b0 b4 b3 e0;generalize wb.drew=wd at *;have h0:wd.cell? ⟨D,10,none⟩=some (.int .i64 c.gv):=by rw[za J];rfl
     have h3:=ze J 10;have a6:=xu wd D 10 _ 231 (.int .i64 ((c.gv:Int)+(j:Int))) J;have y2:(wd.setCell ⟨D,10,none⟩ (.int .i64 ((c.gv:Int)+(j:Int)))).cell? ⟨D,2,none⟩=some (.int .i64 c.ex):=by rw[za a6];rfl
     have e6:Ha (PW (N+(k+1)*2147483647) (wd.setCell ⟨D,10,none⟩ (.int .i64 ((c.gv:Int)+(j:Int)))) S v bs pvs (b.set (Wj g b) (Wg c j))):=by
      have h1:=e5.give HJ a4.2;rw[<-a8.o,<-a7.o,Int.natCast_add]at h1;unfold Ha;rw[show N+(k+1)*2147483647=N+k*2147483647+2147483647 by omega];exact h1
     have e2:Ha (Kp (λk=>k∈bs) w (wd.setCell ⟨D,10,none⟩ (.int .i64 ((c.gv:Int)+(j:Int))))):=e1.setCell (p:=⟨D,10,none⟩) (Or.inl f1) _;have g6:c.gv<=1100000000000:=by omega
     have h7:=b5.2.2.2;clear a6 J e5 e1;by_cases d3:e<=c.ex
     ·have f9:(e:Int)<=(c.ex:Int):=by omega
      have g0:¬(c.ex:Int)<(e:Int):=by omega
      have c5:Ha (min e c.ex=e):=xcr d3;clear d3;go_wp2_with fail;go_region;go_wp2_with fail;go_roundw
      case rel=>
       refine⟨k+1,e,b.set (Wj g b) (Wg c j),by go_num,by omega,rfl,by omega,by rw[xq];exact d2,?_,e6.below ((xm _ _).drew),e2.after ((xm _ _).drew),?_⟩
       ·rw[<-Z];simp[Wc,XB,e9]
       rw[<-a1.o,c5.o]
      simp[intOf];omega
     have f9:¬(e:Int)<=(c.ex:Int):=by omega
     have g0:(c.ex:Int)<(e:Int):=by omega
     have c5:Ha (min e c.ex=c.ex):=Nat.min_eq_right (by omega);clear d3;go_wp2_with fail;go_region;go_wp2_with fail;go_roundw
     case rel=>
      refine⟨k+1,c.ex,b.set (Wj g b) (Wg c j),by go_num,by omega,rfl,by omega,by rw[xq];exact d2,?_,e6.below ((xm _ _).drew),e2.after ((xm _ _).drew),?_⟩
      ·rw[<-Z];simp[Wc,XB,e9]
      rw[<-a1.o,c5.o]
     simp[intOf];omega
    have f0:¬(c.place:Int)<(l.place:Int):=by omega
    have g7:(l.place:Int)<=(c.place:Int):=by omega
    have C:Ha (X=none):=by
     unfold Ha;rw[P.o,<-Q,xg (λH=>d6 H.2.2)];rfl
    clear Q;clear x1 x3 y1 y3;haveI hinh:Inhabited (Wd B):=⟨⟨_,A⟩⟩
    refine zw (n:=8) (m:=1) 24 24 (λw'=>∃x:Wd B,w'=x.w) (by kernel_rfl) (by kernel_rfl) (λ_ _ d _ _ h=>by cases d<;>exact h) (by kernel_rfl) (by kernel_rfl) rfl rfl ⟨⟨_,A⟩,rfl⟩ ?_
    clear A;dsimp only[List.take];repeat (go_big_quiet_step (fail))
    refine yi ?_
    refine zR (i:=24) (by kernel_rfl) rfl rfl (λK hK=>?_);go_wp2_with (go_at_call 175;refine b9.mono ?_;rintro _ w4 ⟨rfl,t,v',rfl⟩);refine⟨rfl,?_⟩;show Vz _ w S v bs pvs X _ _;rw[C.o];exact⟨⟨t,v',rfl⟩,a0.after ((xm _ _).drew)⟩
   have f5:=ZT a3;have C:Ha (X=none):=by
    unfold Ha;rw[P.o,<-Q,xg (λH=>a3 H.2.1)];rfl
   clear Q;clear x1 x3 y1 y3;haveI hinh:Inhabited (Wd B):=⟨⟨_,A⟩⟩
   refine zw (n:=8) (m:=1) 24 24 (λw'=>∃x:Wd B,w'=x.w) (by kernel_rfl) (by kernel_rfl) (λ_ _ d _ _ h=>by cases d<;>exact h) (by kernel_rfl) (by kernel_rfl) rfl rfl ⟨⟨_,A⟩,rfl⟩ ?_
   clear A;dsimp only[List.take];repeat (go_big_quiet_step (fail))
   refine yi ?_
   refine zR (i:=24) (by kernel_rfl) rfl rfl (λK hK=>?_);go_wp2_with (go_at_call 175;refine b9.mono ?_;rintro _ w4 ⟨rfl,t,v',rfl⟩);refine⟨rfl,?_⟩;show Vz _ w S v bs pvs X _ _;rw[C.o];exact⟨⟨t,v',rfl⟩,a0.after ((xm _ _).drew)⟩
  have C:Ha (X=none):=by
   unfold Ha;rw[P.o,<-Q,xg (λH=>hj H.1)];rfl
  have a2:zJ bs b g=.pointer none:=by unfold zJ;rw[xg hj]
  rw[a2]at HF;clear G W f y hB s Q d7 d8 d9 b2 c8 hj a2;go_wp2_with (go_at_call 148;refine HF.mono ?_;rintro _ w3 ⟨rfl,rfl⟩);have f2:Ha (∀wz,Below (wr.alloc (.cells #[.int .i64 g,.int .i64 j] 234)).heap.size (wr.alloc (.cells #[.int .i64 g,.int .i64 j] 234)) wz->Calls prog 175 #[.bool false] wz λe w'=>w'=wz/\∃t v,e=.panicked [{ v:=.iface t v,recovered:=false }]):=λwz hz=>by
   obtain⟨t,v,H⟩:=b0.o;refine(zI false wz ⟨t,v,(hz.cell (bY H)).trans H⟩).mono ?_
   rintro e w' ⟨h1,h2⟩;rw[xg (by simp)]at h2;exact⟨h1,h2⟩
  generalize (wr.alloc (.cells #[.int .i64 g,.int .i64 j] 234))=wb at *;obtain⟨B,u⟩:∃B:World->Prop,B wb.drew:=⟨λ_=>True,trivial⟩
  haveI hinh:Inhabited (Wd B):=⟨⟨_,u⟩⟩
  refine zw (n:=8) (m:=1) 24 24 (λw'=>∃x:Wd B,w'=x.w) (by kernel_rfl) (by kernel_rfl) (λ_ _ d _ _ h=>by cases d<;>exact h) (by kernel_rfl) (by kernel_rfl) rfl rfl ⟨⟨_,u⟩,rfl⟩ ?_
  clear u;dsimp only[List.take];repeat (go_big_quiet_step (fail))
  refine yi ?_
  refine zR (i:=24) (by kernel_rfl) rfl rfl (λK hK=>?_);go_wp2_with (go_at_call 175;refine(f2 _ ((xm _ _).drew)).mono ?_;rintro _ w4 ⟨rfl,t,v',rfl⟩);refine⟨rfl,?_⟩;show Vz _ w S v bs pvs X _ _;rw[C.o];exact⟨⟨t,v',rfl⟩,a0.after ((xm _ _).drew)⟩
 have f7:k=np:=by omega
 subst f7;have a1:Ha (Y=some (b,e)):=by
  unfold Ha;rw[<-Q,a9.o,xcd];rfl
 have F:=G.lot i c9;rw[Z,<-b8.o]at F;have x2:wr.cell? ⟨bl,2,none⟩=some (.int .i64 l.ex):=by rw[za F];rfl
 have h6:=b6.2.2.2;have e8:=zb G;have e3:=zb W;clear G W F Q;by_cases R:l.ex=e
 ·have f4:=aR R;have c7:Ha (X=some b):=by unfold Ha;rw[P.o,a1.o];show(if l.ex=e then some b else none)=_;rw[xh R]
  clear R;go_wp2_with fail;refine(zI true wr c6).mono ?_
  rintro _ wz ⟨rfl,hm⟩;rw[xh rfl]at hm;subst hm;go_wp2_with fail;go_end0;show Vz _ w S v bs pvs X _ _;rw[c7.o];have q:=e8.o;exact⟨rfl,⟨q.c1,q.row,q.len,q.plen,q.lot,q.par,q.nodup,q.ids,q.pars,λl hl=>xj (q.giv l hl) (by omega),q.room⟩,e3⟩
 have f4:=ZT R;have C:Ha (X=none):=by unfold Ha;rw[P.o,a1.o];show(if l.ex=e then some b else none)=_;rw[xg R]
 clear R;go_wp2_with fail;refine(zI false wr c6).mono ?_
 rintro _ wz ⟨rfl,hm⟩;rw[xg (by simp)]at hm;obtain⟨t,v',rfl⟩:=hm;refine⟨rfl,?_⟩;show Vz _ w S v bs pvs X _ _;rw[C.o];exact⟨⟨t,v',rfl⟩,e3⟩
def Pj:(prog.info? 191).map (λi=>(i.zero,i.size,i.bytes))=some (some (.pointer none),1,8):=by kernel_rfl
def UJ:prog.underlying 115=some (.slice 191):=by kernel_rfl
def rL{num com:Nat}{x:L}(h:cT num com l=some (x,r)):x.id=num/\x.gd<=2147483647/\x.ex<=2147483647/\(1<=x.place/\x.place<=com)/\(x.par.length<=2/\∀p∈x.par,p.1<=2147483647/\p.2<=2147483647)/\x.gv=0/\r.length<=l.length:=by
 unfold cT at h;rcases h1:WG 1 2147483647 l with _|⟨A,g⟩
 ·rw[h1]at h;cases h
 rcases h2:WG 0 2147483647 g with _|⟨B,i⟩
 ·simp only[h1,h2,xk,XF]at h;cases h
 rcases h3:WG 1 com i with _|⟨C,j⟩
 ·simp only[h1,h2,h3,xk,XF]at h;cases h
 rcases h4:WG 0 2147483647 j with _|⟨D,k⟩
 ·simp only[h1,h2,h3,h4,xk,XF]at h;cases h
 rcases h5:WG 0 2147483647 k with _|⟨E,m⟩
 ·simp only[h1,h2,h3,h4,h5,xk,XF]at h;cases h
 rcases h6:WG 0 2147483647 m with _|⟨F,n⟩
 ·simp only[h1,h2,h3,h4,h5,h6,xk,XF]at h;cases h
 rcases h7:WG 0 2147483647 n with _|⟨G,q⟩
 ·simp only[h1,h2,h3,h4,h5,h6,h7,xk,XF]at h;cases h
 rcases h8:fA q with _|⟨ps,c⟩
 ·simp only[h1,h2,h3,h4,h5,h6,h7,h8,xk,XF]at h;cases h
 simp only[h1,h2,h3,h4,h5,h6,h7,h8,xk]at h;have b:=mS h8;obtain⟨_,d,s⟩:=zv h1;obtain⟨_,e,t⟩:=zv h2;obtain⟨c3,f,u⟩:=zv h3;obtain⟨_,_,v⟩:=zv h4;obtain⟨_,_,w⟩:=zv h5;obtain⟨_,_,y⟩:=zv h6;obtain⟨_,_,z⟩:=zv h7
 cases a:(if ps.length=0 then WF c else some ((ps.map Prod.snd).sum,c)) with
 |none=>rw[a]at h;cases h
 |some gt=>
  rw[a]at h;simp only[xk]at h;split at h
  ·cases h;refine⟨rfl,d,e,⟨c3,f⟩,⟨b.1,b.2.1⟩,rfl,?_⟩
   have:gt.2.length<=c.length:=by
    split at a
    ·exact xT a
    cases a;exact xe _
   have:=b.2.2
   omega
  cases h
def xV(c:Nat):Nat->Nat->List (Option L)->List UInt8->Option (List (Option L)×List UInt8)
 |0,_,sl,l=>some (sl,l)
 |k+1,p,sl,l=>(WG (p+1) 2147483647 l).bind λa=>(cT a.1 c a.2).bind λx=>if sl.getD (x.1.place-1) none=none then xV c k a.1 (sl.set (x.1.place-1) (some x.1)) x.2 else none
def Xb:Nat->Nat->List L->Option (List L)
 |0,_,ls=>some ls
 |k+1,i,ls=>(Xd ls i).bind λls'=>Xb k (i+1) ls'
def cH(l:List UInt8):Option (List L×List UInt8) :=
 (WG 0 30 l).bind λc=>(WF c.2).bind λd=>if d.1=c.1 then (xV c.1 c.1 0 (List.replicate c.1 none) d.2).bind λr=>(Xb c.1 0 (r.1.map λo=>o.getD L0)).bind λls=>some (ls,r.2) else none
structure Sl where
 l:L
 b:Nat
 pv:Value
def Mm(sq:List (Option Sl)):List Value:=sq.map λo=>.pointer (o.map λx=>(⟨x.b,0,none⟩:Addr))
def WM(sq:List (Option Sl)):List (Option L):=sq.map λo=>o.map Sl.l
structure SLt(B:Nat)(w:World)(v:Value)(sq:List (Option Sl)):Prop where
 row:w.ownsRow B 191 1 v sq.length (Mm sq)
 lot:∀(i:Nat) (x:Sl),sq[i]?=some (some x)->w.heap[x.b]?=some (.cells (zm x.l x.pv) 231 (0,0))/\B<=x.b/\w.ownsRow B 234 2 x.pv x.l.par.length (zl x.l.par)
 apart:∀(i j:Nat) (x y:Sl),sq[i]?=some (some x)->sq[j]?=some (some y)->x.b=y.b->i=j
 fact:∀(i:Nat) (x:Sl),sq[i]?=some (some x)->(x.l.id<=2147483647/\x.l.gd<=2147483647/\x.l.place=i+1/\x.l.ex<=2147483647)/\(x.l.par.length<=2/\∀p∈x.l.par,p.1<=2147483647/\p.2<=2147483647)/\x.l.gv=0
structure Kt(b S:Nat)(w w':World)(l:List UInt8):Prop where
 kp:Kp (λk=>k=b\/k=S) w w'
 here:w'.heap[b]?=some (.cells #[.string (VM l)] 225 (0,0))
def Bt(b S:Nat)(w:World)(e:Ending)(w':World):Prop:=(∃t v,e=.panicked [{ v:=.iface t v,recovered:=false }])/\Kp (λk=>k=b\/k=S) w w'
def Kt.rd(h:Kt b S w w' l):Rd b w' w' (VM l):=Rd.refl h.here
def Kt.step(h:Kt b S w w' l)(k:Rd b w' w'' (VM r)):Kt b S w w'' r :=
 ⟨h.kp.trans ⟨k.os,k.tape,k.output,by rw[k.size];exact xe _,λi _ a=>k.block i (λe=>a (Or.inl (Or.inl e)))⟩,k.here⟩
def Kt.kr(h:Kt b S w w' l)(k:Kr b w' w'' r):Kt b S w w'' r :=
 ⟨h.kp.trans (k.kp.mono (λ_ e=>Or.inl (Or.inl e))),k.here⟩
def Kt.after{b S:Nat}{w w' a:World}{l:List UInt8}(h:Kt b S w w' l)(k:Below w'.heap.size w' a):Kt b S w a l :=
 ⟨h.kp.after k,(k.block b (zc h.here)).trans h.here⟩
def Kt.refl{b S:Nat}{w:World}{l:List UInt8}(h:w.heap[b]?=some (.cells #[.string (VM l)] 225 (0,0))):Kt b S w w l:=⟨Kp.refl _ _,h⟩
def Kt.gl(h:Kt b S w w' l)(f:NU<=b)(e:NU<=S)(g:Gl w):Gl w':=by
 obtain⟨⟨i,k,c⟩,⟨j,m,d⟩,n⟩:=g;have p:=h.kp.size;unfold NU at f e;refine⟨⟨i,k,(xo (a:=⟨2,0,none⟩) (h.kp.block _ (by show 2<_;omega) (by show ¬(2=b\/2=S);omega))).trans c⟩,⟨j,m,(xo (a:=⟨3,0,none⟩) (h.kp.block _ (by show 3<_;omega) (by show ¬(3=b\/3=S);omega))).trans d⟩,by omega⟩
def Kt.gu(h:Kt b S w w' l)(e:NU<=b)(d:NU<=S)(f:Gu w):Gu w':=by
 obtain⟨t,v,c⟩:=f;unfold NU at e d;exact⟨t,v,(xo (a:=⟨4,0,none⟩) (h.kp.block _ (bY c) (by show ¬(4=b\/4=S);omega))).trans c⟩
def Kt.broke(h:Kt b S w w' l)(k:iL b w' e w''):Bt b S w e w'':=by
 obtain⟨d,s,a⟩:=k;exact⟨d,h.kp.trans ⟨a.os,a.tape,a.output,by rw[a.size];exact xe _,λi _ c=>a.block i (λe=>c (Or.inl (Or.inl e)))⟩⟩
def Kt.bk(h:Kt b S w w' l)(k:Bk b w' e w''):Bt b S w e w'':=⟨k.1,h.kp.trans (k.2.mono (λ_ e=>Or.inl (Or.inl e)))⟩
def Kc(z:Value)(n:Nat):(madeCells #[z] n).toList=List.replicate n z:=by
 apply YZ
 ·simp[size_madeCells]
 intro i a b;simp[madeCells,Nat.mod_one]
def On(w:World)(B:Nat)(a:B<=w.heap.size)(e:TypeId)(z:Value)(n:Nat)(b:n<=30):(w.alloc (.cells (madeCells #[z] n) e)).ownsRow B e 1 (.slice (some ⟨w.heap.size,0,none⟩) n n) n (List.replicate n z) :=
 ⟨by simp,Or.inr ⟨w.heap.size,n,madeCells #[z] n,rfl,a,xp w _,xe _,by unfold maxLen;omega,by simp[size_madeCells],by rw[Kc];simp⟩⟩
variable {sq:List (Option Sl)}
def SLt.keep(h:SLt B w v sq)(d:∀(k:Nat) (a:Array Value) (t:TypeId),w.heap[k]?=some (.cells a t (0,0))->t≠225->t≠117->w'.heap[k]?=w.heap[k]?):SLt B w' v sq:={
 row:=zd h.row (λg c=>by obtain⟨a,b⟩:=zh h.row c;exact d g a _ b (by decide) (by decide))
 lot:=λi x l=>by
  obtain⟨e,j,f⟩:=h.lot i x l;exact⟨(d _ _ _ e (by decide) (by decide)).trans e,j,zd f (λg c=>by obtain⟨a,b⟩:=zh f c;exact d g a _ b (by decide) (by decide))⟩
 apart:=h.apart
 fact:=h.fact}
def SLt.below(h:SLt B w v sq)(a:Below w.heap.size w w'):SLt B w' v sq:=h.keep (λk c t b _ _=>a.block k (zc b))
def SLt.kr(h:SLt B w v sq)(d:w.heap[b]?=some (.cells #[.string (VM l)] 225 (0,0)))(k:Kr b w w' r):SLt B w' v sq:=h.keep (λz e t a c _=>k.kp.block z (zc a) (zt a d c))
def SLt.put{G cap:Nat}(h:SLt B w (.slice (some ⟨G,0,none⟩) n cap) sq)(S:n=sq.length){i:Nat}(Q:i<n){x:Sl}(W:w.heap[x.b]?=some (.cells (zm x.l x.pv) 231 (0,0))/\B<=x.b/\w.ownsRow B 234 2 x.pv x.l.par.length (zl x.l.par))(q:∀(j:Nat) (y:Sl),sq[j]?=some (some y)->y.b≠x.b)
  (N:(x.l.id<=2147483647/\x.l.gd<=2147483647/\x.l.place=i+1/\x.l.ex<=2147483647)/\(x.l.par.length<=2/\∀p∈x.l.par,p.1<=2147483647/\p.2<=2147483647)/\x.l.gv=0) :
  SLt B (w.setCell ⟨G,i,none⟩ (.pointer (some ⟨x.b,0,none⟩))) (.slice (some ⟨G,0,none⟩) n cap) (sq.set i (some x)):=by
 subst S;have A:=(h.row.stored i (.pointer (some ⟨x.b,0,none⟩))).1;have f:∀(j:Nat) (y:Sl),(sq.set i (some x))[j]?=some (some y)->(j=i/\y=x)\/(j≠i/\sq[j]?=some (some y)):=λj y d=>by
  rw[XB]at d;by_cases e:i=j
  ·subst e;rw[xh rfl,xh Q]at d;cases d;exact Or.inl ⟨rfl,rfl⟩
  rw[xg e]at d;exact Or.inr ⟨Yl e,d⟩
 obtain⟨cs,K⟩:=zh h.row (g:=G) rfl;have r:∀(k:Nat) (s:Array Value) (t:TypeId),w.heap[k]?=some (.cells s t (0,0))->t≠191->(w.setCell ⟨G,i,none⟩ (.pointer (some ⟨x.b,0,none⟩))).heap[k]?=w.heap[k]?:=λk s t R T=>xd _ _ _ _ (zt R K T)
 have m:∀(y:Sl),(w.heap[y.b]?=some (.cells (zm y.l y.pv) 231 (0,0))/\B<=y.b/\w.ownsRow B 234 2 y.pv y.l.par.length (zl y.l.par))->(w.setCell ⟨G,i,none⟩ (.pointer (some ⟨x.b,0,none⟩))).heap[y.b]?=some (.cells (zm y.l y.pv) 231 (0,0))/\B<=y.b/\(w.setCell ⟨G,i,none⟩ (.pointer (some ⟨x.b,0,none⟩))).ownsRow B 234 2 y.pv y.l.par.length (zl y.l.par):=λy d=>
  ⟨(r _ _ _ d.1 (by decide)).trans d.1,d.2.1,zd d.2.2 (λg P=>by obtain⟨z,M⟩:=zh d.2.2 P;exact r g z _ M (by decide))⟩
 refine⟨?_,λj y d=>?_,λa c X Z J u v=>?_,λj y d=>?_⟩
 ·rw[xq];have:Mm (sq.set i (some x))=(Mm sq).set i (.pointer (some ⟨x.b,0,none⟩)):=by simp[Mm,Yu]
  rw[this];exact A
 ·rcases f j y d with ⟨_,rfl⟩|⟨_,u⟩
  ·exact m _ W
  exact m _ (h.lot j y u)
 ·rcases f a X J with ⟨D,E⟩|⟨_,C⟩<;>rcases f c Z u with ⟨F,H⟩|⟨_,g2⟩
  ·rw[D,F]
  ·rw[E]at v;exact absurd v.symm (q _ _ g2)
  ·rw[H]at v;exact absurd v (q _ _ C)
  exact h.apart _ _ _ _ C g2 v
 rcases f j y d with ⟨rfl,rfl⟩|⟨_,u⟩
 ·exact N
 exact h.fact j y u
def Ra{pv:Value}{ps:List (Nat×Nat)}(h:w.ownsRow B 234 2 pv ps.length (zl ps)):Par w pv ps:=by
 rcases h.2 with ⟨d,e⟩|⟨g,cap,a,d,e,f,l,m,n,i⟩
 ·exact Or.inl ⟨d,XD.1 e⟩
 refine Or.inr ⟨g,cap,a,d,f,λj k=>?_⟩;obtain⟨b,c⟩:=qU ps j k;rw[<-i,xbN]at b c;rw[xh (by omega)]at b c;rw[xbg 2 j];exact⟨by simpa using b,by simpa using c⟩
def Ej{α:Type}:∀(l:List (Option α)),l.countP Option.isSome=l.length->∃xs:List α,l=xs.map some
 |[],_=>⟨[],rfl⟩
 |none::l,h=>by
  have:=List.countP_le_length (p:=Option.isSome) (l:=l)
  simp at h;omega
 |some x::l,h=>by
  obtain⟨xs,rfl⟩:=Ej l (by simpa using h);exact⟨x::xs,rfl⟩
def Qc{α:Type}{l:List (Option α)}{i:Nat}(a:i<l.length)(h:l.getD i none=none)(x:α):(l.set i (some x)).countP Option.isSome=l.countP Option.isSome+1:=by
 rw[List.countP_set a];have:l[i]=none:=by simpa [Wc,a] using h
 simp[this]
def SLt.done{xs:List Sl}(h:SLt B w v (xs.map some))(r:w.cell? ⟨S,1,none⟩=some v)(y:xs.length<=30):PW 0 w S v (xs.map Sl.b) (xs.map Sl.pv) (xs.map Sl.l):=by
 have k:∀i,i<xs.length->∃x,(xs.map some)[i]?=some (some x)/\x∈xs/\(xs.map Sl.b).getD i 0=x.b/\(xs.map Sl.pv).getD i default=x.pv/\(xs.map Sl.l).getD i L0=x.l:=λi a=>⟨xs[i],by simp[a],yy a,by simp[Wc,a],by simp[Wc,a],by simp[Wc,a]⟩
 have p:∀l∈xs.map Sl.l,∃i x,(xs.map some)[i]?=some (some x)/\i<xs.length/\x.l=l:=λl d=>by
  obtain⟨x,k,rfl⟩:=Xz.1 d;obtain⟨i,a,rfl⟩:=xw k;exact⟨i,xs[i],by simp[a],a,rfl⟩
 refine⟨r,?_,by simp,by simp,λi a=>?_,λi a=>?_,?_,λl d=>?_,λl d=>?_,λl d=>?_,by simpa using y⟩
 ·have q:=dZ h.row (Nat.zero_le B);rw[List.length_map]at q ⊢;have:aV (xs.map Sl.b)=Mm (xs.map some):=by simp[aV,Mm]
  rw[this];exact q
 ·obtain⟨x,c,_,e,m,n⟩:=k i (by simpa using a);rw[e,m,n];exact(h.lot i x c).1
 ·obtain⟨x,c,_,e,m,n⟩:=k i (by simpa using a);rw[m,n];exact Ra (h.lot i x c).2.2
 ·show List.Pairwise (·≠·) _;rw[XX];intro i j a u t s;have g:j<xs.length:=by simpa using u
  have f:i<xs.length:=by omega
  have:=h.apart i j xs[i] xs[j] (by simp[f]) (by simp[g]) (by simpa [f,g] using s)
  omega
 ·obtain⟨i,x,c,e,rfl⟩:=p l d;have:=(h.fact i x c).1;exact⟨this.1,this.2.1,by omega,this.2.2.2⟩
 ·obtain⟨i,x,c,e,rfl⟩:=p l d;exact(h.fact i x c).2.1
 obtain⟨i,x,c,e,rfl⟩:=p l d;rw[(h.fact i x c).2.2];exact xe _
def Sb(w:World)(S td:Nat)(v:Value)(M:Mx):Prop:=w.heap[S]?=some (.cells #[.int .i64 td,v,.map (some M.o),.map (some M.h),.map (some M.r)] 117 (0,0))
def Mt(b S td:Nat)(M:Mx)(w:World)(X:Option (List L×List UInt8))(e:Ending)(w':World):Prop:=match X with
 |some (ls,r)=>e=.returned (.tuple #[])/\(∃v bs pvs,PW 128849018820 w' S v bs pvs ls/\Sb w' S td v M/\(∀k∈bs,w.heap.size<=k)/\(∀pv∈pvs,∀q,pv.ownBlock=some q->w.heap.size<=q)/\(∀g,v.ownBlock=some g->w.heap.size<=g))/\Kt b S w w' r
 |none=>Bt b S w e w'
def BK(b S:Nat)(hb:NU<=b)(hS:NU<=S)(l:List UInt8)(hl:l.length<=1000000000)(w:World)(hg:Gl w)(hu:Gu w)(hr:w.heap[b]?=some (.cells #[.string (VM l)] 225 (0,0)))(td:Nat)(v0:Value)(M:Mx)(hs:Sb w S td v0 M):Calls prog 177 #[.pointer (some ⟨S,0,none⟩),.pointer (some ⟨b,0,none⟩)] w (Mt b S td M w (cH l)):=by
 obtain⟨X,HX⟩:=Ww (cH l);rw[<-HX.o];obtain⟨i0,hi,l9,m0,m1⟩:=XT Pj;have HU:=zb UJ;have k0:Kt b S w w l:=Kt.refl hr;have l0:=zc hr;have i4:=zb hs;have b1:S≠b:=λe=>by rw[<-e]at hr;unfold Sb at hs;rw[hs]at hr;cases hr
 go_enter func177,ntmps177;go_wp2_with fail;refine(Zt b hb l hl 0 30 (by omega) (by omega) w hg hu (Rd.refl hr)).mono ?_
 intro e w1 s;rcases h1:WG 0 30 l with _|⟨n,r1⟩
 ·rw[h1]at s;obtain⟨t,v,rfl⟩:=s.1;refine⟨rfl,?_⟩;show Mt b S td M w X _ _;rw[show X=none by rw[HX.o];unfold cH;simp only[h1,XF]];exact k0.broke s
 rw[h1]at s;obtain⟨rfl,e0⟩:=s;have k1:=k0.step e0;obtain⟨_,d0,l4⟩:=zv h1;have h3:Sb w1 S td v0 M:=(e0.block S b1).trans hs;clear e0;go_wp2_with fail;refine(rM b hb r1 (by omega) w1 (k1.gl hb hS hg) k1.rd).mono ?_
 intro e w2 s;rcases P:WF r1 with _|⟨d,r2⟩
 ·rw[P]at s;obtain⟨t,v,rfl⟩:=s.1;refine⟨rfl,?_⟩;show Mt b S td M w X _ _;rw[show X=none by rw[HX.o];unfold cH;simp only[h1,P,xk,XF]];exact k1.broke s
 rw[P]at s;obtain⟨rfl,e1⟩:=s;have k2:=k1.step e1;have c7:Sb w2 S td v0 M:=(e1.block S b1).trans h3;have b2:=xT P;have k8:d<9223372036854775808:=by
  unfold WF at P;split at P
  ·cases P
  cases P;exact Pl.fst_lt _
 clear e1 hs h3 k0 k1;by_cases a6:d=n
 ·have a5:Ha (X=(xV n n 0 (List.replicate n none) r2).bind λr=>(Xb n 0 (r.1.map λo=>o.getD L0)).bind λls=>some (ls,r.2)):=by
   unfold Ha;rw[HX.o];unfold cH;simp only[h1,P,xk];rw[xh a6]
  have j3:=aR a6;clear a6;go_wp2_with fail;refine(zI true w2 (k2.gu hb hS hu)).mono ?_
  rintro _ wz ⟨rfl,s⟩;rw[xh rfl]at s;subst s;have f1:=ze c7 1;have l6:∀w:World,(Instr.makeSlice 115 (.int .i64 n) (.int .i64 n)).run prog w=.ok (.slice (some ⟨w.heap.size,0,none⟩) n n) (w.alloc (.cells (madeCells #[.pointer none] n) 191)):=λw=>run_make_row' 115 191 (.pointer none) 8 UJ Pj rfl .i64 .i64 n (by omega) (by omega) w
  have hB:=VE wz (.cells (madeCells #[.pointer none] n) 191);have R:=On wz w.heap.size k2.kp.size 191 (.pointer none) n d0;have k3:=k2.after hB;have b4:Sb (wz.alloc (.cells (madeCells #[.pointer none] n) 191)) S td v0 M:=(hB.block S (zc c7)).trans c7;have f1:=ze b4 1;have c1:(wz.alloc (.cells (madeCells #[.pointer none] n) 191)).cell? ⟨S,1,none⟩=some v0:=by rw[za b4];rfl
  obtain⟨G,hG⟩:∃G,G=wz.heap.size:=⟨_,rfl⟩
  have HG:=zb hG;have h4:=xu _ S 1 _ 117 (.slice (some ⟨wz.heap.size,0,none⟩) n n) b4;have g2:Ha (Sb ((wz.alloc (.cells (madeCells #[.pointer none] n) 191)).setCell ⟨S,1,none⟩ (.slice (some ⟨wz.heap.size,0,none⟩) n n)) S td (.slice (some ⟨G,0,none⟩) n n) M):=by rw[hG];exact h4
  have f0:Ha (Kt b S w ((wz.alloc (.cells (madeCells #[.pointer none] n) 191)).setCell ⟨S,1,none⟩ (.slice (some ⟨wz.heap.size,0,none⟩) n n)) r2):=⟨k3.kp.setCell (p:=⟨S,1,none⟩) (Or.inl (Or.inr rfl)) _,(xd _ _ _ _ (Yl b1)).trans k3.here⟩
  have f3:Ha (SLt w.heap.size ((wz.alloc (.cells (madeCells #[.pointer none] n) 191)).setCell ⟨S,1,none⟩ (.slice (some ⟨wz.heap.size,0,none⟩) n n)) (.slice (some ⟨G,0,none⟩) n n) (List.replicate n none)):=by
   have h0:SLt w.heap.size (wz.alloc (.cells (madeCells #[.pointer none] n) 191)) (.slice (some ⟨G,0,none⟩) n n) (List.replicate n none):=by
    have e5:∀(i:Nat) (x:Sl),(List.replicate n (none:Option Sl))[i]?=some (some x)->False:=λi x hx=>by
     have:=List.mem_of_getElem? hx
     simp at this
    refine⟨?_,λi x hx=>(e5 i x hx).elim,λi j x y hx=>(e5 i x hx).elim,λi x hx=>(e5 i x hx).elim⟩;rw[hG,xbr];have:Mm (List.replicate n none)=List.replicate n (.pointer none):=by simp[Mm]
    rw[this];exact R
   exact h0.keep (λk cs t hk _ ht=>xd _ _ _ _ (zt hk b4 ht))
  clear i4 hr R k2 k3 hB b4 c7 h4 hG h1 P HX;obtain⟨Z,HZ⟩:=Ww (xV n n 0 (List.replicate n none) r2);rw[<-HZ.o]at a5;go_wp2_with fail;go_loopw [5,6,22] (λnv _ ii wr=>∃(k p:Nat) (A:List (Option Sl)) (q:List UInt8),ii=.int .i64 k/\k<=n/\nv=.int .i64 p/\p<=2147483647/\A.length=n/\(WM A).countP Option.isSome=k/\q.length<=1000000000/\Sb wr S td (.slice (some ⟨G,0,none⟩) n n) M/\SLt w.heap.size wr (.slice (some ⟨G,0,none⟩) n n) A/\Kt b S w wr q/\xV n (n-k) p (WM A) q=Z) (λ_ _ ii _=>n-(intOf ii).toNat)
  case atStart=>exact⟨0,0,List.replicate n none,r2,rfl,by omega,rfl,by omega,by simp,by simp[WM,List.countP_replicate],by omega,g2,f3,f0,by rw[xbK];simpa [WM] using HZ.symm⟩
  clear g2 f0 f3;obtain⟨k,p,A,q,rfl,hk,rfl,hp,D,a4,j8,H,a1,C,hZ⟩:=hrel;by_cases l5:k<n
  ·have b7:Ha ((WG (p+1) 2147483647 q).bind (λa=>(cT a.1 n a.2).bind λx=>if (WM A).getD (x.1.place-1) none=none then xV n (n-(k+1)) a.1 ((WM A).set (x.1.place-1) (some x.1)) x.2 else none)=Z):=by
    unfold Ha;rw[<-hZ,show n-k=(n-(k+1))+1 by omega];rfl
   clear hZ;have HA:=zb (iM b hb q j8 p hp wr (C.gl hb hS hg) (C.gu hb hS hu) C.rd);have f:=zb H;have c8:=zb a1;have c:=zb C;clear H a1 C;go_wp2_with fail;refine HA.mono ?_
   intro e w5 s;rcases h5:WG (p+1) 2147483647 q with _|⟨num,q5⟩
   ·rw[h5]at s;obtain⟨t,v,rfl⟩:=s.1;refine⟨rfl,?_⟩;show Mt b S td M w X _ _;rw[show X=none by rw[a5.o,<-b7.o,h5];rfl];exact c.broke s
   rw[h5]at s;obtain⟨rfl,c5⟩:=s;obtain⟨_,d1,l7⟩:=zv h5;have k5:=c.step c5;have e7:Sb w5 S td (.slice (some ⟨G,0,none⟩) n n) M:=(c5.block S b1).trans f;have e2:=c8.kr c.here ((Kr.refl c.here).step c5);clear HA f c8 c c5;go_wp2_with fail;refine(DI b hb num n d1 d0 q5 (by omega) w5 (k5.gl hb hS hg) (k5.gu hb hS hu) k5.here).mono ?_
   intro e N s;rcases h6:cT num n q5 with _|⟨x,q6⟩
   ·rw[h6]at s;have g7:Bk b w5 e N:=s;obtain⟨t,v,rfl⟩:=g7.1;refine⟨rfl,?_⟩;show Mt b S td M w X _ _;rw[show X=none by rw[a5.o,<-b7.o,h5];simp only[xk,h6,XF]];exact k5.bk g7
   rw[h6]at s;obtain⟨⟨T,pv,rfl,g9,e6,g8⟩,c6⟩:=s;have b5:=rL h6;have k6:=k5.kr c6;have e8:Sb N S td (.slice (some ⟨G,0,none⟩) n n) M:=(c6.kp.block S (zc e7) b1).trans e7;have e3:=e2.kr k5.here c6;have b8:Ha ((if (WM A).getD (x.place-1) none=none then xV n (n-(k+1)) num ((WM A).set (x.place-1) (some x)) q6 else none)=Z):=by unfold Ha;rw[<-b7.o,h5];simp only[xk,h6]
   obtain⟨i,HI⟩:=Ww (x.place-1);have a7:i<n:=by rw[HI.o];omega
   have f7:Ha (x.place=i+1):=by unfold Ha;rw[HI.o];omega
   rw[<-HI.o]at b8;have s1:N.cell? ⟨S,1,none⟩=some (.slice (some ⟨G,0,none⟩) n n):=by rw[za e8];rfl
   have x3:N.cell? ⟨T,3,none⟩=some (.int .i64 ((i:Int)+1)):=by
    rw[za e6];show some (Value.int .i64 x.place)=_;rw[f7.o];rfl
   have a9:=zb k6;have d5:=zb e8;have b0:=zb e3;have g1:=zb e6;have f8:=zb (dZ g8 k5.kp.size);have g0:Ha (w5.heap.size<=T):=g9;have f4:=zb e2;have i7:=zb k5.kp.size;have B:N.cell? ⟨G,i,none⟩=some (.pointer ((A.getD i none).map λx=>(⟨x.b,0,none⟩:Addr))):=by
    have F:=e3.row;rw[D]at F;rw[F.cellAt i (by omega)];simp[Mm,Wc,show i<A.length by rw[D];exact a7]
   have f6:Ha (Calls prog 175 #[.bool true] N.drew λe w'=>w'=N.drew/\e=.returned (.tuple #[])):=by
    refine(zI true _ (show Gu N.drew from k6.gu hb hS hu)).mono ?_
    rintro e w' ⟨h1,P⟩;rw[xh rfl]at P;exact⟨h1,P⟩
   have f5:Ha (Calls prog 175 #[.bool false] N.drew λe w'=>w'=N.drew/\∃t v,e=.panicked [{ v:=.iface t v,recovered:=false }]):=by
    refine(zI false _ (show Gu N.drew from k6.gu hb hS hu)).mono ?_
    rintro e w' ⟨h1,P⟩;rw[xg (by simp)]at P;exact⟨h1,P⟩
   clear k5 k6 e8 e3 e7 e2 e6 g8 c6 h5 h6 b7 g9
   cases ho:A.getD i none with
   |none=>
    rw[ho]at B;have u:N.cell? ⟨G,i,none⟩=some (.pointer none):=B;have k7:=s1;have m2:=x3;clear B;go_wp2_with fail;obtain⟨Q,E⟩:∃Q:World->Prop,∀w',Q w'↔(w'.cell? ⟨S,1,none⟩=some (.slice (some ⟨G,0,none⟩) n n)/\w'.cell? ⟨T,3,none⟩=some (.int .i64 ((i:Int)+1))/\w'.cell? ⟨G,i,none⟩=some (.pointer none)):=⟨_,λ_=>xaw⟩
    have z0:∀x:Wd Q,x.w.cell? ⟨S,1,none⟩=some (.slice (some ⟨G,0,none⟩) n n):=λx=>((E _).1 x.h).1
    have z1:∀x:Wd Q,x.w.cell? ⟨T,3,none⟩=some (.int .i64 ((i:Int)+1)):=λx=>((E _).1 x.h).2.1
    have z2:∀x:Wd Q,x.w.cell? ⟨G,i,none⟩=some (.pointer none):=λx=>((E _).1 x.h).2.2
    have a0:Q N.drew:=(E _).2 ⟨s1,x3,u⟩;clear E s1 x3 u;haveI hinh:Inhabited (Wd Q):=⟨⟨_,a0⟩⟩
    refine zw (n:=8) (m:=1) 12 12 (λw'=>∃x:Wd Q,w'=x.w) (by kernel_rfl) (by kernel_rfl) (λ_ _ d _ _ h=>by cases d<;>exact h) (by kernel_rfl) (by kernel_rfl) rfl rfl ⟨⟨_,a0⟩,rfl⟩ ?_
    clear a0;dsimp only[List.take];repeat (go_big_quiet_step (fail))
    refine yi ?_
    refine zR (i:=12) (by kernel_rfl) rfl rfl (λK hK=>?_);go_wp2_with (go_at_call 175;refine f6.mono ?_;rintro _ w7 ⟨rfl,rfl⟩);refine hK _ _ (by first|exact Or.inl rfl|exact Or.inl trivial|trivial) ?_
    refine bO (by kernel_rfl) ?_
    clear hK z0 z1 z2;have i6:Ha (SLt w.heap.size (N.setCell ⟨G,i,none⟩ (.pointer (some ⟨T,0,none⟩))) (.slice (some ⟨G,0,none⟩) n n) (A.set i (some ⟨x,T,pv⟩))):=by
     refine b0.put D.symm a7 (x:=⟨x,T,pv⟩) ⟨g1,xj i7 g0,f8⟩ (λj y hy e=>?_) ⟨⟨by show x.id<=_;omega,b5.2.1,f7,b5.2.2.1⟩,b5.2.2.2.2.1,b5.2.2.2.2.2.1⟩;have h1:=zc (f4.lot j y hy).1;have P:y.b=T:=e;have:=g0.o;omega
    obtain⟨k9,b9⟩:=zh b0.row (g:=G) rfl;have d2:Ha (w.heap.size<=G):=(b0.row.lt G rfl).1;have i5:Ha (Sb (N.setCell ⟨G,i,none⟩ (.pointer (some ⟨T,0,none⟩))) S td (.slice (some ⟨G,0,none⟩) n n) M):=(xd _ _ _ _ (zt d5 b9 (by decide))).trans d5;have i1:Ha (Kt b S w (N.setCell ⟨G,i,none⟩ (.pointer (some ⟨T,0,none⟩))) q6):=⟨a9.kp.setCell (p:=⟨G,i,none⟩) (Or.inr d2) _,(xd _ _ _ _ (zt a9.here b9 (by decide))).trans a9.here⟩
    have l2:=ze b9 i;have s1:N.cell? ⟨S,1,none⟩=some (.slice (some ⟨G,0,none⟩) n n):=k7;have l1:N.cell? ⟨G,i,none⟩=some (.pointer none):=by
     have F:=b0.row;rw[D]at F;rw[F.cellAt i (by omega)];have g6:i<A.length:=by rw[D];exact a7
     simp only[Wc,xi g6,XQ]at ho;simp[Mm,g6,ho]
    have d4:Ha (WM (A.set i (some ⟨x,T,pv⟩))=(WM A).set i (some x)):=by simp[Ha,WM,Yu]
    have d3:Ha ((WM A).getD i none=none):=by
     have:(WM A).getD i none=(A.getD i none).map Sl.l:=by
      simp[WM,Wc,show i<A.length by rw[D];exact a7]
     rw[Ha,this,ho];rfl
    have h9:Ha ((WM (A.set i (some ⟨x,T,pv⟩))).countP Option.isSome=k+1):=by
     rw[Ha,d4.o,Qc (by simp[WM,D,a7]) d3.o,a4]
    have j0:Ha (xV n (n-(k+1)) num (WM (A.set i (some ⟨x,T,pv⟩))) q6=Z):=by
     rw[Ha,d4.o,<-b8.o,xh d3.o]
    have l8:=b5.2.2.2.2.2.2;clear f6 f5 b0 d5 a9 g1 f8 f4 d4 d3 b8 b9 ho a4;go_wp2_with fail;go_region;go_wp2_with fail;go_roundw
    case rel=>exact⟨k+1,num,A.set i (some ⟨x,T,pv⟩),q6,by go_num,by omega,rfl,d1,by rw[xq];exact D,h9,by omega,i5,i6.below ((xm _ _).drew.drew),i1.after ((xm _ _).drew.drew),j0⟩
    simp[intOf];omega
   |some y=>
    rw[ho]at B;have u:N.cell? ⟨G,i,none⟩=some (.pointer (some ⟨y.b,0,none⟩)):=B;have d8:Ha (X=none):=by
     unfold Ha;rw[a5.o,<-b8.o,xg]
     ·rfl
     intro hc;have:(WM A).getD i none=(A.getD i none).map Sl.l:=by
      simp[WM,Wc,show i<A.length by rw[D];exact a7]
     rw[this,ho]at hc
     cases hc
    clear B;go_wp2_with fail;obtain⟨Q,E⟩:∃Q:World->Prop,∀w',Q w'↔(w'.cell? ⟨S,1,none⟩=some (.slice (some ⟨G,0,none⟩) n n)/\w'.cell? ⟨T,3,none⟩=some (.int .i64 ((i:Int)+1))/\w'.cell? ⟨G,i,none⟩=some (.pointer (some ⟨y.b,0,none⟩))):=⟨_,λ_=>xaw⟩
    have z0:∀x:Wd Q,x.w.cell? ⟨S,1,none⟩=some (.slice (some ⟨G,0,none⟩) n n):=λx=>((E _).1 x.h).1
    have z1:∀x:Wd Q,x.w.cell? ⟨T,3,none⟩=some (.int .i64 ((i:Int)+1)):=λx=>((E _).1 x.h).2.1
    have z2:∀x:Wd Q,x.w.cell? ⟨G,i,none⟩=some (.pointer (some ⟨y.b,0,none⟩)):=λx=>((E _).1 x.h).2.2
    have a0:Q N.drew:=(E _).2 ⟨s1,x3,u⟩;clear E s1 x3 u;haveI hinh:Inhabited (Wd Q):=⟨⟨_,a0⟩⟩
    refine zw (n:=8) (m:=1) 12 12 (λw'=>∃x:Wd Q,w'=x.w) (by kernel_rfl) (by kernel_rfl) (λ_ _ d _ _ h=>by cases d<;>exact h) (by kernel_rfl) (by kernel_rfl) rfl rfl ⟨⟨_,a0⟩,rfl⟩ ?_
    clear a0;dsimp only[List.take];repeat (go_big_quiet_step (fail))
    refine yi ?_
    refine zR (i:=12) (by kernel_rfl) rfl rfl (λK hK=>?_);go_wp2_with (go_at_call 175;refine f5.mono ?_;rintro _ w7 ⟨rfl,t,v,rfl⟩);refine⟨rfl,?_⟩;show Mt b S td M w X _ _;rw[d8.o];exact⟨⟨t,v,rfl⟩,(a9.after ((xm _ _).drew)).kp⟩
  have j5:k=n:=by omega
  subst j5;rw[xap]at hZ;obtain⟨xs,j9⟩:=Ej A (by
   have:(WM A).countP Option.isSome=A.countP Option.isSome:=by
    simp only[WM,List.countP_map];congr 1;funext o;cases o<;>rfl
   rw[<-this,a4,D])
  subst j9;have e9:xs.length=k:=by simpa using D
  have d7:Ha (X=(Xb k 0 (xs.map Sl.l)).bind λls=>some (ls,q)):=by
   rw[Ha,a5.o,<-hZ,xV];simp only[xk];congr 2;simp[WM]
  have s1:wr.cell? ⟨S,1,none⟩=some (.slice (some ⟨G,0,none⟩) k k):=by rw[za H];rfl
  have W:Ha (PW 0 wr S (.slice (some ⟨G,0,none⟩) k k) (xs.map Sl.b) (xs.map Sl.pv) (xs.map Sl.l)):=a1.done s1 (by omega);have d2:Ha (w.heap.size<=G):=(a1.row.lt G rfl).1;have b6:Ha (∀z∈xs.map Sl.b,w.heap.size<=z):=λz hz=>by
   obtain⟨x,hx,rfl⟩:=Xz.1 hz;obtain⟨i,hi,rfl⟩:=xw hx;exact(a1.lot i xs[i] (by simp[hi])).2.1
  have i3:Ha (∀pv∈xs.map Sl.pv,∀q,pv.ownBlock=some q->w.heap.size<=q):=λpv j7 q hq=>by
   obtain⟨x,hx,rfl⟩:=Xz.1 j7;obtain⟨i,hi,rfl⟩:=xw hx;exact((a1.lot i xs[i] (by simp[hi])).2.2.lt q hq).1
  have f:=zb H;have c:=zb C;have g5:(xs.map Sl.b).length=k:=by simpa using e9
  have j6:(xs.map Sl.l).length=k:=by simpa using e9
  clear a1 H C hZ a4 a5 HZ D e9;generalize xs.map Sl.b=bs at *;generalize xs.map Sl.pv=pvs at *;generalize xs.map Sl.l=ls at *;obtain⟨Y,HY⟩:=Ww (Xb k 0 ls);rw[<-HY.o]at d7;go_wp2_with fail;go_loopw [8,61] (λ_ ii wr=>∃(i:Nat) (a2:List L),ii=.int .i64 i/\i<=k/\a2.length=k/\PW (i*4294967294) wr S (.slice (some ⟨G,0,none⟩) k k) bs pvs a2/\Sb wr S td (.slice (some ⟨G,0,none⟩) k k) M/\Kt b S w wr q/\Xb (k-i) i a2=Y) (λ_ ii _=>k-(intOf ii).toNat)
  case atStart=>exact⟨0,ls,rfl,by omega,j6,by rw[Nat.zero_mul];exact W,f,c,by rw[xbK];exact HY.symm⟩
  clear W f c s1;obtain⟨i,a2,rfl,l3,b2,a8,H,C,hY⟩:=hrel;by_cases c9:i<k
  ·have d6:=zb (LJ a8 (by omega) i (by rw[b2];exact c9) (C.gu hb hS hu) (λz hz e=>by
    have h1:=b6.o z hz;unfold NU at hb;omega))
   have d9:Ha ((Xd a2 i).bind (λk4=>Xb (k-(i+1)) (i+1) k4)=Y):=by
    unfold Ha;rw[<-hY,show k-i=(k-(i+1))+1 by omega];rfl
   obtain⟨a,cap,hv,R⟩:=a8.shape;obtain⟨G',g4,a3⟩:=R (by rw[b2];omega);have j2:=a3 i (by rw[b2];exact c9);rw[g4]at hv;have j1:G'=G:=by cases hv;rfl
   subst j1;have W:=zb a8;have f:=zb H;have c:=zb C;obtain⟨bi,h7⟩:=Ww (bs.getD i 0);rw[<-h7.o]at j2 d6;clear a8 H C hY R a3 g4 hv;go_wp2_with fail;refine d6.mono ?_
   intro e w8 s
   cases h8:Xd a2 i with
   |none=>
    rw[h8]at s;obtain⟨⟨t,v,rfl⟩,J⟩:=s;refine⟨rfl,?_⟩;show Mt b S td M w X _ _;rw[show X=none by rw[d7.o,<-d9.o,h8];rfl];exact⟨⟨t,v,rfl⟩,c.kp.trans (J.mono (λz hz=>Or.inr (b6 z hz)))⟩
   |some ls3=>
    rw[h8]at s;obtain⟨rfl,b3,J⟩:=s;have e4:∀z cs t,wr.heap[z]?=some (.cells cs t (0,0))->t≠231->z ∉ bs:=λz cs t hz ht s=>by
     obtain⟨j,hj,rfl⟩:=xw s;have:=W.lot j (by rw[b2,<-g5];exact hj);simp only[Wc,xi hj,XQ]at this;exact zt hz this ht rfl
    have g3:Ha (Sb w8 S td (.slice (some ⟨G',0,none⟩) k k) M):=(J.block S (zc f) (e4 S _ _ f (by decide))).trans f;have f2:Ha (Kt b S w w8 q):=⟨c.kp.trans (J.mono (λz hz=>Or.inr (b6 z hz))),(J.block b (zc c.here) (e4 b _ _ c.here (by decide))).trans c.here⟩
    have i2:Ha (ls3.length=k):=by rw[Ha,<-b3.len,g5]
    have f9:=zb b3;have i9:Ha (Xb (k-(i+1)) (i+1) ls3=Y):=by rw[Ha,<-d9.o,h8];rfl
    clear b3 J h8 d6 W f c d9 e4;go_wp2_with fail;go_roundw
    case rel=>exact⟨i+1,ls3,by go_num,by omega,i2,by rw[Nat.succ_mul];exact f9,g3,f2,i9⟩
    simp[intOf];omega
  have j4:i=k:=by omega
  subst j4;rw[xap]at hY;have i8:Ha (X=some (a2,q)):=by rw[Ha,d7.o,<-hY];rfl
  have W:=zb a8;have f:=zb H;have c:=zb C;clear a8 H C hY;go_wp2_with fail;go_end0;show Mt b S td M w X _ _;rw[i8.o];have p:=W.o;exact⟨rfl,⟨_,bs,pvs,⟨p.c1,p.row,p.len,p.plen,p.lot,p.par,p.nodup,p.ids,p.pars,λl hl=>xj (p.giv l hl) (by omega),p.room⟩,f,b6,i3,λg hg=>by cases hg;exact d2⟩,c⟩
 have j3:=ZT a6;have d8:Ha (X=none):=by
  unfold Ha;rw[HX.o];unfold cH;simp only[h1,P,xk];rw[xg a6]
 clear a6;go_wp2_with fail;refine(zI false w2 (k2.gu hb hS hu)).mono ?_
 rintro _ wz ⟨rfl,s⟩;rw[xg (by simp)]at s;obtain⟨t,v',rfl⟩:=s;refine⟨rfl,?_⟩;show Mt b S td M w X _ _;rw[d8.o];exact⟨⟨t,v',rfl⟩,k2.kp⟩
