import Derived.Test.YtgcedalggnmooaaGreatDoorDc1X
import Derived.Test.YtgcedalggnmooaaGreatDoorRp1X
import Derived.Test.YtgcedalggnmooaaGreatDoorQ10X
set_option linter.all false
set_option maxRecDepth 100000
set_option maxHeartbeats 3200000
namespace Go.Proofs.YtgcedalggnmooaaGreatDoor
open Go.RowKit
open Value renaming int->Y,slice->vd,pointer->ve
open IntKind renaming i64->V
open Option renaming none->U,some->vb
open Ending renaming returned->vf
open Tryz
variable {R td:Nat}{fs:List Value}{ls:List L}{os:List O}{rj:List (Nat×Nat)}{rec:ByteArray}{ro:Ro}{v:Value}{w:World}
def RV.recl{d:List (Nat×Nat)}{w1 w2:World}(h:RV os rj ro w R v td rec fs ls){a:Value}(J:∀k,k<w.heap.size->w1.heap[k]?=w.heap[k]?)(T:w.heap.size<=w1.heap.size)(P:w1.grownBy w2 ro.rv.ownBlock)(p:w2.ownsRow 0 181 2 a d.length (zl d))(F:∀g,a.ownBlock=vb g->ro.rv.ownBlock=vb g\/w.heap.size<=g)(H:Rc d):RV os d { ro with rv:=a } (w2.setCell ⟨R,3,U⟩ a) R v td rec fs ls:=by
 have C:∀(b:Nat),b<w.heap.size->ro.rv.ownBlock≠vb b->w2.heap[b]?=w.heap[b]?:=λb m u=>(P.block b (by omega) (λe=>u e.symm)).trans (J b m)
 have B:∀(b:Nat) (f:Array Value) (t:TypeId),w.heap[b]?=vb (.cells f t (0,0))->t≠181->ro.rv.ownBlock≠vb b:=λb f t m W e=>by
  obtain⟨M,q⟩:=zi h.ord.fd.rrow e;exact zt m q W rfl
 have z:=(C R (zc h.store) (B R _ _ h.store (by decide))).trans h.store;have j:∀(b:Nat),b<w.heap.size->ro.rv.ownBlock≠vb b->b≠R->(w2.setCell ⟨R,3,U⟩ a).heap[b]?=w.heap[b]?:=λb m u G=>by
  rw[xd _ _ _ _ G];exact C b m u
 have D:∀(b:Nat) (f:Array Value) (t:TypeId),w.heap[b]?=vb (.cells f t (0,0))->t≠181->t≠42->(w2.setCell ⟨R,3,U⟩ a).heap[b]?=w.heap[b]?:=λb f t m E N=>j b (zc m) (B b f t m E) (zt m h.store N)
 have x:∀g,LB ro g->g<w.heap.size/\(w2.setCell ⟨R,3,U⟩ a).heap[g]?=w.heap[g]?:=λg A=>by
  have l:=h.ord.lt (Or.inr (Or.inl A));obtain⟨i,n,K⟩:=A;obtain⟨f,q⟩:=zi (h.ord.li i (by rw[<-h.ord.llen];exact n)) K;exact⟨l,j g l (λe=>(h.ord.fd.apart g e).1 ⟨i,n,K⟩) (zt q h.store (by decide))⟩
 have y:∀g,PB ro g->g<w.heap.size/\(w2.setCell ⟨R,3,U⟩ a).heap[g]?=w.heap[g]?:=λg s=>by
  have l:=h.ord.lt (Or.inr (Or.inr (Or.inr s)));obtain⟨f,q⟩:=h.ord.fd.ty (Or.inr s);exact⟨l,j g l (λe=>(h.ord.fd.apart g e).2 s) (zt q h.store (by decide))⟩
 refine⟨?_,zd h.row (λg c=>by obtain⟨f,r⟩:=zi h.row c;exact D _ _ _ r (by decide) (by decide)),h.flen,h.fro,⟨zd h.ord.row (λg c=>by obtain⟨f,r⟩:=zi h.ord.row c;exact D _ _ _ r (by decide) (by decide)),h.ord.llen,λi n=>zd (h.ord.li i n) (λg c=>(x g ⟨i,by rw[h.ord.llen];exact n,c⟩).2),?_⟩,h.today,h.ok,h.room,h.fam,H⟩
 ·have:=xu w2 R 3 _ 42 a z
  simpa using this
 refine⟨?_,h.ord.fd.flen,λi n=>(h.ord.fd.frm i n).congr (λg c=>(y g ⟨i,n,c⟩).2),λg c=>?_⟩
 ·exact p.kept (zQ w2 ⟨R,3,U⟩ a) (Or.inr (λe=>by
   obtain⟨f,q⟩:=zi p (g:=R) e;exact zt z q (by decide) rfl))
 rcases F g c with E|E
 ·exact h.ord.fd.apart g E
 refine⟨λQ=>?_,λS=>?_⟩
 ·have:=(x g Q).1;omega
 have:=(y g S).1;omega
def IK{c:Value}{n:Nat}(d:∀g,c.ownBlock=vb g->ro.rv.ownBlock=vb g\/n<=g):∀b,OB { ro with rv:=c } b->OB ro b\/n<=b:=by
 intro b a;rcases a with a|a|a|a
 ·exact Or.inl (Or.inl a)
 ·exact Or.inl (Or.inr (Or.inl a))
 ·rcases d b a with h|h
  ·exact Or.inl (Or.inr (Or.inr (Or.inl h)))
  exact Or.inr h
 exact Or.inl (Or.inr (Or.inr (Or.inr a)))
def jU:∀(l:List (Nat×Nat)) (p:Nat×Nat),zl (l++[p])=zl l++[Y V p.1,Y V p.2]
 |[],p=>rfl
 |q::l,p=>by simp only[Yb,zl,jU l p]
def gF(rj:List (Nat×Nat))(r k:Nat):List (Nat×Nat):=(rj.take k).eraseIdx r
def OR{r k:Nat}(b:k<rj.length)(h:k=r):gF rj r (k+1)=gF rj r k:=by
 subst h;unfold gF;have c:(rj.take k).length=k:=by rw[yu];omega
 have a:(rj.take k).eraseIdx k=rj.take k:=YJ (by omega);rw[a,xn b,xbF (by omega),c,xaT];simp
def OS{r k:Nat}(a:k<rj.length)(h:k≠r):gF rj r (k+1)=gF rj r k++[rj.getD k (0,0)]:=by
 unfold gF;have e:rj.take (k+1)=rj.take k++[rj.getD k (0,0)]:=by
  rw[xn a];simp[WI,a]
 rw[e];by_cases b:r<k
 ·rw[xbG (by simp;omega)]
 rw[YJ (by simp;omega),YJ (by simp;omega)]
def LD(rj:List (Nat×Nat))(r k:Nat):(gF rj r k).length<=k:=by
 unfold gF;have a:=List.length_eraseIdx_le (rj.take k) r;have b:(rj.take k).length<=k:=xae _ _;omega
def LC{a m:Nat}(h:rj.contains (a,m)=true):gF rj (Xn rj a m) rj.length=rj.erase (a,m):=by
 unfold gF Xn;rw[XZ];clear h;induction rj with
 |nil=>rfl
 |cons x l ih=>
  rw[xbP,List.erase_cons]
  cases b:(x==(a,m)) with
  |true=>simp
  |false=>simp only[YK,xcK,ih,Yg,xam]
def Ca(h:RV os rj ro w R v td rec fs ls)(gn Q:Nat)(a m:Nat)(b1:NS w gn [a,m])(h1:a<=2147483647)(h2:m<=2147483647):Calls prog 72 #[ve (vb ⟨R,0,U⟩),vd (vb ⟨gn,0,U⟩) 2 Q] w λe w'=>Kp (λb=>b=R) w w'/\e=vf (Y V (zY rj a m:Int))/\∃a0,RV os (Zz rj a m) a0 w' R v td rec fs ls/\∀b,OB a0 b->OB ro b\/w.heap.size<=b:=by
 obtain⟨ip,a7,b2,b3,b4⟩:=Yc xH;obtain⟨⟨cs,F⟩,z⟩:=b1;have n0:w.cell? ⟨gn,0,U⟩=vb (Y V a):=z 0 (by simp);have n1:w.cell? ⟨gn,1,U⟩=vb (Y V m):=z 1 (by simp);have c9:=zc F;have P:Ha (∀n,Calls prog 116 #[ve (vb ⟨R,0,U⟩),Y V a,Y V m] (w.drewN n) λe w'=>e=vf (Y V (Ae rj a m))/\w'=w.drewN n):=λn=>gE (h.below (yf (xm _ _) n)) a m
 have j:=zc h.store;have d0:=h.rc.len;have HP:=zb h
 cases x:rj.contains (a,m) with
 |false=>
  have HC:Ha (zY rj a m=10):=by unfold Ha zY;rw[x];rfl
  have HS:Ha (Zz rj a m=rj):=by unfold Ha Zz;rw[x];rfl
  have N:Ha (Ae rj a m=-1):=by unfold Ha Ae;rw[xg (λq=>by rw[mA.1 q]at x;cases x)]
  rw[N.o]at P;rw[HC.o,HS.o];clear x h z F N;go_enter func72,ntmps72;go_wp2_with fail;go_quiet ((go_at_call 116;exact xaB (P _)));go_wp2_with fail;go_ret;exact⟨WT (yf (xm _ _) nq),rfl,ro,HP.below (yf (xm _ _) nq),λb f=>Or.inl f⟩
 |true=>
  have HC:Ha (zY rj a m=0):=by unfold Ha zY;rw[x];rfl
  have HS:Ha (Zz rj a m=rj.erase (a,m)):=by unfold Ha Zz;rw[x];rfl
  have M:=zb (LC x);have b5:Xn rj a m<rj.length:=mA.2 x;have N:Ha (Ae rj a m=(Xn rj a m:Int)):=by unfold Ha Ae;rw[xh b5]
  have a5:=zb (h.rc.del (a,m));rw[N.o]at P;rw[HC.o,HS.o];generalize Xn rj a m=r at *;obtain⟨ra,X,W,i⟩:=h.rshape;have c3:=h.c3;rw[W]at c3;have f3:=ze h.store 3;clear x h z F N W;go_enter func72,ntmps72;go_wp2_with fail;go_quiet ((go_at_call 116;exact xaB (P _)));go_wp2_with fail;obtain⟨wq,y⟩:=Xc (w.drewN nq);have a1:Ha (Below w.heap.size w wq):=by unfold Ha;rw[y.o];exact yf (xm _ _) nq
  have b9:Ha (wq.heap.size=w.heap.size):=by unfold Ha;rw[y.o];rfl
  rw[<-y.o];clear y n0 n1 P;go_loopw [6,7] (λlv ii wr=>∃k:Nat,k<=rj.length/\ii=Y V k/\wr.ownsRow w.heap.size 181 2 lv (gF rj r k).length (zl (gF rj r k))/\Below w.heap.size w wr) (λ_ ii _=>rj.length-(intOf ii).toNat)
  case atStart=>exact⟨0,by omega,rfl,by unfold gF;simp[zl];exact yd _ _ _ _,a1⟩
  obtain⟨k,hk,rfl,c,f⟩:=hrel;obtain⟨la,lc,a8⟩:=zj c;subst a8;have T:=LD rj r k;have c6:wr.cell? ⟨R,3,U⟩=vb (vd ra rj.length X):=(f.cell (by exact j)).trans c3;by_cases A:k<rj.length
  ·obtain⟨G,hG,B,d⟩:=i (by omega);subst hG;obtain⟨k1,k2⟩:=d k A;have g1:=(f.cell (p:=⟨G,k*2,U⟩) B).trans k1;have g2:=(f.cell (p:=⟨G,k*2+1,U⟩) B).trans k2;have C:=zb c;have H:=zb f;have b6:w.heap.size<=wr.heap.size:=f.size;by_cases s:k=r
   ·have a9:((k:Int) != (r:Int))=false:=by rw[s];simp
    have HE:=zb (OR A s);clear d i c f s k1 k2;go_wp2_with fail;go_roundw
    case rel=>exact⟨k+1,by omega,by go_num,by rw[HE.o];exact C,H⟩
    simp[intOf];omega
   have a9:((k:Int) != (r:Int))=true:=by rw[YP];omega
   have HE:=zb (OS A s);obtain⟨px,J⟩:=Xc ((rj.getD k (0,0)).1);obtain⟨py,K⟩:=Xc ((rj.getD k (0,0)).2);rw[<-J.o]at g1;rw[<-K.o]at g2;obtain⟨rl,D⟩:=Xc ((gF rj r k).length);rw[<-D.o]at C T;rw[<-D.o];clear d i c f s k1 k2;go_wp2_with (at_builtin;refine XW _ rfl _ _ 40 rfl w.heap.size 181 ip (.agg #[Y V 0,Y V 0]) 2 16 yS a7 b2 b3 b4 rfl (by decide) _ rl (zl (gF rj r k)) rfl (C.alloc _) ⟨wr.heap.size,0,U⟩ 1 1 [Y V px,Y V py] rfl rfl ?c1 ?c2 ?c3 ?c4 ?c5 ?_)
   case c1=>exact xab _ _ _ _
   case c2=>intro u hu;simp at hu;rcases hu with rfl|rfl<;>rfl
   case c3=>unfold maxLen;omega
   case c4=>omega
   case c5=>simp;omega
   intro b7 w6 t l b0;have S:Below w.heap.size w w6:=(H.alloc b6 _).grown l (by simp;omega) (λq hq=>(C.lt q hq).1);have a3:Ha (w6.ownsRow w.heap.size 181 2 b7 (gF rj r (k+1)).length (zl (gF rj r (k+1)))):=by
    unfold Ha;rw[HE.o,jU,xc,XX,<-D.o,<-J.o,<-K.o];exact t
   have a2:=zb S;clear t l b0 S;go_wp2_with fail;go_roundw
   case rel=>exact⟨k+1,by omega,by go_num,a3,a2⟩
   simp[intOf];omega
  obtain rfl:k=rj.length:=by omega
  rw[M.o]at c;rw[M.o];have c8:=xl j f.size;have c7:=(f.frozen (p:=⟨R,3,U⟩) j).trans f3;have b8:=zb (HP.below f);have H:=zb f;have C:=zb c;clear i A c f T;have E:∀g,(Value.slice la (rj.erase (a,m)).length lc).ownBlock=vb g->ro.rv.ownBlock=vb g\/w.heap.size<=g:=λg hg=>Or.inr (C.lt g hg).1
  have a6:=zb (HP.recl (w1:=wr) (w2:=wr) (λk hk=>H.block k hk) H.size ⟨rfl,rfl,rfl,xe _,λ_ _ _=>rfl⟩ (aO C) E a5);have a4:=zb (IK E);have HK:Ha (Kp (λb=>b=R) w (wr.setCell ⟨R,3,U⟩ (vd la (rj.erase (a,m)).length lc))):=Kp.setCell (Z:=λb=>b=R) (WT H) (p:=⟨R,3,U⟩) (Or.inl rfl) _;clear E;go_wp2_with fail;go_ret;exact⟨HK,rfl,_,a6,a4⟩
def DY(h:RV os rj ro w R v td rec fs ls)(z t:Nat)(a m:Nat)(B:NS w z [a,m])(D:a<=2147483647)(J:m<=2147483647)(c:zC rj ls a m≠0):Calls prog 71 #[ve (vb ⟨R,0,U⟩),vd (vb ⟨z,0,U⟩) 2 t] w λe w'=>Below w.heap.size w w'/\e=vf (.tuple #[vd U 0 0,Y V (zC rj ls a m:Int)]):=by
 obtain⟨⟨H,f⟩,d⟩:=B;have K:w.cell? ⟨z,0,U⟩=vb (Y V a):=d 0 (by simp);have M:w.cell? ⟨z,1,U⟩=vb (Y V m):=d 1 (by simp);have F:=zc f;have l:=zb (cJ h a D);have y:Ha (∀n,Calls prog 116 #[ve (vb ⟨R,0,U⟩),Y V a,Y V m] (w.drewN n) λe w'=>e=vf (Y V (Ae rj a m))/\w'=w.drewN n):=λn=>gE (h.below (yf (xm _ _) n)) a m
 by_cases k:WO a ls<ls.length
 ·have b:Ha (Wn ls a=(WO a ls:Int)):=by unfold Ha Wn;rw[xh k]
  rw[b.o]at l;have A:Ha (rj.contains (a,m)=true->zC rj ls a m=5):=λq=>by unfold zC;rw[xh k,q];rfl
  have p:Ha (rj.contains (a,m)=false->10<=rj.length/\zC rj ls a m=6):=λq=>by
   unfold zC at c ⊢;rw[xh k,q]at c ⊢;by_cases j:10<=rj.length
   ·exact⟨j,by rw[xh j];rfl⟩
   rw[xg j]at c;simp at c
  clear c;generalize zC rj ls a m=rcc at *;generalize WO a ls=ix at *
  cases i:rj.contains (a,m) with
  |true=>
   have g:Ha (rcc=5):=A.o i;have x:Xn rj a m<rj.length:=mA.2 i;have s:Ha (Ae rj a m=(Xn rj a m:Int)):=by unfold Ha Ae;rw[xh x]
   rw[s.o]at y;rw[g.o];generalize Xn rj a m=r at *;clear i h d f s b g x;go_enter func71,ntmps71;go_wp2_with (go_at_call 111;refine l.mono ?_;rintro e w1 ⟨rfl,rfl⟩);go_quiet ((go_at_call 116;exact xaB (y _)));go_wp2_with fail;go_ret2;exact⟨yf (xm _ _) nq,rfl⟩
  |false=>
   have E:10<=rj.length:=(p i).1;have g:Ha (rcc=6):=(p i).2;have s:Ha (Ae rj a m=-1):=by unfold Ha Ae;rw[xg (λq=>by rw[mA.1 q]at i;cases i)]
   rw[s.o]at y;rw[g.o];have c3:=h.c3;obtain⟨N,C,u,_⟩:=h.rshape;rw[u]at c3;have G:=h.rc.len;clear i h d f s b g u;go_enter func71,ntmps71;go_wp2_with (go_at_call 111;refine l.mono ?_;rintro e w1 ⟨rfl,rfl⟩);go_quiet ((go_at_call 116;exact xaB (y _)));go_wp2_with fail;go_ret2;exact⟨yf (xm _ _) nq,rfl⟩
 have b:Ha (Wn ls a=-1):=by unfold Ha Wn;rw[xg k]
 rw[b.o]at l;have g:Ha (zC rj ls a m=4):=by unfold Ha zC;rw[xg k]
 rw[g.o];clear h d f b c g k;go_enter func71,ntmps71;go_wp2_with (go_at_call 111;refine l.mono ?_;rintro e w1 ⟨rfl,rfl⟩);go_ret2;exact⟨xm _ _,rfl⟩
