import Derived.Test.YtgcedalggnmooaaGreatDoorDc1X
import Derived.Test.YtgcedalggnmooaaGreatDoorRp1X
import Derived.Test.YtgcedalggnmooaaGreatDoorQ10X
set_option linter.all false
set_option maxRecDepth 100000
set_option maxHeartbeats 3200000
namespace Go.Proofs.YtgcedalggnmooaaGreatDoor
open Go.RowKit
open Tryz
variable {R td:Nat}{fs:List Value}{ls:List L}{os:List O}{rj:List (Nat×Nat)}{rec:ByteArray}{ro:Ro}{v:Value}{w:World}
theorem RV.recl{d:List (Nat×Nat)}{w1 w2:World}(h:RV os rj ro w R v td rec fs ls){a:Value}(J:∀k,k<w.heap.size->w1.heap[k]?=w.heap[k]?)(T:w.heap.size<=w1.heap.size)(P:w1.grownBy w2 ro.rv.ownBlock)(p:w2.ownsRow 0 181 2 a d.length (zA d))(F:∀g,a.ownBlock=some g->ro.rv.ownBlock=some g\/w.heap.size<=g)(H:Rc d):RV os d { ro with rv:=a } (w2.setCell ⟨R,3,none⟩ a) R v td rec fs ls:=by
 have C:∀(b:Nat),b<w.heap.size->ro.rv.ownBlock≠some b->w2.heap[b]?=w.heap[b]?:=λb m u=>(P.block b (by omega) (λe=>u e.symm)).trans (J b m)
 have B:∀(b:Nat) (f:Array Value) (t:TypeId),w.heap[b]?=some (.cells f t (0,0))->t≠181->ro.rv.ownBlock≠some b:=λb f t m W e=>by
  obtain⟨M,q⟩:=zi h.ord.fd.rrow e;exact zw m q W rfl
 have z:=(C R (zc h.store) (B R _ _ h.store (by decide))).trans h.store;have j:∀(b:Nat),b<w.heap.size->ro.rv.ownBlock≠some b->b≠R->(w2.setCell ⟨R,3,none⟩ a).heap[b]?=w.heap[b]?:=λb m u G=>by
  rw[xa _ _ _ _ G];exact C b m u
 have D:∀(b:Nat) (f:Array Value) (t:TypeId),w.heap[b]?=some (.cells f t (0,0))->t≠181->t≠42->(w2.setCell ⟨R,3,none⟩ a).heap[b]?=w.heap[b]?:=λb f t m E N=>j b (zc m) (B b f t m E) (zw m h.store N)
 have x:∀g,LB ro g->g<w.heap.size/\(w2.setCell ⟨R,3,none⟩ a).heap[g]?=w.heap[g]?:=λg A=>by
  have l:=h.ord.lt (Or.inr (Or.inl A));obtain⟨i,n,K⟩:=A;obtain⟨f,q⟩:=zi (h.ord.li i (by rw[<-h.ord.llen];exact n)) K;exact⟨l,j g l (λe=>(h.ord.fd.apart g e).1 ⟨i,n,K⟩) (zw q h.store (by decide))⟩
 have y:∀g,PB ro g->g<w.heap.size/\(w2.setCell ⟨R,3,none⟩ a).heap[g]?=w.heap[g]?:=λg s=>by
  have l:=h.ord.lt (Or.inr (Or.inr (Or.inr s)));obtain⟨f,q⟩:=h.ord.fd.ty (Or.inr s);exact⟨l,j g l (λe=>(h.ord.fd.apart g e).2 s) (zw q h.store (by decide))⟩
 refine⟨?_,ze h.row (λg c=>by obtain⟨f,r⟩:=zi h.row c;exact D _ _ _ r (by decide) (by decide)),h.flen,h.fro,⟨ze h.ord.row (λg c=>by obtain⟨f,r⟩:=zi h.ord.row c;exact D _ _ _ r (by decide) (by decide)),h.ord.llen,λi n=>ze (h.ord.li i n) (λg c=>(x g ⟨i,by rw[h.ord.llen];exact n,c⟩).2),?_⟩,h.today,h.ok,h.room,h.fam,H⟩
 ·have:=xq w2 R 3 _ 42 a z
  simpa using this
 refine⟨?_,h.ord.fd.flen,λi n=>(h.ord.fd.frm i n).congr (λg c=>(y g ⟨i,n,c⟩).2),λg c=>?_⟩
 ·exact p.kept (zV w2 ⟨R,3,none⟩ a) (Or.inr (λe=>by
   obtain⟨f,q⟩:=zi p (g:=R) e;exact zw z q (by decide) rfl))
 rcases F g c with E|E
 ·exact h.ord.fd.apart g E
 refine⟨λQ=>?_,λS=>?_⟩
 ·have:=(x g Q).1;omega
 have:=(y g S).1;omega
theorem GR{c:Value}{n:Nat}(d:∀g,c.ownBlock=some g->ro.rv.ownBlock=some g\/n<=g):∀b,OB { ro with rv:=c } b->OB ro b\/n<=b:=by
 intro b a;rcases a with a|a|a|a
 ·exact Or.inl (Or.inl a)
 ·exact Or.inl (Or.inr (Or.inl a))
 ·rcases d b a with h|h
  ·exact Or.inl (Or.inr (Or.inr (Or.inl h)))
  exact Or.inr h
 exact Or.inl (Or.inr (Or.inr (Or.inr a)))
theorem qD:∀(l:List (Nat×Nat)) (p:Nat×Nat),zA (l++[p])=zA l++[.int .i64 p.1,.int .i64 p.2]
 |[],p=>rfl
 |q::l,p=>by simp only[XF,zA,qD l p]
def fW(rj:List (Nat×Nat))(r k:Nat):List (Nat×Nat):=(rj.take k).eraseIdx r
theorem MZ{r k:Nat}(b:k<rj.length)(h:k=r):fW rj r (k+1)=fW rj r k:=by
 subst h;unfold fW;have c:(rj.take k).length=k:=by rw[Xt];omega
 have a:(rj.take k).eraseIdx k=rj.take k:=yd (by omega);rw[a,xl b,xav (by omega),c,YM];simp
theorem Na{r k:Nat}(a:k<rj.length)(h:k≠r):fW rj r (k+1)=fW rj r k++[rj.getD k (0,0)]:=by
 unfold fW;have e:rj.take (k+1)=rj.take k++[rj.getD k (0,0)]:=by
  rw[xl a];simp[Uv,a]
 rw[e];by_cases b:r<k
 ·rw[xaw (by simp;omega)]
 rw[yd (by simp;omega),yd (by simp;omega)]
theorem JL(rj:List (Nat×Nat))(r k:Nat):(fW rj r k).length<=k:=by
 unfold fW;have a:=List.length_eraseIdx_le (rj.take k) r;have b:(rj.take k).length<=k:=Ym _ _;omega
theorem JK{a m:Nat}(h:rj.contains (a,m)=true):fW rj (UW rj a m) rj.length=rj.erase (a,m):=by
 unfold fW UW;rw[Xa];clear h;induction rj with
 |nil=>rfl
 |cons x l ih=>
  rw[xaE,List.erase_cons]
  cases b:(x==(a,m)) with
  |true=>simp
  |false=>simp only[ye,xbw,ih,XA,Yc]
theorem Bf(h:RV os rj ro w R v td rec fs ls)(gn Q:Nat)(a m:Nat)(b1:NS w gn [a,m])(h1:a<=2147483647)(h2:m<=2147483647):Calls prog 72 #[.pointer (some ⟨R,0,none⟩),.slice (some ⟨gn,0,none⟩) 2 Q] w λe w'=>Kp (λb=>b=R) w w'/\e=.returned (.int .i64 (zZ rj a m:Int))/\∃a0,RV os (Zz rj a m) a0 w' R v td rec fs ls/\∀b,OB a0 b->OB ro b\/w.heap.size<=b:=by
 obtain⟨ip,a7,b2,b3,b4⟩:=XH wH;obtain⟨⟨cs,F⟩,z⟩:=b1;have n0:w.cell? ⟨gn,0,none⟩=some (.int .i64 a):=z 0 (by simp);have n1:w.cell? ⟨gn,1,none⟩=some (.int .i64 m):=z 1 (by simp);have c9:=zc F;have P:Ha (∀n,Calls prog 116 #[.pointer (some ⟨R,0,none⟩),.int .i64 a,.int .i64 m] (w.drewN n) λe w'=>e=.returned (.int .i64 (yC rj a m))/\w'=w.drewN n):=λn=>fV (h.below (Xf (xh _ _) n)) a m
 have j:=zc h.store;have d0:=h.rc.len;have HP:=zb h
 cases x:rj.contains (a,m) with
 |false=>
  have HC:Ha (zZ rj a m=10):=by unfold Ha zZ;rw[x];rfl
  have HS:Ha (Zz rj a m=rj):=by unfold Ha Zz;rw[x];rfl
  have N:Ha (yC rj a m=-1):=by unfold Ha yC;rw[xg (λq=>by rw[lJ.1 q]at x;cases x)]
  rw[N.o]at P;rw[HC.o,HS.o];clear x h z F N;go_enter func72,ntmps72;go_wp2_with fail;go_quiet ((go_at_call 116;exact Yn (P _)));go_wp2_with fail;go_ret;exact⟨UD (Xf (xh _ _) nq),rfl,ro,HP.below (Xf (xh _ _) nq),λb f=>Or.inl f⟩
 |true=>
  have HC:Ha (zZ rj a m=0):=by unfold Ha zZ;rw[x];rfl
  have HS:Ha (Zz rj a m=rj.erase (a,m)):=by unfold Ha Zz;rw[x];rfl
  have M:=zb (JK x);have b5:UW rj a m<rj.length:=lJ.2 x;have N:Ha (yC rj a m=(UW rj a m:Int)):=by unfold Ha yC;rw[xe b5]
  have a5:=zb (h.rc.del (a,m));rw[N.o]at P;rw[HC.o,HS.o];generalize UW rj a m=r at *;obtain⟨ra,X,W,i⟩:=h.rshape;have c3:=h.c3;rw[W]at c3;have f3:=zf h.store 3;clear x h z F N W;go_enter func72,ntmps72;go_wp2_with fail;go_quiet ((go_at_call 116;exact Yn (P _)));go_wp2_with fail;obtain⟨wq,y⟩:=UM (w.drewN nq);have a1:Ha (Below w.heap.size w wq):=by unfold Ha;rw[y.o];exact Xf (xh _ _) nq
  have b9:Ha (wq.heap.size=w.heap.size):=by unfold Ha;rw[y.o];rfl
  rw[<-y.o];clear y n0 n1 P;go_loopw [6,7] (λlv ii wr=>∃k:Nat,k<=rj.length/\ii=.int .i64 k/\wr.ownsRow w.heap.size 181 2 lv (fW rj r k).length (zA (fW rj r k))/\Below w.heap.size w wr) (λ_ ii _=>rj.length-(intOf ii).toNat)
  case atStart=>exact⟨0,by omega,rfl,by unfold fW;simp[zA];exact Xi _ _ _ _,a1⟩
  obtain⟨k,hk,rfl,c,f⟩:=hrel;obtain⟨la,lc,a8⟩:=zm c;subst a8;have T:=JL rj r k;have c6:wr.cell? ⟨R,3,none⟩=some (.slice ra rj.length X):=(f.cell (by exact j)).trans c3;by_cases A:k<rj.length
  ·obtain⟨G,hG,B,d⟩:=i (by omega);subst hG;obtain⟨k1,k2⟩:=d k A;have g1:=(f.cell (p:=⟨G,k*2,none⟩) B).trans k1;have g2:=(f.cell (p:=⟨G,k*2+1,none⟩) B).trans k2;have C:=zb c;have H:=zb f;have b6:w.heap.size<=wr.heap.size:=f.size;by_cases s:k=r
   ·have a9:((k:Int) != (r:Int))=false:=by rw[s];simp
    have HE:=zb (MZ A s);clear d i c f s k1 k2;go_wp2_with fail;go_roundw
    case rel=>exact⟨k+1,by omega,by go_num,by rw[HE.o];exact C,H⟩
    simp[intOf];omega
   have a9:((k:Int) != (r:Int))=true:=by rw[yk];omega
   have HE:=zb (Na A s);obtain⟨px,J⟩:=UM ((rj.getD k (0,0)).1);obtain⟨py,K⟩:=UM ((rj.getD k (0,0)).2);rw[<-J.o]at g1;rw[<-K.o]at g2;obtain⟨rl,D⟩:=UM ((fW rj r k).length);rw[<-D.o]at C T;rw[<-D.o];clear d i c f s k1 k2;go_wp2_with (at_builtin;refine Xb _ rfl _ _ 40 rfl w.heap.size 181 ip (.agg #[.int .i64 0,.int .i64 0]) 2 16 xP a7 b2 b3 b4 rfl (by decide) _ rl (zA (fW rj r k)) rfl (C.alloc _) ⟨wr.heap.size,0,none⟩ 1 1 [.int .i64 px,.int .i64 py] rfl rfl ?c1 ?c2 ?c3 ?c4 ?c5 ?_)
   case c1=>exact Yb _ _ _ _
   case c2=>intro u hu;simp at hu;rcases hu with rfl|rfl<;>rfl
   case c3=>unfold maxLen;omega
   case c4=>omega
   case c5=>simp;omega
   intro b7 w6 t l b0;have S:Below w.heap.size w w6:=(H.alloc b6 _).grown l (by simp;omega) (λq hq=>(C.lt q hq).1);have a3:Ha (w6.ownsRow w.heap.size 181 2 b7 (fW rj r (k+1)).length (zA (fW rj r (k+1)))):=by
    unfold Ha;rw[HE.o,qD,xb,Xc,<-D.o,<-J.o,<-K.o];exact t
   have a2:=zb S;clear t l b0 S;go_wp2_with fail;go_roundw
   case rel=>exact⟨k+1,by omega,by go_num,a3,a2⟩
   simp[intOf];omega
  obtain rfl:k=rj.length:=by omega
  rw[M.o]at c;rw[M.o];have c8:=xn j f.size;have c7:=(f.frozen (p:=⟨R,3,none⟩) j).trans f3;have b8:=zb (HP.below f);have H:=zb f;have C:=zb c;clear i A c f T;have E:∀g,(Value.slice la (rj.erase (a,m)).length lc).ownBlock=some g->ro.rv.ownBlock=some g\/w.heap.size<=g:=λg hg=>Or.inr (C.lt g hg).1
  have a6:=zb (HP.recl (w1:=wr) (w2:=wr) (λk hk=>H.block k hk) H.size ⟨rfl,rfl,rfl,xc _,λ_ _ _=>rfl⟩ (aK C) E a5);have a4:=zb (GR E);have HK:Ha (Kp (λb=>b=R) w (wr.setCell ⟨R,3,none⟩ (.slice la (rj.erase (a,m)).length lc))):=Kp.setCell (Z:=λb=>b=R) (UD H) (p:=⟨R,3,none⟩) (Or.inl rfl) _;clear E;go_wp2_with fail;go_ret;exact⟨HK,rfl,_,a6,a4⟩
theorem Dd(h:RV os rj ro w R v td rec fs ls)(z t:Nat)(a m:Nat)(B:NS w z [a,m])(D:a<=2147483647)(J:m<=2147483647)(c:zE rj ls a m≠0):Calls prog 71 #[.pointer (some ⟨R,0,none⟩),.slice (some ⟨z,0,none⟩) 2 t] w λe w'=>Below w.heap.size w w'/\e=.returned (.tuple #[.slice none 0 0,.int .i64 (zE rj ls a m:Int)]):=by
 obtain⟨⟨H,f⟩,d⟩:=B;have K:w.cell? ⟨z,0,none⟩=some (.int .i64 a):=d 0 (by simp);have M:w.cell? ⟨z,1,none⟩=some (.int .i64 m):=d 1 (by simp);have F:=zc f;have l:=zb (aS h a D);have y:Ha (∀n,Calls prog 116 #[.pointer (some ⟨R,0,none⟩),.int .i64 a,.int .i64 m] (w.drewN n) λe w'=>e=.returned (.int .i64 (yC rj a m))/\w'=w.drewN n):=λn=>fV (h.below (Xf (xh _ _) n)) a m
 by_cases k:UB a ls<ls.length
 ·have b:Ha (Ua ls a=(UB a ls:Int)):=by unfold Ha Ua;rw[xe k]
  rw[b.o]at l;have A:Ha (rj.contains (a,m)=true->zE rj ls a m=5):=λq=>by unfold zE;rw[xe k,q];rfl
  have p:Ha (rj.contains (a,m)=false->10<=rj.length/\zE rj ls a m=6):=λq=>by
   unfold zE at c ⊢;rw[xe k,q]at c ⊢;by_cases j:10<=rj.length
   ·exact⟨j,by rw[xe j];rfl⟩
   rw[xg j]at c;simp at c
  clear c;generalize zE rj ls a m=rcc at *;generalize UB a ls=ix at *
  cases i:rj.contains (a,m) with
  |true=>
   have g:Ha (rcc=5):=A.o i;have x:UW rj a m<rj.length:=lJ.2 i;have s:Ha (yC rj a m=(UW rj a m:Int)):=by unfold Ha yC;rw[xe x]
   rw[s.o]at y;rw[g.o];generalize UW rj a m=r at *;clear i h d f s b g x;go_enter func71,ntmps71;go_wp2_with (go_at_call 111;refine l.mono ?_;rintro e w1 ⟨rfl,rfl⟩);go_quiet ((go_at_call 116;exact Yn (y _)));go_wp2_with fail;go_ret2;exact⟨Xf (xh _ _) nq,rfl⟩
  |false=>
   have E:10<=rj.length:=(p i).1;have g:Ha (rcc=6):=(p i).2;have s:Ha (yC rj a m=-1):=by unfold Ha yC;rw[xg (λq=>by rw[lJ.1 q]at i;cases i)]
   rw[s.o]at y;rw[g.o];have c3:=h.c3;obtain⟨N,C,u,_⟩:=h.rshape;rw[u]at c3;have G:=h.rc.len;clear i h d f s b g u;go_enter func71,ntmps71;go_wp2_with (go_at_call 111;refine l.mono ?_;rintro e w1 ⟨rfl,rfl⟩);go_quiet ((go_at_call 116;exact Yn (y _)));go_wp2_with fail;go_ret2;exact⟨Xf (xh _ _) nq,rfl⟩
 have b:Ha (Ua ls a=-1):=by unfold Ha Ua;rw[xg k]
 rw[b.o]at l;have g:Ha (zE rj ls a m=4):=by unfold Ha zE;rw[xg k]
 rw[g.o];clear h d f b c g k;go_enter func71,ntmps71;go_wp2_with (go_at_call 111;refine l.mono ?_;rintro e w1 ⟨rfl,rfl⟩);go_ret2;exact⟨xh _ _,rfl⟩
