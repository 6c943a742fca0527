import Derived.Test.YtgcedalggnmooaaGreatDoorDc1X
import Derived.Test.YtgcedalggnmooaaGreatDoorRp1X
import Derived.Test.YtgcedalggnmooaaGreatDoorQ10X
set_option linter.all false
set_option maxRecDepth 100000
set_option maxHeartbeats 3200000
namespace Go.Proofs.YtgcedalggnmooaaGreatDoor
open Go.RowKit
variable {R td:Nat}{fs:List Value}{ls:List L}{os:List O}{rcs:List (Nat×Nat)}{rec:ByteArray}{ro:Ro}{v:Value}{w:World}
theorem RV.recl{d:List (Nat×Nat)}{w1 w2:World}(h:RV os rcs ro w R v td rec fs ls){a:Value}(J:∀k,k<w.heap.size->w1.heap[k]?=w.heap[k]?)(T:w.heap.size<=w1.heap.size)(P:w1.grownBy w2 ro.rv.ownBlock)(p:w2.ownsRow 0 181 2 a d.length (zx d))(F:∀g,a.ownBlock=some g->ro.rv.ownBlock=some g\/w.heap.size<=g)(H:Rc d):RV os d { ro with rv:=a } (w2.setCell ⟨R,3,none⟩ a) R v td rec fs ls:=by
 have C:∀(b:Nat),b<w.heap.size->ro.rv.ownBlock≠some b->w2.heap[b]?=w.heap[b]?:=λb m u=>(P.block b (by omega) (λe=>u e.symm)).trans (J b m)
 have B:∀(b:Nat) (f:Array Value) (t:TypeId),w.heap[b]?=some (.cells f t (0,0))->t≠181->ro.rv.ownBlock≠some b:=λb f t m W e=>by
  obtain⟨M,q⟩:=zi h.ord.fd.rrow e;exact zv m q W rfl
 have z:=(C R (zc h.store) (B R _ _ h.store (by decide))).trans h.store;have j:∀(b:Nat),b<w.heap.size->ro.rv.ownBlock≠some b->b≠R->(w2.setCell ⟨R,3,none⟩ a).heap[b]?=w.heap[b]?:=λb m u G=>by
  rw[xa _ _ _ _ G];exact C b m u
 have D:∀(b:Nat) (f:Array Value) (t:TypeId),w.heap[b]?=some (.cells f t (0,0))->t≠181->t≠42->(w2.setCell ⟨R,3,none⟩ a).heap[b]?=w.heap[b]?:=λb f t m E N=>j b (zc m) (B b f t m E) (zv m h.store N)
 have x:∀g,LB ro g->g<w.heap.size/\(w2.setCell ⟨R,3,none⟩ a).heap[g]?=w.heap[g]?:=λg A=>by
  have l:=h.ord.lt (Or.inr (Or.inl A));obtain⟨i,n,K⟩:=A;obtain⟨f,q⟩:=zi (h.ord.li i (by rw[<-h.ord.llen];exact n)) K;exact⟨l,j g l (λe=>(h.ord.fd.apart g e).1 ⟨i,n,K⟩) (zv q h.store (by decide))⟩
 have y:∀g,PB ro g->g<w.heap.size/\(w2.setCell ⟨R,3,none⟩ a).heap[g]?=w.heap[g]?:=λg s=>by
  have l:=h.ord.lt (Or.inr (Or.inr (Or.inr s)));obtain⟨f,q⟩:=h.ord.fd.ty (Or.inr s);exact⟨l,j g l (λe=>(h.ord.fd.apart g e).2 s) (zv q h.store (by decide))⟩
 refine⟨?_,ze h.row (λg c=>by obtain⟨f,r⟩:=zi h.row c;exact D _ _ _ r (by decide) (by decide)),h.flen,h.fro,⟨ze h.ord.row (λg c=>by obtain⟨f,r⟩:=zi h.ord.row c;exact D _ _ _ r (by decide) (by decide)),h.ord.llen,λi n=>ze (h.ord.li i n) (λg c=>(x g ⟨i,by rw[h.ord.llen];exact n,c⟩).2),?_⟩,h.today,h.ok,h.room,h.fam,H⟩
 ·have:=xp w2 R 3 _ 42 a z
  simpa using this
 refine⟨?_,h.ord.fd.flen,λi n=>(h.ord.fd.frm i n).congr (λg c=>(y g ⟨i,n,c⟩).2),λg c=>?_⟩
 ·exact p.kept (zS w2 ⟨R,3,none⟩ a) (Or.inr (λe=>by
   obtain⟨f,q⟩:=zi p (g:=R) e;exact zv z q (by decide) rfl))
 rcases F g c with E|E
 ·exact h.ord.fd.apart g E
 refine⟨λQ=>?_,λS=>?_⟩
 ·have:=(x g Q).1;omega
 have:=(y g S).1;omega
theorem GP{c:Value}{n:Nat}(d:∀g,c.ownBlock=some g->ro.rv.ownBlock=some g\/n<=g):∀b,OB { ro with rv:=c } b->OB ro b\/n<=b:=by
 intro b a;rcases a with a|a|a|a
 ·exact Or.inl (Or.inl a)
 ·exact Or.inl (Or.inr (Or.inl a))
 ·rcases d b a with h|h
  ·exact Or.inl (Or.inr (Or.inr (Or.inl h)))
  exact Or.inr h
 exact Or.inl (Or.inr (Or.inr (Or.inr a)))
theorem qE:∀(l:List (Nat×Nat)) (p:Nat×Nat),zx (l++[p])=zx l++[.int .i64 p.1,.int .i64 p.2]
 |[],p=>rfl
 |q::l,p=>by simp only[XF,zx,qE l p]
def fV(rcs:List (Nat×Nat))(r k:Nat):List (Nat×Nat):=(rcs.take k).eraseIdx r
theorem MU{r k:Nat}(b:k<rcs.length)(h:k=r):fV rcs r (k+1)=fV rcs r k:=by
 subst h;unfold fV;have c:(rcs.take k).length=k:=by rw[Xv];omega
 have a:(rcs.take k).eraseIdx k=rcs.take k:=yd (by omega);rw[a,xk b,xav (by omega),c,YL];simp
theorem MV{r k:Nat}(a:k<rcs.length)(h:k≠r):fV rcs r (k+1)=fV rcs r k++[rcs.getD k (0,0)]:=by
 unfold fV;have e:rcs.take (k+1)=rcs.take k++[rcs.getD k (0,0)]:=by
  rw[xk a];simp[Ul,a]
 rw[e];by_cases b:r<k
 ·rw[xaw (by simp;omega)]
 rw[yd (by simp;omega),yd (by simp;omega)]
theorem JI(rcs:List (Nat×Nat))(r k:Nat):(fV rcs r k).length<=k:=by
 unfold fV;have a:=List.length_eraseIdx_le (rcs.take k) r;have b:(rcs.take k).length<=k:=Ym _ _;omega
theorem JH{a m:Nat}(h:rcs.contains (a,m)=true):fV rcs (UM rcs a m) rcs.length=rcs.erase (a,m):=by
 unfold fV UM;rw[Xa];clear h;induction rcs with
 |nil=>rfl
 |cons x l ih=>
  rw[xaE,List.erase_cons]
  cases b:(x==(a,m)) with
  |true=>simp
  |false=>simp only[ye,xbw,ih,XA,Yc]
theorem Bg(h:RV os rcs ro w R v td rec fs ls)(gn Q:Nat)(a m:Nat)(b1:NS w gn [a,m])(h1:a<=2147483647)(h2:m<=2147483647):Calls Tryz.prog 72 #[.pointer (some ⟨R,0,none⟩),.slice (some ⟨gn,0,none⟩) 2 Q] w λe w'=>Kp (λb=>b=R) w w'/\e=.returned (.int .i64 (zZ rcs a m:Int))/\∃a0,RV os (Zg rcs a m) a0 w' R v td rec fs ls/\∀b,OB a0 b->OB ro b\/w.heap.size<=b:=by
 obtain⟨ip,a7,b2,b3,b4⟩:=XH wI;obtain⟨⟨cs,F⟩,z⟩:=b1;have n0:w.cell? ⟨gn,0,none⟩=some (.int .i64 a):=z 0 (by simp);have n1:w.cell? ⟨gn,1,none⟩=some (.int .i64 m):=z 1 (by simp);have c9:=zc F;have P:Hid (∀n,Calls Tryz.prog 116 #[.pointer (some ⟨R,0,none⟩),.int .i64 a,.int .i64 m] (w.drewN n) λe w'=>e=.returned (.int .i64 (yE rcs a m))/\w'=w.drewN n):=λn=>fU (h.below (Xf (xg _ _) n)) a m
 have j:=zc h.store;have d0:=h.rc.len;have HP:=zb h
 cases x:rcs.contains (a,m) with
 |false=>
  have HC:Hid (zZ rcs a m=10):=by unfold Hid zZ;rw[x];rfl
  have HS:Hid (Zg rcs a m=rcs):=by unfold Hid Zg;rw[x];rfl
  have N:Hid (yE rcs a m=-1):=by unfold Hid yE;rw[xe (λq=>by rw[lK.1 q]at x;cases x)]
  rw[N.out]at P;rw[HC.out,HS.out];clear x h z F N;go_enter Tryz.func72,Tryz.ntmps72;go_wp2_with fail;go_quiet ((go_at_call 116;exact Yn (P _)));go_wp2_with fail;go_ret;exact⟨Ut (Xf (xg _ _) nq),rfl,ro,HP.below (Xf (xg _ _) nq),λb f=>Or.inl f⟩
 |true=>
  have HC:Hid (zZ rcs a m=0):=by unfold Hid zZ;rw[x];rfl
  have HS:Hid (Zg rcs a m=rcs.erase (a,m)):=by unfold Hid Zg;rw[x];rfl
  have M:=zb (JH x);have b5:UM rcs a m<rcs.length:=lK.2 x;have N:Hid (yE rcs a m=(UM rcs a m:Int)):=by unfold Hid yE;rw[xd b5]
  have a5:=zb (h.rc.del (a,m));rw[N.out]at P;rw[HC.out,HS.out];generalize UM rcs a m=r at *;obtain⟨ra,X,W,i⟩:=h.rshape;have c3:=h.c3;rw[W]at c3;have f3:=zf h.store 3;clear x h z F N W;go_enter Tryz.func72,Tryz.ntmps72;go_wp2_with fail;go_quiet ((go_at_call 116;exact Yn (P _)));go_wp2_with fail;obtain⟨wq,y⟩:=UC (w.drewN nq);have a1:Hid (Below w.heap.size w wq):=by unfold Hid;rw[y.out];exact Xf (xg _ _) nq
  have b9:Hid (wq.heap.size=w.heap.size):=by unfold Hid;rw[y.out];rfl
  rw[<-y.out];clear y n0 n1 P;go_loopw [6,7] (λlv ii wr=>∃k:Nat,k<=rcs.length/\ii=.int .i64 k/\wr.ownsRow w.heap.size 181 2 lv (fV rcs r k).length (zx (fV rcs r k))/\Below w.heap.size w wr) (λ_ ii _=>rcs.length-(intOf ii).toNat)
  case atStart=>exact⟨0,by omega,rfl,by unfold fV;simp[zx];exact Xi _ _ _ _,a1⟩
  obtain⟨k,hk,rfl,c,f⟩:=hrel;obtain⟨la,lc,a8⟩:=zm c;subst a8;have T:=JI rcs r k;have c6:wr.cell? ⟨R,3,none⟩=some (.slice ra rcs.length X):=(f.cell (by exact j)).trans c3;by_cases A:k<rcs.length
  ·obtain⟨G,hG,B,d⟩:=i (by omega);subst hG;obtain⟨k1,k2⟩:=d k A;have g1:=(f.cell (p:=⟨G,k*2,none⟩) B).trans k1;have g2:=(f.cell (p:=⟨G,k*2+1,none⟩) B).trans k2;have C:=zb c;have H:=zb f;have b6:w.heap.size<=wr.heap.size:=f.size;by_cases s:k=r
   ·have a9:((k:Int) != (r:Int))=false:=by rw[s];simp
    have HE:=zb (MU A s);clear d i c f s k1 k2;go_wp2_with fail;go_roundw
    case rel=>exact⟨k+1,by omega,by go_num,by rw[HE.out];exact C,H⟩
    simp[intOf];omega
   have a9:((k:Int) != (r:Int))=true:=by rw[ym];omega
   have HE:=zb (MV A s);obtain⟨px,J⟩:=UC ((rcs.getD k (0,0)).1);obtain⟨py,K⟩:=UC ((rcs.getD k (0,0)).2);rw[<-J.out]at g1;rw[<-K.out]at g2;obtain⟨rl,D⟩:=UC ((fV rcs r k).length);rw[<-D.out]at C T;rw[<-D.out];clear d i c f s k1 k2;go_wp2_with (at_builtin;refine Xb _ rfl _ _ 40 rfl w.heap.size 181 ip (.agg #[.int .i64 0,.int .i64 0]) 2 16 xU a7 b2 b3 b4 rfl (by decide) _ rl (zx (fV rcs r k)) rfl (C.alloc _) ⟨wr.heap.size,0,none⟩ 1 1 [.int .i64 px,.int .i64 py] rfl rfl ?c1 ?c2 ?c3 ?c4 ?c5 ?_)
   case c1=>exact Yb _ _ _ _
   case c2=>intro u hu;simp at hu;rcases hu with rfl|rfl<;>rfl
   case c3=>unfold maxLen;omega
   case c4=>omega
   case c5=>simp;omega
   intro b7 w6 t l b0;have S:Below w.heap.size w w6:=(H.alloc b6 _).grown l (by simp;omega) (λq hq=>(C.lt q hq).1);have a3:Hid (w6.ownsRow w.heap.size 181 2 b7 (fV rcs r (k+1)).length (zx (fV rcs r (k+1)))):=by
    unfold Hid;rw[HE.out,qE,xb,Xc,<-D.out,<-J.out,<-K.out];exact t
   have a2:=zb S;clear t l b0 S;go_wp2_with fail;go_roundw
   case rel=>exact⟨k+1,by omega,by go_num,a3,a2⟩
   simp[intOf];omega
  obtain rfl:k=rcs.length:=by omega
  rw[M.out]at c;rw[M.out];have c8:=xn j f.size;have c7:=(f.frozen (p:=⟨R,3,none⟩) j).trans f3;have b8:=zb (HP.below f);have H:=zb f;have C:=zb c;clear i A c f T;have E:∀g,(Value.slice la (rcs.erase (a,m)).length lc).ownBlock=some g->ro.rv.ownBlock=some g\/w.heap.size<=g:=λg hg=>Or.inr (C.lt g hg).1
  have a6:=zb (HP.recl (w1:=wr) (w2:=wr) (λk hk=>H.block k hk) H.size ⟨rfl,rfl,rfl,xc _,λ_ _ _=>rfl⟩ (aI C) E a5);have a4:=zb (GP E);have HK:Hid (Kp (λb=>b=R) w (wr.setCell ⟨R,3,none⟩ (.slice la (rcs.erase (a,m)).length lc))):=Kp.setCell (Z:=λb=>b=R) (Ut H) (p:=⟨R,3,none⟩) (Or.inl rfl) _;clear E;go_wp2_with fail;go_ret;exact⟨HK,rfl,_,a6,a4⟩
theorem Dg(h:RV os rcs ro w R v td rec fs ls)(z t:Nat)(a m:Nat)(B:NS w z [a,m])(D:a<=2147483647)(J:m<=2147483647)(c:zE rcs ls a m≠0):Calls Tryz.prog 71 #[.pointer (some ⟨R,0,none⟩),.slice (some ⟨z,0,none⟩) 2 t] w λe w'=>Below w.heap.size w w'/\e=.returned (.tuple #[.slice none 0 0,.int .i64 (zE rcs ls a m:Int)]):=by
 obtain⟨⟨H,f⟩,d⟩:=B;have K:w.cell? ⟨z,0,none⟩=some (.int .i64 a):=d 0 (by simp);have M:w.cell? ⟨z,1,none⟩=some (.int .i64 m):=d 1 (by simp);have F:=zc f;have l:=zb (cD h a D);have y:Hid (∀n,Calls Tryz.prog 116 #[.pointer (some ⟨R,0,none⟩),.int .i64 a,.int .i64 m] (w.drewN n) λe w'=>e=.returned (.int .i64 (yE rcs a m))/\w'=w.drewN n):=λn=>fU (h.below (Xf (xg _ _) n)) a m
 by_cases k:Ur a ls<ls.length
 ·have b:Hid (TR ls a=(Ur a ls:Int)):=by unfold Hid TR;rw[xd k]
  rw[b.out]at l;have A:Hid (rcs.contains (a,m)=true->zE rcs ls a m=5):=λq=>by unfold zE;rw[xd k,q];rfl
  have p:Hid (rcs.contains (a,m)=false->10<=rcs.length/\zE rcs ls a m=6):=λq=>by
   unfold zE at c ⊢;rw[xd k,q]at c ⊢;by_cases j:10<=rcs.length
   ·exact⟨j,by rw[xd j];rfl⟩
   rw[xe j]at c;simp at c
  clear c;generalize zE rcs ls a m=rcc at *;generalize Ur a ls=ix at *
  cases i:rcs.contains (a,m) with
  |true=>
   have g:Hid (rcc=5):=A.out i;have x:UM rcs a m<rcs.length:=lK.2 i;have s:Hid (yE rcs a m=(UM rcs a m:Int)):=by unfold Hid yE;rw[xd x]
   rw[s.out]at y;rw[g.out];generalize UM rcs a m=r at *;clear i h d f s b g x;go_enter Tryz.func71,Tryz.ntmps71;go_wp2_with (go_at_call 111;refine l.mono ?_;rintro e w1 ⟨rfl,rfl⟩);go_quiet ((go_at_call 116;exact Yn (y _)));go_wp2_with fail;go_ret2;exact⟨Xf (xg _ _) nq,rfl⟩
  |false=>
   have E:10<=rcs.length:=(p i).1;have g:Hid (rcc=6):=(p i).2;have s:Hid (yE rcs a m=-1):=by unfold Hid yE;rw[xe (λq=>by rw[lK.1 q]at i;cases i)]
   rw[s.out]at y;rw[g.out];have c3:=h.c3;obtain⟨N,C,u,_⟩:=h.rshape;rw[u]at c3;have G:=h.rc.len;clear i h d f s b g u;go_enter Tryz.func71,Tryz.ntmps71;go_wp2_with (go_at_call 111;refine l.mono ?_;rintro e w1 ⟨rfl,rfl⟩);go_quiet ((go_at_call 116;exact Yn (y _)));go_wp2_with fail;go_ret2;exact⟨Xf (xg _ _) nq,rfl⟩
 have b:Hid (TR ls a=-1):=by unfold Hid TR;rw[xe k]
 rw[b.out]at l;have g:Hid (zE rcs ls a m=4):=by unfold Hid zE;rw[xe k]
 rw[g.out];clear h d f b c g k;go_enter Tryz.func71,Tryz.ntmps71;go_wp2_with (go_at_call 111;refine l.mono ?_;rintro e w1 ⟨rfl,rfl⟩);go_ret2;exact⟨xg _ _,rfl⟩
