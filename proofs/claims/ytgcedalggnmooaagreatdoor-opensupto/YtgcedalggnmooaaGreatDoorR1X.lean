import Derived.Test.YtgcedalggnmooaaGreatDoorR0X
import Derived.Deep.RegionLaw
import Derived.Deep.AppendLies
set_option linter.all false
set_option maxRecDepth 100000
set_option maxHeartbeats 1600000
namespace Go.Proofs.YtgcedalggnmooaaGreatDoor
open Go.RowKit
open Tryz
theorem cY(w:World)(o:Obj)(g:Nat)(a:g=w.heap.size):(w.alloc o).heap[g]?=some o:=by subst a;exact xo w o
variable {R td:Nat}{fs:List Value}{ls:List L}{os:List O}{rj:List (Nat×Nat)}{rec:ByteArray}{ro:Ro}{v:Value}{w:World}
theorem uI(h:RV os rj ro w R v td rec fs ls)(i gd f:Nat)(W:i<ls.length)(h1:gd<=2147483647)(h2:f<=2147483647):Calls prog 120 #[.pointer (some ⟨R,0,none⟩),.int .i64 i,.int .i64 gd,.int .i64 f] w λe w'=>e=.returned (.bool (Vb (cH rj ls) td gd f (ls.getD i L0)))/\Below w.heap.size w w':=by
 obtain⟨a,cap,hv,y⟩:=h.shape;obtain⟨G,hG,a0,p⟩:=y (by omega);have c1:=h.c1;rw[hv,hG]at c1;have X:=h.room;have a2:=h.today;have s:=h.ok _ (zg W);obtain⟨l,Q⟩:=UM (ls.getD i L0);have T:QM (fs.getD i default):=h.fsl _ (bP (by rw[h.flen];exact W));obtain⟨M,P,N,hf⟩:=T;rw[<-Q.o]at s;rw[<-Q.o];have k:=p i W;rw[<-Q.o,hf]at k;have k0:w.cell? ⟨G,i*11,none⟩=some (.int .i64 l.id):=k 0 (by omega);have k1:w.cell? ⟨G,i*11+1,none⟩=some (.int .i64 l.gd):=k 1 (by omega);have k2:w.cell? ⟨G,i*11+2,none⟩=some (.int .i64 l.ex):=k 2 (by omega);have k3:w.cell? ⟨G,i*11+3,none⟩=some (.int .i64 l.place):=k 3 (by omega);have k4:w.cell? ⟨G,i*11+4,none⟩=some (.int .i64 l.got):=k 4 (by omega);have k5:w.cell? ⟨G,i*11+5,none⟩=some (.int .i64 l.free):=k 5 (by omega);have k6:w.cell? ⟨G,i*11+6,none⟩=some (.int .i64 l.hd):=k 6 (by omega);have k7:w.cell? ⟨G,i*11+7,none⟩=some (.int .i64 l.sh):=k 7 (by omega);have k8:w.cell? ⟨G,i*11+8,none⟩=some (.int .i64 l.sc):=k 8 (by omega);have k9:w.cell? ⟨G,i*11+9,none⟩=some (.int .i64 l.gv):=k 9 (by omega);have Z:w.cell? ⟨G,i*11+10,none⟩=some (.slice M P N):=k 10 (by omega);have HP:=zb h;clear h hv hG p y k hf;go_enter func120,ntmps120;go_wp2_with fail;have x:=TZ w (.cells #[.int .i64 l.id,.int .i64 l.gd,.int .i64 l.ex,.int .i64 l.place,.int .i64 l.got,.int .i64 l.free,.int .i64 l.hd,.int .i64 l.sh,.int .i64 l.sc,.int .i64 l.gv,.slice M P N] 129);have B:=xo w (.cells #[.int .i64 l.id,.int .i64 l.gd,.int .i64 l.ex,.int .i64 l.place,.int .i64 l.got,.int .i64 l.free,.int .i64 l.hd,.int .i64 l.sh,.int .i64 l.sc,.int .i64 l.gv,.slice M P N] 129);generalize (w.alloc (.cells #[.int .i64 l.id,.int .i64 l.gd,.int .i64 l.ex,.int .i64 l.place,.int .i64 l.got,.int .i64 l.free,.int .i64 l.hd,.int .i64 l.sh,.int .i64 l.sc,.int .i64 l.gv,.slice M P N] 129))=w1 at *;refine(jQ (HP.below x) l.id).mono ?_
 rintro e w2 ⟨rfl,C⟩;have E:=B;have F:=zc B;have A:=x;replace B:=(C.block _ F).trans E;replace x:=A.trans (C.mono A.size);have d1:w2.cell? ⟨w.heap.size,1,none⟩=some (.int .i64 l.gd):=by rw[za B];rfl
 have d2:w2.cell? ⟨w.heap.size,2,none⟩=some (.int .i64 l.ex):=by rw[za B];rfl
 have d5:w2.cell? ⟨w.heap.size,5,none⟩=some (.int .i64 l.free):=by rw[za B];rfl
 have dR:=(HP.below x).c0;clear E A C F;have H:=s.gd;have J:=s.ex;have K:=s.sum;clear k0 k1 k2 k3 k4 k5 k6 k7 k8 k9 Z c1 B s;obtain⟨q,j,t,g,n,m⟩:∃b c d,Ha (b=l.gd)/\Ha (c=l.ex)/\Ha (d=l.free):=⟨_,_,_,rfl,rfl,rfl⟩
 rw[<-g.o]at d1 H;rw[<-n.o]at d2 J;rw[<-m.o]at d5 K
 cases D:cH rj ls l.id with
 |true=>
  have u:Ha (Vb (cH rj ls) td gd f l=false):=by unfold Ha Vb;rw[D];simp
  clear D;by_cases r:q=gd
  ·have z:=aO r;clear r;go_wp2_with fail;go_quiet (fail);go_wp2_with fail;go_ret;exact⟨zu (by rw[u.o]),Xf x nq⟩
  have z:=ZG r;clear r;go_wp2_with fail;go_quiet (fail);go_wp2_with fail;go_ret;exact⟨zu (by rw[u.o]),Xf x nq⟩
 |false=>
  by_cases r:q=gd
  ·have z:=aO r;have HA:=zb r;clear r;by_cases hB:0<t
   ·by_cases hC:td+f+1<=j
    ·have u:Ha (Vb (cH rj ls) td gd f l=true):=by
      unfold Ha Vb;rw[<-n.o,<-g.o,<-m.o];rw[D];simp[HA.o,hB,hC]
     have S:decide ((td:Int)+(f:Int)+1<=(j:Int))=true:=by simp;omega
     go_wp2_with fail;go_quiet (fail)
     go_wp2_with fail;go_ret
     exact⟨zu (by rw[u.o]),Xf x nq⟩
    have u:Ha (Vb (cH rj ls) td gd f l=false):=by
     unfold Ha Vb;rw[<-n.o];simp;intro _ _ _;omega
    have S:decide ((td:Int)+(f:Int)+1<=(j:Int))=false:=by simp;omega
    go_wp2_with fail;go_quiet (fail)
    go_wp2_with fail;go_ret
    exact⟨zu (by rw[u.o]),Xf x nq⟩
   have u:Ha (Vb (cH rj ls) td gd f l=false):=by
    unfold Ha Vb;rw[<-m.o];simp[hB]
   have a1:decide ((0:Int)<(t:Int))=false:=by simp;omega
   go_wp2_with fail;go_quiet (fail)
   go_wp2_with fail;go_ret
   exact⟨zu (by rw[u.o]),Xf x nq⟩
  have u:Ha (Vb (cH rj ls) td gd f l=false):=by
   unfold Ha Vb;rw[<-g.o];simp[r]
  have z:=ZG r;clear r;go_wp2_with fail;go_quiet (fail);go_wp2_with fail;go_ret;exact⟨zu (by rw[u.o]),Xf x nq⟩
theorem IX(h:RV os rj ro w R v td rec fs ls)(n:Nat)(K:n<=2147483647)(r:UB n ls<ls.length):Calls prog 74 #[.pointer (some ⟨R,0,none⟩),.int .i64 n] w λe w'=>Below w.heap.size w w'/\∃g,e=.returned (.tuple #[.slice (some ⟨g,0,none⟩) 10 10,.int .i64 0])/\w'.heap[g]?=some (.cells (I (gO (cH rj ls) (ls.getD (UB n ls) L0))).toArray 3 (0,0)):=by
 have y:=zb (aS h n K);have q:Ua ls n=(UB n ls:Int):=by unfold Ua;rw[xe r]
 rw[q]at y;obtain⟨a,cap,D,d⟩:=h.shape;obtain⟨G,A,B,b⟩:=d (by omega);have c1:=h.c1;rw[D,A]at c1;have u:=h.room;obtain⟨l,t⟩:=UM (ls.getD (UB n ls) L0);obtain⟨F,J,H,C⟩:=h.fsl _ (bP (show UB n ls<fs.length by rw[h.flen];exact r));rw[<-t.o];have k:=b (UB n ls) r;rw[<-t.o,C]at k;have s:Ha (l.id=n):=by rw[t.o];exact Zu r
 generalize UB n ls=i at *;have N:w.cell? ⟨G,i*11,none⟩=some (.int .i64 l.id):=k 0 (by omega);have P:w.cell? ⟨G,i*11+1,none⟩=some (.int .i64 l.gd):=k 1 (by omega);have Q:w.cell? ⟨G,i*11+2,none⟩=some (.int .i64 l.ex):=k 2 (by omega);have S:w.cell? ⟨G,i*11+3,none⟩=some (.int .i64 l.place):=k 3 (by omega);have T:w.cell? ⟨G,i*11+4,none⟩=some (.int .i64 l.got):=k 4 (by omega);have W:w.cell? ⟨G,i*11+5,none⟩=some (.int .i64 l.free):=k 5 (by omega);have X:w.cell? ⟨G,i*11+6,none⟩=some (.int .i64 l.hd):=k 6 (by omega);have Z:w.cell? ⟨G,i*11+7,none⟩=some (.int .i64 l.sh):=k 7 (by omega);have k8:w.cell? ⟨G,i*11+8,none⟩=some (.int .i64 l.sc):=k 8 (by omega);have k9:w.cell? ⟨G,i*11+9,none⟩=some (.int .i64 l.gv):=k 9 (by omega);have x:w.cell? ⟨G,i*11+10,none⟩=some (.slice F J H):=k 10 (by omega);have E:=zb h;have p:Ha (gO (cH rj ls) l=[l.gd,l.ex,l.place,l.got,l.free,l.hd,l.sh,l.sc,l.gv,if cH rj ls n then 1 else 0]):=by unfold Ha gO;rw[s.o]
 obtain⟨rb,f⟩:=UM (cH rj ls n);rw[p.o,<-f.o];clear h D A b d k C q p;go_enter func74,ntmps74;go_wp2_with (go_at_call 111;refine y.mono ?_;rintro e w1 ⟨rfl,rfl⟩);refine(jQ (E.below ?_) n).mono ?_
 ·exact((xh _ _).alloc (xc _) _).alloc (by simp) _
 rintro e w2 ⟨rfl,j⟩;rw[<-f.o];have c:w2.heap[w1.heap.size+1]?=some (.cells #[.int .i64 l.gd,.int .i64 l.ex,.int .i64 l.place,.int .i64 l.got,.int .i64 l.free,.int .i64 l.hd,.int .i64 l.sh,.int .i64 l.sc,.int .i64 l.gv,.int .i64 0] 3 (0,0)):=(j.block _ (by simp)).trans (cY _ _ _ (by simp));have z:Ha (Below w1.heap.size w1 w2):=(((xh _ _).alloc (xc _) _).alloc (by simp) _).trans (j.mono (by simp;omega));have g9:w2.cell? ⟨w1.heap.size+1,9,none⟩=some (.int .i64 0):=by rw[za c];rfl
 have gf:=zf c 9;have m:=zb c;clear j c f N P Q S T W X Z k8 k9 x
 cases rb
 ·go_wp2_with fail;go_ret2
  exact⟨z,_,rfl,m⟩
 go_wp2_with fail;go_ret2
 refine⟨z.setCell (by simp) _,_,rfl,?_⟩;have M:=xq w2 (w1.heap.size+1) 9 _ 3 (.int .i64 1) m;refine Eq.trans M ?_
 simp[I]
theorem FK(h:RV os rj ro w R v td rec fs ls)(n:Nat)(d:n<=2147483647)(c:¬UB n ls<ls.length):Calls prog 74 #[.pointer (some ⟨R,0,none⟩),.int .i64 n] w λe w'=>w'=w/\e=.returned (.tuple #[.slice none 0 0,.int .i64 4]):=by
 have b:=zb (aS h n d);have a:Ua ls n=-1:=by unfold Ua;rw[xg c]
 rw[a]at b;clear h c a;go_enter func74,ntmps74;go_wp2_with (go_at_call 111;refine b.mono ?_;rintro e w1 ⟨rfl,rfl⟩);go_ret2;exact⟨rfl,rfl⟩
theorem Dt(h:RV os rj ro w R v td rec fs ls)(gd b:Nat)(h1:gd<=2147483647)(h2:b<=2147483647):Calls prog 75 #[.pointer (some ⟨R,0,none⟩),.int .i64 gd,.int .i64 b] w λe w'=>Below w.heap.size w w'/\∃g,e=.returned (.slice (some ⟨g,0,none⟩) 2 2)/\w'.heap[g]?=some (.cells (I (GA rj td gd b ls)).toArray 3 (0,0)):=by
 obtain⟨a,cap,Z,l⟩:=h.shape;have c1:=h.c1;rw[Z]at c1;have P:=h.room;have q:=zc h.store;have HP:=zb h;clear h Z;go_enter func75,ntmps75;go_wp2_with fail;go_loopw [8,9] (λi _ wr=>∃k:Nat,k<=ls.length/\i=.int .i64 k/\wr.heap[w.heap.size]?=some (.cells #[.int .i64 ((dE rj td gd b ls k).length:Nat),.int .i64 (bO ls (dE rj td gd b ls k):Nat)] 3 (0,0))/\Below w.heap.size w wr) (λi _ _=>ls.length-(intOf i).toNat)
 case atStart=>exact⟨0,by omega,rfl,xo w _,TZ w _⟩
 obtain⟨k,hk,rfl,z,r⟩:=hrel;have p:=HP.below r;have E:wr.cell? ⟨R,1,none⟩=some (.slice a ls.length cap):=(r.cell (by exact q)).trans c1;by_cases j:k<ls.length
 ·obtain⟨G,hG,F,c⟩:=l (by omega);have D:=zb (uI p k gd b j h1 h2);rw[hG]at E c1;have y:=(p.ok _ (zg j)).sum;have H:=dM (rj:=rj) td gd b ls k;have N:bO ls (dE rj td gd b ls k)<=2147483647*30:=by
   have h3:=fO ls p.ok (dE rj td gd b ls k) (λi hi=>xbF (rE hi) j);have:2147483647*(dE rj td gd b ls k).length<=2147483647*30:=xba _ (by omega);omega
  have x:w.cell? ⟨G,k*11+5,none⟩=some (.int .i64 ((ls.getD k L0).free:Int)):=c k j 5 (by omega);have s:w.heap.size<wr.heap.size:=zc z;clear c l p
  cases A:Vb (cH rj ls) td gd b (ls.getD k L0) with
  |false=>
   have C:=zb (rF A);rw[A]at D;have B:=zb z;clear A z;go_wp2_with (go_at_call 120;refine D.mono ?_;rintro e w1 ⟨rfl,d⟩);go_roundw
   case rel=>exact⟨k+1,by omega,by go_num,(by rw[C.o,d.block _ s];exact B),r.trans (d.mono r.size)⟩
   simp[intOf];omega
  |true=>
   have C:=zb (EO A);rw[A]at D;have B:=zb z;obtain⟨K,n⟩:=UM ((dE rj td gd b ls k).length);obtain⟨J,m⟩:=UM (bO ls (dE rj td gd b ls k));obtain⟨M,t⟩:=UM ((ls.getD k L0).free);rw[<-n.o,<-m.o]at B;rw[<-n.o]at H;rw[<-m.o]at N;rw[<-t.o]at x y;have T:Ha ((dE rj td gd b ls (k+1)).length=K+1/\bO ls (dE rj td gd b ls (k+1))=J+M):=by
    constructor
    ·rw[C.o,n.o];simp
    rw[C.o,pN,m.o,t.o]
   clear A z C n m t;go_wp2_with fail;refine D.mono ?_
   rintro e w1 ⟨rfl,d⟩;have f:=(d.block _ s).trans B;have g0:w1.cell? ⟨w.heap.size,0,none⟩=some (.int .i64 K):=by rw[za f];rfl
   have g1:w1.cell? ⟨w.heap.size,1,none⟩=some (.int .i64 J):=by rw[za f];rfl
   have a0:=zf f 0;have a1:=zf f 1;have u:=r.trans (d.mono r.size);have gR:w1.cell? ⟨R,1,none⟩=some (.slice (some ⟨G,0,none⟩) ls.length cap):=(u.cell (by exact q)).trans c1;have gG:w1.cell? ⟨G,k*11+5,none⟩=some (.int .i64 M):=(u.cell (by exact F)).trans x;have W:¬R=w.heap.size:=by omega
   have X:¬G=w.heap.size:=by omega
   clear c1 E x D B r d;go_wp2_with fail;go_region;go_wp2_with fail;have Q:=xq w1 w.heap.size 0 _ 3 (.int .i64 ((K:Int)+1)) f;have S:=xq _ w.heap.size 1 _ 3 (.int .i64 ((J:Int)+(M:Int))) Q;go_roundw
   case rel=>
    refine⟨k+1,by omega,by go_num,?_,((u.setCell (by simp) _).setCell (by simp) _).drew⟩;rw[T.o.1,T.o.2];refine Eq.trans S ?_
    simp
   simp[intOf];omega
 obtain rfl:k=ls.length:=by omega
 clear l j;go_wp2_with fail;go_ret;exact⟨r,w.heap.size,rfl,z⟩
theorem SW:prog.underlying 38=some (.slice 129):=by kernel_rfl
theorem IF:(prog.info? 129).map (λi=>(i.zero,i.size,i.bytes))=some (some (.agg #[.int .i64 0,.int .i64 0,.int .i64 0,.int .i64 0,.int .i64 0,.int .i64 0,.int .i64 0,.int .i64 0,.int .i64 0,.int .i64 0,.slice none 0 0]),11,104):=by kernel_rfl
def Ro.lot(ro:Ro)(f:Value)(ps:List (Nat×Nat)):Ro:={ ro with fvs:=ro.fvs++[f],pss:=ro.pss++[zW ps] }
theorem sX{f:Value}{ps:List (Nat×Nat)}{b:Nat}(h:OB (ro.lot f ps) b):OB ro b\/f.ownBlock=some b:=by
 rcases h with h|h|h|⟨i,e,h⟩
 ·exact Or.inl (Or.inl h)
 ·exact Or.inl (Or.inr (Or.inl h))
 ·exact Or.inl (Or.inr (Or.inr (Or.inl h)))
 have d:i<(ro.fvs++[f]).length:=e;have c:((ro.fvs++[f]).getD i default).ownBlock=some b:=h;rw[xb,Xc]at d;by_cases a:i<ro.fvs.length
 ·rw[Zl _ _ _ _ a]at c;exact Or.inl (Or.inr (Or.inr (Or.inr ⟨i,a,c⟩)))
 rw[Zk _ _ _ _ (by omega)]at c;exact Or.inr c
theorem RV.added{C n:World}{v':Value}(h:RV os rj ro w R v td rec fs ls){l:L}{f:Value}
  (z:∀k,k<w.heap.size->C.heap[k]?=w.heap[k]?) (K:C.grownBy n v.ownBlock) (a0:w.heap.size<=C.heap.size) (m:n.ownsRow 0 129 11 v' (ls.length+1) (tJ ls fs++zp l f)) (X:L.Ok l) (J:Prs 181 w f (zW l.par)) (B:∀g,f.ownBlock=some g->ro.rv.ownBlock≠some g) (A:Fam (ls++[l])) (M:ls.length<30) :
  RV os rj (ro.lot f l.par) (n.setCell ⟨R,1,none⟩ v') R v' td rec (fs++[f]) (ls++[l]):=by
 have S:=zc h.store;have s:v.ownBlock≠some R:=λe=>by
  obtain⟨d,b⟩:=zi h.row e;exact zw h.store b (by decide) rfl
 have y:=((K.block R (by omega) (λe=>s e.symm)).trans (z R S)).trans h.store;have keep:∀(g:Nat) (d:Array Value) (t:TypeId),w.heap[g]?=some (.cells d t (0,0))->t≠42->t≠129->(n.setCell ⟨R,1,none⟩ v').heap[g]?=w.heap[g]?:=λg d t b P Q=>by
  have a:=zc b;have G:some g≠v.ownBlock:=λe=>by
   obtain⟨N,D⟩:=zi h.row e.symm;exact zw b D Q rfl
  rw[xa _ _ _ _ (zw b h.store P),K.block g (by omega) G,z g a]
 refine⟨?_,?_,by simp[h.flen],?_,?_,h.today,?_,by simp;omega,A,h.rc⟩
 ·have:=xq n R 1 _ 42 v' y
  simpa [Ro.lot] using this
 ·have W:=m.kept (zV n ⟨R,1,none⟩ v') (Or.inr (λe=>by
   obtain⟨d,b⟩:=zi m (g:=R) e;exact zw y b (by decide) rfl))
  rw[pM ls fs l f h.flen,xb];exact W
 ·exact⟨by show ro.fvs++[f]=_;rw[h.fro.1],by show ro.pss++[zW l.par]=_;rw[h.fro.2];simp⟩
 ·have j:=h.ord.congr (w':=n.setCell ⟨R,1,none⟩ v') (λg F=>by
   obtain⟨d,t,b,ht⟩:=h.ord.ty F;refine keep g d t b ?_ ?_<;>(rcases ht with rfl|rfl<;>decide))
  have E:=j.fd.flen;refine⟨j.row,j.llen,j.li,j.fd.rrow,?_,λi H=>?_,λg p=>⟨(j.fd.apart g p).1,?_⟩⟩
  ·show(ro.fvs++[f]).length=(ro.pss++[zW l.par]).length;simp[E]
  ·have r:i<(ro.fvs++[f]).length:=H;rw[xb,Xc]at r;show Prs 181 _ ((ro.fvs++[f]).getD i default) ((ro.pss++[zW l.par]).getD i []);by_cases a:i<ro.fvs.length
   ·rw[Zl _ _ _ _ a,Zl _ _ _ _ (by omega)];exact j.fd.frm i a
   rw[Zk _ _ _ _ (by omega),Zk _ _ _ _ (by omega)];exact J.congr (λq Z=>by obtain⟨d,b⟩:=J.blk Z;exact keep q d _ b (by decide) (by decide))
  rintro⟨i,H,T⟩;have r:i<(ro.fvs++[f]).length:=H;have c:((ro.fvs++[f]).getD i default).ownBlock=some g:=T;rw[xb,Xc]at r;by_cases a:i<ro.fvs.length
  ·rw[Zl _ _ _ _ a]at c;exact(j.fd.apart g p).2 ⟨i,a,c⟩
  rw[Zk _ _ _ _ (by omega)]at c;exact B g c p
 intro x u;rcases xw.1 u with u|u
 ·exact h.ok x u
 simp at u;subst u;exact X
theorem fY(h:RV os rj ro w R v td rec fs ls)(id gd b n:Nat)(i:Option Addr)(q j:Nat)(ps:List (Nat×Nat))(S:Prs 181 w (.slice i q j) (zW ps))(A:∀g,(Value.slice i q j).ownBlock=some g->ro.rv.ownBlock≠some g)(a6:ps.length<=2/\∀p∈ps,p.1<=2147483647)(z:Fam (ls++[{ id:=id,gd:=gd,ex:=b,place:=ls.length+1,got:=n,free:=n,hd:=0,sh:=0,sc:=0,gv:=0,par:=ps }]))(W:ls.length<30)(h1:id<=2147483647)(h2:gd<=2147483647)(h3:b<=2147483647)(h4:n<=2147483647):Calls prog 110 #[.pointer (some ⟨R,0,none⟩),.int .i64 id,.int .i64 gd,.int .i64 b,.int .i64 n,.slice i q j] w λe w'=>e=.returned (.tuple #[])/\Kp (λk=>k=R\/v.ownBlock=some k) w w' /\
   ∃v',RV os rj (ro.lot (.slice i q j) ps) w' R v' td rec (fs++[.slice i q j]) (ls++[{ id:=id,gd:=gd,ex:=b,place:=ls.length+1,got:=n,free:=n,hd:=0,sh:=0,sc:=0,gv:=0,par:=ps }])/\(∀g,v'.ownBlock=some g->v.ownBlock=some g\/w.heap.size<=g):=by
 obtain⟨i0,hi,a8,a9,b0⟩:=XH IF;obtain⟨a,cap,hv,_⟩:=h.shape;have hR:=zc h.store;have c1:=h.c1;have f1:=zf h.store 1;have d:=h.row;rw[hv]at c1 d;have HP:=zb h;obtain⟨m,H⟩:=UM ls.length;rw[<-H.o]at c1 d W;have HV:=zb hv;have X:(Value.slice a m cap).ownBlock≠some R:=λe=>by
  obtain⟨cs,hc⟩:=zi d e;exact zw h.store hc (by decide) rfl
 obtain⟨o,HO⟩:∃o,Ha (o=Obj.cells #[.int .i64 id,.int .i64 gd,.int .i64 b,.int .i64 ((m:Int)+1),.int .i64 n,.int .i64 n,.int .i64 0,.int .i64 0,.int .i64 0,.int .i64 0,.slice i q j] 129):=⟨_,rfl⟩
 have r:Below w.heap.size w (w.alloc (Obj.cells #[.int .i64 id,.int .i64 gd,.int .i64 b,.int .i64 ((m:Int)+1),.int .i64 n,.int .i64 n,.int .i64 0,.int .i64 0,.int .i64 0,.int .i64 0,.slice i q j] 129)).drew:=(TZ w _).drew;have N:(w.alloc (Obj.cells #[.int .i64 id,.int .i64 gd,.int .i64 b,.int .i64 ((m:Int)+1),.int .i64 n,.int .i64 n,.int .i64 0,.int .i64 0,.int .i64 0,.int .i64 0,.slice i q j] 129)).drew.heap[w.heap.size]?=some (Obj.cells #[.int .i64 id,.int .i64 gd,.int .i64 b,.int .i64 ((m:Int)+1),.int .i64 n,.int .i64 n,.int .i64 0,.int .i64 0,.int .i64 0,.int .i64 0,.slice i q j] 129):=xo w _;have C:∀u∈([.int .i64 id,.int .i64 gd,.int .i64 b,.int .i64 (m+1),.int .i64 n,.int .i64 n,.int .i64 0,.int .i64 0,.int .i64 0,.int .i64 0,.slice i q j]:List Value),u.oneCell'=true:=by
  intro u hu;simp only[xx,XN,YB]at hu;rcases hu with rfl|rfl|rfl|rfl|rfl|rfl|rfl|rfl|rfl|rfl|rfl<;>rfl
 have K:=zb (XZ X);have P:(w.alloc (Obj.cells #[.int .i64 id,.int .i64 gd,.int .i64 b,.int .i64 ((m:Int)+1),.int .i64 n,.int .i64 n,.int .i64 0,.int .i64 0,.int .i64 0,.int .i64 0,.slice i q j] 129)).drew.cell? ⟨R,1,none⟩=some (.slice a m cap):=(r.cell (by exact hR)).trans c1;have Q:(w.alloc (Obj.cells #[.int .i64 id,.int .i64 gd,.int .i64 b,.int .i64 ((m:Int)+1),.int .i64 n,.int .i64 n,.int .i64 0,.int .i64 0,.int .i64 0,.int .i64 0,.slice i q j] 129)).drew.frozen? ⟨R,1,none⟩=false:=(r.frozen (by exact hR)).trans f1;have x:Ha (R<(w.alloc (Obj.cells #[.int .i64 id,.int .i64 gd,.int .i64 b,.int .i64 ((m:Int)+1),.int .i64 n,.int .i64 n,.int .i64 0,.int .i64 0,.int .i64 0,.int .i64 0,.slice i q j] 129)).drew.heap.size):=xn hR r.size;have D:=zb r;clear X;have a7:IntKind.i64.wrap ((m:Int)+1)=(m:Int)+1:=by rw[xbC];exact bU _ ⟨by omega,by omega⟩
 have a1:=zb S;have a0:=zb A;have G:=zb z;clear h hv S A z;go_enter func110,ntmps110;go_wp2_with fail;go_region_law (refine step_append_lies _ rfl _ _ 38 rfl 0 129 i0 (.agg #[.int .i64 0,.int .i64 0,.int .i64 0,.int .i64 0,.int .i64 0,.int .i64 0,.int .i64 0,.int .i64 0,.int .i64 0,.int .i64 0,.slice none 0 0]) 11 104 SW hi a8 a9 b0 rfl (by decide) (.slice a m cap) m (tJ ls fs) rfl (zh d r) ⟨w.heap.size,0,none⟩ 1 1 [.int .i64 id,.int .i64 gd,.int .i64 b,.int .i64 (m+1),.int .i64 n,.int .i64 n,.int .i64 0,.int .i64 0,.int .i64 0,.int .i64 0,.slice i q j] rfl rfl (World.news_of_block N) C (by decide) (by unfold maxLen;omega) (by omega) (Nat.zero_le _) (w.heap.size+1) (by simp) ?_;intro g s w1 t c M a5;have a2:=(c.cell_far ⟨R,1,none⟩ x K).trans P;have a3:=(c.frozen_far ⟨R,1,none⟩ x K).trans Q)
 all_goals
  clear P Q a2 a3;have F:v.ownBlock=(Value.slice a m cap).ownBlock:=by rw[HV.o,H.o]
  have E:((w.alloc (Obj.cells #[.int .i64 id,.int .i64 gd,.int .i64 b,.int .i64 ((m:Int)+1),.int .i64 n,.int .i64 n,.int .i64 0,.int .i64 0,.int .i64 0,.int .i64 0,.slice i q j] 129)).drew).grownBy w1 v.ownBlock:=by rw[F];exact c
  have B:=HP.added (l:={ id:=id,gd:=gd,ex:=b,place:=ls.length+1,got:=n,free:=n,hd:=0,sh:=0,sc:=0,gv:=0,par:=ps }) (f:=.slice i q j) (v':=.slice (some ⟨g,0,none⟩) (m+1) s) (λk hk=>D.block k hk) E D.size (by rw[<-H.o];exact t) ⟨h1,h2,h3,(by show ls.length+1<=30;have:=H.o;omega),(by simp;omega),h4,a6⟩ a1 a0 G (by have:=H.o;omega);have T:Kp (λk=>k=R\/v.ownBlock=some k) w (w1.setCell ⟨R,1,none⟩ (.slice (some ⟨g,0,none⟩) (m+1) s)):=by
   refine Kp.setCell ?_ (Or.inl (Or.inl rfl)) _
   exact Kp.grown (UD D) E (λk hk=>Or.inl (Or.inr hk))
  have y:∀Z,(Value.slice (some ⟨g,0,none⟩) (m+1) s).ownBlock=some Z->v.ownBlock=some Z\/w.heap.size<=Z:=λZ a4=>by
   cases a4;rcases M with h|h
   ·left;rw[F];exact h
   right;simp at h ⊢;omega
  have J:=zb B;have HK:=zb T;have HA:=zb y;clear B T y E F c M a5 t N r C a7 c1 f1 d;go_wp2_with fail;go_end0;exact⟨rfl,HK,_,J,HA⟩
