import Derived.Test.YtgcedalggnmooaaGreatDoorDo1X
set_option linter.all false
set_option maxRecDepth 100000
set_option maxHeartbeats 3200000
namespace Go.Proofs.YtgcedalggnmooaaGreatDoor
open Go.RowKit
open Tryz
def zV(w:World)(o:Obj)(g:Nat)(a:g=w.heap.size):(w.alloc o).heap[g]?=some o:=by subst a;exact xp w o
variable {R td:Nat}{fs:List Value}{ls:List L}{os:List O}{rj:List (Nat×Nat)}{rec:ByteArray}{ro:Ro}{v:Value}{w w':World}
def uX(h:RV os rj ro w R v td rec fs ls)(i gd f:Nat)(W:i<ls.length)(h1:gd<=2147483647)(h2:f<=2147483647):Calls prog 120 #[.pointer (some ⟨R,0,none⟩),.int .i64 i,.int .i64 gd,.int .i64 f] w λe w'=>e=.returned (.bool (WN (cI rj ls) td gd f (ls.getD i L0)))/\Below w.heap.size w w':=by
 obtain⟨a,cap,hv,y⟩:=h.shape;obtain⟨G,hG,a0,p⟩:=y (by omega);have c1:=h.c1;rw[hv,hG]at c1;have X:=h.room;have a2:=h.today;have s:=h.ok _ (zf W);obtain⟨l,Q⟩:=Ww (ls.getD i L0);have T:Sh (fs.getD i default):=h.fsl _ (bR (by rw[h.flen];exact W));obtain⟨M,P,N,hf⟩:=T;rw[<-Q.o]at s;rw[<-Q.o];have k:=p i W;rw[<-Q.o,hf]at k;have k0:w.cell? ⟨G,i*11,none⟩=some (.int .i64 l.id):=k 0 (by omega);have k1:w.cell? ⟨G,i*11+1,none⟩=some (.int .i64 l.gd):=k 1 (by omega);have k2:w.cell? ⟨G,i*11+2,none⟩=some (.int .i64 l.ex):=k 2 (by omega);have k3:w.cell? ⟨G,i*11+3,none⟩=some (.int .i64 l.place):=k 3 (by omega);have k4:w.cell? ⟨G,i*11+4,none⟩=some (.int .i64 l.got):=k 4 (by omega);have k5:w.cell? ⟨G,i*11+5,none⟩=some (.int .i64 l.free):=k 5 (by omega);have k6:w.cell? ⟨G,i*11+6,none⟩=some (.int .i64 l.hd):=k 6 (by omega);have k7:w.cell? ⟨G,i*11+7,none⟩=some (.int .i64 l.sh):=k 7 (by omega);have k8:w.cell? ⟨G,i*11+8,none⟩=some (.int .i64 l.sc):=k 8 (by omega);have k9:w.cell? ⟨G,i*11+9,none⟩=some (.int .i64 l.gv):=k 9 (by omega);have Z:w.cell? ⟨G,i*11+10,none⟩=some (.slice M P N):=k 10 (by omega);have HP:=zb h;clear h hv hG p y k hf;go_enter func120,ntmps120;go_wp2_with fail;have x:=VE w (.cells #[.int .i64 l.id,.int .i64 l.gd,.int .i64 l.ex,.int .i64 l.place,.int .i64 l.got,.int .i64 l.free,.int .i64 l.hd,.int .i64 l.sh,.int .i64 l.sc,.int .i64 l.gv,.slice M P N] 129);have B:=xp w (.cells #[.int .i64 l.id,.int .i64 l.gd,.int .i64 l.ex,.int .i64 l.place,.int .i64 l.got,.int .i64 l.free,.int .i64 l.hd,.int .i64 l.sh,.int .i64 l.sc,.int .i64 l.gv,.slice M P N] 129);generalize (w.alloc (.cells #[.int .i64 l.id,.int .i64 l.gd,.int .i64 l.ex,.int .i64 l.place,.int .i64 l.got,.int .i64 l.free,.int .i64 l.hd,.int .i64 l.sh,.int .i64 l.sc,.int .i64 l.gv,.slice M P N] 129))=w1 at *;refine(kA (HP.below x) l.id).mono ?_
 rintro e w2 ⟨rfl,C⟩;have E:=B;have F:=zc B;have A:=x;replace B:=(C.block _ F).trans E;replace x:=A.trans (C.mono A.size);have d1:w2.cell? ⟨w.heap.size,1,none⟩=some (.int .i64 l.gd):=by rw[za B];rfl
 have d2:w2.cell? ⟨w.heap.size,2,none⟩=some (.int .i64 l.ex):=by rw[za B];rfl
 have d5:w2.cell? ⟨w.heap.size,5,none⟩=some (.int .i64 l.free):=by rw[za B];rfl
 have dR:=(HP.below x).c0;clear E A C F;have H:=s.gd;have J:=s.ex;have K:=s.sum;clear k0 k1 k2 k3 k4 k5 k6 k7 k8 k9 Z c1 B s;obtain⟨q,j,t,g,n,m⟩:∃b c d,Ha (b=l.gd)/\Ha (c=l.ex)/\Ha (d=l.free):=⟨_,_,_,rfl,rfl,rfl⟩
 rw[<-g.o]at d1 H;rw[<-n.o]at d2 J;rw[<-m.o]at d5 K
 cases D:cI rj ls l.id with
 |true=>
  have u:Ha (WN (cI rj ls) td gd f l=false):=by unfold Ha WN;rw[D];simp
  clear D;by_cases r:q=gd
  ·have z:=aR r;clear r;go_wp2_with fail;go_quiet (fail);go_wp2_with fail;go_ret;exact⟨aM (by rw[u.o]),XA x nq⟩
  have z:=ZT r;clear r;go_wp2_with fail;go_quiet (fail);go_wp2_with fail;go_ret;exact⟨aM (by rw[u.o]),XA x nq⟩
 |false=>
  by_cases r:q=gd
  ·have z:=aR r;have HA:=zb r;clear r;by_cases hB:0<t
   ·by_cases hC:td+f+1<=j
    ·have u:Ha (WN (cI rj ls) td gd f l=true):=by
      unfold Ha WN;rw[<-n.o,<-g.o,<-m.o];rw[D];simp[HA.o,hB,hC]
     have S:decide ((td:Int)+(f:Int)+1<=(j:Int))=true:=by simp;omega
     go_wp2_with fail;go_quiet (fail)
     go_wp2_with fail;go_ret
     exact⟨aM (by rw[u.o]),XA x nq⟩
    have u:Ha (WN (cI rj ls) td gd f l=false):=by
     unfold Ha WN;rw[<-n.o];simp;intro _ _ _;omega
    have S:decide ((td:Int)+(f:Int)+1<=(j:Int))=false:=by simp;omega
    go_wp2_with fail;go_quiet (fail)
    go_wp2_with fail;go_ret
    exact⟨aM (by rw[u.o]),XA x nq⟩
   have u:Ha (WN (cI rj ls) td gd f l=false):=by
    unfold Ha WN;rw[<-m.o];simp[hB]
   have a1:decide ((0:Int)<(t:Int))=false:=by simp;omega
   go_wp2_with fail;go_quiet (fail)
   go_wp2_with fail;go_ret
   exact⟨aM (by rw[u.o]),XA x nq⟩
  have u:Ha (WN (cI rj ls) td gd f l=false):=by
   unfold Ha WN;rw[<-g.o];simp[r]
  have z:=ZT r;clear r;go_wp2_with fail;go_quiet (fail);go_wp2_with fail;go_ret;exact⟨aM (by rw[u.o]),XA x nq⟩
def JV(h:RV os rj ro w R v td rec fs ls)(n:Nat)(K:n<=2147483647)(r:Wj n ls<ls.length):Calls prog 74 #[.pointer (some ⟨R,0,none⟩),.int .i64 n] w λe w'=>Below w.heap.size w w'/\∃g,e=.returned (.tuple #[.slice (some ⟨g,0,none⟩) 10 10,.int .i64 0])/\w'.heap[g]?=some (.cells (I (gV (cI rj ls) (ls.getD (Wj n ls) L0))).toArray 3 (0,0)):=by
 have y:=zb (cF h n K);have q:VF ls n=(Wj n ls:Int):=by unfold VF;rw[xh r]
 rw[q]at y;obtain⟨a,cap,D,d⟩:=h.shape;obtain⟨G,A,B,b⟩:=d (by omega);have c1:=h.c1;rw[D,A]at c1;have u:=h.room;obtain⟨l,t⟩:=Ww (ls.getD (Wj n ls) L0);obtain⟨F,J,H,C⟩:=h.fsl _ (bR (show Wj n ls<fs.length by rw[h.flen];exact r));rw[<-t.o];have k:=b (Wj n ls) r;rw[<-t.o,C]at k;have s:Ha (l.id=n):=by rw[t.o];exact aS r
 generalize Wj n ls=i at *;have N:w.cell? ⟨G,i*11,none⟩=some (.int .i64 l.id):=k 0 (by omega);have P:w.cell? ⟨G,i*11+1,none⟩=some (.int .i64 l.gd):=k 1 (by omega);have Q:w.cell? ⟨G,i*11+2,none⟩=some (.int .i64 l.ex):=k 2 (by omega);have S:w.cell? ⟨G,i*11+3,none⟩=some (.int .i64 l.place):=k 3 (by omega);have T:w.cell? ⟨G,i*11+4,none⟩=some (.int .i64 l.got):=k 4 (by omega);have W:w.cell? ⟨G,i*11+5,none⟩=some (.int .i64 l.free):=k 5 (by omega);have X:w.cell? ⟨G,i*11+6,none⟩=some (.int .i64 l.hd):=k 6 (by omega);have Z:w.cell? ⟨G,i*11+7,none⟩=some (.int .i64 l.sh):=k 7 (by omega);have k8:w.cell? ⟨G,i*11+8,none⟩=some (.int .i64 l.sc):=k 8 (by omega);have k9:w.cell? ⟨G,i*11+9,none⟩=some (.int .i64 l.gv):=k 9 (by omega);have x:w.cell? ⟨G,i*11+10,none⟩=some (.slice F J H):=k 10 (by omega);have E:=zb h;have p:Ha (gV (cI rj ls) l=[l.gd,l.ex,l.place,l.got,l.free,l.hd,l.sh,l.sc,l.gv,if cI rj ls n then 1 else 0]):=by unfold Ha gV;rw[s.o]
 obtain⟨rb,f⟩:=Ww (cI rj ls n);rw[p.o,<-f.o];clear h D A b d k C q p;go_enter func74,ntmps74;go_wp2_with (go_at_call 111;refine y.mono ?_;rintro e w1 ⟨rfl,rfl⟩);refine(kA (E.below ?_) n).mono ?_
 ·exact((xm _ _).alloc (xe _) _).alloc (by simp) _
 rintro e w2 ⟨rfl,j⟩;rw[<-f.o];have c:w2.heap[w1.heap.size+1]?=some (.cells #[.int .i64 l.gd,.int .i64 l.ex,.int .i64 l.place,.int .i64 l.got,.int .i64 l.free,.int .i64 l.hd,.int .i64 l.sh,.int .i64 l.sc,.int .i64 l.gv,.int .i64 0] 3 (0,0)):=(j.block _ (by simp)).trans (zV _ _ _ (by simp));have z:Ha (Below w1.heap.size w1 w2):=(((xm _ _).alloc (xe _) _).alloc (by simp) _).trans (j.mono (by simp;omega));have g9:w2.cell? ⟨w1.heap.size+1,9,none⟩=some (.int .i64 0):=by rw[za c];rfl
 have gf:=ze c 9;have m:=zb c;clear j c f N P Q S T W X Z k8 k9 x
 cases rb
 ·go_wp2_with fail;go_ret2
  exact⟨z,_,rfl,m⟩
 go_wp2_with fail;go_ret2
 refine⟨z.setCell (by simp) _,_,rfl,?_⟩;have M:=xu w2 (w1.heap.size+1) 9 _ 3 (.int .i64 1) m;refine Eq.trans M ?_
 simp[I]
def Gx(h:RV os rj ro w R v td rec fs ls)(n:Nat)(d:n<=2147483647)(c:¬Wj n ls<ls.length):Calls prog 74 #[.pointer (some ⟨R,0,none⟩),.int .i64 n] w λe w'=>w'=w/\e=.returned (.tuple #[.slice none 0 0,.int .i64 4]):=by
 have b:=zb (cF h n d);have a:VF ls n=-1:=by unfold VF;rw[xg c]
 rw[a]at b;clear h c a;go_enter func74,ntmps74;go_wp2_with (go_at_call 111;refine b.mono ?_;rintro e w1 ⟨rfl,rfl⟩);go_ret2;exact⟨rfl,rfl⟩
def DX(h:RV os rj ro w R v td rec fs ls)(gd b:Nat)(h1:gd<=2147483647)(h2:b<=2147483647):Calls prog 75 #[.pointer (some ⟨R,0,none⟩),.int .i64 gd,.int .i64 b] w λe w'=>Below w.heap.size w w'/\∃g,e=.returned (.slice (some ⟨g,0,none⟩) 2 2)/\w'.heap[g]?=some (.cells (I (Hr rj td gd b ls)).toArray 3 (0,0)):=by
 obtain⟨a,cap,Z,l⟩:=h.shape;have c1:=h.c1;rw[Z]at c1;have P:=h.room;have q:=zc h.store;have HP:=zb h;clear h Z;go_enter func75,ntmps75;go_wp2_with fail;go_loopw [8,9] (λi _ wr=>∃k:Nat,k<=ls.length/\i=.int .i64 k/\wr.heap[w.heap.size]?=some (.cells #[.int .i64 ((dE rj td gd b ls k).length:Nat),.int .i64 (bQ ls (dE rj td gd b ls k):Nat)] 3 (0,0))/\Below w.heap.size w wr) (λi _ _=>ls.length-(intOf i).toNat)
 case atStart=>exact⟨0,by omega,rfl,xp w _,VE w _⟩
 obtain⟨k,hk,rfl,z,r⟩:=hrel;have p:=HP.below r;have E:wr.cell? ⟨R,1,none⟩=some (.slice a ls.length cap):=(r.cell (by exact q)).trans c1;by_cases j:k<ls.length
 ·obtain⟨G,hG,F,c⟩:=l (by omega);have D:=zb (uX p k gd b j h1 h2);rw[hG]at E c1;have y:=(p.ok _ (zf j)).sum;have H:=dP (rj:=rj) td gd b ls k;have N:bQ ls (dE rj td gd b ls k)<=2147483647*30:=by
   have h3:=fT ls p.ok (dE rj td gd b ls k) (λi hi=>xbL (rV hi) j);have:2147483647*(dE rj td gd b ls k).length<=2147483647*30:=xbJ _ (by omega);omega
  have x:w.cell? ⟨G,k*11+5,none⟩=some (.int .i64 ((ls.getD k L0).free:Int)):=c k j 5 (by omega);have s:w.heap.size<wr.heap.size:=zc z;clear c l p
  cases A:WN (cI rj ls) td gd b (ls.getD k L0) with
  |false=>
   have C:=zb (rW A);rw[A]at D;have B:=zb z;clear A z;go_wp2_with (go_at_call 120;refine D.mono ?_;rintro e w1 ⟨rfl,d⟩);go_roundw
   case rel=>exact⟨k+1,by omega,by go_num,(by rw[C.o,d.block _ s];exact B),r.trans (d.mono r.size)⟩
   simp[intOf];omega
  |true=>
   have C:=zb (Fw A);rw[A]at D;have B:=zb z;obtain⟨K,n⟩:=Ww ((dE rj td gd b ls k).length);obtain⟨J,m⟩:=Ww (bQ ls (dE rj td gd b ls k));obtain⟨M,t⟩:=Ww ((ls.getD k L0).free);rw[<-n.o,<-m.o]at B;rw[<-n.o]at H;rw[<-m.o]at N;rw[<-t.o]at x y;have T:Ha ((dE rj td gd b ls (k+1)).length=K+1/\bQ ls (dE rj td gd b ls (k+1))=J+M):=by
    constructor
    ·rw[C.o,n.o];simp
    rw[C.o,qC,m.o,t.o]
   clear A z C n m t;go_wp2_with fail;refine D.mono ?_
   rintro e w1 ⟨rfl,d⟩;have f:=(d.block _ s).trans B;have g0:w1.cell? ⟨w.heap.size,0,none⟩=some (.int .i64 K):=by rw[za f];rfl
   have g1:w1.cell? ⟨w.heap.size,1,none⟩=some (.int .i64 J):=by rw[za f];rfl
   have a0:=ze f 0;have a1:=ze f 1;have u:=r.trans (d.mono r.size);have gR:w1.cell? ⟨R,1,none⟩=some (.slice (some ⟨G,0,none⟩) ls.length cap):=(u.cell (by exact q)).trans c1;have gG:w1.cell? ⟨G,k*11+5,none⟩=some (.int .i64 M):=(u.cell (by exact F)).trans x;have W:¬R=w.heap.size:=by omega
   have X:¬G=w.heap.size:=by omega
   clear c1 E x D B r d;go_wp2_with fail;go_region;go_wp2_with fail;have Q:=xu w1 w.heap.size 0 _ 3 (.int .i64 ((K:Int)+1)) f;have S:=xu _ w.heap.size 1 _ 3 (.int .i64 ((J:Int)+(M:Int))) Q;go_roundw
   case rel=>
    refine⟨k+1,by omega,by go_num,?_,((u.setCell (by simp) _).setCell (by simp) _).drew⟩;rw[T.o.1,T.o.2];refine Eq.trans S ?_
    simp
   simp[intOf];omega
 obtain rfl:k=ls.length:=by omega
 clear l j;go_wp2_with fail;go_ret;exact⟨r,w.heap.size,rfl,z⟩
def Ux:prog.underlying 38=some (.slice 129):=by kernel_rfl
def JA:(prog.info? 129).map (λi=>(i.zero,i.size,i.bytes))=some (some (.agg #[.int .i64 0,.int .i64 0,.int .i64 0,.int .i64 0,.int .i64 0,.int .i64 0,.int .i64 0,.int .i64 0,.int .i64 0,.int .i64 0,.slice none 0 0]),11,104):=by kernel_rfl
def Ro.lot(ro:Ro)(f:Value)(ps:List (Nat×Nat)):Ro:={ ro with fvs:=ro.fvs++[f],pss:=ro.pss++[zT ps] }
def Im{f:Value}{ps:List (Nat×Nat)}{b:Nat}(h:OB (ro.lot f ps) b):OB ro b\/f.ownBlock=some b:=by
 rcases h with h|h|h|⟨i,e,h⟩
 ·exact Or.inl (Or.inl h)
 ·exact Or.inl (Or.inr (Or.inl h))
 ·exact Or.inl (Or.inr (Or.inr (Or.inl h)))
 have d:i<(ro.fvs++[f]).length:=e;have c:((ro.fvs++[f]).getD i default).ownBlock=some b:=h;rw[xc,Xw]at d;by_cases a:i<ro.fvs.length
 ·rw[Zh _ _ _ _ a]at c;exact Or.inl (Or.inr (Or.inr (Or.inr ⟨i,a,c⟩)))
 rw[Zg _ _ _ _ (by omega)]at c;exact Or.inr c
def RV.added{C n:World}{v':Value}(h:RV os rj ro w R v td rec fs ls){l:L}{f:Value}
  (z:∀k,k<w.heap.size->C.heap[k]?=w.heap[k]?) (K:C.grownBy n v.ownBlock) (a0:w.heap.size<=C.heap.size) (m:n.ownsRow 0 129 11 v' (ls.length+1) (tY ls fs++zo l f)) (X:L.Ok l) (J:Prs 181 w f (zT l.par)) (B:∀g,f.ownBlock=some g->ro.rv.ownBlock≠some g) (A:Fam (ls++[l])) (M:ls.length<30) :
  RV os rj (ro.lot f l.par) (n.setCell ⟨R,1,none⟩ v') R v' td rec (fs++[f]) (ls++[l]):=by
 have S:=zc h.store;have s:v.ownBlock≠some R:=λe=>by
  obtain⟨d,b⟩:=zh h.row e;exact zt h.store b (by decide) rfl
 have y:=((K.block R (by omega) (λe=>s e.symm)).trans (z R S)).trans h.store;have keep:∀(g:Nat) (d:Array Value) (t:TypeId),w.heap[g]?=some (.cells d t (0,0))->t≠42->t≠129->(n.setCell ⟨R,1,none⟩ v').heap[g]?=w.heap[g]?:=λg d t b P Q=>by
  have a:=zc b;have G:some g≠v.ownBlock:=λe=>by
   obtain⟨N,D⟩:=zh h.row e.symm;exact zt b D Q rfl
  rw[xd _ _ _ _ (zt b h.store P),K.block g (by omega) G,z g a]
 refine⟨?_,?_,by simp[h.flen],?_,?_,h.today,?_,by simp;omega,A,h.rc⟩
 ·have:=xu n R 1 _ 42 v' y
  simpa [Ro.lot] using this
 ·have W:=m.kept (zM n ⟨R,1,none⟩ v') (Or.inr (λe=>by
   obtain⟨d,b⟩:=zh m (g:=R) e;exact zt y b (by decide) rfl))
  rw[qB ls fs l f h.flen,xc];exact W
 ·exact⟨by show ro.fvs++[f]=_;rw[h.fro.1],by show ro.pss++[zT l.par]=_;rw[h.fro.2];simp⟩
 ·have j:=h.ord.congr (w':=n.setCell ⟨R,1,none⟩ v') (λg F=>by
   obtain⟨d,t,b,ht⟩:=h.ord.ty F;refine keep g d t b ?_ ?_<;>(rcases ht with rfl|rfl<;>decide))
  have E:=j.fd.flen;refine⟨j.row,j.llen,j.li,j.fd.rrow,?_,λi H=>?_,λg p=>⟨(j.fd.apart g p).1,?_⟩⟩
  ·show(ro.fvs++[f]).length=(ro.pss++[zT l.par]).length;simp[E]
  ·have r:i<(ro.fvs++[f]).length:=H;rw[xc,Xw]at r;show Prs 181 _ ((ro.fvs++[f]).getD i default) ((ro.pss++[zT l.par]).getD i []);by_cases a:i<ro.fvs.length
   ·rw[Zh _ _ _ _ a,Zh _ _ _ _ (by omega)];exact j.fd.frm i a
   rw[Zg _ _ _ _ (by omega),Zg _ _ _ _ (by omega)];exact J.congr (λq Z=>by obtain⟨d,b⟩:=J.blk Z;exact keep q d _ b (by decide) (by decide))
  rintro⟨i,H,T⟩;have r:i<(ro.fvs++[f]).length:=H;have c:((ro.fvs++[f]).getD i default).ownBlock=some g:=T;rw[xc,Xw]at r;by_cases a:i<ro.fvs.length
  ·rw[Zh _ _ _ _ a]at c;exact(j.fd.apart g p).2 ⟨i,a,c⟩
  rw[Zg _ _ _ _ (by omega)]at c;exact B g c p
 intro x u;rcases xx.1 u with u|u
 ·exact h.ok x u
 simp at u;subst u;exact X
def vC(h:RV os rj ro w R v td rec fs ls)(id gd b n:Nat)(i:Option Addr)(q j:Nat)(ps:List (Nat×Nat))(S:Prs 181 w (.slice i q j) (zT ps))(A:∀g,(Value.slice i q j).ownBlock=some g->ro.rv.ownBlock≠some g)(a5:ps.length<=2/\∀p∈ps,p.1<=2147483647)(z:Fam (ls++[{ id:=id,gd:=gd,ex:=b,place:=ls.length+1,got:=n,free:=n,hd:=0,sh:=0,sc:=0,gv:=0,par:=ps }]))(W:ls.length<30)(h1:id<=2147483647)(h2:gd<=2147483647)(h3:b<=2147483647)(h4:n<=2147483647):Calls prog 110 #[.pointer (some ⟨R,0,none⟩),.int .i64 id,.int .i64 gd,.int .i64 b,.int .i64 n,.slice i q j] w λe w'=>e=.returned (.tuple #[])/\Kp (λk=>k=R\/v.ownBlock=some k) w w' /\
   ∃v',RV os rj (ro.lot (.slice i q j) ps) w' R v' td rec (fs++[.slice i q j]) (ls++[{ id:=id,gd:=gd,ex:=b,place:=ls.length+1,got:=n,free:=n,hd:=0,sh:=0,sc:=0,gv:=0,par:=ps }])/\(∀g,v'.ownBlock=some g->v.ownBlock=some g\/w.heap.size<=g):=by
 obtain⟨i0,hi,a7,a8,a9⟩:=XT JA;obtain⟨a,cap,hv,_⟩:=h.shape;have hR:=zc h.store;have c1:=h.c1;have f1:=ze h.store 1;have d:=h.row;rw[hv]at c1 d;have HP:=zb h;obtain⟨m,H⟩:=Ww ls.length;rw[<-H.o]at c1 d W;have HV:=zb hv;have X:(Value.slice a m cap).ownBlock≠some R:=λe=>by
  obtain⟨cs,hc⟩:=zh d e;exact zt h.store hc (by decide) rfl
 obtain⟨o,HO⟩:∃o,Ha (o=Obj.cells #[.int .i64 id,.int .i64 gd,.int .i64 b,.int .i64 ((m:Int)+1),.int .i64 n,.int .i64 n,.int .i64 0,.int .i64 0,.int .i64 0,.int .i64 0,.slice i q j] 129):=⟨_,rfl⟩
 have r:Below w.heap.size w (w.alloc (Obj.cells #[.int .i64 id,.int .i64 gd,.int .i64 b,.int .i64 ((m:Int)+1),.int .i64 n,.int .i64 n,.int .i64 0,.int .i64 0,.int .i64 0,.int .i64 0,.slice i q j] 129)).drew:=(VE w _).drew;have N:(w.alloc (Obj.cells #[.int .i64 id,.int .i64 gd,.int .i64 b,.int .i64 ((m:Int)+1),.int .i64 n,.int .i64 n,.int .i64 0,.int .i64 0,.int .i64 0,.int .i64 0,.slice i q j] 129)).drew.heap[w.heap.size]?=some (Obj.cells #[.int .i64 id,.int .i64 gd,.int .i64 b,.int .i64 ((m:Int)+1),.int .i64 n,.int .i64 n,.int .i64 0,.int .i64 0,.int .i64 0,.int .i64 0,.slice i q j] 129):=xp w _;have C:∀u∈([.int .i64 id,.int .i64 gd,.int .i64 b,.int .i64 (m+1),.int .i64 n,.int .i64 n,.int .i64 0,.int .i64 0,.int .i64 0,.int .i64 0,.slice i q j]:List Value),u.oneCell'=true:=by
  intro u hu;simp only[xz,yf,xah]at hu;rcases hu with rfl|rfl|rfl|rfl|rfl|rfl|rfl|rfl|rfl|rfl|rfl<;>rfl
 have K:=zb (Yl X);have P:(w.alloc (Obj.cells #[.int .i64 id,.int .i64 gd,.int .i64 b,.int .i64 ((m:Int)+1),.int .i64 n,.int .i64 n,.int .i64 0,.int .i64 0,.int .i64 0,.int .i64 0,.slice i q j] 129)).drew.cell? ⟨R,1,none⟩=some (.slice a m cap):=(r.cell (by exact hR)).trans c1;have Q:(w.alloc (Obj.cells #[.int .i64 id,.int .i64 gd,.int .i64 b,.int .i64 ((m:Int)+1),.int .i64 n,.int .i64 n,.int .i64 0,.int .i64 0,.int .i64 0,.int .i64 0,.slice i q j] 129)).drew.frozen? ⟨R,1,none⟩=false:=(r.frozen (by exact hR)).trans f1;have x:Ha (R<(w.alloc (Obj.cells #[.int .i64 id,.int .i64 gd,.int .i64 b,.int .i64 ((m:Int)+1),.int .i64 n,.int .i64 n,.int .i64 0,.int .i64 0,.int .i64 0,.int .i64 0,.slice i q j] 129)).drew.heap.size):=xl hR r.size;have D:=zb r;clear X;have a6:IntKind.i64.wrap ((m:Int)+1)=(m:Int)+1:=by rw[xbv];exact bG _ ⟨by omega,by omega⟩
 have a0:=zb S;have Z:=zb A;have G:=zb z;clear h hv S A z;go_enter func110,ntmps110;go_wp2_with fail;go_region_law (refine YG _ rfl _ _ 38 rfl 0 129 i0 (.agg #[.int .i64 0,.int .i64 0,.int .i64 0,.int .i64 0,.int .i64 0,.int .i64 0,.int .i64 0,.int .i64 0,.int .i64 0,.int .i64 0,.slice none 0 0]) 11 104 Ux hi a7 a8 a9 rfl (by decide) (.slice a m cap) m (tY ls fs) rfl (zg d r) ⟨w.heap.size,0,none⟩ 1 1 [.int .i64 id,.int .i64 gd,.int .i64 b,.int .i64 (m+1),.int .i64 n,.int .i64 n,.int .i64 0,.int .i64 0,.int .i64 0,.int .i64 0,.slice i q j] rfl rfl (yr N) C (by decide) (by unfold maxLen;omega) (by omega) (Nat.zero_le _) (w.heap.size+1) (by simp) ?_;intro g s w1 t c M a4;have a1:=(c.cell_far ⟨R,1,none⟩ x K).trans P;have a2:=(c.frozen_far ⟨R,1,none⟩ x K).trans Q)
 all_goals
  clear P Q a1 a2;have F:v.ownBlock=(Value.slice a m cap).ownBlock:=by rw[HV.o,H.o]
  have E:((w.alloc (Obj.cells #[.int .i64 id,.int .i64 gd,.int .i64 b,.int .i64 ((m:Int)+1),.int .i64 n,.int .i64 n,.int .i64 0,.int .i64 0,.int .i64 0,.int .i64 0,.slice i q j] 129)).drew).grownBy w1 v.ownBlock:=by rw[F];exact c
  have B:=HP.added (l:={ id:=id,gd:=gd,ex:=b,place:=ls.length+1,got:=n,free:=n,hd:=0,sh:=0,sc:=0,gv:=0,par:=ps }) (f:=.slice i q j) (v':=.slice (some ⟨g,0,none⟩) (m+1) s) (λk hk=>D.block k hk) E D.size (by rw[<-H.o];exact t) ⟨h1,h2,h3,(by show ls.length+1<=30;have:=H.o;omega),(by simp;omega),h4,a5⟩ a0 Z G (by have:=H.o;omega);have T:Kp (λk=>k=R\/v.ownBlock=some k) w (w1.setCell ⟨R,1,none⟩ (.slice (some ⟨g,0,none⟩) (m+1) s)):=by
   refine Kp.setCell ?_ (Or.inl (Or.inl rfl)) _
   exact Kp.grown (Wo D) E (λk hk=>Or.inl (Or.inr hk))
  have y:∀g',(Value.slice (some ⟨g,0,none⟩) (m+1) s).ownBlock=some g'->v.ownBlock=some g'\/w.heap.size<=g':=λg' a3=>by
   cases a3;rcases M with h|h
   ·left;rw[F];exact h
   right;simp at h ⊢;omega
  have J:=zb B;have HK:=zb T;have HA:=zb y;clear B T y E F c M a4 t N r C a6 c1 f1 d;go_wp2_with fail;go_end0;exact⟨rfl,HK,_,J,HA⟩
def RI(os:List O)(rj:List (Nat×Nat))(Z:Nat->Prop)(w:World)(R td:Nat)(rec:ByteArray)(ls:List L):Prop:=∃v fs,∃ro:Ro,RV os rj ro w R v td rec fs ls/\Z R/\(∀g,v.ownBlock=some g->Z g)/\(∀g,OB ro g->Z g)
variable {Z:Nat->Prop}
def RI.mono{Z':Nat->Prop}(h:RI os rj Z w R td rec ls)(b:∀k,Z k->Z' k):RI os rj Z' w R td rec ls:=by
 obtain⟨v,c,ro,d,e,f,i⟩:=h;exact⟨v,c,ro,d,b _ e,λg a=>b _ (f g a),λg a=>b _ (i g a)⟩
def RI.below{rj:List (Nat×Nat)}{Z:Nat->Prop}{w w':World}{R td:Nat}{a:ByteArray}{ls:List L}{os:List O}(h:RI os rj Z w R td a ls)(g:Below w.heap.size w w'):RI os rj Z w' R td a ls:=by
 obtain⟨v,b,ro,c,d,e,f⟩:=h;exact⟨v,b,ro,c.below g,d,e,f⟩
def RI.congr{rj:List (Nat×Nat)}{Z:Nat->Prop}{w w':World}{R td:Nat}{b:ByteArray}{ls:List L}{os:List O}(h:RI os rj Z w R td b ls)(d:∀k,Z k->w'.heap[k]?=w.heap[k]?):RI os rj Z w' R td b ls:=by
 obtain⟨v,j,ro,a,e,f,i⟩:=h;exact⟨v,j,ro,⟨(d R e).trans a.store,zd a.row (λg c=>d g (f g c)),a.flen,a.fro,a.ord.congr (λg c=>d g (i g c)),a.today,a.ok,a.room,a.fam,a.rc⟩,e,f,i⟩
def NS(w:World)(gn:Nat)(ns:List Nat):Prop:=(∃cs,w.heap[gn]?=some (.cells cs 3 (0,0)))/\∀j,j<ns.length->w.cell? ⟨gn,j,none⟩=some (.int .i64 (ns.getD j 0:Nat))
def NS.of_own{a c cap:Nat}{b:List Nat}(h:w.ownsRow a 3 1 (.slice (some ⟨c,0,none⟩) b.length cap) b.length (I b)):NS w c b :=
 ⟨zh h rfl,λj d=>BQ h rfl j d⟩
def aA(w:World):Below w.heap.size w w.drew:=(xm _ _).drew
def IE(h:RI os rj Z w R td rec ls)(i cap:Nat)(a b c d:Nat)(hn:NS w i [a,b,c,d])
  (J:a<=2147483647) (X:b<=2147483647) (h3:c<=2147483647) (h4:d<=2147483647) :
  Calls prog 68 #[.pointer (some ⟨R,0,none⟩),.int .i64 2,.slice (some ⟨i,0,none⟩) 4 cap] w λe w'=>Kp Z w w'/\e=.returned (.int .i64 (zz ls a:Int))/\RI os rj (Zn Z w) w' R td rec (if zz ls a=0 then ls++[Pq ls a b c d] else ls):=by
 obtain⟨v,W,ro,l,D,q,n⟩:=h;obtain⟨⟨cs,j⟩,f⟩:=hn;have N:w.cell? ⟨i,0,none⟩=some (.int .i64 a):=f 0 (by simp);have P:w.cell? ⟨i,1,none⟩=some (.int .i64 b):=f 1 (by simp);have Q:w.cell? ⟨i,2,none⟩=some (.int .i64 c):=f 2 (by simp);have S:w.cell? ⟨i,3,none⟩=some (.int .i64 d):=f 3 (by simp);have y:=zb (gD l a J);have M:zz ls a<=6:=by unfold zz;split<;>(try split)<;>omega
 by_cases s:zz ls a=0
 ·have u:ls.length<30:=by
   unfold zz at s;by_cases m:30<=ls.length
   ·split at s
    ·omega
    omega
   omega
  have T:=zb (vC (l.below (aA w)) a b d c none 0 0 [] (Or.inl ⟨rfl,rfl⟩) (λg h=>by cases h) ⟨by simp,by simp⟩ (l.fam.snoc (cY s) (λp hp=>by cases hp)) u J X h4 h3);have F:=zc j;have B:Ha (i≠R):=zt j l.store (by decide);have C:Ha (v.ownBlock≠some i):=λe=>by
   obtain⟨ds,hd⟩:=zh l.row e;exact zt j hd (by decide) rfl
  have H:=zb D;have t:=zb q;have A:=zb n;rw[s]at y ⊢;rw[xh rfl];clear l s f j D q n;go_enter func68,ntmps68;go_wp2_with (go_at_call 109;refine y.mono ?_;rintro e w1 ⟨rfl,rfl⟩);go_region_held3 (λw'=>w'.cell? ⟨i,0,none⟩=some (.int .i64 a)/\w'.cell? ⟨i,1,none⟩=some (.int .i64 b)/\w'.cell? ⟨i,2,none⟩=some (.int .i64 c)/\w'.cell? ⟨i,3,none⟩=some (.int .i64 d)) (go_keep)
   (first
    |(go_at_call 110;refine T.mono ?_;rintro e w2 ⟨rfl,K,v',G,E⟩;have m:=K.block i F (λh=>h.elim B C);have m0:=(xo (a:=⟨i,0,none⟩) m).trans N;have m1:=(xo (a:=⟨i,1,none⟩) m).trans P;have m2:=(xo (a:=⟨i,2,none⟩) m).trans Q;have m3:=(xo (a:=⟨i,3,none⟩) m).trans S))
  clear m0 m1 m2 m3 m N P Q S;go_wp2_with fail;go_ret;refine⟨?_,rfl,v',_,_,G,Or.inl H,λg r=>?_,λg r=>(Im r).elim (λh=>Or.inl (A g h)) (λh=>by cases h)⟩
  ·exact Kp.before (aA _) (K.mono (λk m=>Or.inl (m.elim (λe=>e ▸ H) (λe=>t k e))))
  rcases E g r with h|h
  ·exact Or.inl (t g h)
  exact Or.inr h
 rw[xg s];have a0:((zz ls a:Int)==0)=false:=by rw[xr];omega
 have x:RI os rj (Zn Z w) w R td rec ls:=⟨v,W,ro,l,Or.inl D,λg r=>Or.inl (q g r),λg r=>Or.inl (n g r)⟩
 have z:=zb x;generalize zz ls a=rc at *;clear l f j x;go_enter func68,ntmps68;go_wp2_with (go_at_call 109;refine y.mono ?_;rintro e w1 ⟨rfl,rfl⟩);go_ret;exact⟨Kp.refl _ _,rfl,z⟩
def RV.store_set{b:Nat}{a:ByteArray}(h:RV os rj ro w R v td rec fs ls)
  (e:w'.heap[R]?=some (.cells #[.int .i64 b,v,ro.ov,ro.rv,.string a] 42 (0,0))) (d:∀k,k≠R->w'.heap[k]?=w.heap[k]?) (i:b<=2147483647):RV os rj ro w' R v b a fs ls:={
 store:=e
 row:=zd h.row (λg c=>d g (by
  obtain⟨j,f⟩:=zh h.row c;exact(zt h.store f (by decide)).symm))
 flen:=h.flen
 fro:=h.fro
 ord:=h.ord.congr (λg c=>d g (h.ord.ne c h.store (by decide) (by decide)))
 today:=i
 ok:=h.ok
 room:=h.room
 fam:=h.fam
 rc:=h.rc}
def RV.days(h:RV os rj ro w R v td rec fs ls)(d:Nat)(hd:d<=2147483647):RV os rj ro (w.setCell ⟨R,0,none⟩ (.int .i64 d)) R v d rec fs ls:=by
 refine h.store_set ?_ (λk a=>xd _ _ _ _ a) hd
 have:=xu w R 0 _ 42 (.int .i64 d) h.store
 simpa using this
def RV.recs(h:RV os rj ro w R v td rec fs ls)(a:ByteArray):RV os rj ro (w.setCell ⟨R,4,none⟩ (.string a)) R v td a fs ls:=by
 refine h.store_set ?_ (λk b=>xd _ _ _ _ b) h.today
 have:=xu w R 4 _ 42 (.string a) h.store
 simpa using this
def Az(h:RI os rj Z w R td rec ls)(i cap d:Nat)(r:NS w i [d])(hd:d<=2147483647):Calls prog 51 #[.pointer (some ⟨R,0,none⟩),.int .i64 1,.slice (some ⟨i,0,none⟩) 1 cap] w λe w'=>Kp Z w w' /\
   ((d<td/\e=.returned (.tuple #[.slice none 0 0,.int .i64 3])/\RI os rj (Zn Z w) w' R td rec ls)\/(td<=d/\e=.returned (.tuple #[.slice none 0 0,.int .i64 0])/\RI os rj (Zn Z w) w' R d rec ls)):=by
 obtain⟨v,q,ro,b,j,f,c⟩:=h;have x:w.cell? ⟨i,0,none⟩=some (.int .i64 d):=r.2 0 (by simp);have c0:=b.c0;have t:=ze b.store 0;have s:=b.today;have n:=zb b;clear b r;by_cases m:d<td
 ·have k:decide ((d:Int)<(td:Int))=true:=by simp;omega
  go_enter func51,ntmps51;go_wp2_with fail;go_quiet (fail);go_wp2_with fail;go_ret2;exact⟨Wo (XA (xm _ _) nq),Or.inl ⟨m,rfl,v,q,ro,n.below (XA (xm _ _) nq),Or.inl j,λg a=>Or.inl (f g a),λg a=>Or.inl (c g a)⟩⟩
 have l:td<=d:=by omega
 have k:decide ((d:Int)<(td:Int))=false:=by simp;omega
 go_enter func51,ntmps51;go_wp2_with fail;go_quiet (fail);go_wp2_with fail;go_ret2;have u:=XA (xm w.heap.size w) nq;refine⟨?_,Or.inr ⟨l,rfl,v,q,ro,?_,Or.inl j,λg a=>Or.inl (f g a),λg a=>Or.inl (c g a)⟩⟩
 ·exact((Kp.refl Z w).setCell (p:=⟨R,0,none⟩) (Or.inl j) (.int .i64 d)).after (XA (xm _ _) nq)
 exact(n.days d hd).below (XA (xm _ _) nq)
def jF(h:RI os rj Z w R td rec ls)(g cap:Nat)(a b c d:Nat)(j:NS w g [a,b,c,d])
  (k:a<=2147483647) (l:b<=2147483647) (m:c<=2147483647) (n:d<=2147483647) :
  Calls prog 51 #[.pointer (some ⟨R,0,none⟩),.int .i64 2,.slice (some ⟨g,0,none⟩) 4 cap] w λe w'=>Kp Z w w'/\e=.returned (.tuple #[.slice none 0 0,.int .i64 (zz ls a:Int)])/\RI os rj (Zn Z w) w' R td rec (if zz ls a=0 then ls++[Pq ls a b c d] else ls):=by
 have f:=zb (IE h g cap a b c d j k l m n);generalize (if zz ls a=0 then ls++[Pq ls a b c d] else ls)=ls' at f ⊢;generalize zz ls a=rc at f ⊢;clear h j;go_enter func51,ntmps51;go_wp2_with (go_at_call 68;refine f.mono ?_;rintro e w1 ⟨p,rfl,i⟩);go_ret2;exact⟨p,rfl,i⟩
def wC(h:RV os rj ro w R v td rec fs ls)(a cap n:Nat)(d:NS w a [n])(f:n<=2147483647)(c:Wj n ls<ls.length):Calls prog 51 #[.pointer (some ⟨R,0,none⟩),.int .i64 11,.slice (some ⟨a,0,none⟩) 1 cap] w λe w'=>Below w.heap.size w w'/\∃g,e=.returned (.tuple #[.slice (some ⟨g,0,none⟩) 10 10,.int .i64 0])/\w'.heap[g]?=some (.cells (I (gV (cI rj ls) (ls.getD (Wj n ls) L0))).toArray 3 (0,0)):=by
 have k:w.cell? ⟨a,0,none⟩=some (.int .i64 n):=d.2 0 (by simp);have b:=zb (JV h n f c);generalize ls.getD (Wj n ls) L0=l at b ⊢;clear h d c;go_enter func51,ntmps51;go_wp2_with (go_at_call 74;refine b.mono ?_;rintro e w1 ⟨i,g,rfl,j⟩);go_ret2;exact⟨i,g,rfl,j⟩
def tC(h:RV os rj ro w R v td rec fs ls)(a cap n:Nat)(c:NS w a [n])(f:n<=2147483647)(b:¬Wj n ls<ls.length):Calls prog 51 #[.pointer (some ⟨R,0,none⟩),.int .i64 11,.slice (some ⟨a,0,none⟩) 1 cap] w λe w'=>w'=w/\e=.returned (.tuple #[.slice none 0 0,.int .i64 4]):=by
 have g:w.cell? ⟨a,0,none⟩=some (.int .i64 n):=c.2 0 (by simp);have d:=zb (Gx h n f b);clear h c b;go_enter func51,ntmps51;go_wp2_with (go_at_call 74;refine d.mono ?_;rintro e w1 ⟨rfl,rfl⟩);go_ret2;exact⟨rfl,rfl⟩
def AA(h:RV os rj ro w R v td rec fs ls)(c cap a b:Nat)(i:NS w c [a,b])(n:a<=2147483647)(q:b<=2147483647):Calls prog 51 #[.pointer (some ⟨R,0,none⟩),.int .i64 12,.slice (some ⟨c,0,none⟩) 2 cap] w λe w'=>Below w.heap.size w w'/\∃g,e=.returned (.tuple #[.slice (some ⟨g,0,none⟩) 2 2,.int .i64 0])/\w'.heap[g]?=some (.cells (I (Hr rj td a b ls)).toArray 3 (0,0)):=by
 have l:w.cell? ⟨c,0,none⟩=some (.int .i64 a):=i.2 0 (by simp);have m:w.cell? ⟨c,1,none⟩=some (.int .i64 b):=i.2 1 (by simp);obtain⟨u,d⟩:=i.1;have f:=zc d;have k:=zb (DX (h.below (aA w)) a b n q);generalize Hr rj td a b ls=sl at k ⊢;clear h i d;go_enter func51,ntmps51;go_wp2_with fail;go_region_held3 (λw'=>w'.cell? ⟨c,0,none⟩=some (.int .i64 a)/\w'.cell? ⟨c,1,none⟩=some (.int .i64 b)) (go_keep)
  (first
   |(go_at_call 75;refine k.mono ?_;rintro e w2 ⟨j,g,rfl,r⟩;have s:=(j.cell (p:=⟨c,0,none⟩) f).trans l;have t:=(j.cell (p:=⟨c,1,none⟩) f).trans m))
 clear s t l m;go_wp2_with fail;go_ret2;exact⟨(aA w).trans j,g,rfl,r⟩
def gQ{a b:ByteArray}(h:a=b):Ending.returned (.string a)=.returned (.string b):=by rw[h]
def Ph(w:World)(R:Nat)(s:ByteArray)(j:s.size<=4194304)(b:Nat)(f:b=1\/b=2)(c:Pl.cmd s.data.toList=.error b):Calls prog 37 #[.pointer (some ⟨R,0,none⟩),.string s] w λe w'=>e=.returned (.string ⟨[UInt8.ofNat b].toArray⟩)/\Below w.heap.size w w':=by
 have d:Ha (Calls prog 50 #[.string s] w λe w'=>e=.returned (.tuple #[.int .i64 0,.slice none 0 0,.int .i64 b])/\Below w.heap.size w w') :=
  (iD s j w).mono λe w' ⟨h1,h2⟩=>by rw[c]at h2;exact⟨h2,h1⟩
 have h:((b:Int) != 0)=true:=by rw[Yh];omega
 have g:b<=2:=by omega
 clear c f;go_enter func37,ntmps37;go_wp2_with (go_at_call 50;refine d.mono ?_;rintro e w1 ⟨rfl,a⟩;have i:=IF w1 (b:Int) (by omega) (by omega) (0,0));go_ret;exact⟨gQ (by simp),a.alloc a.size _⟩
def oP(R c:Nat)(ns:List Nat)(w:World)(Q:Ending->World->Prop):Prop :=
 ∀gn cap,NS w gn ns->Calls prog 51 #[.pointer (some ⟨R,0,none⟩),.int .i64 c,.slice (some ⟨gn,0,none⟩) ns.length cap] w Q
def dW(s:ByteArray)(i:s.size<=4194304)(w:World)(c:Nat)(a:List Nat)(h:Pl.cmd s.data.toList=.ok (c,a)):Calls prog 50 #[.string s] w λe w'=>Below w.heap.size w w'/\∃b cap,e=.returned (.tuple #[.int .i64 c,.slice (some ⟨b,0,none⟩) a.length cap,.int .i64 0])/\NS w' b a :=
 (iD s i w).mono λe w' ⟨h1,h2⟩=>by
  rw[h]at h2;obtain⟨g,cap,d,f⟩:=h2;exact⟨h1,g,cap,d,NS.of_own f⟩
def qF(w:World)(R:Nat)(s:ByteArray)(t:s.size<=4194304)(c:Nat)(d:List Nat)(h:Pl.cmd s.data.toList=.ok (c,d))(k:Nat)(u:0<k)(q:k<256)(Q:World->Prop)
  (HD:Ha (∀w1,Below w.heap.size w w1->oP R c d w1 λe w'=>e=.returned (.tuple #[.slice none 0 0,.int .i64 k])/\Q w')) :
  Calls prog 37 #[.pointer (some ⟨R,0,none⟩),.string s] w λe w'=>e=.returned (.string ⟨[UInt8.ofNat k].toArray⟩)/\∃w2,Q w2/\Below w2.heap.size w2 w':=by
 have g:=zb (dW s t w c d h);have n:((k:Int) != 0)=true:=by rw[Yh];omega
 generalize i:d.length=m at g;have j:=zb i;clear h i;go_enter func37,ntmps37;go_wp2_with fail;refine g.mono ?_
 rintro e w1 ⟨f,l,cap,rfl,b⟩;have a:=zb (HD w1 f l cap b);rw[j.o]at a;clear b;go_wp2_with fail;refine a.mono ?_
 rintro e w2 ⟨rfl,r⟩;have p:=IF w2 (k:Int) (by omega) (by omega) (0,0);go_wp2_with fail;go_ret;exact⟨gQ (by simp),w2,r,VE w2 _⟩
def Pg(w:World)(R:Nat)(s:ByteArray)(J:s.size<=4194304)(c:Nat)(C:11<=c)(D:c<=12)(r:List Nat)(q:Pl.cmd s.data.toList=.ok (c,r))(rs:List Nat)(h:∀n∈rs,n<9223372036854775808)(z:rs.length<=100)
  (HD:Ha (∀w1,Below w.heap.size w w1->oP R c r w1 λe w'=>Below w1.heap.size w1 w'/\∃g,e=.returned (.tuple #[.slice (some ⟨g,0,none⟩) rs.length rs.length,.int .i64 0])/\w'.heap[g]?=some (.cells (I rs).toArray 3 (0,0)))) :
  Calls prog 37 #[.pointer (some ⟨R,0,none⟩),.string s] w λe w'=>e=.returned (.string ⟨(0::Pl.toldB rs).toArray⟩)/\Below w.heap.size w w':=by
 have A:=zb (dW s J w c r q);generalize E:r.length=m at A;have F:=zb E;have x:=Pl.toldB_len rs h;have B:=zb (λ(b:Nat) (w:World) (y:b<w.heap.size) q=>kG b rs.length rs h (by omega) w y q);have d:Ha (∀(w:World) (g:Nat),w.heap[g]?=some (.cells (I rs).toArray 3 (0,0))->∀j,j<rs.length->w.cell? ⟨g,j,none⟩=some (.int .i64 (rs.getD j 0:Nat))):=λw g l j H=>by
  rw[za l];simp[I,Wc,H]
 obtain⟨K,k⟩:=Ww rs.length;rw[<-k.o]at HD B z x;clear q E h;go_enter func37,ntmps37;go_wp2_with fail;refine A.mono ?_
 rintro e w1 ⟨f,G,cap,rfl,p⟩;have i:=zb (HD w1 f G cap p);rw[F.o]at i;clear p;go_wp2_with fail;refine i.mono ?_
 rintro e w2 ⟨u,g,rfl,l⟩;have t:=zb (B g w2 (zc l) (by rw[k.o];exact d w2 g l));clear l;go_wp2_with fail;refine t.mono ?_
 rintro e M ⟨rfl,v⟩;go_wp2_with fail;go_ret;have a:=f.trans (u.mono f.size);exact⟨gQ (YO [0] (Pl.toldB rs)),a.trans (v.mono a.size)⟩
def EI(w:World)(R td:Nat)(d:ByteArray)(H:d.size<=1000000000000000)(ls:List L)(s:ByteArray)(P:s.size<=4194295)(c:Nat)(F:c<=10)(t:List Nat)(E:Pl.cmd s.data.toList=.ok (c,t))
  (HD:Ha (∀w1,Below w.heap.size w w1->oP R c t w1 λe w'=>e=.returned (.tuple #[.slice none 0 0,.int .i64 0])/\Kp Z w1 w'/\RI os rj (Zn Z w1) w' R td d ls)) (D:Z R) :
  Calls prog 37 #[.pointer (some ⟨R,0,none⟩),.string s] w λe w'=>e=.returned (.string ⟨[0].toArray⟩)/\Kp Z w w'/\∃i,i=Rt d s/\RI os rj (Zn Z w) w' R td i ls:=by
 have C:=zb (dW s (by omega) w c t E);generalize G:t.length=m at C;have J:=zb G;clear E G;go_enter func37,ntmps37;go_wp2_with fail;refine C.mono ?_
 rintro e w1 ⟨b,M,cap,rfl,q⟩;have j:=zb (HD w1 b M cap q);rw[J.o]at j;clear q;go_wp2_with fail;refine j.mono ?_
 rintro e w2 ⟨rfl,N,z⟩;go_wp2_with fail;refine(oA s P w2).mono ?_
 rintro e W ⟨l,f,rfl,T,n⟩;have u:=zb n;clear n;obtain⟨v,K,ro,r,Q,A,B⟩:=z;have a:=r.below l;have c4:=a.c4;have S:=ze a.store 4;have x:=zb a;clear r a;go_wp2_with fail;refine(OP _).mono ?_
 rintro e X ⟨rfl,rfl⟩;go_wp2_with fail;go_ret;refine⟨gQ (by simp[ByteArray.ext_iff]),?_,d++f,?_,v,K,ro,x.recs _,?_,?_,?_⟩
 ·exact(Kp.before b ((N.after l).mono (λk h=>Or.inl h))).setCell (p:=⟨R,4,none⟩) (Or.inl D) _
 ·rw[u.o];rfl
 ·exact Or.inl D
 ·intro g y;rcases A g y with h|h
  ·exact Or.inl h
  exact Or.inr (xj b.size h)
 intro g y;rcases B g y with h|h
 ·exact Or.inl h
 exact Or.inr (xj b.size h)
def jN{s:ByteArray}{b:List UInt8}(h:RI os rj Z w R td rec ls)(c:Below w.heap.size w w')(e:RecX rec s rec b):Kp Z w w'/\∃a,RecX rec s a b/\RI os rj (Zn Z w) w' R td a ls :=
 ⟨Wo c,rec,e,(h.below c).mono (λ_ d=>Or.inl d)⟩
def CP(h:RI os rj Z w R td rec ls)(F:rec.size<=1000000000000000)(s:ByteArray)(N:s.size<=4194295)(hp:Ip (Pl.cmd s.data.toList)):Calls prog 37 #[.pointer (some ⟨R,0,none⟩),.string s] w λe w'=>e=.returned (.string ⟨(aE rj td ls (Pl.cmd s.data.toList)).1.toArray⟩)/\Kp Z w w'/\∃j,RecX rec s j (aE rj td ls (Pl.cmd s.data.toList)).1/\RI os rj (Zn Z w) w' R (aE rj td ls (Pl.cmd s.data.toList)).2.1 j (aE rj td ls (Pl.cmd s.data.toList)).2.2:=by
 have f:=dL s.data.toList;have t:s.size<=4194304:=by omega
 have J:Z R:=by obtain⟨v,S,ro,_,hz,_⟩:=h;exact hz
 cases q:ZO s.data.toList with
 |none=>
  rw[q]at f;rw[f];refine(Ph w R s t 1 (Or.inl rfl) f).mono ?_
  rintro e w' ⟨l,A⟩;exact⟨l,jN h A (RecX.no1 (by show(UInt8.ofNat 1)≠0;decide))⟩
 |some p=>
  obtain⟨c,W⟩:=p;rw[q]at f;obtain⟨X,a0,x,a1⟩:=bL q
  cases H:Pl.mays (Pl.kindsL c) W with
  |false=>
   simp only[H,XV,YF]at f;rw[f];refine(Ph w R s t 2 (Or.inr rfl) f).mono ?_
   rintro e w' ⟨l,A⟩;exact⟨l,jN h A (RecX.no1 (by show(UInt8.ofNat 2)≠0;decide))⟩
  |true=>
   simp only[H,Yo]at f;rcases hp c W f with rfl|rfl|rfl|rfl
   ·obtain⟨a,rfl⟩:=ER x;have hd:a<=2147483647:=by simp[Pl.mays,Pl.kindsL,Pl.mayB]at H;omega
    rw[f];by_cases E:a<td
    ·simp only[aE,xh E];refine(qF w R s t 1 [a] f 3 (by omega) (by omega) (λw2=>Kp Z w w2/\RI os rj (Zn Z w) w2 R td rec ls) (λw1 g y cap z=>?_)).mono ?_
     ·refine(Az (h.below g) y cap a z hd).mono ?_
      rintro e w2 ⟨B,⟨C,u,D⟩|⟨C,_⟩⟩
      ·exact⟨u,Kp.before g (B.mono (λk h=>Or.inl h)),D.mono (λk B=>B.elim Or.inl (λh=>Or.inr (xj g.size h)))⟩
      omega
     rintro e w' ⟨l,w2,⟨C,u⟩,m⟩;exact⟨l,C.after m,rec,RecX.no1 (by show(UInt8.ofNat 3)≠0;decide),u.below m⟩
    simp only[aE,xg E];refine(EI (os:=os) (rj:=rj) w R a rec F ls s N 1 (by omega) [a] f (λw1 g y cap z=>?_) J).mono ?_
    ·refine(Az (h.below g) y cap a z hd).mono ?_
     rintro e w2 ⟨B,⟨C,_⟩|⟨C,u,D⟩⟩
     ·omega
     exact⟨u,B,D⟩
    rintro e w' ⟨l,A,j,M,Q⟩;exact⟨l,A,j,RecX.yes f (by omega) M N rfl,Q⟩
   ·obtain⟨a,b,c,d,rfl⟩:=TU x;have hd:a<=2147483647/\b<=2147483647/\c<=2147483647/\d<=2147483647:=by simp[Pl.mays,Pl.kindsL,Pl.mayB]at H;omega
    have T:zz ls a<=6:=by unfold zz;split<;>(try split)<;>omega
    rw[f];simp only[aE];by_cases K:zz ls a=0
    ·rw[K];refine(EI (os:=os) (rj:=rj) w R td rec F (if 0=0 then ls++[Pq ls a b c d] else ls) s N 2 (by omega) [a,b,c,d] f (λw1 g y cap z=>?_) J).mono ?_
     ·refine(jF (h.below g) y cap a b c d z hd.1 hd.2.1 hd.2.2.1 hd.2.2.2).mono ?_
      rintro e w2 ⟨B,u,D⟩;rw[K]at u D;exact⟨u,B,D⟩
     rintro e w' ⟨l,A,j,M,Q⟩;exact⟨l,A,j,RecX.yes f (by omega) M N rfl,Q⟩
    rw[xg K];refine(qF w R s t 2 [a,b,c,d] f (zz ls a) (by omega) (by omega) (λw2=>Kp Z w w2/\RI os rj (Zn Z w) w2 R td rec ls) (λw1 g y cap z=>?_)).mono ?_
    ·refine(jF (h.below g) y cap a b c d z hd.1 hd.2.1 hd.2.2.1 hd.2.2.2).mono ?_
     rintro e w2 ⟨B,u,D⟩;rw[xg K]at D;exact⟨u,Kp.before g (B.mono (λk h=>Or.inl h)),D.mono (λk B=>B.elim Or.inl (λh=>Or.inr (xj g.size h)))⟩
    rintro e w' ⟨l,w2,⟨C,u⟩,m⟩;exact⟨l,C.after m,rec,RecX.no1 (dY K (by omega)),u.below m⟩
   ·obtain⟨a,rfl⟩:=ER x;have hd:a<=2147483647:=by simp[Pl.mays,Pl.kindsL,Pl.mayB]at H;omega
    rw[f];have P:=h;obtain⟨v,S,ro,r,_,_⟩:=P;by_cases G:Wj a ls<ls.length
    ·simp only[aE,xh G];have hl:=r.ok _ (zf G);refine(Pg w R s t 11 (by omega) (by omega) [a] f (gV (cI rj ls) (ls.getD (Wj a ls) L0)) (by
      obtain⟨C,u,D,q4,q5,q6,_⟩:=hl;simp only[gV,xz,yf,xah];rintro n (rfl|rfl|rfl|rfl|rfl|rfl|rfl|rfl|rfl|rfl)<;>(try split)<;>omega) (by simp[gV]) (λw1 g y cap z=>wC (r.below g) y cap a z hd G)).mono ?_
     rintro e w' ⟨l,A⟩;exact⟨l,jN h A (RecX.no2 f (by omega))⟩
    simp only[aE,xg G];refine(qF w R s t 11 [a] f 4 (by omega) (by omega) (λw2=>Below w.heap.size w w2) (λw1 g y cap z=>?_)).mono ?_
    ·refine(tC (r.below g) y cap a z hd G).mono ?_
     rintro e w2 ⟨rfl,u⟩;exact⟨u,g⟩
    rintro e w' ⟨l,w2,C,m⟩;exact⟨l,jN h (C.trans (m.mono C.size)) (RecX.no2 f (by omega))⟩
   obtain⟨a,b,rfl⟩:=ES x;have hd:a<=2147483647/\b<=2147483647:=by simp[Pl.mays,Pl.kindsL,Pl.mayB]at H;omega
   rw[f];have P:=h;obtain⟨v,S,ro,r,_,_⟩:=P;simp only[aE];refine(Pg w R s t 12 (by omega) (by omega) [a,b] f (Hr rj td a b ls) (by
    have l:=dP (rj:=rj) td a b ls ls.length;have A:=fT ls r.ok (dE rj td a b ls ls.length) (λi G=>rV G);have M:=r.room;simp only[Hr,xz,yf,xah];rintro n (rfl|rfl)
    ·omega
    have:2147483647*(dE rj td a b ls ls.length).length<=2147483647*30:=xbJ _ (by omega)
    omega) (by simp[Hr]) (λw1 g y cap z=>AA (r.below g) y cap a b z hd.1 hd.2)).mono ?_
   rintro e w' ⟨l,A⟩;exact⟨l,jN h A (RecX.no2 f (by omega))⟩
def qA(a b:Value)(j k:Nat)(e:j<11)(g:k<11)(l':L):∀(ls:List L) (c:List Value) (i:Nat),c.length=ls.length->i<ls.length->(∀f,((zo (ls.getD i L0) f).set j a).set k b=zo l' f) ->
  ((tY ls c).set (i*11+j) a).set (i*11+k) b=tY (ls.set i l') c
 |[],_,_,_,h,_=>by simp at h
 |_::_,[],_,h,_,_=>by simp at h
 |l::ls,f::c,0,_,_,hc=>by
  have d:(zo l f).length=11:=rfl;simp only[tY,Nat.zero_mul,Yz,List.set_cons_zero];rw[List.set_append_left _ _ (by omega),List.set_append_left _ _ (by rw[xq];omega)];have:=hc f;simp only[xay]at this;rw[this]
 |l::ls,f::c,i+1,h,hi,hc=>by
  have m:=qA a b j k e g l' ls c i (by simpa using h) (by simpa using hi) (λf=>by have:=hc f;simpa using this);have d:(zo l f).length=11:=rfl;simp only[tY,xbR];rw[List.set_append_right _ _ (by omega),List.set_append_right _ _ (by omega),d,show(i+1)*11+j-11=i*11+j by omega,show(i+1)*11+k-11=i*11+k by omega,m]
def Dg{i:Nat}{l':L}(a:l'.par=(ls.getD i L0).par):(ls.set i l').map (λl=>zT l.par)=ls.map (λl=>zT l.par):=by
 apply YZ
 ·simp
 intro j b c;simp only[List.length_map,xq]at b c;simp only[xbu,List.getElem_set];split
 ·rename_i e;subst e;rw[a];simp[Wc,b]
 rfl
def RV.lotset(h:RV os rj ro w R v td rec fs ls){G cap:Nat}(t:v=.slice (some ⟨G,0,none⟩) ls.length cap){i:Nat}(s:i<ls.length){l':L}(B:L.Ok l')(p:l'.id=(ls.getD i L0).id)(d:l'.par=(ls.getD i L0).par)(a b:Value)(j k:Nat)(z:j<11)(A:k<11)
  (y:∀f,((zo (ls.getD i L0) f).set j a).set k b=zo l' f) :
  RV os rj ro ((w.setCell ⟨G,i*11+j,none⟩ a).setCell ⟨G,i*11+k,none⟩ b) R v td rec fs (ls.set i l'):=by
 have c:=h.row;rw[t]at c;have n:R≠G:=by
  obtain⟨u,e⟩:=zh c rfl;exact zt h.store e (by decide)
 have m:=(c.stored (i*11+j) a).1;have x:=(m.stored (i*11+k) b).1;have q:∀g,OB ro g->g≠G:=λg r=>by
  obtain⟨u,e⟩:=zh c rfl;exact h.ord.ne r e (by decide) (by decide)
 refine⟨?_,?_,?_,⟨h.fro.1,by rw[h.fro.2,Dg d]⟩,h.ord.congr (λg r=>by rw[xd _ _ _ _ (q g r),xd _ _ _ _ (q g r)]),h.today,?_,?_,h.fam.set s p d,h.rc⟩
 ·rw[xd _ _ _ _ n,xd _ _ _ _ n];exact h.store
 ·rw[xq,<-qA a b j k z A l' ls fs i h.flen s y,t];exact x
 ·rw[xq];exact h.flen
 ·intro l C;rcases XU C with m|m
  ·exact h.ok l m
  subst m;exact B
 rw[xq];exact h.room
def lE(h:RV os rj ro w R v td rec fs ls)(i n:Nat)(r:i<ls.length)(D:n<=(ls.getD i L0).free):Calls prog 113 #[.pointer (some ⟨R,0,none⟩),.int .i64 i,.int .i64 n] w λe w'=>e=.returned (.tuple #[])/\Kp (λk=>v.ownBlock=some k) w w'/\RV os rj ro w' R v td rec fs (ls.set i (ZI (ls.getD i L0) n)):=by
 obtain⟨a,cap,y,d⟩:=h.shape;obtain⟨G,P,B,b⟩:=d (by omega);subst P;have c1:=h.c1;rw[y]at c1;have p:=h.room;have C:=zc h.store;have m:=h.ok _ (zf r);have g:=m.sum;have J:w.cell? ⟨G,i*11+5,none⟩=some (.int .i64 ((ls.getD i L0).free:Int)):=b i r 5 (by omega);have K:w.cell? ⟨G,i*11+9,none⟩=some (.int .i64 ((ls.getD i L0).gv:Int)):=b i r 9 (by omega);have z:=h.row;rw[y]at z;obtain⟨X,c⟩:=zh z rfl;have Z:=ze c (i*11+5);have f9:=ze c (i*11+9);have Q:¬R=G:=zt h.store c (by decide);have H:=zb h;have A:=zb y;have q:=zb m;obtain⟨l,x⟩:=Ww (ls.getD i L0);rw[<-x.o]at J K D g q ⊢;have S:l.free<=2147483647:=by omega
 have T:l.gv+n<=2147483647:=by omega
 obtain⟨len,F⟩:=Ww ls.length;have s:=r;rw[<-F.o]at c1 r p;have E:=zb s;have W:n<=2147483647:=by omega
 clear h y z c b d m g s;go_enter func113,ntmps113;go_wp2_with fail;go_region;go_wp2_with fail;go_region;go_wp2_with fail;go_end0;have j:∀f,((zo (ls.getD i L0) f).set 5 (.int .i64 ((l.free:Int)-(n:Int)))).set 9 (.int .i64 ((l.gv:Int)+(n:Int)))=zo (ZI l n) f:=λf=>by
  rw[<-x.o];have M:((l.free-n:Nat):Int)=(l.free:Int)-(n:Int):=by omega
  have N:((l.gv+n:Nat):Int)=(l.gv:Int)+(n:Int):=by omega
  simp[zo,ZI,M,N]
 have t:=H.lotset A E (oB q D) (by rw[<-x.o];rfl) (by rw[<-x.o];rfl) _ _ 5 9 (by omega) (by omega) j;refine⟨rfl,?_,t.below (aA _).drew⟩;have u:v.ownBlock=some G:=by rw[A.o];rfl
 refine Kp.after (Kp.setCell (Kp.setCell (Kp.refl _ w) ?_ _) ?_ _) (aA _).drew
 ·exact Or.inl u
 exact Or.inl u
def Hf(h:RI os rj Z w R td rec ls)(N M:Nat)(n c:Nat)(a0:NS w N [n,c])(h1:n<=2147483647)(h2:c<=2147483647):Calls prog 73 #[.pointer (some ⟨R,0,none⟩),.slice (some ⟨N,0,none⟩) 2 M] w λe w'=>Kp Z w w'/\e=.returned (.int .i64 (ZC ls n c:Int))/\RI os rj (Zn Z w) w' R td rec (ZR ls n c):=by
 obtain⟨v,W,ro,d,X,y,D⟩:=h;obtain⟨⟨cs,z⟩,q⟩:=a0;have n0:w.cell? ⟨N,0,none⟩=some (.int .i64 n):=q 0 (by simp);have n1:w.cell? ⟨N,1,none⟩=some (.int .i64 c):=q 1 (by simp);have H:=zb (cF d n h1);by_cases u:Wj n ls<ls.length
 ·have k:Ha (VF ls n=(Wj n ls:Int)):=by unfold Ha VF;rw[xh u]
  rw[k.o]at H;obtain⟨a,cap,J,t⟩:=d.shape;obtain⟨G,hG,a1,b⟩:=t (by omega);subst hG;have c1:=d.c1;rw[J]at c1;have F:=d.room;have a2:=zc d.store;have s:=d.ok _ (zf u);have j:=s.sum;obtain⟨i,x⟩:=Ww (Wj n ls);have S:=zb u;rw[<-x.o]at H u S s j;have c5:w.cell? ⟨G,i*11+5,none⟩=some (.int .i64 ((ls.getD i L0).free:Int)):=b i u 5 (by omega);have c8:w.cell? ⟨G,i*11+8,none⟩=some (.int .i64 ((ls.getD i L0).sc:Int)):=b i u 8 (by omega);have T:=d.row;rw[J]at T;obtain⟨ds,m⟩:=zh T rfl;have f5:=ze m (i*11+5);have f8:=ze m (i*11+8);have a3:¬R=G:=zt d.store m (by decide);have a5:¬N=G:=zt z m (by decide);have HV:=zb J;have C:=zb s;have P:Ha (Z G):=y G (by rw[J];rfl);obtain⟨l,B⟩:=Ww (ls.getD i L0);rw[<-B.o]at c5 c8 j C;have a4:l.free<=2147483647:=by omega
  obtain⟨len,HN⟩:=Ww ls.length;rw[<-HN.o]at c1 u F;by_cases hs:l.free<c
  ·have p:Ha (ZC ls n c=7):=by unfold Ha ZC;rw[<-x.o,xh S.o,<-B.o,xh hs]
   have A:Ha (ZR ls n c=ls):=by unfold Ha ZR;rw[p.o];rfl
   rw[p.o,A.o];have K:=zb d;clear d J T m b t s j z q p A k C;go_enter func73,ntmps73;go_wp2_with (go_at_call 111;refine H.mono ?_;rintro e w1 ⟨rfl,rfl⟩);go_region;go_wp2_with fail;go_ret;exact⟨Wo (aA _),rfl,v,W,ro,K.below (aA _),Or.inl X,λg r=>Or.inl (y g r),λg r=>Or.inl (D g r)⟩
  have a6:l.sc+c<=2147483647:=by omega
  have p:Ha (ZC ls n c=0):=by unfold Ha ZC;rw[<-x.o,xh S.o,<-B.o,xg hs]
  have A:Ha (ZR ls n c=ls.set i (hU l c)):=by unfold Ha ZR;rw[p.o,<-x.o,<-B.o];rfl
  rw[p.o,A.o];have K:=zb d;clear d J T m b t s j z q p A k;go_enter func73,ntmps73;go_wp2_with (go_at_call 111;refine H.mono ?_;rintro e w1 ⟨rfl,rfl⟩);go_region;go_wp2_with fail;go_region;go_wp2_with fail;go_region;go_wp2_with fail;go_ret;have E:∀f,((zo (ls.getD i L0) f).set 5 (.int .i64 ((l.free:Int)-(c:Int)))).set 8 (.int .i64 ((l.sc:Int)+(c:Int)))=zo (hU l c) f:=λf=>by
   rw[<-B.o];have e1:((l.free-c:Nat):Int)=(l.free:Int)-(c:Int):=by omega
   have e2:((l.sc+c:Nat):Int)=(l.sc:Int)+(c:Int):=by omega
   simp[zo,hU,e1,e2]
  have Q:=K.lotset HV S (BS C (by omega)) (by rw[<-B.o];rfl) (by rw[<-B.o];rfl) _ _ 5 8 (by omega) (by omega) E;refine⟨?_,rfl,v,W,ro,Q.below (aA _).drew.drew,Or.inl X,λg r=>Or.inl (y g r),λg r=>Or.inl (D g r)⟩;refine Kp.after (Kp.setCell (Kp.setCell (Kp.refl _ _) ?_ _) ?_ _) (aA _).drew.drew
  ·exact Or.inl P
  exact Or.inl P
 have k:Ha (VF ls n=-1):=by unfold Ha VF;rw[xg u]
 have p:Ha (ZC ls n c=4):=by unfold Ha ZC;rw[xg u]
 have A:Ha (ZR ls n c=ls):=by unfold Ha ZR;rw[p.o];rfl
 rw[k.o]at H;rw[p.o,A.o];have K:=zb d;clear d u k p A z q;go_enter func73,ntmps73;go_wp2_with (go_at_call 111;refine H.mono ?_;rintro e w1 ⟨rfl,rfl⟩);go_ret;exact⟨Kp.refl _ _,rfl,v,W,ro,K,Or.inl X,λg r=>Or.inl (y g r),λg r=>Or.inl (D g r)⟩
def RV.apart(h:RV os rj ro w R v td rec fs ls){b:Nat}{c:Array Value}{t:TypeId}(a:w.heap[b]?=some (.cells c t (0,0)))(f:t≠42)(g:t≠129):¬(b=R\/v.ownBlock=some b):=by
 rintro(e|e)
 ·exact zt a h.store f e
 obtain⟨d,i⟩:=zh h.row e;exact zt a i g rfl
def RV.apart2(h:RV os rj ro w R v td rec fs ls){b:Nat}{a:Array Value}{t:TypeId}(f:w.heap[b]?=some (.cells a t (0,0)))(d:t≠129):¬(v.ownBlock=some b):=by
 intro e;obtain⟨c,g⟩:=zh h.row e;exact zt f g d rfl
def Lt(k:RV os rj ro w R v td rec fs ls)(A z:Nat)(n m c:Nat)(E:NS w A [n,m,c])(M:n<=2147483647)(N:m<=2147483647)(X:c<=2147483647)(b:zU ls n m c≠0):Calls prog 68 #[.pointer (some ⟨R,0,none⟩),.int .i64 3,.slice (some ⟨A,0,none⟩) 3 z] w λe w'=>e=.returned (.int .i64 (zU ls n m c:Int))/\Below w.heap.size w w':=by
 obtain⟨⟨W,t⟩,h⟩:=E;have Z:w.cell? ⟨A,0,none⟩=some (.int .i64 n):=h 0 (by simp);have n1:w.cell? ⟨A,1,none⟩=some (.int .i64 m):=h 1 (by simp);have n2:w.cell? ⟨A,2,none⟩=some (.int .i64 c):=h 2 (by simp);have x:=zb (cF k n M);have C:=zb (gD k m N);have q:=eX ls m;by_cases j:Wj n ls<ls.length
 ·have g:Ha (VF ls n=(Wj n ls:Int)):=by unfold Ha VF;rw[xh j]
  rw[g.o]at x;by_cases y:zz ls m=0
  ·have J:(ls.getD (Wj n ls) L0).free<c:=by
    unfold zU at b;rw[xh j,xh y]at b;by_cases H:(ls.getD (Wj n ls) L0).free<c
    ·exact H
    rw[xg H]at b;exact absurd rfl b
   have p:Ha (zU ls n m c=7):=by unfold Ha zU;rw[xh j,xh y,xh J]
   rw[p.o];rw[y]at C;obtain⟨a,cap,K,r⟩:=k.shape;obtain⟨G,P,F,f⟩:=r (by omega);subst P;have c1:=k.c1;rw[K]at c1;have d:=k.room;have u:=k.ok _ (zf j);have s:=u.sum;obtain⟨i,B⟩:=Ww (Wj n ls);rw[<-B.o]at x j u s J;have T:w.cell? ⟨G,i*11+5,none⟩=some (.int .i64 ((ls.getD i L0).free:Int)):=f i j 5 (by omega);generalize ls.getD i L0=l at *;have Q:l.free<=2147483647:=by omega
   obtain⟨len,D⟩:=Ww ls.length;rw[<-D.o]at c1 j d;clear k K f r u s t h p g y q b;go_enter func68,ntmps68;go_wp2_with (first
    |(go_at_call 111;refine x.mono ?_;rintro e w1 ⟨rfl,rfl⟩)
    |(go_at_call 109;refine C.mono ?_;rintro e w1 ⟨rfl,rfl⟩))
   go_region
   go_wp2_with fail;go_ret
   exact⟨rfl,aA _⟩
  have p:Ha (zU ls n m c=zz ls m):=by unfold Ha zU;rw[xh j,xg y]
  rw[p.o];have S:((zz ls m:Int) != 0)=true:=by rw[Yh];omega
  have d:=k.room;generalize zz ls m=rc at *;generalize Wj n ls=i at *;obtain⟨len,D⟩:=Ww ls.length;rw[<-D.o]at j d;clear k t h p g y b;go_enter func68,ntmps68;go_wp2_with (first
   |(go_at_call 111;refine x.mono ?_;rintro e w1 ⟨rfl,rfl⟩)
   |(go_at_call 109;refine C.mono ?_;rintro e w1 ⟨rfl,rfl⟩))
  go_ret;exact⟨rfl,xm _ _⟩
 have g:Ha (VF ls n=-1):=by unfold Ha VF;rw[xg j]
 have p:Ha (zU ls n m c=4):=by unfold Ha zU;rw[xg j]
 rw[g.o]at x;rw[p.o];clear k j g p t h q b;go_enter func68,ntmps68;go_wp2_with (go_at_call 111;refine x.mono ?_;rintro e w1 ⟨rfl,rfl⟩);go_ret;exact⟨rfl,xm _ _⟩
def Hl(J:RV os rj ro w R v td rec fs ls)(hZ:Z R)(b0:∀g,v.ownBlock=some g->Z g)(a9:∀g,OB ro g->Z g)(t a4:Nat)(n m c:Nat)(d2:NS w t [n,m,c])(h1:n<=2147483647)(h2:m<=2147483647)(h3:c<=2147483647)
  (A:Wj n ls<ls.length) (hr:zz ls m=0) (hs:¬(ls.getD (Wj n ls) L0).free<c) :
  Calls prog 68 #[.pointer (some ⟨R,0,none⟩),.int .i64 3,.slice (some ⟨t,0,none⟩) 3 a4] w λe w'=>Kp Z w w'/\e=.returned (.int .i64 0) /\
   RI os rj (Zn Z w) w' R td rec (ls.set (Wj n ls) (ZI (ls.getD (Wj n ls) L0) c)++[Wt ls m (ls.getD (Wj n ls) L0).gd (ls.getD (Wj n ls) L0).ex c [((ls.getD (Wj n ls) L0).id,c)]]):=by
 obtain⟨⟨cs,r⟩,M⟩:=d2;have n0:w.cell? ⟨t,0,none⟩=some (.int .i64 n):=M 0 (by simp);have n1:w.cell? ⟨t,1,none⟩=some (.int .i64 m):=M 1 (by simp);have n2:w.cell? ⟨t,2,none⟩=some (.int .i64 c):=M 2 (by simp);have c6:=zc r;have HA:=zb (cF J n h1);have HM:=zb (gD J m h2);rw[hr]at HM;have b1:=kB hr;have a3:Ha (VF ls n=(Wj n ls:Int)):=by unfold Ha VF;rw[xh A]
 rw[a3.o]at HA;obtain⟨a,cap,hv,N⟩:=J.shape;obtain⟨G,hG,a6,y⟩:=N (by omega);subst hG;have c1:=J.c1;rw[hv]at c1;have X:=J.room;have E:=J.ok _ (zf A);have P:=E.sum;obtain⟨i,a1⟩:=Ww (Wj n ls);rw[<-a1.o]at HA A E P hs ⊢;have c5:w.cell? ⟨G,i*11+5,none⟩=some (.int .i64 ((ls.getD i L0).free:Int)):=y i A 5 (by omega);have c7:=E.gd;have b9:=E.ex;have Q:Ha ((ls.getD i L0).id=n):=by rw[a1.o]at A ⊢;exact aS A
 have D:∀k,((ls.set i (ZI (ls.getD i L0) c)).getD k L0).id=(ls.getD k L0).id:=λk=>by
  by_cases hk:k=i
  ·subst hk;rw[aY A];rfl
  rw[ZJ hk]
 have HG:=zb ((lE (J.below (aA w)) i c A (by omega)).mono (λe w' hh=>by
  have z:=hh.2.2;have s:w'.heap[t]?=some (.cells cs 3 (0,0)):=(hh.2.1.block t c6 (J.apart2 r (by decide))).trans r;obtain⟨a2,cap2,a0,F⟩:=z.shape;rw[xq]at a0 F;rw[hv]at a0
  cases a0;obtain⟨G2,H,_,u⟩:=F (by omega)
  cases H;have q1:=z.c1
  rw[hv]at q1;have q2:=u i A 1 (by omega);have q3:=u i A 2 (by omega);have a5:(ls.set i (ZI (ls.getD i L0) c)).getD i L0=ZI (ls.getD i L0) c:=by simp[Wc,XB,A]
  rw[a5]at q2 q3;have m0:w'.cell? ⟨t,0,none⟩=some (.int .i64 n):=by rw[za s,<-za r];exact n0
  have m1:w'.cell? ⟨t,1,none⟩=some (.int .i64 m):=by rw[za s,<-za r];exact n1
  have m2:w'.cell? ⟨t,2,none⟩=some (.int .i64 c):=by rw[za s,<-za r];exact n2
  have q:=(VE w' (Obj.cells #[.int .i64 n,.int .i64 c] 181)).drew;have a7:=z.below q;have b:=(q.block _ (zc s)).trans s;have ap:=a7.apart b (by decide) (by decide);have e0:(w'.alloc (Obj.cells #[.int .i64 n,.int .i64 c] 181)).drew.cell? ⟨t,0,none⟩=some (.int .i64 n):=by rw[za b,<-za r];exact n0
  have e1:(w'.alloc (Obj.cells #[.int .i64 n,.int .i64 c] 181)).drew.cell? ⟨t,1,none⟩=some (.int .i64 m):=by rw[za b,<-za r];exact n1
  have e2:(w'.alloc (Obj.cells #[.int .i64 n,.int .i64 c] 181)).drew.cell? ⟨t,2,none⟩=some (.int .i64 c):=by rw[za b,<-za r];exact n2
  have C:=zb ((vC a7 m (ls.getD i L0).gd (ls.getD i L0).ex c (some ⟨w'.heap.size,0,none⟩) 1 1 [(n,c)] (Or.inr ⟨_,_,_,rfl,xp w' _,λj hj=>by obtain rfl:j=0:=(by simp[zT]at hj;omega);exact⟨rfl,rfl⟩⟩) (λg hg e=>by cases hg;exact absurd (z.ord.lt (Or.inr (Or.inr (Or.inl e)))) (Yr _)) ⟨by simp,by simp;exact h1⟩ (z.fam.snoc (by rw[xq];intro k hk;rw[D k];exact cY hr k hk) (λp hp=>by simp at hp;subst hp;exact⟨i,by rw[xq];exact A,by rw[D i];exact Q⟩)) (by rw[xq];exact b1) h2 c7 b9 h3).mono (λe d5 hx=>(⟨hx.1,zb hx.2,hx.2.1.cell ap (zc b) e0,hx.2.1.cell ap (zc b) e1,hx.2.1.cell ap (zc b) e2⟩:_/\Ha _/\_/\_/\_)));exact(⟨hh.1,zb hh.2,C,m0,m1,m2,q1,q2,q3,zc s,zc z.store,xl a6 hh.2.1.size,zb hh.2.1.size⟩:_/\Ha _/\_/\_/\_/\_/\_/\(_:Option Value)=some (.int .i64 ((ls.getD i L0).gd:Int))/\(_:Option Value)=some (.int .i64 ((ls.getD i L0).ex:Int))/\_/\R<w'.heap.size/\G<w'.heap.size/\_)))
 rw[Q.o];clear D Q;generalize hl:ls.getD i L0=l at *;have d4:l.free<=2147483647:=by omega
 obtain⟨len,HN⟩:=Ww ls.length;rw[<-HN.o]at c1 A X HG;have HZ:=zb hZ;have S:=zb b0;have b6:=zb a9;clear J hv y N E P r M a3 hr hl hZ b0 a9;go_enter func68,ntmps68;go_wp2_with (first
  |(go_at_call 111;refine HA.mono ?_;rintro e w1 ⟨rfl,rfl⟩)
  |(go_at_call 109;refine HM.mono ?_;rintro e w1 ⟨rfl,rfl⟩))
 go_region
 go_wp2_with (go_at_call 113;refine HG.mono ?_;rintro e w2 ⟨rfl,c8,C,m0,m1,m2,q1,q2,q3,W,b7,H,b4⟩)
 clear n0 n1 n2 c1 c5;obtain⟨B,f⟩:∃B:World->Prop,∀w',B w'↔(w'.cell? ⟨t,0,none⟩=some (.int .i64 n)/\w'.cell? ⟨t,1,none⟩=some (.int .i64 m)/\w'.cell? ⟨t,2,none⟩=some (.int .i64 c)/\w'.cell? ⟨R,1,none⟩=some (.slice (some ⟨G,0,none⟩) len cap)/\w'.cell? ⟨G,i*11+1,none⟩=some (.int .i64 l.gd)/\w'.cell? ⟨G,i*11+2,none⟩=some (.int .i64 l.ex)):=⟨_,λ_=>xaw⟩
 have x0:∀x:Wd B,x.w.cell? ⟨t,0,none⟩=some (.int .i64 n):=λx=>((f _).1 x.h).1
 have x1:∀x:Wd B,x.w.cell? ⟨t,1,none⟩=some (.int .i64 m):=λx=>((f _).1 x.h).2.1
 have x2:∀x:Wd B,x.w.cell? ⟨t,2,none⟩=some (.int .i64 c):=λx=>((f _).1 x.h).2.2.1
 have x3:∀x:Wd B,x.w.cell? ⟨R,1,none⟩=some (.slice (some ⟨G,0,none⟩) len cap):=λx=>((f _).1 x.h).2.2.2.1
 have x4:∀x:Wd B,x.w.cell? ⟨G,i*11+1,none⟩=some (.int .i64 l.gd):=λx=>((f _).1 x.h).2.2.2.2.1
 have x5:∀x:Wd B,x.w.cell? ⟨G,i*11+2,none⟩=some (.int .i64 l.ex):=λx=>((f _).1 x.h).2.2.2.2.2
 have T:B w2.drew:=(f _).2 ⟨m0,m1,m2,q1,q2,q3⟩;have q:=(VE w2 (Obj.cells #[.int .i64 n,.int .i64 c] 181)).drew;have a8:B (w2.alloc (Obj.cells #[.int .i64 n,.int .i64 c] 181)).drew:=by
  exact(f _).2 ⟨(q.cell W).trans m0,(q.cell W).trans m1,(q.cell W).trans m2,(q.cell b7).trans q1,(q.cell H).trans q2,(q.cell H).trans q3⟩
 have b5:=zb a8;have d3:=zb f;clear f a8 q m0 m1 m2 q1 q2 q3;haveI hinh:Inhabited (Wd B):=⟨⟨_,T⟩⟩
 refine zw (n:=8) (m:=2) 30 31 (λw'=>∃x:Wd B,w'=x.w) (by kernel_rfl) (by kernel_rfl) (λ_ _ d _ _ h=>by cases d<;>exact h) (by kernel_rfl) (by kernel_rfl) rfl rfl ⟨⟨_,T⟩,rfl⟩ ?_
 clear T;dsimp only[List.take];repeat (go_big_quiet_step (fail))
 refine yi ?_
 refine zR (i:=30) (by kernel_rfl) rfl rfl (λK hK=>?_);go_wp2_with fail;refine hK _ _ (Or.inr ⟨⟨_,b5⟩,rfl⟩) ?_
 refine zR (i:=31) (by kernel_rfl) rfl rfl (λK hK=>?_);go_wp2_with (first
   |(go_at_call 110;refine C.mono ?_;rintro e w3 ⟨rfl,c9,r0,r1,r2⟩))
 refine hK _ _ (by first|exact Or.inl rfl|exact Or.inl trivial|trivial) ?_
 refine bO (by kernel_rfl) ?_
 clear hK x0 x1 x2 x3 x4 x5;go_wp2_with fail;go_ret;obtain⟨d1,v',b2,b8⟩:=c9.o;have d0:=c8.1;have b3:=b4.o;refine⟨?_,rfl,v',_,_,(by rw[xq]at b2;exact b2),Or.inl HZ,λg hg=>?_,λg hg=>(Im hg).elim (λh=>Or.inl (b6 g h)) (λh=>by cases h;right;refine xj ?_ (xe w2.heap.size);simp at b3;omega)⟩
 ·refine(Kp.before (aA _) (d0.mono (λk hq=>Or.inl (S k hq)))).trans ?_
  exact Kp.before (VE _ _).drew (d1.mono (λk hq=>Or.inl (Or.inl (hq.elim (λe=>e ▸ HZ) (λe=>S k e)))))
 rcases b8 g hg with h|h
 ·exact Or.inl (S g h)
 right;simp at h b3;omega
def Hk(h:RI os rj Z w R td rec ls)(j a:Nat)(n m c:Nat)(i:NS w j [n,m,c])(t:n<=2147483647)(u:m<=2147483647)(x:c<=2147483647):Calls prog 68 #[.pointer (some ⟨R,0,none⟩),.int .i64 3,.slice (some ⟨j,0,none⟩) 3 a] w λe w'=>Kp Z w w'/\e=.returned (.int .i64 (zU ls n m c:Int))/\RI os rj (Zn Z w) w' R td rec (cJ ls n m c):=by
 obtain⟨v,z,ro,l,y,f,d⟩:=h;by_cases b:zU ls n m c=0
 ·have s:Wj n ls<ls.length/\zz ls m=0/\¬(ls.getD (Wj n ls) L0).free<c:=by
   unfold zU at b;by_cases r:Wj n ls<ls.length
   ·rw[xh r]at b;by_cases k:zz ls m=0
    ·rw[xh k]at b;refine⟨r,k,λA=>?_⟩;rw[xh A]at b;omega
    rw[xg k]at b;exact absurd b k
   rw[xg r]at b;omega
  have p:cJ ls n m c=_:=xh b;rw[b,p];exact Hl l y f d j a n m c i t u x s.1 s.2.1 s.2.2
 have p:cJ ls n m c=ls:=xg b;rw[p];exact(Lt l j a n m c i t u x b).mono λe w' ⟨he,hb⟩=>⟨Wo hb,he,v,z,ro,l.below hb,Or.inl y,λg q=>Or.inl (f g q),λg q=>Or.inl (d g q)⟩
def Dl(j:RV os rj ro w R v td rec fs ls)(h f:Nat)(a b m:Nat)(g:NS w h [a,b,m])(p:b<=2147483647)(i:Nat)(q:i<ls.length)(l:¬Wj b ls<ls.length):Calls prog 112 #[.pointer (some ⟨R,0,none⟩),.int .i64 i,.slice (some ⟨h,0,none⟩) 3 f] w λe w'=>e=.returned (.int .i64 4)/\Below w.heap.size w w':=by
 have r:w.cell? ⟨h,1,none⟩=some (.int .i64 b):=g.2 1 (by simp);have k:=zb (cF j b p);have d:Ha (VF ls b=-1):=by unfold Ha VF;rw[xg l]
 rw[d.o]at k;have c:=j.room;obtain⟨len,n⟩:=Ww ls.length;rw[<-n.o]at q c;clear j g d l;go_enter func112,ntmps112;go_wp2_with (go_at_call 111;refine k.mono ?_;rintro e w1 ⟨rfl,rfl⟩);go_ret;exact⟨rfl,xm _ _⟩
def Bi(h:RV os rj ro w R v td rec fs ls)(t n:Nat)(a b m:Nat)(q:NS w t [a,b,m])(C:b<=2147483647)(i:Nat)(x:i<ls.length)(p:Wj b ls<ls.length)
  (s:i=Wj b ls\/(ls.getD i L0).gd≠(ls.getD (Wj b ls) L0).gd) :
  Calls prog 112 #[.pointer (some ⟨R,0,none⟩),.int .i64 i,.slice (some ⟨t,0,none⟩) 3 n] w λe w'=>e=.returned (.int .i64 8)/\Below w.heap.size w w':=by
 have P:w.cell? ⟨t,1,none⟩=some (.int .i64 b):=q.2 1 (by simp);have r:=zb (cF h b C);have l:Ha (VF ls b=(Wj b ls:Int)):=by unfold Ha VF;rw[xh p]
 rw[l.o]at r;have k:=h.room;obtain⟨J,cap,z,g⟩:=h.shape;obtain⟨G,D,y,c⟩:=g (by omega);subst D;have c1:=h.c1;rw[z]at c1;have f:=h.ok _ (zf x);have d:=h.ok _ (zf p);obtain⟨j,A⟩:=Ww (Wj b ls);rw[<-A.o]at r p s d;have K:w.cell? ⟨G,i*11+1,none⟩=some (.int .i64 ((ls.getD i L0).gd:Int)):=c i x 1 (by omega);have M:w.cell? ⟨G,j*11+1,none⟩=some (.int .i64 ((ls.getD j L0).gd:Int)):=c j p 1 (by omega);generalize ls.getD i L0=la at *;generalize ls.getD j L0=lb at *;have E:=f.gd;have F:=d.gd;obtain⟨len,B⟩:=Ww ls.length;rw[<-B.o]at x p k c1;clear h q l z c g f d;by_cases u:i=j
 ·subst u;clear s;go_enter func112,ntmps112;go_wp2_with (go_at_call 111;refine r.mono ?_;rintro e w1 ⟨rfl,rfl⟩);go_region;go_wp2_with fail;go_ret;exact⟨rfl,aA _⟩
 have N:=OU (s.resolve_left u);have H:=ZT u;clear s;go_enter func112,ntmps112;go_wp2_with (go_at_call 111;refine r.mono ?_;rintro e w1 ⟨rfl,rfl⟩);go_region;go_wp2_with fail;go_ret;exact⟨rfl,aA _⟩
def Dj(g:RV os rj ro w R v td rec fs ls)(t s:Nat)(a b m:Nat)(k:NS w t [a,b,m])(M:b<=2147483647)(N:m<=2147483647)(i:Nat)(u:i<ls.length)(n:Wj b ls<ls.length)
  (B:i≠Wj b ls) (y:(ls.getD i L0).gd=(ls.getD (Wj b ls) L0).gd) (rc:Nat) (a1:0<rc)
  (E:(zz ls m≠0/\rc=zz ls m)\/(zz ls m=0/\(ls.getD i L0).free+(ls.getD (Wj b ls) L0).free=0/\rc=7)\/(zz ls m=0/\2147483647<(ls.getD i L0).free+(ls.getD (Wj b ls) L0).free/\rc=2)) :
  Calls prog 112 #[.pointer (some ⟨R,0,none⟩),.int .i64 i,.slice (some ⟨t,0,none⟩) 3 s] w λe w'=>e=.returned (.int .i64 rc)/\Below w.heap.size w w':=by
 have n1:w.cell? ⟨t,1,none⟩=some (.int .i64 b):=k.2 1 (by simp);have n2:w.cell? ⟨t,2,none⟩=some (.int .i64 m):=k.2 2 (by simp);have p:=zb (cF g b M);have x:=zb (gD (g.below (aA w)) m N);have C:=eX ls m;have q:Ha (VF ls b=(Wj b ls:Int)):=by unfold Ha VF;rw[xh n]
 rw[q.o]at p;have l:=g.room;obtain⟨av,cap,D,h⟩:=g.shape;obtain⟨G,P,A,c⟩:=h (by omega);subst P;have c1:=g.c1;rw[D]at c1;have f:=g.ok _ (zf u);have d:=g.ok _ (zf n);obtain⟨j,F⟩:=Ww (Wj b ls);rw[<-F.o]at p n E d B y;have ca:w.cell? ⟨G,i*11+1,none⟩=some (.int .i64 ((ls.getD i L0).gd:Int)):=c i u 1 (by omega);have cb:w.cell? ⟨G,j*11+1,none⟩=some (.int .i64 ((ls.getD j L0).gd:Int)):=c j n 1 (by omega);have J:w.cell? ⟨G,i*11+5,none⟩=some (.int .i64 ((ls.getD i L0).free:Int)):=c i u 5 (by omega);have K:w.cell? ⟨G,j*11+5,none⟩=some (.int .i64 ((ls.getD j L0).free:Int)):=c j n 5 (by omega);generalize ls.getD i L0=la at *;generalize ls.getD j L0=lb at *;have W:=f.gd;have X:=d.gd;have Q:la.free<=2147483647:=by have:=f.sum;omega
 have S:lb.free<=2147483647:=by have:=d.sum;omega
 have T:=Ep y;have Z:=ZT B;obtain⟨len,H⟩:=Ww ls.length;rw[<-H.o]at u n l c1;generalize zz ls m=r at *;clear g k q D c h f d y;rcases E with ⟨hr,rfl⟩|⟨rfl,hz,rfl⟩|⟨rfl,hz,rfl⟩
 ·have a0:((rc:Int) != 0)=true:=by rw[Yh];omega
  go_enter func112,ntmps112;go_wp2_with (go_at_call 111;refine p.mono ?_;rintro e w1 ⟨rfl,rfl⟩);go_region;go_wp2_with (go_at_call 109;refine x.mono ?_;rintro e w1 ⟨rfl,rfl⟩);go_ret;exact⟨rfl,aA _⟩
 ·have z:(((la.free:Int)+(lb.free:Int))==0)=true:=by rw[Yi];omega
  go_enter func112,ntmps112;go_wp2_with (go_at_call 111;refine p.mono ?_;rintro e w1 ⟨rfl,rfl⟩);go_region;go_wp2_with (go_at_call 109;refine x.mono ?_;rintro e w1 ⟨rfl,rfl⟩);go_ret;exact⟨rfl,aA _⟩
 have z:(((la.free:Int)+(lb.free:Int))==0)=false:=by rw[xr];omega
 go_enter func112,ntmps112;go_wp2_with (go_at_call 111;refine p.mono ?_;rintro e w1 ⟨rfl,rfl⟩);go_region;go_wp2_with (go_at_call 109;refine x.mono ?_;rintro e w1 ⟨rfl,rfl⟩);go_ret;exact⟨rfl,aA _⟩
