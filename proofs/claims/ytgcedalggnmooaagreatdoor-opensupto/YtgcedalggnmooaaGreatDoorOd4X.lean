import Derived.Test.YtgcedalggnmooaaGreatDoorOd1X
set_option linter.all false
set_option maxRecDepth 100000
set_option maxHeartbeats 3200000
namespace Go.Proofs.YtgcedalggnmooaaGreatDoor
open Go.RowKit
open Tryz
def Ul(w:World)(b:Nat)(x y:Int):World:=((w.setCell ⟨b,6,none⟩ (.int .i64 x)).setCell ⟨b,7,none⟩ (.int .i64 y)).drew.drew
variable {S b td:Nat}{w:World}
theorem LQ{l:L}{pv:Value}(d:w.heap[b]?=some (.cells (zn l pv) 231 (0,0))){x y:Int}{f h:Nat}(e:x=(f:Int))(g:y=(h:Int)):(Ul w b x y).heap[b]?=some (.cells (zn { l with free:=f,hd:=h } pv) 231 (0,0)):=by
 subst e g;have a:=xq w b 6 _ 231 (.int .i64 f) d;have c:=xq (w.setCell ⟨b,6,none⟩ (.int .i64 f)) b 7 _ 231 (.int .i64 h) a;exact c
theorem pH{k:Nat}{x y:Int}(a:k≠b):(Ul w b x y).heap[k]?=w.heap[k]?:=by
 show((w.setCell ⟨b,6,none⟩ (.int .i64 x)).setCell ⟨b,7,none⟩ (.int .i64 y)).heap[k]?=_;rw[xa _ _ _ _ a,xa _ _ _ _ a]
theorem Rh{Z:Nat->Prop}{x y:Int}(a:Z b):Kp Z w (Ul w b x y):=by
 unfold Ul;exact(((Kp.refl _ w).setCell (p:=⟨b,6,none⟩) (Or.inl a) _).setCell (p:=⟨b,7,none⟩) (Or.inl a) _).after ((xh _ _).drew.drew)
variable {M:Mx}{bs:List Nat}{ls:List L}{os:List O}{pvs:List Value}{rj:List (Nat×Nat)}{v:Value}
theorem Ee{id g:Nat}(h:PV (os++[⟨id,g,[]⟩]) rj w S M v td bs pvs ls)(a4:∀i j,i<ls.length->j<ls.length->(ls.getD i L0).id=(ls.getD j L0).id->i=j)(i2:Zc os<=300)(e1:id<=2147483647)(a8:∀o'∈os,o'.id≠id)
  (l:List (Nat×Nat)) (hl:l.length<=30) (f0:(l.map Prod.fst).Nodup) (e3:∀p∈l,p.1<ls.length) (e0:∀p∈l,p.2<=(ls.getD p.1 L0).free) (a:Option Addr) (cap:Nat) (b:w.ownsRow 0 241 2 (.slice a l.length cap) l.length (zl bs l)) :
  Calls prog 153 #[.pointer (some ⟨S,0,none⟩),.int .i64 id,.slice a l.length cap] w λe w'=>e=.returned (.tuple #[])/\Kp (λk=>k=M.h\/k∈bs) w w'/\PV (os++[⟨id,g,zt ls l⟩]) rj w' S M v td bs pvs (Zm ls l):=by
 have c5:=zb a4;have g4:=zb f0;have c6:=zb e3;have f9:=zb e0;have t:=zb b;have c9:=zb a8;have d2:=zb h;clear h a4 f0 e3 e0 b a8;go_enter func153,ntmps153;go_wp2_with fail;go_loopw [7,10] (λ_ ii wr=>∃k:Nat,ii=.int .i64 k/\k<=l.length/\Kp (λk=>k=M.h\/k∈bs) w wr/\PV (os++[⟨id,g,zt ls (l.take k)⟩]) rj wr S M v td bs pvs (Zm ls (l.take k))/\wr.ownsRow 0 241 2 (.slice a l.length cap) l.length (zl bs l)) (λ_ ii _=>l.length-(intOf ii).toNat)
 case atStart=>exact⟨0,rfl,by omega,Kp.refl _ _,d2,t⟩
 clear d2 t;obtain⟨k,rfl,hk,X,T,b⟩:=hrel;by_cases K:k<l.length
 ·obtain⟨G,rfl,h7,g1,g2⟩:=aM b k K;have b4:l.getD k (0,0)∈l:=by simp[Uv,K]
  have et:l.take (k+1)=l.take k++[l.getD k (0,0)]:=by
   rw[xl K];simp[Uv,K]
  have hc:=c6.o _ b4;have hn:=f9.o _ b4;have s:(l.getD k (0,0)).1 ∉ (l.take k).map Prod.fst:=by
   have:=g4.o
   have e2:l.map Prod.fst=((l.take k).map Prod.fst++[(l.getD k (0,0)).1])++(l.drop (k+1)).map Prod.fst:=by
    conv=>lhs;rw[<-XU (k+1) l,et]
    simp
   rw[e2]at this;have:=(Xx.1 (Xx.1 this).1).2.2;intro hm;exact this _ hm _ (by simp) rfl
  have Z:=bR (l.take k) ls;have C:=dU (l.take k) ls s;have u:=T.lot (l.getD k (0,0)).1 (by rw[Z];exact hc);rw[C]at u;have N:=T.ok _ (zg (k:=(l.getD k (0,0)).1) (by rw[Z];exact hc));rw[C]at N;have b8:=zb et;have a0:=zb C;have g5:=zb s;have c8:=zb Z;have HC:=zb hc;generalize h6:l.getD k (0,0)=p at *;obtain⟨c,n⟩:=p;simp only at *;clear h6 et C s b4 Z;have F:bs.getD c 0∈bs:=zL (by rw[T.len,c8.o];exact hc);have f5:=zb F;have hB:=TZ wr (.cells #[.pointer (some ⟨bs.getD c 0,0,none⟩),.int .i64 n] 241);have B:=xo wr (.cells #[.pointer (some ⟨bs.getD c 0,0,none⟩),.int .i64 n] 241);have d9:=zc u;have d:=(hB.block _ d9).trans u;have b3:=T.below hB;have Q:=zh b hB;have a5:=X.after hB;have g9:=zb b3;have t:=zb Q;have g3:=zb a5;have b7:=zb d;have g6:=zb N;have b9:=zb hn;have f4:=N.sum;have a3:=N.id;have cS:=b3.c3;have i0:S≠bs.getD c 0:=zw T.store u (by decide);generalize e9:ls.getD c L0=lc at *;have c7:=zb e9;generalize f1:pvs.getD c default=pc at *;have g8:=zb f1;generalize d8:bs.getD c 0=bc at *;have b6:=zb d8;clear e9 f1 d8 F T b3 b Q X a5 N hc;go_wp2_with fail;have d0:(wr.alloc (.cells #[.pointer (some ⟨bc,0,none⟩),.int .i64 n] 241)).cell? ⟨wr.heap.size,0,none⟩=some (.pointer (some ⟨bc,0,none⟩)):=by rw[za B];rfl
  have d1:(wr.alloc (.cells #[.pointer (some ⟨bc,0,none⟩),.int .i64 n] 241)).cell? ⟨wr.heap.size,1,none⟩=some (.int .i64 n):=by rw[za B];rfl
  have d3:¬wr.heap.size=bc:=by omega
  have f8:=zb B;have h9:=zb hB;generalize (wr.alloc (.cells #[.pointer (some ⟨bc,0,none⟩),.int .i64 n] 241))=wb at *;have e6:wb.cell? ⟨bc,6,none⟩=some (.int .i64 lc.free):=by rw[za d];rfl
  have e7:wb.cell? ⟨bc,7,none⟩=some (.int .i64 lc.hd):=by rw[za d];rfl
  have f6:=zf d 6;have f7:=zf d 7;have h3:lc.free<=2147483647:=by omega
  have h4:lc.hd+n<=2147483647:=by omega
  generalize i1:wr.heap.size=bB at *;clear g1 g2 u d B hB f4;go_region;go_wp2_with fail;go_region;go_wp2_with fail;have J:((wb.setCell ⟨bc,6,none⟩ (.int .i64 ((lc.free:Int)-(n:Int)))).setCell ⟨bc,7,none⟩ (.int .i64 ((lc.hd:Int)+(n:Int)))).drew.drew=Ul wb bc ((lc.free:Int)-(n:Int)) ((lc.hd:Int)+(n:Int)):=rfl;rw[J];have A:=LQ b7 (x:=(lc.free:Int)-(n:Int)) (y:=(lc.hd:Int)+(n:Int)) (f:=lc.free-n) (h:=lc.hd+n) (by have:=b9.o;omega) (by omega);have D:PV (os++[⟨id,g,zt ls (l.take k)⟩]) rj (Ul wb bc ((lc.free:Int)-(n:Int)) ((lc.hd:Int)+(n:Int))) S M v td bs pvs ((Zm ls (l.take k)).set c (pW lc n)) :=
   g9.lotset (i:=c) (l':=pW lc n) (by rw[c8.o];exact HC) (Ed g6 b9) (by rw[a0.o];rfl) (by rw[b6.o,g8.o];exact A) (λq _ hq=>pH (by rw[<-b6.o];exact hq))
  have e5:Kp (λk=>k=M.h\/k∈bs) w (Ul wb bc ((lc.free:Int)-(n:Int)) ((lc.hd:Int)+(n:Int))):=g3.trans (Rh (Or.inl (Or.inr f5)));have b5:(Ul wb bc ((lc.free:Int)-(n:Int)) ((lc.hd:Int)+(n:Int))).ownsRow 0 241 2 (.slice (some ⟨G,0,none⟩) l.length cap) l.length (zl bs l):=ze t (λq hq=>pH (by
   obtain⟨cs,W⟩:=zi t hq;exact zw W b7 (by decide)))
  have k3:=D.c3;have k0:(Ul wb bc ((lc.free:Int)-(n:Int)) ((lc.hd:Int)+(n:Int))).cell? ⟨bc,0,none⟩=some (.int .i64 lc.id):=by rw[za A];rfl
  have z:=(pH (w:=wb) (x:=(lc.free:Int)-(n:Int)) (y:=(lc.hd:Int)+(n:Int)) d3).trans f8;have b0:(Ul wb bc ((lc.free:Int)-(n:Int)) ((lc.hd:Int)+(n:Int))).cell? ⟨bB,0,none⟩=some (.pointer (some ⟨bc,0,none⟩)):=by rw[za z];rfl
  have b1:(Ul wb bc ((lc.free:Int)-(n:Int)) ((lc.hd:Int)+(n:Int))).cell? ⟨bB,1,none⟩=some (.int .i64 n):=by rw[za z];rfl
  obtain⟨Do,b2,a2⟩:=D.maps.o;obtain⟨Dh,R,E⟩:=D.maps.h;have f3:Maps.size Dh<maxLen:=by
   rw[E.size];have:Zc (os++[⟨id,g,zt ls (l.take k)⟩])=Zc os+(l.take k).length:=by simp[Zc,zt]
   rw[this,Xt];unfold maxLen;omega
  obtain⟨w4,h8,P,m⟩:=yr (w:=(Ul wb bc ((lc.free:Int)-(n:Int)) ((lc.hd:Int)+(n:Int))).drew) R wJ Sg f3 (Cz e1 a3) (YZ (H:=Unit) Vk (QE (n:=n) (by omega)));have a9:Maps.Tidy Dh:=ym R wJ;have a6:(zt ls (l.take k)).lookup lc.id=none:=by
   rw[<-c7.o,dP c5.o _ (λp hp=>c6.o p (yt hp)) c HC.o];exact ZD.2 g5
  have a1:=E.put a9 e1 c9 a3 (n:=n) a6;have e8:zt ls (l.take (k+1))=zt ls (l.take k)++[(lc.id,n)]:=by rw[b8.o];unfold zt;rw[yz];simp only[List.map_cons,xbD,c7.o]
  have d5:Mp (os++[⟨id,g,zt ls (l.take (k+1))⟩]) rj w4 M:=by
   have hm:=D.maps;obtain⟨Dr,d4,d7⟩:=hm.r;refine⟨⟨Dr,zB d4 (m.block M.r (Xr d4) (λe=>hm.rh (xr e))),d7⟩,hm.rc,⟨Do,zB b2 (m.block M.o (Xr b2) (λe=>hm.oh (xr e))),a2.congr (by simp)⟩,⟨_,Z7 P,?_⟩,hm.ro,hm.rh,hm.oh⟩
   ·rw[e8];exact a1
  have a7:Zm ls (l.take (k+1))=(Zm ls (l.take k)).set c (pW lc n):=by rw[b8.o,kT,a0.o]
  have d6:PV (os++[⟨id,g,zt ls (l.take (k+1))⟩]) rj w4 S M v td bs pvs (Zm ls (l.take (k+1))):=by
   rw[a7];exact D.mapsTo (λq hq h1 h2=>m.block q hq (λe=>h2 (xr e))) d5
  have e4:Kp (λk=>k=M.h\/k∈bs) w w4:=e5.trans (Kp.before ((xh _ _).drew) (jD m (Or.inl (Or.inl (Or.inl rfl)))));have f2:w4.ownsRow 0 241 2 (.slice (some ⟨G,0,none⟩) l.length cap) l.length (zl bs l):=ze b5 (λq hq=>by
   obtain⟨cs,W⟩:=zi b5 hq;refine m.block q (zc W) (λe=>?_)
   cases e;obtain⟨es,c2,h5⟩:=ZS R
   exact Zb W h5 rfl)
  have g7:=zb d6;have g0:=zb e4;have h0:=zb f2;clear A D e5 b5 z b2 a2 R E f3 P m a9 a6 a1 e8 d5 a7 d6 e4 f2 e6 e7 f6 f7 d0 d1 cS;generalize Ul wb bc ((lc.free:Int)-(n:Int)) ((lc.hd:Int)+(n:Int))=wf at *;clear J;go_region;go_wp2_with fail;go_roundw
  case rel=>exact⟨k+1,by go_num,by omega,g0,g7,h0⟩
  simp[intOf];omega
 obtain rfl:k=l.length:=by omega
 rw[Xa]at T;have HP:=zb T;have HK:=zb X;clear K T X b;go_wp2_with fail;go_end0;exact⟨rfl,HK,HP⟩
theorem Ev:∀(l m:List Nat),l.Nodup->(∀x∈l,x∈m)->l.length<=m.length
 |[],m,_,_=>by simp
 |a::t,m,hn,hs=>by
  rw[XP]at hn;have b:=hs a (by simp);have:=Ev t (m.erase a) hn.2 (λx c=>(xaV (λe=>hn.1 (by rw[<-e];exact c))).2 (hs x (by simp[c])));rw[xap b]at this;have:=List.length_pos_of_mem b;simp only[List.length_cons];omega
theorem Good.oLines(h:Good os ls){o:O}(a:o∈os):o.li.length<=ls.length:=by
 have:=Ev (o.li.map Prod.fst) (ls.map L.id) (h.keys o a) (λx e=>by
  obtain⟨p,d,rfl⟩:=Xg.1 e;obtain⟨i,c,b⟩:=h.mem o a p d;rw[<-b];exact Xe (zg c))
 simpa using this
theorem Jk(os:List O)(n:Nat)(h:∀o∈os,o.li.length<=n):Zc os<=os.length*n:=by
 induction os with
 |nil=>simp[Zc]
 |cons o os ih=>
  have d:=h o (by simp);have b:=ih (λc a=>h c (by simp[a]));simp only[Zc,List.map_cons,List.sum_cons,List.length_cons]at b ⊢;rw[Nat.succ_mul];omega
theorem Good.nl(h:Good os ls)(a:ls.length<=30):Zc os<=300:=by
 have:=Jk os 30 (λo b=>xj (h.oLines b) a)
 have:=h.olen
 have:os.length*30<=10*30:=xaj _ (by omega)
 omega
def dF(rj:List (Nat×Nat))(os:List O)(td:Nat)(ls:List L)(id gd count gate way:Nat):Nat :=
 if os.any (λo=>o.id==id) then 5 else if 10<=os.length then 6 else
  if aR (zo rj td gd count gate way ls)=0\/(aR (zo rj td gd count gate way ls)<count/\DC way=true) then 7 else 0
theorem ZX(td gd a b c:Nat)(ls:List L)(g:ls.length<=30):(zo rj td gd a b c ls).length<=30/\((zo rj td gd a b c ls).map Prod.fst).Nodup/\(∀p∈zo rj td gd a b c ls,p.1<ls.length)/\(∀p∈zo rj td gd a b c ls,p.2<=(ls.getD p.1 L0).free)/\aR (zo rj td gd a b c ls)<=a:=by
 have d:=Al ls (cM rj (lR c) td gd b ls) a;have f:=qR (rj:=rj) (lR c) td gd b ls;refine⟨?_,f.sublist d,λp e=>?_,DW ls _ a,Am ls _ a⟩
 ·have:=d.length_le
  rw[Xl,(dZ (rj:=rj) (lR c) td gd b ls).length_eq]at this;have:=dM (rj:=rj) td gd b ls ls.length;unfold zo;omega
 have:=d.mem (Xe e)
 exact(dB.1 this).1
theorem CQ(h:PV os rj w S M v td bs pvs ls)(id gd a c d:Nat)(q:id<=2147483647)(m:os.any (λo=>o.id==id)=true\/10<=os.length):Calls prog 101 #[.pointer (some ⟨S,0,none⟩),.agg #[.int .i64 id,.int .i64 gd,.int .i64 a,.int .i64 c,.int .i64 d]] w λe w'=>e=.returned (.tuple #[.slice none 0 0,.int .i64 (dF rj os td ls id gd a c d:Int)])/\Below w.heap.size w w':=by
 have l:=TZ w (Obj.cells #[.int .i64 id,.int .i64 gd,.int .i64 a,.int .i64 c,.int .i64 d] 155);have f:=h.below l;have i:=zb (bQ f id q);have r:=zb f;have c2:=f.c2;obtain⟨D,p,hd⟩:=f.maps.o;have g:=xag p Lf;rw[hd.size]at g
 cases b:os.any (λo=>o.id==id) with
 |true=>
  have j:Ha (dF rj os td ls id gd a c d=5):=by unfold Ha dF;rw[b];rfl
  rw[b]at i;clear f h p hd b m;go_enter func101,ntmps101;go_wp2_with (go_at_call 150;with_reducible refine(i.o).mono ?_;rintro e w1 ⟨rfl,rfl⟩);go_ret2;exact⟨by rw[j.o];rfl,l⟩
 |false=>
  have k:10<=os.length:=m.resolve_left (by rw[b];simp);have j:Ha (dF rj os td ls id gd a c d=6):=by unfold Ha dF;rw[b,xg (by simp),xe k]
  rw[b]at i;generalize os.length=n at *;clear f h hd b m;go_enter func101,ntmps101;go_wp2_with (go_at_call 150;with_reducible refine(i.o).mono ?_;rintro e w1 ⟨rfl,rfl⟩);go_ret2;exact⟨by rw[j.o];rfl,l⟩
theorem CR(h:PV os rj w S M v td bs pvs ls)(u:Good os ls)(id gd b c d:Nat)(X:id<=2147483647)(h2:gd<=2147483647)(E:b<=2147483647)(h4:c<=2147483647)(K:d<=3)
  (k:os.any (λo=>o.id==id)=false) (Z:¬10<=os.length) (s:aR (zo rj td gd b c d ls)=0\/(aR (zo rj td gd b c d ls)<b/\DC d=true)) :
  Calls prog 101 #[.pointer (some ⟨S,0,none⟩),.agg #[.int .i64 id,.int .i64 gd,.int .i64 b,.int .i64 c,.int .i64 d]] w λe w'=>e=.returned (.tuple #[.slice none 0 0,.int .i64 7])/\Below w.heap.size w w':=by
 have F:=TZ w (Obj.cells #[.int .i64 id,.int .i64 gd,.int .i64 b,.int .i64 c,.int .i64 d] 155);have m:=xo w (Obj.cells #[.int .i64 id,.int .i64 gd,.int .i64 b,.int .i64 c,.int .i64 d] 155);have t:=h.below F;have r:=h.room;have A:=zb (ZX (rj:=rj) td gd b c d ls r);have J:=zb (bQ t id X);rw[k]at J;have B:=zb (mB t u id gd b c d h2 E h4 K);have c2:=t.c2;obtain⟨D,N,hd⟩:=t.maps.o;have l:=xag N Lf;rw[hd.size]at l;have C:=Tb K;generalize os.length=n at *;generalize hq:zo rj td gd b c d ls=q at *;clear t h N hd k hq u;have Q:n<10:=by omega
 go_enter func101,ntmps101;go_wp2_with (first|(go_at_call 150;with_reducible refine(J.o).mono ?_;rintro e w1 ⟨rfl,rfl⟩)|fail)
 with_reducible refine(B.o).mono ?_
 rintro e w2 ⟨i,v2,rfl,p⟩;obtain⟨a,cap,hv⟩:=zm p;subst hv;have H:=zb (pC (aK p) A.1 (xj A.2.2.2.2 E));have T:w2.cell? ⟨w.heap.size,2,none⟩=some (.int .i64 b):=(i.cell (by simp)).trans (by rw[za m];rfl);have W:w2.cell? ⟨w.heap.size,4,none⟩=some (.int .i64 d):=(i.cell (by simp)).trans (by rw[za m];rfl);have j:=zb (F.trans (i.mono F.size));have g:w.heap.size<w2.heap.size:=xn (by simp) i.size;have a1:aR q<=2147483647:=xj A.2.2.2.2 E;generalize aR q=z at *;clear p i l m c2;by_cases y:z=0
 ·have G:((z:Int)==0)=true:=by rw[y];rfl
  clear s y;go_wp2_with (first|(go_at_call 152;with_reducible refine(H.o).mono ?_;rintro e x ⟨rfl,f⟩;have m2:x.cell? ⟨w.heap.size,2,none⟩=some (.int .i64 b):=(f.cell (by exact g)).trans T;have m4:x.cell? ⟨w.heap.size,4,none⟩=some (.int .i64 d):=(f.cell (by exact g)).trans W)|fail);go_ret2;exact⟨rfl,j.trans (f.mono j.size)⟩
 have G:((z:Int)==0)=false:=by rw[xp];omega
 obtain⟨a0,R⟩:=s.resolve_left y;rw[R]at C;have P:decide ((z:Int)<(b:Int))=true:=by simp;omega
 clear s y R;go_wp2_with (first|(go_at_call 152;with_reducible refine(H.o).mono ?_;rintro e x ⟨rfl,f⟩;have m2:x.cell? ⟨w.heap.size,2,none⟩=some (.int .i64 b):=(f.cell (by exact g)).trans T;have m4:x.cell? ⟨w.heap.size,4,none⟩=some (.int .i64 d):=(f.cell (by exact g)).trans W)|fail);go_ret2;exact⟨rfl,j.trans (f.mono j.size)⟩
theorem bL(ls:List L)(l:List (Nat×Nat)):∀i,((Zm ls l).getD i L0).id=(ls.getD i L0).id:=by
 induction l generalizing ls with
 |nil=>intro i;rfl
 |cons p r ih=>
  intro i;simp only[Zm];rw[ih];by_cases h:i=p.1
  ·subst h;by_cases a:p.1<ls.length
   ·rw[Za a];rfl
   simp[yy (show ls.length<=p.1 by omega)]
  rw[zQ h]
theorem lN(ls:List L)(m:List (Nat×Nat)):∀l,aN (Zm ls m) l=aN ls l
 |[]=>rfl
 |p::r=>by simp only[aN,bL,lN ls m r]
theorem ML(h:PV os rj w S M v td bs pvs ls)(b7:Good os ls)(id gd d f l:Nat)(h1:id<=2147483647)(h2:gd<=2147483647)(h3:d<=2147483647)(h4:f<=2147483647)(h5:l<=3)
  (a1:os.any (λo=>o.id==id)=false) (e6:¬10<=os.length) (d3:¬(aR (zo rj td gd d f l ls)=0\/(aR (zo rj td gd d f l ls)<d/\DC l=true))) :
  Calls prog 101 #[.pointer (some ⟨S,0,none⟩),.agg #[.int .i64 id,.int .i64 gd,.int .i64 d,.int .i64 f,.int .i64 l]] w λe w'=>Kp (λk=>k=M.o\/k=M.h\/k∈bs) w w'/\PV (os++[⟨id,gd,zt ls (zo rj td gd d f l ls)⟩]) rj w' S M v td bs pvs (Zm ls (zo rj td gd d f l ls)) /\
   ∃g c,e=.returned (.tuple #[.slice (some ⟨g,0,none⟩) (zG ls (zo rj td gd d f l ls)).length c,.int .i64 0])/\w'.ownsRow 0 2 1 (.slice (some ⟨g,0,none⟩) (zG ls (zo rj td gd d f l ls)).length c) (zG ls (zo rj td gd d f l ls)).length (I (zG ls (zo rj td gd d f l ls))):=by
 have ha:=TZ w (Obj.cells #[.int .i64 id,.int .i64 gd,.int .i64 d,.int .i64 f,.int .i64 l] 155);have d8:=xo w (Obj.cells #[.int .i64 id,.int .i64 gd,.int .i64 d,.int .i64 f,.int .i64 l] 155);have hP:=h.below ha;have b3:=h.room;have e1:=b7.nl b3;have c6:=b7.ids;have c7:∀o'∈os,o'.id≠id:=λo' K e=>by
  have:=yp.1 a1 o' K
  simp[e]at this
 have F:=zb (ZX (rj:=rj) td gd d f l ls b3);have HH:=zb (bQ hP id h1);have a0:=zb a1;rw[a1]at HH;have e3:=zb (mB hP b7 id gd d f l h2 h3 h4 h5);have c2:=hP.c2;obtain⟨D,hD,hd⟩:=hP.maps.o;have a9:=xag hD Lf;rw[hd.size]at a9;have e7:=Tb h5;have HP:=zb hP;have b9:=zb c6;have c5:=zb c7;have d5:=zb e1;have e0:os.length<10:=by omega
 obtain⟨n,HN⟩:=UM os.length;rw[<-HN.o]at a9 e0;generalize hq:zo rj td gd d f l ls=q at *;clear hP h hD hd a1 hq b7 c6 c7 e1 e6;go_enter func101,ntmps101;go_wp2_with (first|(go_at_call 150;with_reducible refine(HH.o).mono ?_;rintro e w1 ⟨rfl,rfl⟩)|fail)
 with_reducible refine(e3.o).mono ?_
 rintro e w2 ⟨b6,v2,rfl,b8⟩;obtain⟨a,cap,hv⟩:=zm b8;subst hv;have HC:=zb (pC (aK b8) F.1 (xj F.2.2.2.2 h3));have G:=(b6.block w.heap.size (by simp)).trans d8;have d7:=zb (HP.below b6);have d6:=zb (aK b8);have k2:w2.cell? ⟨w.heap.size,2,none⟩=some (.int .i64 d):=by rw[za G];rfl
 have k4:w2.cell? ⟨w.heap.size,4,none⟩=some (.int .i64 l):=by rw[za G];rfl
 have d4:=zb G;have b5:=zb (ha.trans (b6.mono ha.size));have B:w.heap.size<w2.heap.size:=zc G;have e8:aR q<=2147483647:=xj F.2.2.2.2 h3;have e9:((aR q:Int)==0)=false:=by rw[xp];omega
 obtain⟨sq,e4⟩:=UM (aR q);rw[<-e4.o]at e9 d3 HC e8;clear b8 b6 a9 d8 G c2;have W:¬(sq<d)\/DC l=false:=by
  by_cases hl:sq<d
  ·right;cases hw:DC l with
   |false=>rfl
   |true=>exact absurd (Or.inr ⟨hl,hw⟩) d3
  exact Or.inl hl
 clear d3;by_cases hl:sq<d
 ·have hw:=W.resolve_left (by omega);rw[hw]at e7;have d9:decide ((sq:Int)<(d:Int))=true:=by simp;omega
  clear W hw;go_wp2_with (first|(go_at_call 152;with_reducible refine(HC.o).mono ?_;rintro e w3 ⟨rfl,s⟩;have m2:w3.cell? ⟨w.heap.size,2,none⟩=some (.int .i64 d):=(s.cell (by exact B)).trans k2;have m4:w3.cell? ⟨w.heap.size,4,none⟩=some (.int .i64 l):=(s.cell (by exact B)).trans k4)|fail);have x:=d7.below s;have m:=(s.block w.heap.size B).trans d4;have n0:w3.cell? ⟨w.heap.size,0,none⟩=some (.int .i64 id):=by rw[za m];rfl
  have n1:w3.cell? ⟨w.heap.size,1,none⟩=some (.int .i64 gd):=by rw[za m];rfl
  have s2:=x.c2;obtain⟨Do,C,R⟩:=x.maps.o;obtain⟨Dh,Q,a5⟩:=x.maps.h;have b4:Maps.size Do<maxLen:=by rw[R.size,<-HN.o];unfold maxLen;omega
  obtain⟨w4,e2,z,j⟩:=yr (w:=w3.drew) C BJ Lf b4 (sS h1) (YZ (H:=Unit) Vk (QE h2));have N:Maps.Tidy Do:=ym C BJ;have a6:Mp (os++[⟨id,gd,[]⟩]) rj w4 M:=by
   have K:=x.maps;obtain⟨Dr,a4,a7⟩:=K.r;exact⟨⟨Dr,zB a4 (j.block M.r (Xr a4) (λe=>K.ro (xr e))),a7⟩,K.rc,⟨_,Z7 z,R.put N h1 a0⟩,⟨Dh,zB Q (j.block M.h (Xr Q) (λe=>K.oh (xr e).symm)),a5.snoc a0⟩,K.ro,K.rh,K.oh⟩
  have T:PV (os++[⟨id,gd,[]⟩]) rj w4 S M v td bs pvs ls:=x.mapsTo (λq hq h1 h2=>j.block q hq (λe=>h1 (xr e))) a6;obtain⟨e5,c0,Z⟩:=ZS C;have t:=zh d6 s;have u:w4.ownsRow 0 241 2 (.slice a q.length cap) q.length (zl bs q):=ze t (λb hb=>by
   obtain⟨cs,y⟩:=zi t hb;exact j.block b (zc y) (λe=>Zb y Z (xr e)))
  have J:=(j.block w.heap.size (zc m) (λe=>Zb m Z (xr e))).trans m;have m0:w4.cell? ⟨w.heap.size,0,none⟩=some (.int .i64 id):=by rw[za J];rfl
  have c8:=zb (Ee T b9 d5 h1 c5 q F.1 F.2.1 F.2.2.1 F.2.2.2.1 a cap u);have a2:=zb u;have c9:Ha (Kp (λk=>k=M.o\/k=M.h\/k∈bs) w w4):=(UD (b5.trans (s.mono b5.size))).trans (Kp.before ((xh _ _).drew) (jD j (Or.inl (Or.inl (Or.inl rfl)))));have P:=zb T;clear x m C R Q a5 b4 z j N a6 T Z t u J s m2 m4 k2 k4;go_region;go_wp2_with fail
  with_reducible refine(c8.o).mono ?_
  rintro e w5 ⟨rfl,X,E⟩;have A:w5.ownsRow 0 241 2 (.slice a q.length cap) q.length (zl bs q):=ze a2 (λb hb=>by
   obtain⟨cs,y⟩:=zi a2 hb;refine X.block b (zc y) (λhz=>?_);rcases hz with hz|hz
   ·obtain⟨es,cc,b1⟩:=P.maps.mh;rw[<-hz]at b1;exact Zb y b1 rfl
   obtain⟨i,hi,rfl⟩:=xt hz;have b0:=P.lot i (by rw[<-P.o.len];exact hi);rw[Uv,xi hi]at b0;exact zw y b0 (by decide) rfl)
  have HT:=zb (EW (ls:=Zm ls q) A F.1 (xj F.2.2.2.2 h3) E.lots E.ok (λp hp=>by rw[bR];exact F.2.2.1 p hp));have a3:Ha (zG (Zm ls q) q=zG ls q):=by unfold Ha zG;rw[lN]
  rw[a3.o]at HT;have d2:=zb E;have d0:=zb X;clear A E X a3;go_wp2_with fail
  with_reducible refine(HT.o).mono ?_
  rintro e w6 ⟨a8,g,c,rfl,b2⟩;have d1:=zb b2;clear b2;go_wp2_with fail;go_ret2;refine⟨?_,d2.below a8,g,c,rfl,aK d1⟩;exact(c9.trans (d0.mono (λk hk=>Or.inl (Or.inr hk)))).after a8
 have d9:decide ((sq:Int)<(d:Int))=false:=by simp;omega
 clear W;go_wp2_with (first|(go_at_call 152;with_reducible refine(HC.o).mono ?_;rintro e w3 ⟨rfl,s⟩;have m2:w3.cell? ⟨w.heap.size,2,none⟩=some (.int .i64 d):=(s.cell (by exact B)).trans k2;have m4:w3.cell? ⟨w.heap.size,4,none⟩=some (.int .i64 l):=(s.cell (by exact B)).trans k4)|fail);have x:=d7.below s;have m:=(s.block w.heap.size B).trans d4;have n0:w3.cell? ⟨w.heap.size,0,none⟩=some (.int .i64 id):=by rw[za m];rfl
 have n1:w3.cell? ⟨w.heap.size,1,none⟩=some (.int .i64 gd):=by rw[za m];rfl
 have s2:=x.c2;obtain⟨Do,C,R⟩:=x.maps.o;obtain⟨Dh,Q,a5⟩:=x.maps.h;have b4:Maps.size Do<maxLen:=by rw[R.size,<-HN.o];unfold maxLen;omega
 obtain⟨w4,e2,z,j⟩:=yr (w:=w3.drew) C BJ Lf b4 (sS h1) (YZ (H:=Unit) Vk (QE h2));have N:Maps.Tidy Do:=ym C BJ;have a6:Mp (os++[⟨id,gd,[]⟩]) rj w4 M:=by
  have K:=x.maps;obtain⟨Dr,a4,a7⟩:=K.r;exact⟨⟨Dr,zB a4 (j.block M.r (Xr a4) (λe=>K.ro (xr e))),a7⟩,K.rc,⟨_,Z7 z,R.put N h1 a0⟩,⟨Dh,zB Q (j.block M.h (Xr Q) (λe=>K.oh (xr e).symm)),a5.snoc a0⟩,K.ro,K.rh,K.oh⟩
 have T:PV (os++[⟨id,gd,[]⟩]) rj w4 S M v td bs pvs ls:=x.mapsTo (λq hq h1 h2=>j.block q hq (λe=>h1 (xr e))) a6;obtain⟨e5,c0,Z⟩:=ZS C;have t:=zh d6 s;have u:w4.ownsRow 0 241 2 (.slice a q.length cap) q.length (zl bs q):=ze t (λb hb=>by
  obtain⟨cs,y⟩:=zi t hb;exact j.block b (zc y) (λe=>Zb y Z (xr e)))
 have J:=(j.block w.heap.size (zc m) (λe=>Zb m Z (xr e))).trans m;have m0:w4.cell? ⟨w.heap.size,0,none⟩=some (.int .i64 id):=by rw[za J];rfl
 have c8:=zb (Ee T b9 d5 h1 c5 q F.1 F.2.1 F.2.2.1 F.2.2.2.1 a cap u);have a2:=zb u;have c9:Ha (Kp (λk=>k=M.o\/k=M.h\/k∈bs) w w4):=(UD (b5.trans (s.mono b5.size))).trans (Kp.before ((xh _ _).drew) (jD j (Or.inl (Or.inl (Or.inl rfl)))));have P:=zb T;clear x m C R Q a5 b4 z j N a6 T Z t u J s m2 m4 k2 k4;go_region;go_wp2_with fail
 with_reducible refine(c8.o).mono ?_
 rintro e w5 ⟨rfl,X,E⟩;have A:w5.ownsRow 0 241 2 (.slice a q.length cap) q.length (zl bs q):=ze a2 (λb hb=>by
  obtain⟨cs,y⟩:=zi a2 hb;refine X.block b (zc y) (λhz=>?_);rcases hz with hz|hz
  ·obtain⟨es,cc,b1⟩:=P.maps.mh;rw[<-hz]at b1;exact Zb y b1 rfl
  obtain⟨i,hi,rfl⟩:=xt hz;have b0:=P.lot i (by rw[<-P.o.len];exact hi);rw[Uv,xi hi]at b0;exact zw y b0 (by decide) rfl)
 have HT:=zb (EW (ls:=Zm ls q) A F.1 (xj F.2.2.2.2 h3) E.lots E.ok (λp hp=>by rw[bR];exact F.2.2.1 p hp));have a3:Ha (zG (Zm ls q) q=zG ls q):=by unfold Ha zG;rw[lN]
 rw[a3.o]at HT;have d2:=zb E;have d0:=zb X;clear A E X a3;go_wp2_with fail
 with_reducible refine(HT.o).mono ?_
 rintro e w6 ⟨a8,g,c,rfl,b2⟩;have d1:=zb b2;clear b2;go_wp2_with fail;go_ret2;refine⟨?_,d2.below a8,g,c,rfl,aK d1⟩;exact(c9.trans (d0.mono (λk hk=>Or.inl (Or.inr hk)))).after a8
