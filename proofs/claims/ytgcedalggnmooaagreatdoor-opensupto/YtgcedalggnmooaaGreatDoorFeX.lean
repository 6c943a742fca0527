import Derived.Test.YtgcedalggnmooaaGreatDoorFaX
import Derived.Test.YtgcedalggnmooaaGreatDoorRepX
import Derived.StillTailTactics
import Derived.Deep.OwnRows
set_option linter.all false
set_option maxRecDepth 100000
set_option maxHeartbeats 6400000
namespace Go.Proofs.YtgcedalggnmooaaGreatDoor
open Go.RowKit
open Tryz
structure PW(N:Nat)(w:World)(S:Nat)(v:Value)(bs:List Nat)(pvs:List Value)(ls:List L):Prop where
 c1:w.cell? ⟨S,1,none⟩=some v
 row:w.ownsRow 0 191 1 v bs.length (bZ bs)
 len:bs.length=ls.length
 plen:pvs.length=ls.length
 lot:∀i,i<ls.length->w.heap[bs.getD i 0]?=some (.cells (zn (ls.getD i L0) (pvs.getD i default)) 231 (0,0))
 par:∀i,i<ls.length->Par w (pvs.getD i default) (ls.getD i L0).par
 nodup:bs.Nodup
 ids:∀l∈ls,l.id<=2147483647/\l.gd<=2147483647/\l.place<=30/\l.ex<=2147483647
 pars:∀l∈ls,l.par.length<=2/\∀p∈l.par,p.1<=2147483647/\p.2<=2147483647
 giv:∀l∈ls,l.gv<=N
 room:ls.length<=30
variable {B N S b:Nat}{bs:List Nat}{ls:List L}{pvs:List Value}{v:Value}{w w' w'':World}
theorem PW.shape(h:PW N w S v bs pvs ls):∃a cap,v=.slice a ls.length cap/\(0<ls.length->∃G,a=some ⟨G,0,none⟩/\∀i,i<ls.length->w.cell? ⟨G,i,none⟩=some (.pointer (some ⟨bs.getD i 0,0,none⟩))):=by
 obtain⟨a,cap,d⟩:=zT h.row;refine⟨a,cap,by rw[<-h.len];exact d,λk=>?_⟩;obtain⟨g,e,b,_,_⟩:=zK h.row (by rw[h.len];exact k);rw[d]at b
 cases b;refine⟨g,rfl,λi j=>?_⟩
 have f:=h.row;rw[d]at f;rw[f.cellAt i (by rw[h.len];omega)];have c:i<bs.length:=by rw[h.len];exact j
 simp[bZ,Uv,c]
theorem PW.cl(h:PW N w S v bs pvs ls)(i:Nat)(a:i<ls.length)(j:Nat):w.cell? ⟨bs.getD i 0,j,none⟩=(zn (ls.getD i L0) (pvs.getD i default))[j]?:=za (h.lot i a) j
theorem pI(h:PW N w S v bs pvs ls)(n:Nat)(H:n<=2147483647):Calls prog 148 #[.pointer (some ⟨S,0,none⟩),.int .i64 n] w λe w'=>e=.returned (zN bs ls n)/\w'=w:=by
 obtain⟨a,cap,C,f⟩:=h.shape;have c1:=h.c1;rw[C]at c1;have y:=h.room;have A:=zb h;clear h C;go_enter func148,ntmps148;go_wp2_with fail;go_loop [6,12] (λ_ i=>∃k:Nat,k<=ls.length/\i=.int .i64 k/\(∀j,j<k->(ls.getD j L0).id≠n)) (λ_ i=>ls.length-(intOf i).toNat)
 case atStart=>exact⟨0,by omega,rfl,λj h=>absurd h (by omega)⟩
 obtain⟨k,F,rfl,g⟩:=hrel;by_cases d:k<ls.length
 ·obtain⟨G,B,c⟩:=f (by omega);rw[B];have s:=c k d;have p:w.cell? ⟨bs.getD k 0,0,none⟩=some (.int .i64 ((ls.getD k L0).id:Int)):=by rw[A.o.cl k d 0];rfl
  have t:(ls.getD k L0).id<=2147483647:=(A.ids _ (zg d)).1;obtain⟨m,r⟩:=UM ((ls.getD k L0).id);obtain⟨b,z⟩:=UM (bs.getD k 0);rw[<-r.o]at p t;rw[<-z.o]at p s;clear c B f;by_cases l:m=n
  ·have x:((m:Int)==(n:Int))=true:=aO l;have q:Ha (zN bs ls n=.pointer (some ⟨b,0,none⟩)):=by
    have:=eJ d g (by rw[<-r.o];exact l)
    unfold Ha zN;rw[this,xe d,<-z.o]
   clear l;go_wp2_with fail;go_ret;exact⟨by rw[q.o];rfl,rfl⟩
  have x:((m:Int)==(n:Int))=false:=ZG l;have D:=zb l;clear l;go_wp2_with fail;go_round
  case rel=>
   refine⟨k+1,by omega,by go_num,?_⟩;intro j E;by_cases u:j=k
   ·subst u;rw[<-r.o];exact D
   exact g j (by omega)
  simp[intOf];omega
 obtain rfl:k=ls.length:=by omega
 have q:Ha (zN bs ls n=.pointer none):=by
  have:=wA g
  unfold Ha zN;rw[this,xg (by omega)]
 clear f d;go_wp2_with fail;go_ret;exact⟨by rw[q.o];rfl,rfl⟩
def Uy(l:L)(n:Nat):L:={ l with gv:=l.gv+n }
def Vn(l:L):List (Nat×Nat)->Nat->List L->Option (List L×Nat)
 |[],e,ls=>some (ls,e)
 |p::ps,e,ls=>if UB p.1 ls<ls.length/\(ls.getD (UB p.1 ls) L0).gd=l.gd/\(ls.getD (UB p.1 ls) L0).place<l.place then Vn l ps (min e (ls.getD (UB p.1 ls) L0).ex) (ls.set (UB p.1 ls) (Uy (ls.getD (UB p.1 ls) L0) p.2)) else none
def Vo(ls:List L)(i:Nat):Option (List L) :=
 if (ls.getD i L0).par.length=0 then some ls else (Vn (ls.getD i L0) (ls.getD i L0).par 2147483647 ls).bind λr=>if (ls.getD i L0).ex=r.2 then some r.1 else none
theorem PW.below(h:PW N w S v bs pvs ls)(b:Below w.heap.size w w'):PW N w' S v bs pvs ls:={
 c1:=(b.cell (p:=⟨S,1,none⟩) (bW h.c1)).trans h.c1
 row:=zh h.row b
 len:=h.len
 plen:=h.plen
 lot:=λi a=>(b.block _ (zc (h.lot i a))).trans (h.lot i a)
 par:=λi a=>(h.par i a).congr (λq d=>by obtain⟨e,c⟩:=(h.par i a).blk d;exact b.block q (zc c))
 nodup:=h.nodup
 ids:=h.ids
 pars:=h.pars
 giv:=h.giv
 room:=h.room}
theorem PW.give(h:PW N w S v bs pvs ls){j n:Nat}(t:j<ls.length)(K:n<=2147483647):PW (N+2147483647) (w.setCell ⟨bs.getD j 0,10,none⟩ (.int .i64 (((ls.getD j L0).gv+n:Nat):Int))) S v bs pvs (ls.set j (Uy (ls.getD j L0) n)):=by
 have b:=h.lot j t;obtain⟨a,cap,J,_⟩:=h.shape;have E:S≠bs.getD j 0:=λe=>by
  have y:=h.c1;rw[e,za b,J]at y;simp[zn]at y
 have c:∀k,k≠bs.getD j 0->(w.setCell ⟨bs.getD j 0,10,none⟩ (.int .i64 (((ls.getD j L0).gv+n:Nat):Int))).heap[k]?=w.heap[k]?:=λk G=>xa _ _ _ _ G
 have r:=xq w (bs.getD j 0) 10 _ 231 (.int .i64 (((ls.getD j L0).gv+n:Nat):Int)) b;have m:∀i,i<ls.length->(ls.set j (Uy (ls.getD j L0) n)).getD i L0=if i=j then Uy (ls.getD j L0) n else ls.getD i L0:=λi f=>by
  by_cases e:i=j
  ·subst e;rw[xe rfl];simp[Uv,f]
  rw[xg e];simp[Uv,Xd,XZ e]
 have d:∀{P:L->Prop},(∀l∈ls,P l)->P (Uy (ls.getD j L0) n)->∀l∈ls.set j (Uy (ls.getD j L0) n),P l:=λy D l x=>by
  rcases Xy x with x|rfl
  ·exact y l x
  exact D
 have z:=h.ids (ls.getD j L0) (zg t);have A:=h.pars (ls.getD j L0) (zg t);refine⟨(xm (a:=⟨S,1,none⟩) (c S E)).trans h.c1,ze h.row (λg F=>c g (λe=>?_)),by rw[xd];exact h.len,by rw[xd];exact h.plen,λi f=>?_,λi f=>?_,h.nodup,d h.ids z,d h.pars A,?_,by rw[xd];exact h.room⟩
 ·obtain⟨C,p⟩:=zi h.row F;exact zw p b (by decide) e
 ·rw[xd]at f;rw[m i f];by_cases e:i=j
  ·subst e;rw[xe rfl];exact r
  rw[xg e,c _ (λq=>e ?_)]
  ·exact h.lot i f
  have s:i<bs.length:=by rw[h.len];exact f
  have u:j<bs.length:=by rw[h.len];exact t
  have:=xbv (i:=i) (j:=j) (h₀:=s) (h₁:=u) h.nodup
  exact this.1 (by simpa [Uv,s,u] using q)
 ·rw[xd]at f;have B:Par w (pvs.getD i default) ((ls.set j (Uy (ls.getD j L0) n)).getD i L0).par:=by
   rw[m i f];by_cases e:i=j
   ·subst e;rw[xe rfl];exact h.par i f
   rw[xg e];exact h.par i f
  exact B.congr (λq H=>c q (λe=>by
   obtain⟨C,p⟩:=B.blk H;exact zw p b (by decide) e))
 have:=h.giv _ (zg t)
 refine d (λl x=>?_) ?_
 ·have:=h.giv l x;omega
 show(ls.getD j L0).gv+n<=_;omega
def TV(N:Nat)(w:World)(S:Nat)(v:Value)(bs:List Nat)(pvs:List Value)(X:Option (List L))(e:Ending)(w':World):Prop:=match X with
 |some ls=>e=.returned (.tuple #[])/\PW N w' S v bs pvs ls/\Kp (λk=>k∈bs) w w'
 |none=>(∃t v,e=.panicked [{ v:=.iface t v,recovered:=false }])/\Kp (λk=>k∈bs) w w'
theorem Kq(h:PW N w S v bs pvs ls)(hN:N<=1000000000000)(i:Nat)(hi:i<ls.length)(hu:Gu w)(g5:∀k∈bs,k≠4):Calls prog 195 #[.pointer (some ⟨S,0,none⟩),.pointer (some ⟨bs.getD i 0,0,none⟩)] w (TV (N+4294967294) w S v bs pvs (Vo ls i)):=by
 obtain⟨X,HX⟩:=UM (Vo ls i);rw[<-HX.o];have z:=h.lot i hi;have M:=h.par i hi;have b6:=h.ids _ (zg hi);have d5:=h.pars _ (zg hi);obtain⟨pa,b7,a5⟩:=Prs.isSl M;obtain⟨l,HL⟩:=UM (ls.getD i L0);obtain⟨bl,b8⟩:=UM (bs.getD i 0);rw[<-HL.o]at z M b6 d5 a5;rw[<-b8.o]at z ⊢;rw[a5]at z M;have x4:w.cell? ⟨bl,4,none⟩=some (.slice pa l.par.length b7):=by rw[za z];rfl
 obtain⟨np,b1⟩:∃np,np=l.par.length:=⟨_,rfl⟩
 have a9:=zb b1;rw[<-b1]at x4 d5;have e7:=zb h;have f3:Ha (pvs.getD i default=.slice pa l.par.length b7):=a5;by_cases d4:np=0
 ·have c7:Ha (X=some ls):=by unfold Ha;rw[HX.o,Vo,<-HL.o,<-a9.o,xe d4]
  subst d4;clear h z M a5 b1;go_enter func195,ntmps195;go_wp2_with fail;go_returns;show TV _ w S v bs pvs X _ _;rw[c7.o];refine⟨rfl,?_,Kp.refl _ _⟩;have q:=e7.o;exact⟨q.c1,q.row,q.len,q.plen,q.lot,q.par,q.nodup,q.ids,q.pars,λl hl=>xj (q.giv l hl) (by omega),q.room⟩
 have h5:¬((np:Int)==0)=true:=by simp;omega
 have P:Ha (X=(Vn l l.par 2147483647 ls).bind λr=>if l.ex=r.2 then some r.1 else none):=by unfold Ha;rw[HX.o,Vo,<-HL.o,<-a9.o,xg d4]
 clear h z a5 b1;go_enter func195,ntmps195;go_wp2_with fail;obtain⟨Y,HY⟩:=UM (Vn l l.par 2147483647 ls);rw[<-HY.o]at P;go_loopw [4,6,7,19] (λev _ _ ii wr=>∃(k e:Nat) (b:List L),ii=.int .i64 k/\k<=np/\ev=.int .i64 e/\e<=2147483647/\b.length=ls.length/\b.getD i L0=l/\PW (N+k*2147483647) wr S v bs pvs b/\Kp (λk=>k∈bs) w wr/\Vn l (l.par.drop k) e b=Y) (λ_ _ _ ii _=>np-(intOf ii).toNat)
 case atStart=>exact⟨0,2147483647,ls,rfl,by omega,rfl,by omega,rfl,HL.symm,by simpa using e7.o,Kp.refl _ _,by rw[xai];exact HY.symm⟩
 obtain⟨k,e,b,rfl,hk,rfl,he,d2,Z,G,W,Q⟩:=hrel;have c9:i<b.length:=by rw[d2];exact hi
 have c6:Ha (Gu wr):=by
  obtain⟨t,v,H⟩:=hu;exact⟨t,v,(xm (a:=⟨4,0,none⟩) (W.block _ (bW H) (λhm=>g5 _ hm rfl))).trans H⟩
 by_cases f8:k<np
 ·have b2:=G.par i c9;rw[Z,f3.o]at b2;have T:k<l.par.length:=by rw[<-a9.o];exact f8
  obtain⟨q,g8,cs,d7,d8,d9⟩:=b2.resolve_left (λh=>by rw[h.2]at T;simp at T);obtain⟨g1,g2⟩:=d9 k T;rw[<-za d8]at g1 g2;have g4:pa=some ⟨q,0,none⟩:=by cases d7;rfl
  subst g4;rw[show 2*k=k*2 by omega]at g1 g2;have g3:l.par.getD k (0,0)∈l.par:=by simp[Uv,T]
  have a4:=d5.2 _ g3;have c8:l.par.drop k=l.par.getD k (0,0)::l.par.drop (k+1):=by rw[xao T];simp[Uv,T]
  rw[c8,Vn]at Q;generalize l.par.getD k (0,0)=pp at *;obtain⟨g,j⟩:=pp;simp only at g1 g2 a4 Q;have hB:=TZ wr (.cells #[.int .i64 g,.int .i64 j] 234);have y:=xo wr (.cells #[.int .i64 g,.int .i64 j] 234);have f:=G.below hB;have HF:=zb (pI f g a4.1);have a0:=zb (W.after hB);have b0:Ha (Gu (wr.alloc (.cells #[.int .i64 g,.int .i64 j] 234))):=by
   obtain⟨t,v,H⟩:=c6.o;exact⟨t,v,(hB.cell (bW H)).trans H⟩
  have d0:(wr.alloc (.cells #[.int .i64 g,.int .i64 j] 234)).cell? ⟨wr.heap.size,0,none⟩=some (.int .i64 g):=by rw[za y];rfl
  have d1:(wr.alloc (.cells #[.int .i64 g,.int .i64 j] 234)).cell? ⟨wr.heap.size,1,none⟩=some (.int .i64 j):=by rw[za y];rfl
  have s:=f.lot i c9;rw[Z,<-b8.o]at s;by_cases hj:UB g b<b.length
  ·obtain⟨D,a7⟩:=UM (bs.getD (UB g b) 0);obtain⟨c,a8⟩:=UM (b.getD (UB g b) L0);have E:=f.lot _ hj;rw[<-a8.o,<-a7.o]at E;have a2:zN bs b g=.pointer (some ⟨D,0,none⟩):=by unfold zN;rw[xe hj,<-a7.o]
   rw[a2]at HF;have b5:=f.ids _ (zg hj);have f6:=f.giv _ (zg hj);rw[<-a8.o]at b5 f6 Q;have b4:=zb f;have f1:D∈bs:=by
    rw[a7.o];have:UB g b<bs.length:=by rw[f.len];exact hj
    simp[Uv,this]
   have h4:wr.heap.size≠D:=λe=>by rw[<-e,y]at E;cases E
   have b3:=zb E;have x1:=za E 1;have x3:=za E 3;have y1:=za s 1;have y3:=za s 3;have HJ:=zb hj;have e0:=zb y;clear G W f y hB s d7 d8 d9 b2 c8 a2 E hj;go_wp2_with (go_at_call 148;refine HF.mono ?_;rintro _ w3 ⟨rfl,rfl⟩);have b9:Ha (Calls prog 175 #[.bool false] (wr.alloc (.cells #[.int .i64 g,.int .i64 j] 234)).drew λe w'=>w'=(wr.alloc (.cells #[.int .i64 g,.int .i64 j] 234)).drew/\∃t v,e=.panicked [{ v:=.iface t v,recovered:=false }]):=by
    refine(zM false _ (show Gu (wr.alloc (.cells #[.int .i64 g,.int .i64 j] 234)).drew from b0)).mono ?_
    rintro e w' ⟨h1,h2⟩;rw[xg (by simp)]at h2;exact⟨h1,h2⟩
   have e4:Ha (Calls prog 175 #[.bool true] (wr.alloc (.cells #[.int .i64 g,.int .i64 j] 234)).drew λe w'=>w'=(wr.alloc (.cells #[.int .i64 g,.int .i64 j] 234)).drew/\e=.returned (.tuple #[])):=by
    refine(zM true _ (show Gu (wr.alloc (.cells #[.int .i64 g,.int .i64 j] 234)).drew from b0)).mono ?_
    rintro e w' ⟨h1,h2⟩;rw[xe rfl]at h2;exact⟨h1,h2⟩
   generalize (wr.alloc (.cells #[.int .i64 g,.int .i64 j] 234))=wb at *;obtain⟨B,u⟩:∃B:World->Prop,∀w',B w'↔(w'.cell? ⟨D,1,none⟩=some (.int .i64 c.gd)/\w'.cell? ⟨D,3,none⟩=some (.int .i64 c.place)/\w'.cell? ⟨bl,1,none⟩=some (.int .i64 l.gd)/\w'.cell? ⟨bl,3,none⟩=some (.int .i64 l.place)):=⟨_,λ_=>YE⟩
   have z1:∀x:Wd B,x.w.cell? ⟨D,1,none⟩=some (.int .i64 c.gd):=λx=>((u _).1 x.h).1
   have z2:∀x:Wd B,x.w.cell? ⟨D,3,none⟩=some (.int .i64 c.place):=λx=>((u _).1 x.h).2.1
   have z3:∀x:Wd B,x.w.cell? ⟨bl,1,none⟩=some (.int .i64 l.gd):=λx=>((u _).1 x.h).2.2.1
   have z4:∀x:Wd B,x.w.cell? ⟨bl,3,none⟩=some (.int .i64 l.place):=λx=>((u _).1 x.h).2.2.2
   have A:B wb.drew:=(u _).2 ⟨x1,x3,y1,y3⟩;clear u;by_cases a3:c.gd=l.gd
   ·have f5:=aO a3;by_cases d6:c.place<l.place
    ·have f0:(c.place:Int)<(l.place:Int):=by omega
     have a1:Ha (Vn l (l.par.drop (k+1)) (min e c.ex) (b.set (UB g b) (Uy c j))=Y):=by
      unfold Ha;rw[<-Q,xe ⟨HJ.o,a3,d6⟩]
     clear Q a3 d6;clear x1 x3 y1 y3;haveI hinh:Inhabited (Wd B):=⟨⟨_,A⟩⟩
     refine zq (n:=8) (m:=1) 24 24 (λw'=>∃x:Wd B,w'=x.w) (by kernel_rfl) (by kernel_rfl) (λ_ _ d _ _ h=>by cases d<;>exact h) (by kernel_rfl) (by kernel_rfl) rfl rfl ⟨⟨_,A⟩,rfl⟩ ?_
     clear A;dsimp only[List.take];repeat (go_big_quiet_step (fail))
     refine XJ ?_
     refine zR (i:=24) (by kernel_rfl) rfl rfl (λK hK=>?_);go_wp2_with (go_at_call 175;refine e4.mono ?_;rintro _ w4 ⟨rfl,rfl⟩);refine hK _ _ (by first|exact Or.inl rfl|exact Or.inl trivial|trivial) ?_
     refine Z9 (by kernel_rfl) ?_
     clear hK z1 z2 z3 z4;have e9:UB g b≠i:=λe=>by
      have:c=l:=by rw[a8.o,e];exact Z
      rw[this]at f0;omega
     have e5:=zb (b4.below ((xh _ _).drew:Below _ wb wb.drew));have e1:=zb (a0.after ((xh _ _).drew));have g9:wb.drew.cell? ⟨wr.heap.size,1,none⟩=some (.int .i64 j):=d1;have J:wb.drew.heap[D]?=some (.cells (zn c (pvs.getD (UB g b) default)) 231 (0,0)):=b3.o;clear d1 d0 HF e4 b9 a0 b0 b4 b3 e0;generalize wb.drew=wd at *;have h0:wd.cell? ⟨D,10,none⟩=some (.int .i64 c.gv):=by rw[za J];rfl
     have h3:=zf J 10;have a6:=xq wd D 10 _ 231 (.int .i64 ((c.gv:Int)+(j:Int))) J;have y2:(wd.setCell ⟨D,10,none⟩ (.int .i64 ((c.gv:Int)+(j:Int)))).cell? ⟨D,2,none⟩=some (.int .i64 c.ex):=by rw[za a6];rfl
     have e6:Ha (PW (N+(k+1)*2147483647) (wd.setCell ⟨D,10,none⟩ (.int .i64 ((c.gv:Int)+(j:Int)))) S v bs pvs (b.set (UB g b) (Uy c j))):=by
      have h1:=e5.give HJ a4.2;rw[<-a8.o,<-a7.o,Int.natCast_add]at h1;unfold Ha;rw[show N+(k+1)*2147483647=N+k*2147483647+2147483647 by omega];exact h1
     have e2:Ha (Kp (λk=>k∈bs) w (wd.setCell ⟨D,10,none⟩ (.int .i64 ((c.gv:Int)+(j:Int))))):=e1.setCell (p:=⟨D,10,none⟩) (Or.inl f1) _;have g6:c.gv<=1100000000000:=by omega
     have h7:=b5.2.2.2;clear a6 J e5 e1;by_cases d3:e<=c.ex
     ·have f9:(e:Int)<=(c.ex:Int):=by omega
      have g0:¬(c.ex:Int)<(e:Int):=by omega
      have c5:Ha (min e c.ex=e):=Nat.min_eq_left d3;clear d3;go_wp2_with fail;go_region;go_wp2_with fail;go_roundw
      case rel=>
       refine⟨k+1,e,b.set (UB g b) (Uy c j),by go_num,by omega,rfl,by omega,by rw[xd];exact d2,?_,e6.below ((xh _ _).drew),e2.after ((xh _ _).drew),?_⟩
       ·rw[<-Z];simp[Uv,Xd,e9]
       rw[<-a1.o,c5.o]
      simp[intOf];omega
     have f9:¬(e:Int)<=(c.ex:Int):=by omega
     have g0:(c.ex:Int)<(e:Int):=by omega
     have c5:Ha (min e c.ex=c.ex):=Nat.min_eq_right (by omega);clear d3;go_wp2_with fail;go_region;go_wp2_with fail;go_roundw
     case rel=>
      refine⟨k+1,c.ex,b.set (UB g b) (Uy c j),by go_num,by omega,rfl,by omega,by rw[xd];exact d2,?_,e6.below ((xh _ _).drew),e2.after ((xh _ _).drew),?_⟩
      ·rw[<-Z];simp[Uv,Xd,e9]
      rw[<-a1.o,c5.o]
     simp[intOf];omega
    have f0:¬(c.place:Int)<(l.place:Int):=by omega
    have g7:(l.place:Int)<=(c.place:Int):=by omega
    have C:Ha (X=none):=by
     unfold Ha;rw[P.o,<-Q,xg (λH=>d6 H.2.2)];rfl
    clear Q;clear x1 x3 y1 y3;haveI hinh:Inhabited (Wd B):=⟨⟨_,A⟩⟩
    refine zq (n:=8) (m:=1) 24 24 (λw'=>∃x:Wd B,w'=x.w) (by kernel_rfl) (by kernel_rfl) (λ_ _ d _ _ h=>by cases d<;>exact h) (by kernel_rfl) (by kernel_rfl) rfl rfl ⟨⟨_,A⟩,rfl⟩ ?_
    clear A;dsimp only[List.take];repeat (go_big_quiet_step (fail))
    refine XJ ?_
    refine zR (i:=24) (by kernel_rfl) rfl rfl (λK hK=>?_);go_wp2_with (go_at_call 175;refine b9.mono ?_;rintro _ w4 ⟨rfl,t,v',rfl⟩);refine⟨rfl,?_⟩;show TV _ w S v bs pvs X _ _;rw[C.o];exact⟨⟨t,v',rfl⟩,a0.after ((xh _ _).drew)⟩
   have f5:=ZG a3;have C:Ha (X=none):=by
    unfold Ha;rw[P.o,<-Q,xg (λH=>a3 H.2.1)];rfl
   clear Q;clear x1 x3 y1 y3;haveI hinh:Inhabited (Wd B):=⟨⟨_,A⟩⟩
   refine zq (n:=8) (m:=1) 24 24 (λw'=>∃x:Wd B,w'=x.w) (by kernel_rfl) (by kernel_rfl) (λ_ _ d _ _ h=>by cases d<;>exact h) (by kernel_rfl) (by kernel_rfl) rfl rfl ⟨⟨_,A⟩,rfl⟩ ?_
   clear A;dsimp only[List.take];repeat (go_big_quiet_step (fail))
   refine XJ ?_
   refine zR (i:=24) (by kernel_rfl) rfl rfl (λK hK=>?_);go_wp2_with (go_at_call 175;refine b9.mono ?_;rintro _ w4 ⟨rfl,t,v',rfl⟩);refine⟨rfl,?_⟩;show TV _ w S v bs pvs X _ _;rw[C.o];exact⟨⟨t,v',rfl⟩,a0.after ((xh _ _).drew)⟩
  have C:Ha (X=none):=by
   unfold Ha;rw[P.o,<-Q,xg (λH=>hj H.1)];rfl
  have a2:zN bs b g=.pointer none:=by unfold zN;rw[xg hj]
  rw[a2]at HF;clear G W f y hB s Q d7 d8 d9 b2 c8 hj a2;go_wp2_with (go_at_call 148;refine HF.mono ?_;rintro _ w3 ⟨rfl,rfl⟩);have f2:Ha (∀wz,Below (wr.alloc (.cells #[.int .i64 g,.int .i64 j] 234)).heap.size (wr.alloc (.cells #[.int .i64 g,.int .i64 j] 234)) wz->Calls prog 175 #[.bool false] wz λe w'=>w'=wz/\∃t v,e=.panicked [{ v:=.iface t v,recovered:=false }]):=λwz hz=>by
   obtain⟨t,v,H⟩:=b0.o;refine(zM false wz ⟨t,v,(hz.cell (bW H)).trans H⟩).mono ?_
   rintro e w' ⟨h1,h2⟩;rw[xg (by simp)]at h2;exact⟨h1,h2⟩
  generalize (wr.alloc (.cells #[.int .i64 g,.int .i64 j] 234))=wb at *;obtain⟨B,u⟩:∃B:World->Prop,B wb.drew:=⟨λ_=>True,trivial⟩
  haveI hinh:Inhabited (Wd B):=⟨⟨_,u⟩⟩
  refine zq (n:=8) (m:=1) 24 24 (λw'=>∃x:Wd B,w'=x.w) (by kernel_rfl) (by kernel_rfl) (λ_ _ d _ _ h=>by cases d<;>exact h) (by kernel_rfl) (by kernel_rfl) rfl rfl ⟨⟨_,u⟩,rfl⟩ ?_
  clear u;dsimp only[List.take];repeat (go_big_quiet_step (fail))
  refine XJ ?_
  refine zR (i:=24) (by kernel_rfl) rfl rfl (λK hK=>?_);go_wp2_with (go_at_call 175;refine(f2 _ ((xh _ _).drew)).mono ?_;rintro _ w4 ⟨rfl,t,v',rfl⟩);refine⟨rfl,?_⟩;show TV _ w S v bs pvs X _ _;rw[C.o];exact⟨⟨t,v',rfl⟩,a0.after ((xh _ _).drew)⟩
 have f7:k=np:=by omega
 subst f7;have a1:Ha (Y=some (b,e)):=by
  unfold Ha;rw[<-Q,a9.o,xbu];rfl
 have F:=G.lot i c9;rw[Z,<-b8.o]at F;have x2:wr.cell? ⟨bl,2,none⟩=some (.int .i64 l.ex):=by rw[za F];rfl
 have h6:=b6.2.2.2;have e8:=zb G;have e3:=zb W;clear G W F Q;by_cases R:l.ex=e
 ·have f4:=aO R;have c7:Ha (X=some b):=by unfold Ha;rw[P.o,a1.o];show(if l.ex=e then some b else none)=_;rw[xe R]
  clear R;go_wp2_with fail;refine(zM true wr c6).mono ?_
  rintro _ wz ⟨rfl,hm⟩;rw[xe rfl]at hm;subst hm;go_wp2_with fail;go_end0;show TV _ w S v bs pvs X _ _;rw[c7.o];have q:=e8.o;exact⟨rfl,⟨q.c1,q.row,q.len,q.plen,q.lot,q.par,q.nodup,q.ids,q.pars,λl hl=>xj (q.giv l hl) (by omega),q.room⟩,e3⟩
 have f4:=ZG R;have C:Ha (X=none):=by unfold Ha;rw[P.o,a1.o];show(if l.ex=e then some b else none)=_;rw[xg R]
 clear R;go_wp2_with fail;refine(zM false wr c6).mono ?_
 rintro _ wz ⟨rfl,hm⟩;rw[xg (by simp)]at hm;obtain⟨t,v',rfl⟩:=hm;refine⟨rfl,?_⟩;show TV _ w S v bs pvs X _ _;rw[C.o];exact⟨⟨t,v',rfl⟩,e3⟩
theorem NV:(prog.info? 191).map (λi=>(i.zero,i.size,i.bytes))=some (some (.pointer none),1,8):=by kernel_rfl
theorem Th:prog.underlying 115=some (.slice 191):=by kernel_rfl
variable {l r:List UInt8}
theorem qU{num com:Nat}{x:L}(h:cN num com l=some (x,r)):x.id=num/\x.gd<=2147483647/\x.ex<=2147483647/\(1<=x.place/\x.place<=com)/\(x.par.length<=2/\∀p∈x.par,p.1<=2147483647/\p.2<=2147483647)/\x.gv=0/\r.length<=l.length:=by
 unfold cN at h;rcases h1:UV 1 2147483647 l with _|⟨A,g⟩
 ·rw[h1]at h;cases h
 rcases h2:UV 0 2147483647 g with _|⟨B,i⟩
 ·simp only[h1,h2,xk,Xm]at h;cases h
 rcases h3:UV 1 com i with _|⟨C,j⟩
 ·simp only[h1,h2,h3,xk,Xm]at h;cases h
 rcases h4:UV 0 2147483647 j with _|⟨D,k⟩
 ·simp only[h1,h2,h3,h4,xk,Xm]at h;cases h
 rcases h5:UV 0 2147483647 k with _|⟨E,m⟩
 ·simp only[h1,h2,h3,h4,h5,xk,Xm]at h;cases h
 rcases h6:UV 0 2147483647 m with _|⟨F,n⟩
 ·simp only[h1,h2,h3,h4,h5,h6,xk,Xm]at h;cases h
 rcases h7:UV 0 2147483647 n with _|⟨G,q⟩
 ·simp only[h1,h2,h3,h4,h5,h6,h7,xk,Xm]at h;cases h
 rcases h8:eU q with _|⟨ps,c⟩
 ·simp only[h1,h2,h3,h4,h5,h6,h7,h8,xk,Xm]at h;cases h
 simp only[h1,h2,h3,h4,h5,h6,h7,h8,xk]at h;have b:=mE h8;obtain⟨_,d,s⟩:=zv h1;obtain⟨_,e,t⟩:=zv h2;obtain⟨c3,f,u⟩:=zv h3;obtain⟨_,_,v⟩:=zv h4;obtain⟨_,_,w⟩:=zv h5;obtain⟨_,_,y⟩:=zv h6;obtain⟨_,_,z⟩:=zv h7
 cases a:(if ps.length=0 then UU c else some ((ps.map Prod.snd).sum,c)) with
 |none=>rw[a]at h;cases h
 |some gt=>
  rw[a]at h;simp only[xk]at h;split at h
  ·cases h;refine⟨rfl,d,e,⟨c3,f⟩,⟨b.1,b.2.1⟩,rfl,?_⟩
   have:gt.2.length<=c.length:=by
    split at a
    ·exact xC a
    cases a;exact xc _
   have:=b.2.2
   omega
  cases h
def xE(c:Nat):Nat->Nat->List (Option L)->List UInt8->Option (List (Option L)×List UInt8)
 |0,_,sl,l=>some (sl,l)
 |k+1,p,sl,l=>(UV (p+1) 2147483647 l).bind λa=>(cN a.1 c a.2).bind λx=>if sl.getD (x.1.place-1) none=none then xE c k a.1 (sl.set (x.1.place-1) (some x.1)) x.2 else none
def Vm:Nat->Nat->List L->Option (List L)
 |0,_,ls=>some ls
 |k+1,i,ls=>(Vo ls i).bind λls'=>Vm k (i+1) ls'
def cG(l:List UInt8):Option (List L×List UInt8) :=
 (UV 0 30 l).bind λc=>(UU c.2).bind λd=>if d.1=c.1 then (xE c.1 c.1 0 (List.replicate c.1 none) d.2).bind λr=>(Vm c.1 0 (r.1.map λo=>o.getD L0)).bind λls=>some (ls,r.2) else none
structure Sl where
 l:L
 b:Nat
 pv:Value
def Le(sq:List (Option Sl)):List Value:=sq.map λo=>.pointer (o.map λx=>(⟨x.b,0,none⟩:Addr))
def Va(sq:List (Option Sl)):List (Option L):=sq.map λo=>o.map Sl.l
structure SLt(B:Nat)(w:World)(v:Value)(sq:List (Option Sl)):Prop where
 row:w.ownsRow B 191 1 v sq.length (Le sq)
 lot:∀(i:Nat) (x:Sl),sq[i]?=some (some x)->w.heap[x.b]?=some (.cells (zn x.l x.pv) 231 (0,0))/\B<=x.b/\w.ownsRow B 234 2 x.pv x.l.par.length (zA x.l.par)
 apart:∀(i j:Nat) (x y:Sl),sq[i]?=some (some x)->sq[j]?=some (some y)->x.b=y.b->i=j
 fact:∀(i:Nat) (x:Sl),sq[i]?=some (some x)->(x.l.id<=2147483647/\x.l.gd<=2147483647/\x.l.place=i+1/\x.l.ex<=2147483647)/\(x.l.par.length<=2/\∀p∈x.l.par,p.1<=2147483647/\p.2<=2147483647)/\x.l.gv=0
structure Kt(b S:Nat)(w w':World)(l:List UInt8):Prop where
 kp:Kp (λk=>k=b\/k=S) w w'
 here:w'.heap[b]?=some (.cells #[.string (Ug l)] 225 (0,0))
def Bt(b S:Nat)(w:World)(e:Ending)(w':World):Prop:=(∃t v,e=.panicked [{ v:=.iface t v,recovered:=false }])/\Kp (λk=>k=b\/k=S) w w'
theorem Kt.rd(h:Kt b S w w' l):Rd b w' w' (Ug l):=Rd.refl h.here
theorem Kt.step(h:Kt b S w w' l)(k:Rd b w' w'' (Ug r)):Kt b S w w'' r :=
 ⟨h.kp.trans ⟨k.os,k.tape,k.output,by rw[k.size];exact xc _,λi _ a=>k.block i (λe=>a (Or.inl (Or.inl e)))⟩,k.here⟩
theorem Kt.kr(h:Kt b S w w' l)(k:Kr b w' w'' r):Kt b S w w'' r :=
 ⟨h.kp.trans (k.kp.mono (λ_ e=>Or.inl (Or.inl e))),k.here⟩
theorem Kt.after{b S:Nat}{w w' a:World}{l:List UInt8}(h:Kt b S w w' l)(k:Below w'.heap.size w' a):Kt b S w a l :=
 ⟨h.kp.after k,(k.block b (zc h.here)).trans h.here⟩
theorem Kt.refl{b S:Nat}{w:World}{l:List UInt8}(h:w.heap[b]?=some (.cells #[.string (Ug l)] 225 (0,0))):Kt b S w w l:=⟨Kp.refl _ _,h⟩
theorem Kt.gl(h:Kt b S w w' l)(f:NU<=b)(e:NU<=S)(g:Gl w):Gl w':=by
 obtain⟨⟨i,k,c⟩,⟨j,m,d⟩,n⟩:=g;have p:=h.kp.size;unfold NU at f e;refine⟨⟨i,k,(xm (a:=⟨2,0,none⟩) (h.kp.block _ (by show 2<_;omega) (by show ¬(2=b\/2=S);omega))).trans c⟩,⟨j,m,(xm (a:=⟨3,0,none⟩) (h.kp.block _ (by show 3<_;omega) (by show ¬(3=b\/3=S);omega))).trans d⟩,by omega⟩
theorem Kt.gu(h:Kt b S w w' l)(e:NU<=b)(d:NU<=S)(f:Gu w):Gu w':=by
 obtain⟨t,v,c⟩:=f;unfold NU at e d;exact⟨t,v,(xm (a:=⟨4,0,none⟩) (h.kp.block _ (bW c) (by show ¬(4=b\/4=S);omega))).trans c⟩
theorem Kt.broke{e:Ending}(h:Kt b S w w' l)(k:iB b w' e w''):Bt b S w e w'':=by
 obtain⟨d,s,a⟩:=k;exact⟨d,h.kp.trans ⟨a.os,a.tape,a.output,by rw[a.size];exact xc _,λi _ c=>a.block i (λe=>c (Or.inl (Or.inl e)))⟩⟩
theorem Kt.bk{e:Ending}(h:Kt b S w w' l)(k:Bk b w' e w''):Bt b S w e w'':=⟨k.1,h.kp.trans (k.2.mono (λ_ e=>Or.inl (Or.inl e)))⟩
theorem Je(z:Value)(n:Nat):(madeCells #[z] n).toList=List.replicate n z:=by
 apply yn
 ·simp[size_madeCells]
 intro i a b;simp[madeCells,Nat.mod_one]
theorem Nf(w:World)(B:Nat)(a:B<=w.heap.size)(e:TypeId)(z:Value)(n:Nat)(b:n<=30):(w.alloc (.cells (madeCells #[z] n) e)).ownsRow B e 1 (.slice (some ⟨w.heap.size,0,none⟩) n n) n (List.replicate n z) :=
 ⟨by simp,Or.inr ⟨w.heap.size,n,madeCells #[z] n,rfl,a,xo w _,xc _,by unfold maxLen;omega,by simp[size_madeCells],by rw[Je];simp⟩⟩
variable {sq:List (Option Sl)}
theorem SLt.keep(h:SLt B w v sq)(d:∀(k:Nat) (a:Array Value) (t:TypeId),w.heap[k]?=some (.cells a t (0,0))->t≠225->t≠117->w'.heap[k]?=w.heap[k]?):SLt B w' v sq:={
 row:=ze h.row (λg c=>by obtain⟨a,b⟩:=zi h.row c;exact d g a _ b (by decide) (by decide))
 lot:=λi x l=>by
  obtain⟨e,j,f⟩:=h.lot i x l;exact⟨(d _ _ _ e (by decide) (by decide)).trans e,j,ze f (λg c=>by obtain⟨a,b⟩:=zi f c;exact d g a _ b (by decide) (by decide))⟩
 apart:=h.apart
 fact:=h.fact}
theorem SLt.below(h:SLt B w v sq)(a:Below w.heap.size w w'):SLt B w' v sq:=h.keep (λk c t b _ _=>a.block k (zc b))
theorem SLt.kr(h:SLt B w v sq)(d:w.heap[b]?=some (.cells #[.string (Ug l)] 225 (0,0)))(k:Kr b w w' r):SLt B w' v sq:=h.keep (λz e t a c _=>k.kp.block z (zc a) (zw a d c))
theorem SLt.put{G n cap:Nat}(h:SLt B w (.slice (some ⟨G,0,none⟩) n cap) sq)(S:n=sq.length){i:Nat}(Q:i<n){x:Sl}(W:w.heap[x.b]?=some (.cells (zn x.l x.pv) 231 (0,0))/\B<=x.b/\w.ownsRow B 234 2 x.pv x.l.par.length (zA x.l.par))(q:∀(j:Nat) (y:Sl),sq[j]?=some (some y)->y.b≠x.b)
  (N:(x.l.id<=2147483647/\x.l.gd<=2147483647/\x.l.place=i+1/\x.l.ex<=2147483647)/\(x.l.par.length<=2/\∀p∈x.l.par,p.1<=2147483647/\p.2<=2147483647)/\x.l.gv=0) :
  SLt B (w.setCell ⟨G,i,none⟩ (.pointer (some ⟨x.b,0,none⟩))) (.slice (some ⟨G,0,none⟩) n cap) (sq.set i (some x)):=by
 subst S;have A:=(h.row.stored i (.pointer (some ⟨x.b,0,none⟩))).1;have f:∀(j:Nat) (y:Sl),(sq.set i (some x))[j]?=some (some y)->(j=i/\y=x)\/(j≠i/\sq[j]?=some (some y)):=λj y d=>by
  rw[Xd]at d;by_cases e:i=j
  ·subst e;rw[xe rfl,xe Q]at d;cases d;exact Or.inl ⟨rfl,rfl⟩
  rw[xg e]at d;exact Or.inr ⟨XZ e,d⟩
 obtain⟨cs,K⟩:=zi h.row (g:=G) rfl;have r:∀(k:Nat) (s:Array Value) (t:TypeId),w.heap[k]?=some (.cells s t (0,0))->t≠191->(w.setCell ⟨G,i,none⟩ (.pointer (some ⟨x.b,0,none⟩))).heap[k]?=w.heap[k]?:=λk s t R T=>xa _ _ _ _ (zw R K T)
 have m:∀(y:Sl),(w.heap[y.b]?=some (.cells (zn y.l y.pv) 231 (0,0))/\B<=y.b/\w.ownsRow B 234 2 y.pv y.l.par.length (zA y.l.par))->(w.setCell ⟨G,i,none⟩ (.pointer (some ⟨x.b,0,none⟩))).heap[y.b]?=some (.cells (zn y.l y.pv) 231 (0,0))/\B<=y.b/\(w.setCell ⟨G,i,none⟩ (.pointer (some ⟨x.b,0,none⟩))).ownsRow B 234 2 y.pv y.l.par.length (zA y.l.par):=λy d=>
  ⟨(r _ _ _ d.1 (by decide)).trans d.1,d.2.1,ze d.2.2 (λg P=>by obtain⟨z,M⟩:=zi d.2.2 P;exact r g z _ M (by decide))⟩
 refine⟨?_,λj y d=>?_,λa c X Z J u v=>?_,λj y d=>?_⟩
 ·rw[xd];have:Le (sq.set i (some x))=(Le sq).set i (.pointer (some ⟨x.b,0,none⟩)):=by simp[Le,yu]
  rw[this];exact A
 ·rcases f j y d with ⟨_,rfl⟩|⟨_,u⟩
  ·exact m _ W
  exact m _ (h.lot j y u)
 ·rcases f a X J with ⟨D,E⟩|⟨_,C⟩<;>rcases f c Z u with ⟨F,H⟩|⟨_,g2⟩
  ·rw[D,F]
  ·rw[E]at v;exact absurd v.symm (q _ _ g2)
  ·rw[H]at v;exact absurd v (q _ _ C)
  exact h.apart _ _ _ _ C g2 v
 rcases f j y d with ⟨rfl,rfl⟩|⟨_,u⟩
 ·exact N
 exact h.fact j y u
theorem PO{pv:Value}{ps:List (Nat×Nat)}(h:w.ownsRow B 234 2 pv ps.length (zA ps)):Par w pv ps:=by
 rcases h.2 with ⟨d,e⟩|⟨g,cap,a,d,e,f,l,m,n,i⟩
 ·exact Or.inl ⟨d,Xn.1 e⟩
 refine Or.inr ⟨g,cap,a,d,f,λj k=>?_⟩;obtain⟨b,c⟩:=qE ps j k;rw[<-i,xbf]at b c;rw[xe (by omega)]at b c;rw[xaz 2 j];exact⟨by simpa using b,by simpa using c⟩
theorem DF{α:Type}:∀(l:List (Option α)),l.countP Option.isSome=l.length->∃xs:List α,l=xs.map some
 |[],_=>⟨[],rfl⟩
 |none::l,h=>by
  have:=List.countP_le_length (p:=Option.isSome) (l:=l)
  simp at h;omega
 |some x::l,h=>by
  obtain⟨xs,rfl⟩:=DF l (by simpa using h);exact⟨x::xs,rfl⟩
theorem OL{α:Type}{l:List (Option α)}{i:Nat}(a:i<l.length)(h:l.getD i none=none)(x:α):(l.set i (some x)).countP Option.isSome=l.countP Option.isSome+1:=by
 rw[List.countP_set a];have:l[i]=none:=by simpa [Uv,a] using h
 simp[this]
theorem SLt.done{xs:List Sl}(h:SLt B w v (xs.map some))(r:w.cell? ⟨S,1,none⟩=some v)(y:xs.length<=30):PW 0 w S v (xs.map Sl.b) (xs.map Sl.pv) (xs.map Sl.l):=by
 have k:∀i,i<xs.length->∃x,(xs.map some)[i]?=some (some x)/\x∈xs/\(xs.map Sl.b).getD i 0=x.b/\(xs.map Sl.pv).getD i default=x.pv/\(xs.map Sl.l).getD i L0=x.l:=λi a=>⟨xs[i],by simp[a],yb a,by simp[Uv,a],by simp[Uv,a],by simp[Uv,a]⟩
 have p:∀l∈xs.map Sl.l,∃i x,(xs.map some)[i]?=some (some x)/\i<xs.length/\x.l=l:=λl d=>by
  obtain⟨x,k,rfl⟩:=Xg.1 d;obtain⟨i,a,rfl⟩:=xt k;exact⟨i,xs[i],by simp[a],a,rfl⟩
 refine⟨r,?_,by simp,by simp,λi a=>?_,λi a=>?_,?_,λl d=>?_,λl d=>?_,λl d=>?_,by simpa using y⟩
 ·have q:=fT h.row (Nat.zero_le B);rw[Xl]at q ⊢;have:bZ (xs.map Sl.b)=Le (xs.map some):=by simp[bZ,Le]
  rw[this];exact q
 ·obtain⟨x,c,_,e,m,n⟩:=k i (by simpa using a);rw[e,m,n];exact(h.lot i x c).1
 ·obtain⟨x,c,_,e,m,n⟩:=k i (by simpa using a);rw[m,n];exact PO (h.lot i x c).2.2
 ·show List.Pairwise (·≠·) _;rw[Xz];intro i j a u t s;have g:j<xs.length:=by simpa using u
  have f:i<xs.length:=by omega
  have:=h.apart i j xs[i] xs[j] (by simp[f]) (by simp[g]) (by simpa [f,g] using s)
  omega
 ·obtain⟨i,x,c,e,rfl⟩:=p l d;have:=(h.fact i x c).1;exact⟨this.1,this.2.1,by omega,this.2.2.2⟩
 ·obtain⟨i,x,c,e,rfl⟩:=p l d;exact(h.fact i x c).2.1
 obtain⟨i,x,c,e,rfl⟩:=p l d;rw[(h.fact i x c).2.2];exact xc _
def Sb(w:World)(S td:Nat)(v:Value)(M:Mx):Prop:=w.heap[S]?=some (.cells #[.int .i64 td,v,.map (some M.o),.map (some M.h),.map (some M.r)] 117 (0,0))
def Ll(b S td:Nat)(M:Mx)(w:World)(X:Option (List L×List UInt8))(e:Ending)(w':World):Prop:=match X with
 |some (ls,r)=>e=.returned (.tuple #[])/\(∃v bs pvs,PW 128849018820 w' S v bs pvs ls/\Sb w' S td v M/\(∀k∈bs,w.heap.size<=k)/\(∀pv∈pvs,∀q,pv.ownBlock=some q->w.heap.size<=q)/\(∀g,v.ownBlock=some g->w.heap.size<=g))/\Kt b S w w' r
 |none=>Bt b S w e w'
theorem Bb(b S:Nat)(hb:NU<=b)(hS:NU<=S)(l:List UInt8)(hl:l.length<=1000000000)(w:World)(hg:Gl w)(hu:Gu w)(hr:w.heap[b]?=some (.cells #[.string (Ug l)] 225 (0,0)))(td:Nat)(v0:Value)(M:Mx)(hs:Sb w S td v0 M):Calls prog 177 #[.pointer (some ⟨S,0,none⟩),.pointer (some ⟨b,0,none⟩)] w (Ll b S td M w (cG l)):=by
 obtain⟨X,HX⟩:=UM (cG l);rw[<-HX.o];obtain⟨i0,hi,l8,l9,m0⟩:=XH NV;have HU:=zb Th;have k0:Kt b S w w l:=Kt.refl hr;have k9:=zc hr;have i4:=zb hs;have b1:S≠b:=λe=>by rw[<-e]at hr;unfold Sb at hs;rw[hs]at hr;cases hr
 go_enter func177,ntmps177;go_wp2_with fail;refine(ZA b hb l hl 0 30 (by omega) (by omega) w hg hu (Rd.refl hr)).mono ?_
 intro e w1 s;rcases h1:UV 0 30 l with _|⟨n,r1⟩
 ·rw[h1]at s;obtain⟨t,v,rfl⟩:=s.1;refine⟨rfl,?_⟩;show Ll b S td M w X _ _;rw[show X=none by rw[HX.o];unfold cG;simp only[h1,Xm]];exact k0.broke s
 rw[h1]at s;obtain⟨rfl,e0⟩:=s;have k1:=k0.step e0;obtain⟨_,d0,l3⟩:=zv h1;have h3:Sb w1 S td v0 M:=(e0.block S b1).trans hs;clear e0;go_wp2_with fail;refine(qV b hb r1 (by omega) w1 (k1.gl hb hS hg) k1.rd).mono ?_
 intro e w2 s;rcases P:UU r1 with _|⟨d,r2⟩
 ·rw[P]at s;obtain⟨t,v,rfl⟩:=s.1;refine⟨rfl,?_⟩;show Ll b S td M w X _ _;rw[show X=none by rw[HX.o];unfold cG;simp only[h1,P,xk,Xm]];exact k1.broke s
 rw[P]at s;obtain⟨rfl,e1⟩:=s;have k2:=k1.step e1;have c7:Sb w2 S td v0 M:=(e1.block S b1).trans h3;have b2:=xC P;have k7:d<9223372036854775808:=by
  unfold UU at P;split at P
  ·cases P
  cases P;exact Pl.fst_lt _
 clear e1 hs h3 k0 k1;by_cases a6:d=n
 ·have a5:Ha (X=(xE n n 0 (List.replicate n none) r2).bind λr=>(Vm n 0 (r.1.map λo=>o.getD L0)).bind λls=>some (ls,r.2)):=by
   unfold Ha;rw[HX.o];unfold cG;simp only[h1,P,xk];rw[xe a6]
  have j3:=aO a6;clear a6;go_wp2_with fail;refine(zM true w2 (k2.gu hb hS hu)).mono ?_
  rintro _ wz ⟨rfl,s⟩;rw[xe rfl]at s;subst s;have f1:=zf c7 1;have l5:∀w:World,(Instr.makeSlice 115 (.int .i64 n) (.int .i64 n)).run prog w=.ok (.slice (some ⟨w.heap.size,0,none⟩) n n) (w.alloc (.cells (madeCells #[.pointer none] n) 191)):=λw=>run_make_row' 115 191 (.pointer none) 8 Th NV rfl .i64 .i64 n (by omega) (by omega) w
  have hB:=TZ wz (.cells (madeCells #[.pointer none] n) 191);have R:=Nf wz w.heap.size k2.kp.size 191 (.pointer none) n d0;have k3:=k2.after hB;have b4:Sb (wz.alloc (.cells (madeCells #[.pointer none] n) 191)) S td v0 M:=(hB.block S (zc c7)).trans c7;have f1:=zf b4 1;have c1:(wz.alloc (.cells (madeCells #[.pointer none] n) 191)).cell? ⟨S,1,none⟩=some v0:=by rw[za b4];rfl
  obtain⟨G,hG⟩:∃G,G=wz.heap.size:=⟨_,rfl⟩
  have HG:=zb hG;have h4:=xq _ S 1 _ 117 (.slice (some ⟨wz.heap.size,0,none⟩) n n) b4;have g2:Ha (Sb ((wz.alloc (.cells (madeCells #[.pointer none] n) 191)).setCell ⟨S,1,none⟩ (.slice (some ⟨wz.heap.size,0,none⟩) n n)) S td (.slice (some ⟨G,0,none⟩) n n) M):=by rw[hG];exact h4
  have f0:Ha (Kt b S w ((wz.alloc (.cells (madeCells #[.pointer none] n) 191)).setCell ⟨S,1,none⟩ (.slice (some ⟨wz.heap.size,0,none⟩) n n)) r2):=⟨k3.kp.setCell (p:=⟨S,1,none⟩) (Or.inl (Or.inr rfl)) _,(xa _ _ _ _ (XZ b1)).trans k3.here⟩
  have f3:Ha (SLt w.heap.size ((wz.alloc (.cells (madeCells #[.pointer none] n) 191)).setCell ⟨S,1,none⟩ (.slice (some ⟨wz.heap.size,0,none⟩) n n)) (.slice (some ⟨G,0,none⟩) n n) (List.replicate n none)):=by
   have h0:SLt w.heap.size (wz.alloc (.cells (madeCells #[.pointer none] n) 191)) (.slice (some ⟨G,0,none⟩) n n) (List.replicate n none):=by
    have e5:∀(i:Nat) (x:Sl),(List.replicate n (none:Option Sl))[i]?=some (some x)->False:=λi x hx=>by
     have:=List.mem_of_getElem? hx
     simp at this
    refine⟨?_,λi x hx=>(e5 i x hx).elim,λi j x y hx=>(e5 i x hx).elim,λi x hx=>(e5 i x hx).elim⟩;rw[hG,xaJ];have:Le (List.replicate n none)=List.replicate n (.pointer none):=by simp[Le]
    rw[this];exact R
   exact h0.keep (λk cs t hk _ ht=>xa _ _ _ _ (zw hk b4 ht))
  clear i4 hr R k2 k3 hB b4 c7 h4 hG h1 P HX;obtain⟨Z,HZ⟩:=UM (xE n n 0 (List.replicate n none) r2);rw[<-HZ.o]at a5;go_wp2_with fail;go_loopw [5,6,22] (λnv _ ii wr=>∃(k p:Nat) (A:List (Option Sl)) (q:List UInt8),ii=.int .i64 k/\k<=n/\nv=.int .i64 p/\p<=2147483647/\A.length=n/\(Va A).countP Option.isSome=k/\q.length<=1000000000/\Sb wr S td (.slice (some ⟨G,0,none⟩) n n) M/\SLt w.heap.size wr (.slice (some ⟨G,0,none⟩) n n) A/\Kt b S w wr q/\xE n (n-k) p (Va A) q=Z) (λ_ _ ii _=>n-(intOf ii).toNat)
  case atStart=>exact⟨0,0,List.replicate n none,r2,rfl,by omega,rfl,by omega,by simp,by simp[Va,List.countP_replicate],by omega,g2,f3,f0,by rw[xbd];simpa [Va] using HZ.symm⟩
  clear g2 f0 f3;obtain⟨k,p,A,q,rfl,hk,rfl,hp,D,a4,j8,H,a1,C,hZ⟩:=hrel;by_cases l4:k<n
  ·have b7:Ha ((UV (p+1) 2147483647 q).bind (λa=>(cN a.1 n a.2).bind λx=>if (Va A).getD (x.1.place-1) none=none then xE n (n-(k+1)) a.1 ((Va A).set (x.1.place-1) (some x.1)) x.2 else none)=Z):=by
    unfold Ha;rw[<-hZ,show n-k=(n-(k+1))+1 by omega];rfl
   clear hZ;have HA:=zb (iC b hb q j8 p hp wr (C.gl hb hS hg) (C.gu hb hS hu) C.rd);have f:=zb H;have c8:=zb a1;have c:=zb C;clear H a1 C;go_wp2_with fail;refine HA.mono ?_
   intro e w5 s;rcases h5:UV (p+1) 2147483647 q with _|⟨num,q5⟩
   ·rw[h5]at s;obtain⟨t,v,rfl⟩:=s.1;refine⟨rfl,?_⟩;show Ll b S td M w X _ _;rw[show X=none by rw[a5.o,<-b7.o,h5];rfl];exact c.broke s
   rw[h5]at s;obtain⟨rfl,c5⟩:=s;obtain⟨_,d1,l6⟩:=zv h5;have k5:=c.step c5;have e7:Sb w5 S td (.slice (some ⟨G,0,none⟩) n n) M:=(c5.block S b1).trans f;have e2:=c8.kr c.here ((Kr.refl c.here).step c5);clear HA f c8 c c5;go_wp2_with fail;refine(Dc b hb num n d1 d0 q5 (by omega) w5 (k5.gl hb hS hg) (k5.gu hb hS hu) k5.here).mono ?_
   intro e N s;rcases h6:cN num n q5 with _|⟨x,q6⟩
   ·rw[h6]at s;have g7:Bk b w5 e N:=s;obtain⟨t,v,rfl⟩:=g7.1;refine⟨rfl,?_⟩;show Ll b S td M w X _ _;rw[show X=none by rw[a5.o,<-b7.o,h5];simp only[xk,h6,Xm]];exact k5.bk g7
   rw[h6]at s;obtain⟨⟨T,pv,rfl,g9,e6,g8⟩,c6⟩:=s;have b5:=qU h6;have k6:=k5.kr c6;have e8:Sb N S td (.slice (some ⟨G,0,none⟩) n n) M:=(c6.kp.block S (zc e7) b1).trans e7;have e3:=e2.kr k5.here c6;have b8:Ha ((if (Va A).getD (x.place-1) none=none then xE n (n-(k+1)) num ((Va A).set (x.place-1) (some x)) q6 else none)=Z):=by unfold Ha;rw[<-b7.o,h5];simp only[xk,h6]
   obtain⟨i,HI⟩:=UM (x.place-1);have a7:i<n:=by rw[HI.o];omega
   have f7:Ha (x.place=i+1):=by unfold Ha;rw[HI.o];omega
   rw[<-HI.o]at b8;have s1:N.cell? ⟨S,1,none⟩=some (.slice (some ⟨G,0,none⟩) n n):=by rw[za e8];rfl
   have x3:N.cell? ⟨T,3,none⟩=some (.int .i64 ((i:Int)+1)):=by
    rw[za e6];show some (Value.int .i64 x.place)=_;rw[f7.o];rfl
   have a9:=zb k6;have d5:=zb e8;have b0:=zb e3;have g1:=zb e6;have f8:=zb (fT g8 k5.kp.size);have g0:Ha (w5.heap.size<=T):=g9;have f4:=zb e2;have i7:=zb k5.kp.size;have B:N.cell? ⟨G,i,none⟩=some (.pointer ((A.getD i none).map λx=>(⟨x.b,0,none⟩:Addr))):=by
    have F:=e3.row;rw[D]at F;rw[F.cellAt i (by omega)];simp[Le,Uv,show i<A.length by rw[D];exact a7]
   have f6:Ha (Calls prog 175 #[.bool true] N.drew λe w'=>w'=N.drew/\e=.returned (.tuple #[])):=by
    refine(zM true _ (show Gu N.drew from k6.gu hb hS hu)).mono ?_
    rintro e w' ⟨h1,P⟩;rw[xe rfl]at P;exact⟨h1,P⟩
   have f5:Ha (Calls prog 175 #[.bool false] N.drew λe w'=>w'=N.drew/\∃t v,e=.panicked [{ v:=.iface t v,recovered:=false }]):=by
    refine(zM false _ (show Gu N.drew from k6.gu hb hS hu)).mono ?_
    rintro e w' ⟨h1,P⟩;rw[xg (by simp)]at P;exact⟨h1,P⟩
   clear k5 k6 e8 e3 e7 e2 e6 g8 c6 h5 h6 b7 g9
   cases ho:A.getD i none with
   |none=>
    rw[ho]at B;have u:N.cell? ⟨G,i,none⟩=some (.pointer none):=B;have k4:=s1;have m1:=x3;clear B;go_wp2_with fail;obtain⟨Q,E⟩:∃Q:World->Prop,∀w',Q w'↔(w'.cell? ⟨S,1,none⟩=some (.slice (some ⟨G,0,none⟩) n n)/\w'.cell? ⟨T,3,none⟩=some (.int .i64 ((i:Int)+1))/\w'.cell? ⟨G,i,none⟩=some (.pointer none)):=⟨_,λ_=>YE⟩
    have z0:∀x:Wd Q,x.w.cell? ⟨S,1,none⟩=some (.slice (some ⟨G,0,none⟩) n n):=λx=>((E _).1 x.h).1
    have z1:∀x:Wd Q,x.w.cell? ⟨T,3,none⟩=some (.int .i64 ((i:Int)+1)):=λx=>((E _).1 x.h).2.1
    have z2:∀x:Wd Q,x.w.cell? ⟨G,i,none⟩=some (.pointer none):=λx=>((E _).1 x.h).2.2
    have a0:Q N.drew:=(E _).2 ⟨s1,x3,u⟩;clear E s1 x3 u;haveI hinh:Inhabited (Wd Q):=⟨⟨_,a0⟩⟩
    refine zq (n:=8) (m:=1) 12 12 (λw'=>∃x:Wd Q,w'=x.w) (by kernel_rfl) (by kernel_rfl) (λ_ _ d _ _ h=>by cases d<;>exact h) (by kernel_rfl) (by kernel_rfl) rfl rfl ⟨⟨_,a0⟩,rfl⟩ ?_
    clear a0;dsimp only[List.take];repeat (go_big_quiet_step (fail))
    refine XJ ?_
    refine zR (i:=12) (by kernel_rfl) rfl rfl (λK hK=>?_);go_wp2_with (go_at_call 175;refine f6.mono ?_;rintro _ w7 ⟨rfl,rfl⟩);refine hK _ _ (by first|exact Or.inl rfl|exact Or.inl trivial|trivial) ?_
    refine Z9 (by kernel_rfl) ?_
    clear hK z0 z1 z2;have i6:Ha (SLt w.heap.size (N.setCell ⟨G,i,none⟩ (.pointer (some ⟨T,0,none⟩))) (.slice (some ⟨G,0,none⟩) n n) (A.set i (some ⟨x,T,pv⟩))):=by
     refine b0.put D.symm a7 (x:=⟨x,T,pv⟩) ⟨g1,xj i7 g0,f8⟩ (λj y hy e=>?_) ⟨⟨by show x.id<=_;omega,b5.2.1,f7,b5.2.2.1⟩,b5.2.2.2.2.1,b5.2.2.2.2.2.1⟩;have h1:=zc (f4.lot j y hy).1;have P:y.b=T:=e;have:=g0.o;omega
    obtain⟨k8,b9⟩:=zi b0.row (g:=G) rfl;have d2:Ha (w.heap.size<=G):=(b0.row.lt G rfl).1;have i5:Ha (Sb (N.setCell ⟨G,i,none⟩ (.pointer (some ⟨T,0,none⟩))) S td (.slice (some ⟨G,0,none⟩) n n) M):=(xa _ _ _ _ (zw d5 b9 (by decide))).trans d5;have i1:Ha (Kt b S w (N.setCell ⟨G,i,none⟩ (.pointer (some ⟨T,0,none⟩))) q6):=⟨a9.kp.setCell (p:=⟨G,i,none⟩) (Or.inr d2) _,(xa _ _ _ _ (zw a9.here b9 (by decide))).trans a9.here⟩
    have l1:=zf b9 i;have s1:N.cell? ⟨S,1,none⟩=some (.slice (some ⟨G,0,none⟩) n n):=k4;have l0:N.cell? ⟨G,i,none⟩=some (.pointer none):=by
     have F:=b0.row;rw[D]at F;rw[F.cellAt i (by omega)];have g6:i<A.length:=by rw[D];exact a7
     simp only[Uv,xi g6,Xw]at ho;simp[Le,g6,ho]
    have d4:Ha (Va (A.set i (some ⟨x,T,pv⟩))=(Va A).set i (some x)):=by simp[Ha,Va,yu]
    have d3:Ha ((Va A).getD i none=none):=by
     have:(Va A).getD i none=(A.getD i none).map Sl.l:=by
      simp[Va,Uv,show i<A.length by rw[D];exact a7]
     rw[Ha,this,ho];rfl
    have h9:Ha ((Va (A.set i (some ⟨x,T,pv⟩))).countP Option.isSome=k+1):=by
     rw[Ha,d4.o,OL (by simp[Va,D,a7]) d3.o,a4]
    have j0:Ha (xE n (n-(k+1)) num (Va (A.set i (some ⟨x,T,pv⟩))) q6=Z):=by
     rw[Ha,d4.o,<-b8.o,xe d3.o]
    have l7:=b5.2.2.2.2.2.2;clear f6 f5 b0 d5 a9 g1 f8 f4 d4 d3 b8 b9 ho a4;go_wp2_with fail;go_region;go_wp2_with fail;go_roundw
    case rel=>exact⟨k+1,num,A.set i (some ⟨x,T,pv⟩),q6,by go_num,by omega,rfl,d1,by rw[xd];exact D,h9,by omega,i5,i6.below ((xh _ _).drew.drew),i1.after ((xh _ _).drew.drew),j0⟩
    simp[intOf];omega
   |some y=>
    rw[ho]at B;have u:N.cell? ⟨G,i,none⟩=some (.pointer (some ⟨y.b,0,none⟩)):=B;have d8:Ha (X=none):=by
     unfold Ha;rw[a5.o,<-b8.o,xg]
     ·rfl
     intro hc;have:(Va A).getD i none=(A.getD i none).map Sl.l:=by
      simp[Va,Uv,show i<A.length by rw[D];exact a7]
     rw[this,ho]at hc
     cases hc
    clear B;go_wp2_with fail;obtain⟨Q,E⟩:∃Q:World->Prop,∀w',Q w'↔(w'.cell? ⟨S,1,none⟩=some (.slice (some ⟨G,0,none⟩) n n)/\w'.cell? ⟨T,3,none⟩=some (.int .i64 ((i:Int)+1))/\w'.cell? ⟨G,i,none⟩=some (.pointer (some ⟨y.b,0,none⟩))):=⟨_,λ_=>YE⟩
    have z0:∀x:Wd Q,x.w.cell? ⟨S,1,none⟩=some (.slice (some ⟨G,0,none⟩) n n):=λx=>((E _).1 x.h).1
    have z1:∀x:Wd Q,x.w.cell? ⟨T,3,none⟩=some (.int .i64 ((i:Int)+1)):=λx=>((E _).1 x.h).2.1
    have z2:∀x:Wd Q,x.w.cell? ⟨G,i,none⟩=some (.pointer (some ⟨y.b,0,none⟩)):=λx=>((E _).1 x.h).2.2
    have a0:Q N.drew:=(E _).2 ⟨s1,x3,u⟩;clear E s1 x3 u;haveI hinh:Inhabited (Wd Q):=⟨⟨_,a0⟩⟩
    refine zq (n:=8) (m:=1) 12 12 (λw'=>∃x:Wd Q,w'=x.w) (by kernel_rfl) (by kernel_rfl) (λ_ _ d _ _ h=>by cases d<;>exact h) (by kernel_rfl) (by kernel_rfl) rfl rfl ⟨⟨_,a0⟩,rfl⟩ ?_
    clear a0;dsimp only[List.take];repeat (go_big_quiet_step (fail))
    refine XJ ?_
    refine zR (i:=12) (by kernel_rfl) rfl rfl (λK hK=>?_);go_wp2_with (go_at_call 175;refine f5.mono ?_;rintro _ w7 ⟨rfl,t,v,rfl⟩);refine⟨rfl,?_⟩;show Ll b S td M w X _ _;rw[d8.o];exact⟨⟨t,v,rfl⟩,(a9.after ((xh _ _).drew)).kp⟩
  have j5:k=n:=by omega
  subst j5;rw[YM]at hZ;obtain⟨xs,j9⟩:=DF A (by
   have:(Va A).countP Option.isSome=A.countP Option.isSome:=by
    simp only[Va,List.countP_map];congr 1;funext o;cases o<;>rfl
   rw[<-this,a4,D])
  subst j9;have e9:xs.length=k:=by simpa using D
  have d7:Ha (X=(Vm k 0 (xs.map Sl.l)).bind λls=>some (ls,q)):=by
   rw[Ha,a5.o,<-hZ,xE];simp only[xk];congr 2;simp[Va]
  have s1:wr.cell? ⟨S,1,none⟩=some (.slice (some ⟨G,0,none⟩) k k):=by rw[za H];rfl
  have W:Ha (PW 0 wr S (.slice (some ⟨G,0,none⟩) k k) (xs.map Sl.b) (xs.map Sl.pv) (xs.map Sl.l)):=a1.done s1 (by omega);have d2:Ha (w.heap.size<=G):=(a1.row.lt G rfl).1;have b6:Ha (∀z∈xs.map Sl.b,w.heap.size<=z):=λz hz=>by
   obtain⟨x,hx,rfl⟩:=Xg.1 hz;obtain⟨i,hi,rfl⟩:=xt hx;exact(a1.lot i xs[i] (by simp[hi])).2.1
  have i3:Ha (∀pv∈xs.map Sl.pv,∀q,pv.ownBlock=some q->w.heap.size<=q):=λpv j7 q hq=>by
   obtain⟨x,hx,rfl⟩:=Xg.1 j7;obtain⟨i,hi,rfl⟩:=xt hx;exact((a1.lot i xs[i] (by simp[hi])).2.2.lt q hq).1
  have f:=zb H;have c:=zb C;have g5:(xs.map Sl.b).length=k:=by simpa using e9
  have j6:(xs.map Sl.l).length=k:=by simpa using e9
  clear a1 H C hZ a4 a5 HZ D e9;generalize xs.map Sl.b=bs at *;generalize xs.map Sl.pv=pvs at *;generalize xs.map Sl.l=ls at *;obtain⟨Y,HY⟩:=UM (Vm k 0 ls);rw[<-HY.o]at d7;go_wp2_with fail;go_loopw [8,61] (λ_ ii wr=>∃(i:Nat) (a2:List L),ii=.int .i64 i/\i<=k/\a2.length=k/\PW (i*4294967294) wr S (.slice (some ⟨G,0,none⟩) k k) bs pvs a2/\Sb wr S td (.slice (some ⟨G,0,none⟩) k k) M/\Kt b S w wr q/\Vm (k-i) i a2=Y) (λ_ ii _=>k-(intOf ii).toNat)
  case atStart=>exact⟨0,ls,rfl,by omega,j6,by rw[Nat.zero_mul];exact W,f,c,by rw[xbd];exact HY.symm⟩
  clear W f c s1;obtain⟨i,a2,rfl,l2,b2,a8,H,C,hY⟩:=hrel;by_cases c9:i<k
  ·have d6:=zb (Kq a8 (by omega) i (by rw[b2];exact c9) (C.gu hb hS hu) (λz hz e=>by
    have h1:=b6.o z hz;unfold NU at hb;omega))
   have d9:Ha ((Vo a2 i).bind (λls'=>Vm (k-(i+1)) (i+1) ls')=Y):=by
    unfold Ha;rw[<-hY,show k-i=(k-(i+1))+1 by omega];rfl
   obtain⟨a,cap,hv,R⟩:=a8.shape;obtain⟨G',g4,a3⟩:=R (by rw[b2];omega);have j2:=a3 i (by rw[b2];exact c9);rw[g4]at hv;have j1:G'=G:=by cases hv;rfl
   subst j1;have W:=zb a8;have f:=zb H;have c:=zb C;obtain⟨bi,h7⟩:=UM (bs.getD i 0);rw[<-h7.o]at j2 d6;clear a8 H C hY R a3 g4 hv;go_wp2_with fail;refine d6.mono ?_
   intro e w8 s
   cases h8:Vo a2 i with
   |none=>
    rw[h8]at s;obtain⟨⟨t,v,rfl⟩,J⟩:=s;refine⟨rfl,?_⟩;show Ll b S td M w X _ _;rw[show X=none by rw[d7.o,<-d9.o,h8];rfl];exact⟨⟨t,v,rfl⟩,c.kp.trans (J.mono (λz hz=>Or.inr (b6 z hz)))⟩
   |some ls3=>
    rw[h8]at s;obtain⟨rfl,b3,J⟩:=s;have e4:∀z cs t,wr.heap[z]?=some (.cells cs t (0,0))->t≠231->z ∉ bs:=λz cs t hz ht s=>by
     obtain⟨j,hj,rfl⟩:=xt s;have:=W.lot j (by rw[b2,<-g5];exact hj);simp only[Uv,xi hj,Xw]at this;exact zw hz this ht rfl
    have g3:Ha (Sb w8 S td (.slice (some ⟨G',0,none⟩) k k) M):=(J.block S (zc f) (e4 S _ _ f (by decide))).trans f;have f2:Ha (Kt b S w w8 q):=⟨c.kp.trans (J.mono (λz hz=>Or.inr (b6 z hz))),(J.block b (zc c.here) (e4 b _ _ c.here (by decide))).trans c.here⟩
    have i2:Ha (ls3.length=k):=by rw[Ha,<-b3.len,g5]
    have f9:=zb b3;have i9:Ha (Vm (k-(i+1)) (i+1) ls3=Y):=by rw[Ha,<-d9.o,h8];rfl
    clear b3 J h8 d6 W f c d9 e4;go_wp2_with fail;go_roundw
    case rel=>exact⟨i+1,ls3,by go_num,by omega,i2,by rw[Nat.succ_mul];exact f9,g3,f2,i9⟩
    simp[intOf];omega
  have j4:i=k:=by omega
  subst j4;rw[YM]at hY;have i8:Ha (X=some (a2,q)):=by rw[Ha,d7.o,<-hY];rfl
  have W:=zb a8;have f:=zb H;have c:=zb C;clear a8 H C hY;go_wp2_with fail;go_end0;show Ll b S td M w X _ _;rw[i8.o];have p:=W.o;exact⟨rfl,⟨_,bs,pvs,⟨p.c1,p.row,p.len,p.plen,p.lot,p.par,p.nodup,p.ids,p.pars,λl hl=>xj (p.giv l hl) (by omega),p.room⟩,f,b6,i3,λg hg=>by cases hg;exact d2⟩,c⟩
 have j3:=ZG a6;have d8:Ha (X=none):=by
  unfold Ha;rw[HX.o];unfold cG;simp only[h1,P,xk];rw[xg a6]
 clear a6;go_wp2_with fail;refine(zM false w2 (k2.gu hb hS hu)).mono ?_
 rintro _ wz ⟨rfl,s⟩;rw[xg (by simp)]at s;obtain⟨t,v',rfl⟩:=s;refine⟨rfl,?_⟩;show Ll b S td M w X _ _;rw[d8.o];exact⟨⟨t,v',rfl⟩,k2.kp⟩
