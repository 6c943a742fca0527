import Derived.Test.YtgcedalggnmooaaGreatDoorFaX
import Derived.Test.YtgcedalggnmooaaGreatDoorRepX
import Derived.StillTailTactics
import Derived.Deep.OwnRows
set_option linter.all false
set_option maxRecDepth 100000
set_option maxHeartbeats 6400000
namespace Go.Proofs.YtgcedalggnmooaaGreatDoor
open Go.RowKit
open Value renaming int->V,slice->ve,pointer->vf,string->vi
open IntKind renaming i64->U
open Option renaming none->vb,some->vd
open Obj renaming cells->vg
open Ending renaming returned->vh
open Tryz
structure PW(N:Nat)(w:World)(S:Nat)(v:Value)(bs:List Nat)(pvs:List Value)(ls:List L):Prop where
 c1:w.cell? ⟨S,1,vb⟩=vd v
 row:w.ownsRow 0 191 1 v bs.length (aW bs)
 len:bs.length=ls.length
 plen:pvs.length=ls.length
 lot:∀i,i<ls.length->w.heap[bs.getD i 0]?=vd (vg (zm (ls.getD i L0) (pvs.getD i default)) 231 (0,0))
 par:∀i,i<ls.length->Par w (pvs.getD i default) (ls.getD i L0).par
 nodup:bs.Nodup
 ids:∀l∈ls,l.id<=2147483647/\l.gd<=2147483647/\l.place<=30/\l.ex<=2147483647
 pars:∀l∈ls,l.par.length<=2/\∀p∈l.par,p.1<=2147483647/\p.2<=2147483647
 giv:∀l∈ls,l.gv<=N
 room:ls.length<=30
variable {B N S b:Nat}{bs:List Nat}{ls:List L}{pvs:List Value}{v:Value}{w w' w'':World}
def PW.shape(h:PW N w S v bs pvs ls):∃a cap,v=ve a ls.length cap/\(0<ls.length->∃G,a=vd ⟨G,0,vb⟩/\∀i,i<ls.length->w.cell? ⟨G,i,vb⟩=vd (vf (vd ⟨bs.getD i 0,0,vb⟩))):=by
 obtain⟨a,cap,d⟩:=zM h.row;refine⟨a,cap,by rw[<-h.len];exact d,λk=>?_⟩;obtain⟨g,e,b,_,_⟩:=zG h.row (by rw[h.len];exact k);rw[d]at b
 cases b;refine⟨g,rfl,λi j=>?_⟩
 have f:=h.row;rw[d]at f;rw[f.cellAt i (by rw[h.len];omega)];have c:i<bs.length:=by rw[h.len];exact j
 simp[aW,WI,c]
def PW.cl(h:PW N w S v bs pvs ls)(i:Nat)(a:i<ls.length)(j:Nat):w.cell? ⟨bs.getD i 0,j,vb⟩=(zm (ls.getD i L0) (pvs.getD i default))[j]?:=za (h.lot i a) j
def qB(h:PW N w S v bs pvs ls)(n:Nat)(H:n<=2147483647):Calls prog 148 #[vf (vd ⟨S,0,vb⟩),V U n] w λe w'=>e=vh (zJ bs ls n)/\w'=w:=by
 obtain⟨a,cap,C,f⟩:=h.shape;have c1:=h.c1;rw[C]at c1;have y:=h.room;have A:=zb h;clear h C;go_enter func148,ntmps148;go_wp2_with fail;go_loop [6,12] (λ_ i=>∃k:Nat,k<=ls.length/\i=V U k/\(∀j,j<k->(ls.getD j L0).id≠n)) (λ_ i=>ls.length-(intOf i).toNat)
 case atStart=>exact⟨0,by omega,rfl,λj h=>absurd h (by omega)⟩
 obtain⟨k,F,rfl,g⟩:=hrel;by_cases d:k<ls.length
 ·obtain⟨G,B,c⟩:=f (by omega);rw[B];have s:=c k d;have p:w.cell? ⟨bs.getD k 0,0,vb⟩=vd (V U ((ls.getD k L0).id:Int)):=by rw[A.o.cl k d 0];rfl
  have t:(ls.getD k L0).id<=2147483647:=(A.ids _ (zf d)).1;obtain⟨m,r⟩:=Xc ((ls.getD k L0).id);obtain⟨b,z⟩:=Xc (bs.getD k 0);rw[<-r.o]at p t;rw[<-z.o]at p s;clear c B f;by_cases l:m=n
  ·have x:((m:Int)==(n:Int))=true:=aV l;have q:Ha (zJ bs ls n=vf (vd ⟨b,0,vb⟩)):=by
    have:=eR d g (by rw[<-r.o];exact l)
    unfold Ha zJ;rw[this,xh d,<-z.o]
   clear l;go_wp2_with fail;go_ret;exact⟨by rw[q.o];rfl,rfl⟩
  have x:((m:Int)==(n:Int))=false:=ZX l;have D:=zb l;clear l;go_wp2_with fail;go_round
  case rel=>
   refine⟨k+1,by omega,by go_num,?_⟩;intro j E;by_cases u:j=k
   ·subst u;rw[<-r.o];exact D
   exact g j (by omega)
  simp[intOf];omega
 obtain rfl:k=ls.length:=by omega
 have q:Ha (zJ bs ls n=vf vb):=by
  have:=xA g
  unfold Ha zJ;rw[this,xg (by omega)]
 clear f d;go_wp2_with fail;go_ret;exact⟨by rw[q.o];rfl,rfl⟩
def WL(l:L)(n:Nat):L:={ l with gv:=l.gv+n }
def XH(l:L):List (Nat×Nat)->Nat->List L->Option (List L×Nat)
 |[],e,ls=>vd (ls,e)
 |p::ps,e,ls=>if WO p.1 ls<ls.length/\(ls.getD (WO p.1 ls) L0).gd=l.gd/\(ls.getD (WO p.1 ls) L0).place<l.place then XH l ps (min e (ls.getD (WO p.1 ls) L0).ex) (ls.set (WO p.1 ls) (WL (ls.getD (WO p.1 ls) L0) p.2)) else vb
def XI(ls:List L)(i:Nat):Option (List L) :=
 if (ls.getD i L0).par.length=0 then vd ls else (XH (ls.getD i L0) (ls.getD i L0).par 2147483647 ls).bind λr=>if (ls.getD i L0).ex=r.2 then vd r.1 else vb
def PW.below(h:PW N w S v bs pvs ls)(b:Below w.heap.size w w'):PW N w' S v bs pvs ls:={
 c1:=(b.cell (p:=⟨S,1,vb⟩) (cD h.c1)).trans h.c1
 row:=zh h.row b
 len:=h.len
 plen:=h.plen
 lot:=λi a=>(b.block _ (zc (h.lot i a))).trans (h.lot i a)
 par:=λi a=>(h.par i a).congr (λq d=>by obtain⟨e,c⟩:=(h.par i a).blk d;exact b.block q (zc c))
 nodup:=h.nodup
 ids:=h.ids
 pars:=h.pars
 giv:=h.giv
 room:=h.room}
def PW.give(h:PW N w S v bs pvs ls){j n:Nat}(t:j<ls.length)(K:n<=2147483647):PW (N+2147483647) (w.setCell ⟨bs.getD j 0,10,vb⟩ (V U (((ls.getD j L0).gv+n:Nat):Int))) S v bs pvs (ls.set j (WL (ls.getD j L0) n)):=by
 have b:=h.lot j t;obtain⟨a,cap,J,_⟩:=h.shape;have E:S≠bs.getD j 0:=λe=>by
  have y:=h.c1;rw[e,za b,J]at y;simp[zm]at y
 have c:∀k,k≠bs.getD j 0->(w.setCell ⟨bs.getD j 0,10,vb⟩ (V U (((ls.getD j L0).gv+n:Nat):Int))).heap[k]?=w.heap[k]?:=λk G=>xd _ _ _ _ G
 have r:=xu w (bs.getD j 0) 10 _ 231 (V U (((ls.getD j L0).gv+n:Nat):Int)) b;have m:∀i,i<ls.length->(ls.set j (WL (ls.getD j L0) n)).getD i L0=if i=j then WL (ls.getD j L0) n else ls.getD i L0:=λi f=>by
  by_cases e:i=j
  ·subst e;rw[xh rfl];simp[WI,f]
  rw[xg e];simp[WI,yi,YM e]
 have d:∀{P:L->Prop},(∀l∈ls,P l)->P (WL (ls.getD j L0) n)->∀l∈ls.set j (WL (ls.getD j L0) n),P l:=λy D l x=>by
  rcases Yd x with x|rfl
  ·exact y l x
  exact D
 have z:=h.ids (ls.getD j L0) (zf t);have A:=h.pars (ls.getD j L0) (zf t);refine⟨(xo (a:=⟨S,1,vb⟩) (c S E)).trans h.c1,zd h.row (λg F=>c g (λe=>?_)),by rw[xp];exact h.len,by rw[xp];exact h.plen,λi f=>?_,λi f=>?_,h.nodup,d h.ids z,d h.pars A,?_,by rw[xp];exact h.room⟩
 ·obtain⟨C,p⟩:=zi h.row F;exact zt p b (by decide) e
 ·rw[xp]at f;rw[m i f];by_cases e:i=j
  ·subst e;rw[xh rfl];exact r
  rw[xg e,c _ (λq=>e ?_)]
  ·exact h.lot i f
  have s:i<bs.length:=by rw[h.len];exact f
  have u:j<bs.length:=by rw[h.len];exact t
  have:=xcJ (i:=i) (j:=j) (h₀:=s) (h₁:=u) h.nodup
  exact this.1 (by simpa [WI,s,u] using q)
 ·rw[xp]at f;have B:Par w (pvs.getD i default) ((ls.set j (WL (ls.getD j L0) n)).getD i L0).par:=by
   rw[m i f];by_cases e:i=j
   ·subst e;rw[xh rfl];exact h.par i f
   rw[xg e];exact h.par i f
  exact B.congr (λq H=>c q (λe=>by
   obtain⟨C,p⟩:=B.blk H;exact zt p b (by decide) e))
 have:=h.giv _ (zf t)
 refine d (λl x=>?_) ?_
 ·have:=h.giv l x;omega
 show(ls.getD j L0).gv+n<=_;omega
def Wg(N:Nat)(w:World)(S:Nat)(v:Value)(bs:List Nat)(pvs:List Value)(X:Option (List L))(e:Ending)(w':World):Prop:=match X with
 |some ls=>e=vh (.tuple #[])/\PW N w' S v bs pvs ls/\Kp (λk=>k∈bs) w w'
 |none=>(∃t v,e=.panicked [{ v:=.iface t v,recovered:=false }])/\Kp (λk=>k∈bs) w w'
def Ml(h:PW N w S v bs pvs ls)(hN:N<=1000000000000)(i:Nat)(hi:i<ls.length)(hu:Gu w)(g5:∀k∈bs,k≠4):Calls prog 195 #[vf (vd ⟨S,0,vb⟩),vf (vd ⟨bs.getD i 0,0,vb⟩)] w (Wg (N+4294967294) w S v bs pvs (XI ls i)):=by
 obtain⟨X,HX⟩:=Xc (XI ls i);rw[<-HX.o];have z:=h.lot i hi;have M:=h.par i hi;have b6:=h.ids _ (zf hi);have d5:=h.pars _ (zf hi);obtain⟨pa,b7,a5⟩:=Prs.isSl M;obtain⟨l,HL⟩:=Xc (ls.getD i L0);obtain⟨bl,b8⟩:=Xc (bs.getD i 0);rw[<-HL.o]at z M b6 d5 a5;rw[<-b8.o]at z ⊢;rw[a5]at z M;have x4:w.cell? ⟨bl,4,vb⟩=vd (ve pa l.par.length b7):=by rw[za z];rfl
 obtain⟨np,b1⟩:∃np,np=l.par.length:=⟨_,rfl⟩
 have a9:=zb b1;rw[<-b1]at x4 d5;have e7:=zb h;have f3:Ha (pvs.getD i default=ve pa l.par.length b7):=a5;by_cases d4:np=0
 ·have c7:Ha (X=vd ls):=by unfold Ha;rw[HX.o,XI,<-HL.o,<-a9.o,xh d4]
  subst d4;clear h z M a5 b1;go_enter func195,ntmps195;go_wp2_with fail;go_returns;show Wg _ w S v bs pvs X _ _;rw[c7.o];refine⟨rfl,?_,Kp.refl _ _⟩;have q:=e7.o;exact⟨q.c1,q.row,q.len,q.plen,q.lot,q.par,q.nodup,q.ids,q.pars,λl hl=>xi (q.giv l hl) (by omega),q.room⟩
 have h5:¬((np:Int)==0)=true:=by simp;omega
 have P:Ha (X=(XH l l.par 2147483647 ls).bind λr=>if l.ex=r.2 then vd r.1 else vb):=by unfold Ha;rw[HX.o,XI,<-HL.o,<-a9.o,xg d4]
 clear h z a5 b1;go_enter func195,ntmps195;go_wp2_with fail;obtain⟨Y,HY⟩:=Xc (XH l l.par 2147483647 ls);rw[<-HY.o]at P;go_loopw [4,6,7,19] (λev _ _ ii wr=>∃(k e:Nat) (b:List L),ii=V U k/\k<=np/\ev=V U e/\e<=2147483647/\b.length=ls.length/\b.getD i L0=l/\PW (N+k*2147483647) wr S v bs pvs b/\Kp (λk=>k∈bs) w wr/\XH l (l.par.drop k) e b=Y) (λ_ _ _ ii _=>np-(intOf ii).toNat)
 case atStart=>exact⟨0,2147483647,ls,rfl,by omega,rfl,by omega,rfl,HL.symm,by simpa using e7.o,Kp.refl _ _,by rw[xbp];exact HY.symm⟩
 obtain⟨k,e,b,rfl,hk,rfl,he,d2,Z,G,W,Q⟩:=hrel;have c9:i<b.length:=by rw[d2];exact hi
 have c6:Ha (Gu wr):=by
  obtain⟨t,v,H⟩:=hu;exact⟨t,v,(xo (a:=⟨4,0,vb⟩) (W.block _ (cD H) (λhm=>g5 _ hm rfl))).trans H⟩
 by_cases f8:k<np
 ·have b2:=G.par i c9;rw[Z,f3.o]at b2;have T:k<l.par.length:=by rw[<-a9.o];exact f8
  obtain⟨q,g8,cs,d7,d8,d9⟩:=b2.resolve_left (λh=>by rw[h.2]at T;simp at T);obtain⟨g1,g2⟩:=d9 k T;rw[<-za d8]at g1 g2;have g4:pa=vd ⟨q,0,vb⟩:=by cases d7;rfl
  subst g4;rw[show 2*k=k*2 by omega]at g1 g2;have g3:l.par.getD k (0,0)∈l.par:=by simp[WI,T]
  have a4:=d5.2 _ g3;have c8:l.par.drop k=l.par.getD k (0,0)::l.par.drop (k+1):=by rw[xaD T];simp[WI,T]
  rw[c8,XH]at Q;generalize l.par.getD k (0,0)=pp at *;obtain⟨g,j⟩:=pp;simp only at g1 g2 a4 Q;have hB:=Wm wr (vg #[V U g,V U j] 234);have y:=xq wr (vg #[V U g,V U j] 234);have f:=G.below hB;have HF:=zb (qB f g a4.1);have a0:=zb (W.after hB);have b0:Ha (Gu (wr.alloc (vg #[V U g,V U j] 234))):=by
   obtain⟨t,v,H⟩:=c6.o;exact⟨t,v,(hB.cell (cD H)).trans H⟩
  have d0:(wr.alloc (vg #[V U g,V U j] 234)).cell? ⟨wr.heap.size,0,vb⟩=vd (V U g):=by rw[za y];rfl
  have d1:(wr.alloc (vg #[V U g,V U j] 234)).cell? ⟨wr.heap.size,1,vb⟩=vd (V U j):=by rw[za y];rfl
  have s:=f.lot i c9;rw[Z,<-b8.o]at s;by_cases hj:WO g b<b.length
  ·obtain⟨D,a7⟩:=Xc (bs.getD (WO g b) 0);obtain⟨c,a8⟩:=Xc (b.getD (WO g b) L0);have E:=f.lot _ hj;rw[<-a8.o,<-a7.o]at E;have a2:zJ bs b g=vf (vd ⟨D,0,vb⟩):=by unfold zJ;rw[xh hj,<-a7.o]
   rw[a2]at HF;have b5:=f.ids _ (zf hj);have f6:=f.giv _ (zf hj);rw[<-a8.o]at b5 f6 Q;have b4:=zb f;have f1:D∈bs:=by
    rw[a7.o];have:WO g b<bs.length:=by rw[f.len];exact hj
    simp[WI,this]
   have h4:wr.heap.size≠D:=λe=>by rw[<-e,y]at E;cases E
   have b3:=zb E;have x1:=za E 1;have x3:=za E 3;have y1:=za s 1;have y3:=za s 3;have HJ:=zb hj;have e0:=zb y;clear G W f y hB s d7 d8 d9 b2 c8 a2 E hj;go_wp2_with (go_at_call 148;refine HF.mono ?_;rintro _ w3 ⟨rfl,rfl⟩);have b9:Ha (Calls prog 175 #[.bool false] (wr.alloc (vg #[V U g,V U j] 234)).drew λe w'=>w'=(wr.alloc (vg #[V U g,V U j] 234)).drew/\∃t v,e=.panicked [{ v:=.iface t v,recovered:=false }]):=by
    refine(zI false _ (show Gu (wr.alloc (vg #[V U g,V U j] 234)).drew from b0)).mono ?_
    rintro e w' ⟨h1,h2⟩;rw[xg (by simp)]at h2;exact⟨h1,h2⟩
   have e4:Ha (Calls prog 175 #[.bool true] (wr.alloc (vg #[V U g,V U j] 234)).drew λe w'=>w'=(wr.alloc (vg #[V U g,V U j] 234)).drew/\e=vh (.tuple #[])):=by
    refine(zI true _ (show Gu (wr.alloc (vg #[V U g,V U j] 234)).drew from b0)).mono ?_
    rintro e w' ⟨h1,h2⟩;rw[xh rfl]at h2;exact⟨h1,h2⟩
   generalize (wr.alloc (vg #[V U g,V U j] 234))=wb at *;obtain⟨B,u⟩:∃B:World->Prop,∀w',B w'↔(w'.cell? ⟨D,1,vb⟩=vd (V U c.gd)/\w'.cell? ⟨D,3,vb⟩=vd (V U c.place)/\w'.cell? ⟨bl,1,vb⟩=vd (V U l.gd)/\w'.cell? ⟨bl,3,vb⟩=vd (V U l.place)):=⟨_,λ_=>xba⟩
   have z1:∀x:Wd B,x.w.cell? ⟨D,1,vb⟩=vd (V U c.gd):=λx=>((u _).1 x.h).1
   have z2:∀x:Wd B,x.w.cell? ⟨D,3,vb⟩=vd (V U c.place):=λx=>((u _).1 x.h).2.1
   have z3:∀x:Wd B,x.w.cell? ⟨bl,1,vb⟩=vd (V U l.gd):=λx=>((u _).1 x.h).2.2.1
   have z4:∀x:Wd B,x.w.cell? ⟨bl,3,vb⟩=vd (V U l.place):=λx=>((u _).1 x.h).2.2.2
   have A:B wb.drew:=(u _).2 ⟨x1,x3,y1,y3⟩;clear u;by_cases a3:c.gd=l.gd
   ·have f5:=aV a3;by_cases d6:c.place<l.place
    ·have f0:(c.place:Int)<(l.place:Int):=by omega
     have a1:Ha (XH l (l.par.drop (k+1)) (min e c.ex) (b.set (WO g b) (WL c j))=Y):=by
      unfold Ha;rw[<-Q,xh ⟨HJ.o,a3,d6⟩]
     clear Q a3 d6;clear x1 x3 y1 y3;haveI hinh:Inhabited (Wd B):=⟨⟨_,A⟩⟩
     refine zw (n:=8) (m:=1) 24 24 (λw'=>∃x:Wd B,w'=x.w) (by kernel_rfl) (by kernel_rfl) (λ_ _ d _ _ h=>by cases d<;>exact h) (by kernel_rfl) (by kernel_rfl) rfl rfl ⟨⟨_,A⟩,rfl⟩ ?_
     clear A;dsimp only[List.take];repeat (go_big_quiet_step (fail))
     refine Yr ?_
     refine zT (i:=24) (by kernel_rfl) rfl rfl (λK hK=>?_);go_wp2_with (go_at_call 175;refine e4.mono ?_;rintro _ w4 ⟨rfl,rfl⟩);refine hK _ _ (by first|exact Or.inl rfl|exact Or.inl trivial|trivial) ?_
     refine bT (by kernel_rfl) ?_
     clear hK z1 z2 z3 z4;have e9:WO g b≠i:=λe=>by
      have:c=l:=by rw[a8.o,e];exact Z
      rw[this]at f0;omega
     have e5:=zb (b4.below ((xm _ _).drew:Below _ wb wb.drew));have e1:=zb (a0.after ((xm _ _).drew));have g9:wb.drew.cell? ⟨wr.heap.size,1,vb⟩=vd (V U j):=d1;have J:wb.drew.heap[D]?=vd (vg (zm c (pvs.getD (WO g b) default)) 231 (0,0)):=b3.o;clear d1 d0 HF e4 b9 a0 b0 b4 b3 e0;generalize wb.drew=wd at *;have h0:wd.cell? ⟨D,10,vb⟩=vd (V U c.gv):=by rw[za J];rfl
     have h3:=ze J 10;have a6:=xu wd D 10 _ 231 (V U ((c.gv:Int)+(j:Int))) J;have y2:(wd.setCell ⟨D,10,vb⟩ (V U ((c.gv:Int)+(j:Int)))).cell? ⟨D,2,vb⟩=vd (V U c.ex):=by rw[za a6];rfl
     have e6:Ha (PW (N+(k+1)*2147483647) (wd.setCell ⟨D,10,vb⟩ (V U ((c.gv:Int)+(j:Int)))) S v bs pvs (b.set (WO g b) (WL c j))):=by
      have h1:=e5.give HJ a4.2;rw[<-a8.o,<-a7.o,Int.natCast_add]at h1;unfold Ha;rw[show N+(k+1)*2147483647=N+k*2147483647+2147483647 by omega];exact h1
     have e2:Ha (Kp (λk=>k∈bs) w (wd.setCell ⟨D,10,vb⟩ (V U ((c.gv:Int)+(j:Int))))):=e1.setCell (p:=⟨D,10,vb⟩) (Or.inl f1) _;have g6:c.gv<=1100000000000:=by omega
     have h7:=b5.2.2.2;clear a6 J e5 e1;by_cases d3:e<=c.ex
     ·have f9:(e:Int)<=(c.ex:Int):=by omega
      have g0:¬(c.ex:Int)<(e:Int):=by omega
      have c5:Ha (min e c.ex=e):=xcV d3;clear d3;go_wp2_with fail;go_region;go_wp2_with fail;go_roundw
      case rel=>
       refine⟨k+1,e,b.set (WO g b) (WL c j),by go_num,by omega,rfl,by omega,by rw[xp];exact d2,?_,e6.below ((xm _ _).drew),e2.after ((xm _ _).drew),?_⟩
       ·rw[<-Z];simp[WI,yi,e9]
       rw[<-a1.o,c5.o]
      simp[intOf];omega
     have f9:¬(e:Int)<=(c.ex:Int):=by omega
     have g0:(c.ex:Int)<(e:Int):=by omega
     have c5:Ha (min e c.ex=c.ex):=Nat.min_eq_right (by omega);clear d3;go_wp2_with fail;go_region;go_wp2_with fail;go_roundw
     case rel=>
      refine⟨k+1,c.ex,b.set (WO g b) (WL c j),by go_num,by omega,rfl,by omega,by rw[xp];exact d2,?_,e6.below ((xm _ _).drew),e2.after ((xm _ _).drew),?_⟩
      ·rw[<-Z];simp[WI,yi,e9]
      rw[<-a1.o,c5.o]
     simp[intOf];omega
    have f0:¬(c.place:Int)<(l.place:Int):=by omega
    have g7:(l.place:Int)<=(c.place:Int):=by omega
    have C:Ha (X=vb):=by
     unfold Ha;rw[P.o,<-Q,xg (λH=>d6 H.2.2)];rfl
    clear Q;clear x1 x3 y1 y3;haveI hinh:Inhabited (Wd B):=⟨⟨_,A⟩⟩
    refine zw (n:=8) (m:=1) 24 24 (λw'=>∃x:Wd B,w'=x.w) (by kernel_rfl) (by kernel_rfl) (λ_ _ d _ _ h=>by cases d<;>exact h) (by kernel_rfl) (by kernel_rfl) rfl rfl ⟨⟨_,A⟩,rfl⟩ ?_
    clear A;dsimp only[List.take];repeat (go_big_quiet_step (fail))
    refine Yr ?_
    refine zT (i:=24) (by kernel_rfl) rfl rfl (λK hK=>?_);go_wp2_with (go_at_call 175;refine b9.mono ?_;rintro _ w4 ⟨rfl,t,v',rfl⟩);refine⟨rfl,?_⟩;show Wg _ w S v bs pvs X _ _;rw[C.o];exact⟨⟨t,v',rfl⟩,a0.after ((xm _ _).drew)⟩
   have f5:=ZX a3;have C:Ha (X=vb):=by
    unfold Ha;rw[P.o,<-Q,xg (λH=>a3 H.2.1)];rfl
   clear Q;clear x1 x3 y1 y3;haveI hinh:Inhabited (Wd B):=⟨⟨_,A⟩⟩
   refine zw (n:=8) (m:=1) 24 24 (λw'=>∃x:Wd B,w'=x.w) (by kernel_rfl) (by kernel_rfl) (λ_ _ d _ _ h=>by cases d<;>exact h) (by kernel_rfl) (by kernel_rfl) rfl rfl ⟨⟨_,A⟩,rfl⟩ ?_
   clear A;dsimp only[List.take];repeat (go_big_quiet_step (fail))
   refine Yr ?_
   refine zT (i:=24) (by kernel_rfl) rfl rfl (λK hK=>?_);go_wp2_with (go_at_call 175;refine b9.mono ?_;rintro _ w4 ⟨rfl,t,v',rfl⟩);refine⟨rfl,?_⟩;show Wg _ w S v bs pvs X _ _;rw[C.o];exact⟨⟨t,v',rfl⟩,a0.after ((xm _ _).drew)⟩
  have C:Ha (X=vb):=by
   unfold Ha;rw[P.o,<-Q,xg (λH=>hj H.1)];rfl
  have a2:zJ bs b g=vf vb:=by unfold zJ;rw[xg hj]
  rw[a2]at HF;clear G W f y hB s Q d7 d8 d9 b2 c8 hj a2;go_wp2_with (go_at_call 148;refine HF.mono ?_;rintro _ w3 ⟨rfl,rfl⟩);have f2:Ha (∀wz,Below (wr.alloc (vg #[V U g,V U j] 234)).heap.size (wr.alloc (vg #[V U g,V U j] 234)) wz->Calls prog 175 #[.bool false] wz λe w'=>w'=wz/\∃t v,e=.panicked [{ v:=.iface t v,recovered:=false }]):=λwz hz=>by
   obtain⟨t,v,H⟩:=b0.o;refine(zI false wz ⟨t,v,(hz.cell (cD H)).trans H⟩).mono ?_
   rintro e w' ⟨h1,h2⟩;rw[xg (by simp)]at h2;exact⟨h1,h2⟩
  generalize (wr.alloc (vg #[V U g,V U j] 234))=wb at *;obtain⟨B,u⟩:∃B:World->Prop,B wb.drew:=⟨λ_=>True,trivial⟩
  haveI hinh:Inhabited (Wd B):=⟨⟨_,u⟩⟩
  refine zw (n:=8) (m:=1) 24 24 (λw'=>∃x:Wd B,w'=x.w) (by kernel_rfl) (by kernel_rfl) (λ_ _ d _ _ h=>by cases d<;>exact h) (by kernel_rfl) (by kernel_rfl) rfl rfl ⟨⟨_,u⟩,rfl⟩ ?_
  clear u;dsimp only[List.take];repeat (go_big_quiet_step (fail))
  refine Yr ?_
  refine zT (i:=24) (by kernel_rfl) rfl rfl (λK hK=>?_);go_wp2_with (go_at_call 175;refine(f2 _ ((xm _ _).drew)).mono ?_;rintro _ w4 ⟨rfl,t,v',rfl⟩);refine⟨rfl,?_⟩;show Wg _ w S v bs pvs X _ _;rw[C.o];exact⟨⟨t,v',rfl⟩,a0.after ((xm _ _).drew)⟩
 have f7:k=np:=by omega
 subst f7;have a1:Ha (Y=vd (b,e)):=by
  unfold Ha;rw[<-Q,a9.o,xcI];rfl
 have F:=G.lot i c9;rw[Z,<-b8.o]at F;have x2:wr.cell? ⟨bl,2,vb⟩=vd (V U l.ex):=by rw[za F];rfl
 have h6:=b6.2.2.2;have e8:=zb G;have e3:=zb W;clear G W F Q;by_cases R:l.ex=e
 ·have f4:=aV R;have c7:Ha (X=vd b):=by unfold Ha;rw[P.o,a1.o];show(if l.ex=e then vd b else vb)=_;rw[xh R]
  clear R;go_wp2_with fail;refine(zI true wr c6).mono ?_
  rintro _ wz ⟨rfl,hm⟩;rw[xh rfl]at hm;subst hm;go_wp2_with fail;go_end0;show Wg _ w S v bs pvs X _ _;rw[c7.o];have q:=e8.o;exact⟨rfl,⟨q.c1,q.row,q.len,q.plen,q.lot,q.par,q.nodup,q.ids,q.pars,λl hl=>xi (q.giv l hl) (by omega),q.room⟩,e3⟩
 have f4:=ZX R;have C:Ha (X=vb):=by unfold Ha;rw[P.o,a1.o];show(if l.ex=e then vd b else vb)=_;rw[xg R]
 clear R;go_wp2_with fail;refine(zI false wr c6).mono ?_
 rintro _ wz ⟨rfl,hm⟩;rw[xg (by simp)]at hm;obtain⟨t,v',rfl⟩:=hm;refine⟨rfl,?_⟩;show Wg _ w S v bs pvs X _ _;rw[C.o];exact⟨⟨t,v',rfl⟩,e3⟩
def PT:(prog.info? 191).map (λi=>(i.zero,i.size,i.bytes))=vd (vd (vf vb),1,8):=by kernel_rfl
def Vq:prog.underlying 115=vd (.slice 191):=by kernel_rfl
variable {l r:List UInt8}
def rP{num com:Nat}{x:L}(h:cV num com l=vd (x,r)):x.id=num/\x.gd<=2147483647/\x.ex<=2147483647/\(1<=x.place/\x.place<=com)/\(x.par.length<=2/\∀p∈x.par,p.1<=2147483647/\p.2<=2147483647)/\x.gv=0/\r.length<=l.length:=by
 unfold cV at h;rcases h1:Xm 1 2147483647 l with _|⟨A,g⟩
 ·rw[h1]at h;cases h
 rcases h2:Xm 0 2147483647 g with _|⟨B,i⟩
 ·simp only[h1,h2,xk,yn]at h;cases h
 rcases h3:Xm 1 com i with _|⟨C,j⟩
 ·simp only[h1,h2,h3,xk,yn]at h;cases h
 rcases h4:Xm 0 2147483647 j with _|⟨D,k⟩
 ·simp only[h1,h2,h3,h4,xk,yn]at h;cases h
 rcases h5:Xm 0 2147483647 k with _|⟨E,m⟩
 ·simp only[h1,h2,h3,h4,h5,xk,yn]at h;cases h
 rcases h6:Xm 0 2147483647 m with _|⟨F,n⟩
 ·simp only[h1,h2,h3,h4,h5,h6,xk,yn]at h;cases h
 rcases h7:Xm 0 2147483647 n with _|⟨G,q⟩
 ·simp only[h1,h2,h3,h4,h5,h6,h7,xk,yn]at h;cases h
 rcases h8:fE q with _|⟨ps,c⟩
 ·simp only[h1,h2,h3,h4,h5,h6,h7,h8,xk,yn]at h;cases h
 simp only[h1,h2,h3,h4,h5,h6,h7,h8,xk]at h;have b:=mV h8;obtain⟨_,d,s⟩:=zv h1;obtain⟨_,e,t⟩:=zv h2;obtain⟨c3,f,u⟩:=zv h3;obtain⟨_,_,v⟩:=zv h4;obtain⟨_,_,w⟩:=zv h5;obtain⟨_,_,y⟩:=zv h6;obtain⟨_,_,z⟩:=zv h7
 cases a:(if ps.length=0 then Xl c else vd ((ps.map Prod.snd).sum,c)) with
 |none=>rw[a]at h;cases h
 |some gt=>
  rw[a]at h;simp only[xk]at h;split at h
  ·cases h;refine⟨rfl,d,e,⟨c3,f⟩,⟨b.1,b.2.1⟩,rfl,?_⟩
   have:gt.2.length<=c.length:=by
    split at a
    ·exact yF a
    cases a;exact xe _
   have:=b.2.2
   omega
  cases h
def yH(c:Nat):Nat->Nat->List (Option L)->List UInt8->Option (List (Option L)×List UInt8)
 |0,_,sl,l=>vd (sl,l)
 |k+1,p,sl,l=>(Xm (p+1) 2147483647 l).bind λa=>(cV a.1 c a.2).bind λx=>if sl.getD (x.1.place-1) vb=vb then yH c k a.1 (sl.set (x.1.place-1) (vd x.1)) x.2 else vb
def XG:Nat->Nat->List L->Option (List L)
 |0,_,ls=>vd ls
 |k+1,i,ls=>(XI ls i).bind λls'=>XG k (i+1) ls'
def cM(l:List UInt8):Option (List L×List UInt8) :=
 (Xm 0 30 l).bind λc=>(Xl c.2).bind λd=>if d.1=c.1 then (yH c.1 c.1 0 (List.replicate c.1 vb) d.2).bind λr=>(XG c.1 0 (r.1.map λo=>o.getD L0)).bind λls=>vd (ls,r.2) else vb
structure Sl where
 l:L
 b:Nat
 pv:Value
def MO(sq:List (Option Sl)):List Value:=sq.map λo=>vf (o.map λx=>(⟨x.b,0,vb⟩:Addr))
def Xs(sq:List (Option Sl)):List (Option L):=sq.map λo=>o.map Sl.l
structure SLt(B:Nat)(w:World)(v:Value)(sq:List (Option Sl)):Prop where
 row:w.ownsRow B 191 1 v sq.length (MO sq)
 lot:∀(i:Nat) (x:Sl),sq[i]?=vd (vd x)->w.heap[x.b]?=vd (vg (zm x.l x.pv) 231 (0,0))/\B<=x.b/\w.ownsRow B 234 2 x.pv x.l.par.length (zl x.l.par)
 apart:∀(i j:Nat) (x y:Sl),sq[i]?=vd (vd x)->sq[j]?=vd (vd y)->x.b=y.b->i=j
 fact:∀(i:Nat) (x:Sl),sq[i]?=vd (vd x)->(x.l.id<=2147483647/\x.l.gd<=2147483647/\x.l.place=i+1/\x.l.ex<=2147483647)/\(x.l.par.length<=2/\∀p∈x.l.par,p.1<=2147483647/\p.2<=2147483647)/\x.l.gv=0
structure Kt(b S:Nat)(w w':World)(l:List UInt8):Prop where
 kp:Kp (λk=>k=b\/k=S) w w'
 here:w'.heap[b]?=vd (vg #[vi (Ws l)] 225 (0,0))
def Bt(b S:Nat)(w:World)(e:Ending)(w':World):Prop:=(∃t v,e=.panicked [{ v:=.iface t v,recovered:=false }])/\Kp (λk=>k=b\/k=S) w w'
def Kt.rd(h:Kt b S w w' l):Rd b w' w' (Ws l):=Rd.refl h.here
def Kt.step(h:Kt b S w w' l)(k:Rd b w' w'' (Ws r)):Kt b S w w'' r :=
 ⟨h.kp.trans ⟨k.os,k.tape,k.output,by rw[k.size];exact xe _,λi _ a=>k.block i (λe=>a (Or.inl (Or.inl e)))⟩,k.here⟩
def Kt.kr(h:Kt b S w w' l)(k:Kr b w' w'' r):Kt b S w w'' r :=
 ⟨h.kp.trans (k.kp.mono (λ_ e=>Or.inl (Or.inl e))),k.here⟩
def Kt.after{b S:Nat}{w w' a:World}{l:List UInt8}(h:Kt b S w w' l)(k:Below w'.heap.size w' a):Kt b S w a l :=
 ⟨h.kp.after k,(k.block b (zc h.here)).trans h.here⟩
def Kt.refl{b S:Nat}{w:World}{l:List UInt8}(h:w.heap[b]?=vd (vg #[vi (Ws l)] 225 (0,0))):Kt b S w w l:=⟨Kp.refl _ _,h⟩
def Kt.gl(h:Kt b S w w' l)(f:NU<=b)(e:NU<=S)(g:Gl w):Gl w':=by
 obtain⟨⟨i,k,c⟩,⟨j,m,d⟩,n⟩:=g;have p:=h.kp.size;unfold NU at f e;refine⟨⟨i,k,(xo (a:=⟨2,0,vb⟩) (h.kp.block _ (by show 2<_;omega) (by show ¬(2=b\/2=S);omega))).trans c⟩,⟨j,m,(xo (a:=⟨3,0,vb⟩) (h.kp.block _ (by show 3<_;omega) (by show ¬(3=b\/3=S);omega))).trans d⟩,by omega⟩
def Kt.gu(h:Kt b S w w' l)(e:NU<=b)(d:NU<=S)(f:Gu w):Gu w':=by
 obtain⟨t,v,c⟩:=f;unfold NU at e d;exact⟨t,v,(xo (a:=⟨4,0,vb⟩) (h.kp.block _ (cD c) (by show ¬(4=b\/4=S);omega))).trans c⟩
def Kt.broke{e:Ending}(h:Kt b S w w' l)(k:iO b w' e w''):Bt b S w e w'':=by
 obtain⟨d,s,a⟩:=k;exact⟨d,h.kp.trans ⟨a.os,a.tape,a.output,by rw[a.size];exact xe _,λi _ c=>a.block i (λe=>c (Or.inl (Or.inl e)))⟩⟩
def Kt.bk{e:Ending}(h:Kt b S w w' l)(k:Bk b w' e w''):Bt b S w e w'':=⟨k.1,h.kp.trans (k.2.mono (λ_ e=>Or.inl (Or.inl e)))⟩
def KM(z:Value)(n:Nat):(madeCells #[z] n).toList=List.replicate n z:=by
 apply YT
 ·simp[size_madeCells]
 intro i a b;simp[madeCells,Nat.mod_one]
def OW(w:World)(B:Nat)(a:B<=w.heap.size)(e:TypeId)(z:Value)(n:Nat)(b:n<=30):(w.alloc (vg (madeCells #[z] n) e)).ownsRow B e 1 (ve (vd ⟨w.heap.size,0,vb⟩) n n) n (List.replicate n z) :=
 ⟨by simp,Or.inr ⟨w.heap.size,n,madeCells #[z] n,rfl,a,xq w _,xe _,by unfold maxLen;omega,by simp[size_madeCells],by rw[KM];simp⟩⟩
variable {sq:List (Option Sl)}
def SLt.keep(h:SLt B w v sq)(d:∀(k:Nat) (a:Array Value) (t:TypeId),w.heap[k]?=vd (vg a t (0,0))->t≠225->t≠117->w'.heap[k]?=w.heap[k]?):SLt B w' v sq:={
 row:=zd h.row (λg c=>by obtain⟨a,b⟩:=zi h.row c;exact d g a _ b (by decide) (by decide))
 lot:=λi x l=>by
  obtain⟨e,j,f⟩:=h.lot i x l;exact⟨(d _ _ _ e (by decide) (by decide)).trans e,j,zd f (λg c=>by obtain⟨a,b⟩:=zi f c;exact d g a _ b (by decide) (by decide))⟩
 apart:=h.apart
 fact:=h.fact}
def SLt.below(h:SLt B w v sq)(a:Below w.heap.size w w'):SLt B w' v sq:=h.keep (λk c t b _ _=>a.block k (zc b))
def SLt.kr(h:SLt B w v sq)(d:w.heap[b]?=vd (vg #[vi (Ws l)] 225 (0,0)))(k:Kr b w w' r):SLt B w' v sq:=h.keep (λz e t a c _=>k.kp.block z (zc a) (zt a d c))
def SLt.put{G n cap:Nat}(h:SLt B w (ve (vd ⟨G,0,vb⟩) n cap) sq)(S:n=sq.length){i:Nat}(Q:i<n){x:Sl}(W:w.heap[x.b]?=vd (vg (zm x.l x.pv) 231 (0,0))/\B<=x.b/\w.ownsRow B 234 2 x.pv x.l.par.length (zl x.l.par))(q:∀(j:Nat) (y:Sl),sq[j]?=vd (vd y)->y.b≠x.b)
  (N:(x.l.id<=2147483647/\x.l.gd<=2147483647/\x.l.place=i+1/\x.l.ex<=2147483647)/\(x.l.par.length<=2/\∀p∈x.l.par,p.1<=2147483647/\p.2<=2147483647)/\x.l.gv=0) :
  SLt B (w.setCell ⟨G,i,vb⟩ (vf (vd ⟨x.b,0,vb⟩))) (ve (vd ⟨G,0,vb⟩) n cap) (sq.set i (vd x)):=by
 subst S;have A:=(h.row.stored i (vf (vd ⟨x.b,0,vb⟩))).1;have f:∀(j:Nat) (y:Sl),(sq.set i (vd x))[j]?=vd (vd y)->(j=i/\y=x)\/(j≠i/\sq[j]?=vd (vd y)):=λj y d=>by
  rw[yi]at d;by_cases e:i=j
  ·subst e;rw[xh rfl,xh Q]at d;cases d;exact Or.inl ⟨rfl,rfl⟩
  rw[xg e]at d;exact Or.inr ⟨YM e,d⟩
 obtain⟨cs,K⟩:=zi h.row (g:=G) rfl;have r:∀(k:Nat) (s:Array Value) (t:TypeId),w.heap[k]?=vd (vg s t (0,0))->t≠191->(w.setCell ⟨G,i,vb⟩ (vf (vd ⟨x.b,0,vb⟩))).heap[k]?=w.heap[k]?:=λk s t R T=>xd _ _ _ _ (zt R K T)
 have m:∀(y:Sl),(w.heap[y.b]?=vd (vg (zm y.l y.pv) 231 (0,0))/\B<=y.b/\w.ownsRow B 234 2 y.pv y.l.par.length (zl y.l.par))->(w.setCell ⟨G,i,vb⟩ (vf (vd ⟨x.b,0,vb⟩))).heap[y.b]?=vd (vg (zm y.l y.pv) 231 (0,0))/\B<=y.b/\(w.setCell ⟨G,i,vb⟩ (vf (vd ⟨x.b,0,vb⟩))).ownsRow B 234 2 y.pv y.l.par.length (zl y.l.par):=λy d=>
  ⟨(r _ _ _ d.1 (by decide)).trans d.1,d.2.1,zd d.2.2 (λg P=>by obtain⟨z,M⟩:=zi d.2.2 P;exact r g z _ M (by decide))⟩
 refine⟨?_,λj y d=>?_,λa c X Z J u v=>?_,λj y d=>?_⟩
 ·rw[xp];have:MO (sq.set i (vd x))=(MO sq).set i (vf (vd ⟨x.b,0,vb⟩)):=by simp[MO,xac]
  rw[this];exact A
 ·rcases f j y d with ⟨_,rfl⟩|⟨_,u⟩
  ·exact m _ W
  exact m _ (h.lot j y u)
 ·rcases f a X J with ⟨D,E⟩|⟨_,C⟩<;>rcases f c Z u with ⟨F,H⟩|⟨_,g2⟩
  ·rw[D,F]
  ·rw[E]at v;exact absurd v.symm (q _ _ g2)
  ·rw[H]at v;exact absurd v (q _ _ C)
  exact h.apart _ _ _ _ C g2 v
 rcases f j y d with ⟨rfl,rfl⟩|⟨_,u⟩
 ·exact N
 exact h.fact j y u
def RT{pv:Value}{ps:List (Nat×Nat)}(h:w.ownsRow B 234 2 pv ps.length (zl ps)):Par w pv ps:=by
 rcases h.2 with ⟨d,e⟩|⟨g,cap,a,d,e,f,l,m,n,i⟩
 ·exact Or.inl ⟨d,yl.1 e⟩
 refine Or.inr ⟨g,cap,a,d,f,λj k=>?_⟩;obtain⟨b,c⟩:=qX ps j k;rw[<-i,xct]at b c;rw[xh (by omega)]at b c;rw[xbK 2 j];exact⟨by simpa using b,by simpa using c⟩
def EB{α:Type}:∀(l:List (Option α)),l.countP Option.isSome=l.length->∃xs:List α,l=xs.map vd
 |[],_=>⟨[],rfl⟩
 |none::l,h=>by
  have:=List.countP_le_length (p:=Option.isSome) (l:=l)
  simp at h;omega
 |some x::l,h=>by
  obtain⟨xs,rfl⟩:=EB l (by simpa using h);exact⟨x::xs,rfl⟩
def QH{α:Type}{l:List (Option α)}{i:Nat}(a:i<l.length)(h:l.getD i vb=vb)(x:α):(l.set i (vd x)).countP Option.isSome=l.countP Option.isSome+1:=by
 rw[List.countP_set a];have:l[i]=vb:=by simpa [WI,a] using h
 simp[this]
def SLt.done{xs:List Sl}(h:SLt B w v (xs.map vd))(r:w.cell? ⟨S,1,vb⟩=vd v)(y:xs.length<=30):PW 0 w S v (xs.map Sl.b) (xs.map Sl.pv) (xs.map Sl.l):=by
 have k:∀i,i<xs.length->∃x,(xs.map vd)[i]?=vd (vd x)/\x∈xs/\(xs.map Sl.b).getD i 0=x.b/\(xs.map Sl.pv).getD i default=x.pv/\(xs.map Sl.l).getD i L0=x.l:=λi a=>⟨xs[i],by simp[a],YD a,by simp[WI,a],by simp[WI,a],by simp[WI,a]⟩
 have p:∀l∈xs.map Sl.l,∃i x,(xs.map vd)[i]?=vd (vd x)/\i<xs.length/\x.l=l:=λl d=>by
  obtain⟨x,k,rfl⟩:=yc.1 d;obtain⟨i,a,rfl⟩:=xw k;exact⟨i,xs[i],by simp[a],a,rfl⟩
 refine⟨r,?_,by simp,by simp,λi a=>?_,λi a=>?_,?_,λl d=>?_,λl d=>?_,λl d=>?_,by simpa using y⟩
 ·have q:=eC h.row (Nat.zero_le B);rw[List.length_map]at q ⊢;have:aW (xs.map Sl.b)=MO (xs.map vd):=by simp[aW,MO]
  rw[this];exact q
 ·obtain⟨x,c,_,e,m,n⟩:=k i (by simpa using a);rw[e,m,n];exact(h.lot i x c).1
 ·obtain⟨x,c,_,e,m,n⟩:=k i (by simpa using a);rw[m,n];exact RT (h.lot i x c).2.2
 ·show List.Pairwise (·≠·) _;rw[Ye];intro i j a u t s;have g:j<xs.length:=by simpa using u
  have f:i<xs.length:=by omega
  have:=h.apart i j xs[i] xs[j] (by simp[f]) (by simp[g]) (by simpa [f,g] using s)
  omega
 ·obtain⟨i,x,c,e,rfl⟩:=p l d;have:=(h.fact i x c).1;exact⟨this.1,this.2.1,by omega,this.2.2.2⟩
 ·obtain⟨i,x,c,e,rfl⟩:=p l d;exact(h.fact i x c).2.1
 obtain⟨i,x,c,e,rfl⟩:=p l d;rw[(h.fact i x c).2.2];exact xe _
def Sb(w:World)(S td:Nat)(v:Value)(M:Mx):Prop:=w.heap[S]?=vd (vg #[V U td,v,.map (vd M.o),.map (vd M.h),.map (vd M.r)] 117 (0,0))
def MU(b S td:Nat)(M:Mx)(w:World)(X:Option (List L×List UInt8))(e:Ending)(w':World):Prop:=match X with
 |some (ls,r)=>e=vh (.tuple #[])/\(∃v bs pvs,PW 128849018820 w' S v bs pvs ls/\Sb w' S td v M/\(∀k∈bs,w.heap.size<=k)/\(∀pv∈pvs,∀q,pv.ownBlock=vd q->w.heap.size<=q)/\(∀g,v.ownBlock=vd g->w.heap.size<=g))/\Kt b S w w' r
 |none=>Bt b S w e w'
def BW(b S:Nat)(hb:NU<=b)(hS:NU<=S)(l:List UInt8)(hl:l.length<=1000000000)(w:World)(hg:Gl w)(hu:Gu w)(hr:w.heap[b]?=vd (vg #[vi (Ws l)] 225 (0,0)))(td:Nat)(v0:Value)(M:Mx)(hs:Sb w S td v0 M):Calls prog 177 #[vf (vd ⟨S,0,vb⟩),vf (vd ⟨b,0,vb⟩)] w (MU b S td M w (cM l)):=by
 obtain⟨X,HX⟩:=Xc (cM l);rw[<-HX.o];obtain⟨i0,hi,l8,l9,m0⟩:=Yc PT;have HU:=zb Vq;have k0:Kt b S w w l:=Kt.refl hr;have k9:=zc hr;have i4:=zb hs;have b1:S≠b:=λe=>by rw[<-e]at hr;unfold Sb at hs;rw[hs]at hr;cases hr
 go_enter func177,ntmps177;go_wp2_with fail;refine(ZA b hb l hl 0 30 (by omega) (by omega) w hg hu (Rd.refl hr)).mono ?_
 intro e w1 s;rcases h1:Xm 0 30 l with _|⟨n,r1⟩
 ·rw[h1]at s;obtain⟨t,v,rfl⟩:=s.1;refine⟨rfl,?_⟩;show MU b S td M w X _ _;rw[show X=vb by rw[HX.o];unfold cM;simp only[h1,yn]];exact k0.broke s
 rw[h1]at s;obtain⟨rfl,e0⟩:=s;have k1:=k0.step e0;obtain⟨_,d0,l3⟩:=zv h1;have h3:Sb w1 S td v0 M:=(e0.block S b1).trans hs;clear e0;go_wp2_with fail;refine(rQ b hb r1 (by omega) w1 (k1.gl hb hS hg) k1.rd).mono ?_
 intro e w2 s;rcases P:Xl r1 with _|⟨d,r2⟩
 ·rw[P]at s;obtain⟨t,v,rfl⟩:=s.1;refine⟨rfl,?_⟩;show MU b S td M w X _ _;rw[show X=vb by rw[HX.o];unfold cM;simp only[h1,P,xk,yn]];exact k1.broke s
 rw[P]at s;obtain⟨rfl,e1⟩:=s;have k2:=k1.step e1;have c7:Sb w2 S td v0 M:=(e1.block S b1).trans h3;have b2:=yF P;have k7:d<9223372036854775808:=by
  unfold Xl at P;split at P
  ·cases P
  cases P;exact Pl.fst_lt _
 clear e1 hs h3 k0 k1;by_cases a6:d=n
 ·have a5:Ha (X=(yH n n 0 (List.replicate n vb) r2).bind λr=>(XG n 0 (r.1.map λo=>o.getD L0)).bind λls=>vd (ls,r.2)):=by
   unfold Ha;rw[HX.o];unfold cM;simp only[h1,P,xk];rw[xh a6]
  have j3:=aV a6;clear a6;go_wp2_with fail;refine(zI true w2 (k2.gu hb hS hu)).mono ?_
  rintro _ wz ⟨rfl,s⟩;rw[xh rfl]at s;subst s;have f1:=ze c7 1;have l5:∀w:World,(Instr.makeSlice 115 (V U n) (V U n)).run prog w=.ok (ve (vd ⟨w.heap.size,0,vb⟩) n n) (w.alloc (vg (madeCells #[vf vb] n) 191)):=λw=>run_make_row' 115 191 (vf vb) 8 Vq PT rfl .i64 .i64 n (by omega) (by omega) w
  have hB:=Wm wz (vg (madeCells #[vf vb] n) 191);have R:=OW wz w.heap.size k2.kp.size 191 (vf vb) n d0;have k3:=k2.after hB;have b4:Sb (wz.alloc (vg (madeCells #[vf vb] n) 191)) S td v0 M:=(hB.block S (zc c7)).trans c7;have f1:=ze b4 1;have c1:(wz.alloc (vg (madeCells #[vf vb] n) 191)).cell? ⟨S,1,vb⟩=vd v0:=by rw[za b4];rfl
  obtain⟨G,hG⟩:∃G,G=wz.heap.size:=⟨_,rfl⟩
  have HG:=zb hG;have h4:=xu _ S 1 _ 117 (ve (vd ⟨wz.heap.size,0,vb⟩) n n) b4;have g2:Ha (Sb ((wz.alloc (vg (madeCells #[vf vb] n) 191)).setCell ⟨S,1,vb⟩ (ve (vd ⟨wz.heap.size,0,vb⟩) n n)) S td (ve (vd ⟨G,0,vb⟩) n n) M):=by rw[hG];exact h4
  have f0:Ha (Kt b S w ((wz.alloc (vg (madeCells #[vf vb] n) 191)).setCell ⟨S,1,vb⟩ (ve (vd ⟨wz.heap.size,0,vb⟩) n n)) r2):=⟨k3.kp.setCell (p:=⟨S,1,vb⟩) (Or.inl (Or.inr rfl)) _,(xd _ _ _ _ (YM b1)).trans k3.here⟩
  have f3:Ha (SLt w.heap.size ((wz.alloc (vg (madeCells #[vf vb] n) 191)).setCell ⟨S,1,vb⟩ (ve (vd ⟨wz.heap.size,0,vb⟩) n n)) (ve (vd ⟨G,0,vb⟩) n n) (List.replicate n vb)):=by
   have h0:SLt w.heap.size (wz.alloc (vg (madeCells #[vf vb] n) 191)) (ve (vd ⟨G,0,vb⟩) n n) (List.replicate n vb):=by
    have e5:∀(i:Nat) (x:Sl),(List.replicate n (vb:Option Sl))[i]?=vd (vd x)->False:=λi x hx=>by
     have:=List.mem_of_getElem? hx
     simp at this
    refine⟨?_,λi x hx=>(e5 i x hx).elim,λi j x y hx=>(e5 i x hx).elim,λi x hx=>(e5 i x hx).elim⟩;rw[hG,xbW];have:MO (List.replicate n vb)=List.replicate n (vf vb):=by simp[MO]
    rw[this];exact R
   exact h0.keep (λk cs t hk _ ht=>xd _ _ _ _ (zt hk b4 ht))
  clear i4 hr R k2 k3 hB b4 c7 h4 hG h1 P HX;obtain⟨Z,HZ⟩:=Xc (yH n n 0 (List.replicate n vb) r2);rw[<-HZ.o]at a5;go_wp2_with fail;go_loopw [5,6,22] (λnv _ ii wr=>∃(k p:Nat) (A:List (Option Sl)) (q:List UInt8),ii=V U k/\k<=n/\nv=V U p/\p<=2147483647/\A.length=n/\(Xs A).countP Option.isSome=k/\q.length<=1000000000/\Sb wr S td (ve (vd ⟨G,0,vb⟩) n n) M/\SLt w.heap.size wr (ve (vd ⟨G,0,vb⟩) n n) A/\Kt b S w wr q/\yH n (n-k) p (Xs A) q=Z) (λ_ _ ii _=>n-(intOf ii).toNat)
  case atStart=>exact⟨0,0,List.replicate n vb,r2,rfl,by omega,rfl,by omega,by simp,by simp[Xs,List.countP_replicate],by omega,g2,f3,f0,by rw[xcq];simpa [Xs] using HZ.symm⟩
  clear g2 f0 f3;obtain⟨k,p,A,q,rfl,hk,rfl,hp,D,a4,j8,H,a1,C,hZ⟩:=hrel;by_cases l4:k<n
  ·have b7:Ha ((Xm (p+1) 2147483647 q).bind (λa=>(cV a.1 n a.2).bind λx=>if (Xs A).getD (x.1.place-1) vb=vb then yH n (n-(k+1)) a.1 ((Xs A).set (x.1.place-1) (vd x.1)) x.2 else vb)=Z):=by
    unfold Ha;rw[<-hZ,show n-k=(n-(k+1))+1 by omega];rfl
   clear hZ;have HA:=zb (iP b hb q j8 p hp wr (C.gl hb hS hg) (C.gu hb hS hu) C.rd);have f:=zb H;have c8:=zb a1;have c:=zb C;clear H a1 C;go_wp2_with fail;refine HA.mono ?_
   intro e w5 s;rcases h5:Xm (p+1) 2147483647 q with _|⟨num,q5⟩
   ·rw[h5]at s;obtain⟨t,v,rfl⟩:=s.1;refine⟨rfl,?_⟩;show MU b S td M w X _ _;rw[show X=vb by rw[a5.o,<-b7.o,h5];rfl];exact c.broke s
   rw[h5]at s;obtain⟨rfl,c5⟩:=s;obtain⟨_,d1,l6⟩:=zv h5;have k5:=c.step c5;have e7:Sb w5 S td (ve (vd ⟨G,0,vb⟩) n n) M:=(c5.block S b1).trans f;have e2:=c8.kr c.here ((Kr.refl c.here).step c5);clear HA f c8 c c5;go_wp2_with fail;refine(DX b hb num n d1 d0 q5 (by omega) w5 (k5.gl hb hS hg) (k5.gu hb hS hu) k5.here).mono ?_
   intro e N s;rcases h6:cV num n q5 with _|⟨x,q6⟩
   ·rw[h6]at s;have g7:Bk b w5 e N:=s;obtain⟨t,v,rfl⟩:=g7.1;refine⟨rfl,?_⟩;show MU b S td M w X _ _;rw[show X=vb by rw[a5.o,<-b7.o,h5];simp only[xk,h6,yn]];exact k5.bk g7
   rw[h6]at s;obtain⟨⟨T,pv,rfl,g9,e6,g8⟩,c6⟩:=s;have b5:=rP h6;have k6:=k5.kr c6;have e8:Sb N S td (ve (vd ⟨G,0,vb⟩) n n) M:=(c6.kp.block S (zc e7) b1).trans e7;have e3:=e2.kr k5.here c6;have b8:Ha ((if (Xs A).getD (x.place-1) vb=vb then yH n (n-(k+1)) num ((Xs A).set (x.place-1) (vd x)) q6 else vb)=Z):=by unfold Ha;rw[<-b7.o,h5];simp only[xk,h6]
   obtain⟨i,HI⟩:=Xc (x.place-1);have a7:i<n:=by rw[HI.o];omega
   have f7:Ha (x.place=i+1):=by unfold Ha;rw[HI.o];omega
   rw[<-HI.o]at b8;have s1:N.cell? ⟨S,1,vb⟩=vd (ve (vd ⟨G,0,vb⟩) n n):=by rw[za e8];rfl
   have x3:N.cell? ⟨T,3,vb⟩=vd (V U ((i:Int)+1)):=by
    rw[za e6];show vd (V U x.place)=_;rw[f7.o];rfl
   have a9:=zb k6;have d5:=zb e8;have b0:=zb e3;have g1:=zb e6;have f8:=zb (eC g8 k5.kp.size);have g0:Ha (w5.heap.size<=T):=g9;have f4:=zb e2;have i7:=zb k5.kp.size;have B:N.cell? ⟨G,i,vb⟩=vd (vf ((A.getD i vb).map λx=>(⟨x.b,0,vb⟩:Addr))):=by
    have F:=e3.row;rw[D]at F;rw[F.cellAt i (by omega)];simp[MO,WI,show i<A.length by rw[D];exact a7]
   have f6:Ha (Calls prog 175 #[.bool true] N.drew λe w'=>w'=N.drew/\e=vh (.tuple #[])):=by
    refine(zI true _ (show Gu N.drew from k6.gu hb hS hu)).mono ?_
    rintro e w' ⟨h1,P⟩;rw[xh rfl]at P;exact⟨h1,P⟩
   have f5:Ha (Calls prog 175 #[.bool false] N.drew λe w'=>w'=N.drew/\∃t v,e=.panicked [{ v:=.iface t v,recovered:=false }]):=by
    refine(zI false _ (show Gu N.drew from k6.gu hb hS hu)).mono ?_
    rintro e w' ⟨h1,P⟩;rw[xg (by simp)]at P;exact⟨h1,P⟩
   clear k5 k6 e8 e3 e7 e2 e6 g8 c6 h5 h6 b7 g9
   cases ho:A.getD i vb with
   |none=>
    rw[ho]at B;have u:N.cell? ⟨G,i,vb⟩=vd (vf vb):=B;have k4:=s1;have m1:=x3;clear B;go_wp2_with fail;obtain⟨Q,E⟩:∃Q:World->Prop,∀w',Q w'↔(w'.cell? ⟨S,1,vb⟩=vd (ve (vd ⟨G,0,vb⟩) n n)/\w'.cell? ⟨T,3,vb⟩=vd (V U ((i:Int)+1))/\w'.cell? ⟨G,i,vb⟩=vd (vf vb)):=⟨_,λ_=>xba⟩
    have z0:∀x:Wd Q,x.w.cell? ⟨S,1,vb⟩=vd (ve (vd ⟨G,0,vb⟩) n n):=λx=>((E _).1 x.h).1
    have z1:∀x:Wd Q,x.w.cell? ⟨T,3,vb⟩=vd (V U ((i:Int)+1)):=λx=>((E _).1 x.h).2.1
    have z2:∀x:Wd Q,x.w.cell? ⟨G,i,vb⟩=vd (vf vb):=λx=>((E _).1 x.h).2.2
    have a0:Q N.drew:=(E _).2 ⟨s1,x3,u⟩;clear E s1 x3 u;haveI hinh:Inhabited (Wd Q):=⟨⟨_,a0⟩⟩
    refine zw (n:=8) (m:=1) 12 12 (λw'=>∃x:Wd Q,w'=x.w) (by kernel_rfl) (by kernel_rfl) (λ_ _ d _ _ h=>by cases d<;>exact h) (by kernel_rfl) (by kernel_rfl) rfl rfl ⟨⟨_,a0⟩,rfl⟩ ?_
    clear a0;dsimp only[List.take];repeat (go_big_quiet_step (fail))
    refine Yr ?_
    refine zT (i:=12) (by kernel_rfl) rfl rfl (λK hK=>?_);go_wp2_with (go_at_call 175;refine f6.mono ?_;rintro _ w7 ⟨rfl,rfl⟩);refine hK _ _ (by first|exact Or.inl rfl|exact Or.inl trivial|trivial) ?_
    refine bT (by kernel_rfl) ?_
    clear hK z0 z1 z2;have i6:Ha (SLt w.heap.size (N.setCell ⟨G,i,vb⟩ (vf (vd ⟨T,0,vb⟩))) (ve (vd ⟨G,0,vb⟩) n n) (A.set i (vd ⟨x,T,pv⟩))):=by
     refine b0.put D.symm a7 (x:=⟨x,T,pv⟩) ⟨g1,xi i7 g0,f8⟩ (λj y hy e=>?_) ⟨⟨by show x.id<=_;omega,b5.2.1,f7,b5.2.2.1⟩,b5.2.2.2.2.1,b5.2.2.2.2.2.1⟩;have h1:=zc (f4.lot j y hy).1;have P:y.b=T:=e;have:=g0.o;omega
    obtain⟨k8,b9⟩:=zi b0.row (g:=G) rfl;have d2:Ha (w.heap.size<=G):=(b0.row.lt G rfl).1;have i5:Ha (Sb (N.setCell ⟨G,i,vb⟩ (vf (vd ⟨T,0,vb⟩))) S td (ve (vd ⟨G,0,vb⟩) n n) M):=(xd _ _ _ _ (zt d5 b9 (by decide))).trans d5;have i1:Ha (Kt b S w (N.setCell ⟨G,i,vb⟩ (vf (vd ⟨T,0,vb⟩))) q6):=⟨a9.kp.setCell (p:=⟨G,i,vb⟩) (Or.inr d2) _,(xd _ _ _ _ (zt a9.here b9 (by decide))).trans a9.here⟩
    have l1:=ze b9 i;have s1:N.cell? ⟨S,1,vb⟩=vd (ve (vd ⟨G,0,vb⟩) n n):=k4;have l0:N.cell? ⟨G,i,vb⟩=vd (vf vb):=by
     have F:=b0.row;rw[D]at F;rw[F.cellAt i (by omega)];have g6:i<A.length:=by rw[D];exact a7
     simp only[WI,xj g6,yz]at ho;simp[MO,g6,ho]
    have d4:Ha (Xs (A.set i (vd ⟨x,T,pv⟩))=(Xs A).set i (vd x)):=by simp[Ha,Xs,xac]
    have d3:Ha ((Xs A).getD i vb=vb):=by
     have:(Xs A).getD i vb=(A.getD i vb).map Sl.l:=by
      simp[Xs,WI,show i<A.length by rw[D];exact a7]
     rw[Ha,this,ho];rfl
    have h9:Ha ((Xs (A.set i (vd ⟨x,T,pv⟩))).countP Option.isSome=k+1):=by
     rw[Ha,d4.o,QH (by simp[Xs,D,a7]) d3.o,a4]
    have j0:Ha (yH n (n-(k+1)) num (Xs (A.set i (vd ⟨x,T,pv⟩))) q6=Z):=by
     rw[Ha,d4.o,<-b8.o,xh d3.o]
    have l7:=b5.2.2.2.2.2.2;clear f6 f5 b0 d5 a9 g1 f8 f4 d4 d3 b8 b9 ho a4;go_wp2_with fail;go_region;go_wp2_with fail;go_roundw
    case rel=>exact⟨k+1,num,A.set i (vd ⟨x,T,pv⟩),q6,by go_num,by omega,rfl,d1,by rw[xp];exact D,h9,by omega,i5,i6.below ((xm _ _).drew.drew),i1.after ((xm _ _).drew.drew),j0⟩
    simp[intOf];omega
   |some y=>
    rw[ho]at B;have u:N.cell? ⟨G,i,vb⟩=vd (vf (vd ⟨y.b,0,vb⟩)):=B;have d8:Ha (X=vb):=by
     unfold Ha;rw[a5.o,<-b8.o,xg]
     ·rfl
     intro hc;have:(Xs A).getD i vb=(A.getD i vb).map Sl.l:=by
      simp[Xs,WI,show i<A.length by rw[D];exact a7]
     rw[this,ho]at hc
     cases hc
    clear B;go_wp2_with fail;obtain⟨Q,E⟩:∃Q:World->Prop,∀w',Q w'↔(w'.cell? ⟨S,1,vb⟩=vd (ve (vd ⟨G,0,vb⟩) n n)/\w'.cell? ⟨T,3,vb⟩=vd (V U ((i:Int)+1))/\w'.cell? ⟨G,i,vb⟩=vd (vf (vd ⟨y.b,0,vb⟩))):=⟨_,λ_=>xba⟩
    have z0:∀x:Wd Q,x.w.cell? ⟨S,1,vb⟩=vd (ve (vd ⟨G,0,vb⟩) n n):=λx=>((E _).1 x.h).1
    have z1:∀x:Wd Q,x.w.cell? ⟨T,3,vb⟩=vd (V U ((i:Int)+1)):=λx=>((E _).1 x.h).2.1
    have z2:∀x:Wd Q,x.w.cell? ⟨G,i,vb⟩=vd (vf (vd ⟨y.b,0,vb⟩)):=λx=>((E _).1 x.h).2.2
    have a0:Q N.drew:=(E _).2 ⟨s1,x3,u⟩;clear E s1 x3 u;haveI hinh:Inhabited (Wd Q):=⟨⟨_,a0⟩⟩
    refine zw (n:=8) (m:=1) 12 12 (λw'=>∃x:Wd Q,w'=x.w) (by kernel_rfl) (by kernel_rfl) (λ_ _ d _ _ h=>by cases d<;>exact h) (by kernel_rfl) (by kernel_rfl) rfl rfl ⟨⟨_,a0⟩,rfl⟩ ?_
    clear a0;dsimp only[List.take];repeat (go_big_quiet_step (fail))
    refine Yr ?_
    refine zT (i:=12) (by kernel_rfl) rfl rfl (λK hK=>?_);go_wp2_with (go_at_call 175;refine f5.mono ?_;rintro _ w7 ⟨rfl,t,v,rfl⟩);refine⟨rfl,?_⟩;show MU b S td M w X _ _;rw[d8.o];exact⟨⟨t,v,rfl⟩,(a9.after ((xm _ _).drew)).kp⟩
  have j5:k=n:=by omega
  subst j5;rw[xaT]at hZ;obtain⟨xs,j9⟩:=EB A (by
   have:(Xs A).countP Option.isSome=A.countP Option.isSome:=by
    simp only[Xs,List.countP_map];congr 1;funext o;cases o<;>rfl
   rw[<-this,a4,D])
  subst j9;have e9:xs.length=k:=by simpa using D
  have d7:Ha (X=(XG k 0 (xs.map Sl.l)).bind λls=>vd (ls,q)):=by
   rw[Ha,a5.o,<-hZ,yH];simp only[xk];congr 2;simp[Xs]
  have s1:wr.cell? ⟨S,1,vb⟩=vd (ve (vd ⟨G,0,vb⟩) k k):=by rw[za H];rfl
  have W:Ha (PW 0 wr S (ve (vd ⟨G,0,vb⟩) k k) (xs.map Sl.b) (xs.map Sl.pv) (xs.map Sl.l)):=a1.done s1 (by omega);have d2:Ha (w.heap.size<=G):=(a1.row.lt G rfl).1;have b6:Ha (∀z∈xs.map Sl.b,w.heap.size<=z):=λz hz=>by
   obtain⟨x,hx,rfl⟩:=yc.1 hz;obtain⟨i,hi,rfl⟩:=xw hx;exact(a1.lot i xs[i] (by simp[hi])).2.1
  have i3:Ha (∀pv∈xs.map Sl.pv,∀q,pv.ownBlock=vd q->w.heap.size<=q):=λpv j7 q hq=>by
   obtain⟨x,hx,rfl⟩:=yc.1 j7;obtain⟨i,hi,rfl⟩:=xw hx;exact((a1.lot i xs[i] (by simp[hi])).2.2.lt q hq).1
  have f:=zb H;have c:=zb C;have g5:(xs.map Sl.b).length=k:=by simpa using e9
  have j6:(xs.map Sl.l).length=k:=by simpa using e9
  clear a1 H C hZ a4 a5 HZ D e9;generalize xs.map Sl.b=bs at *;generalize xs.map Sl.pv=pvs at *;generalize xs.map Sl.l=ls at *;obtain⟨Y,HY⟩:=Xc (XG k 0 ls);rw[<-HY.o]at d7;go_wp2_with fail;go_loopw [8,61] (λ_ ii wr=>∃(i:Nat) (a2:List L),ii=V U i/\i<=k/\a2.length=k/\PW (i*4294967294) wr S (ve (vd ⟨G,0,vb⟩) k k) bs pvs a2/\Sb wr S td (ve (vd ⟨G,0,vb⟩) k k) M/\Kt b S w wr q/\XG (k-i) i a2=Y) (λ_ ii _=>k-(intOf ii).toNat)
  case atStart=>exact⟨0,ls,rfl,by omega,j6,by rw[Nat.zero_mul];exact W,f,c,by rw[xcq];exact HY.symm⟩
  clear W f c s1;obtain⟨i,a2,rfl,l2,b2,a8,H,C,hY⟩:=hrel;by_cases c9:i<k
  ·have d6:=zb (Ml a8 (by omega) i (by rw[b2];exact c9) (C.gu hb hS hu) (λz hz e=>by
    have h1:=b6.o z hz;unfold NU at hb;omega))
   have d9:Ha ((XI a2 i).bind (λls'=>XG (k-(i+1)) (i+1) ls')=Y):=by
    unfold Ha;rw[<-hY,show k-i=(k-(i+1))+1 by omega];rfl
   obtain⟨a,cap,hv,R⟩:=a8.shape;obtain⟨G',g4,a3⟩:=R (by rw[b2];omega);have j2:=a3 i (by rw[b2];exact c9);rw[g4]at hv;have j1:G'=G:=by cases hv;rfl
   subst j1;have W:=zb a8;have f:=zb H;have c:=zb C;obtain⟨bi,h7⟩:=Xc (bs.getD i 0);rw[<-h7.o]at j2 d6;clear a8 H C hY R a3 g4 hv;go_wp2_with fail;refine d6.mono ?_
   intro e w8 s
   cases h8:XI a2 i with
   |none=>
    rw[h8]at s;obtain⟨⟨t,v,rfl⟩,J⟩:=s;refine⟨rfl,?_⟩;show MU b S td M w X _ _;rw[show X=vb by rw[d7.o,<-d9.o,h8];rfl];exact⟨⟨t,v,rfl⟩,c.kp.trans (J.mono (λz hz=>Or.inr (b6 z hz)))⟩
   |some ls3=>
    rw[h8]at s;obtain⟨rfl,b3,J⟩:=s;have e4:∀z cs t,wr.heap[z]?=vd (vg cs t (0,0))->t≠231->z ∉ bs:=λz cs t hz ht s=>by
     obtain⟨j,hj,rfl⟩:=xw s;have:=W.lot j (by rw[b2,<-g5];exact hj);simp only[WI,xj hj,yz]at this;exact zt hz this ht rfl
    have g3:Ha (Sb w8 S td (ve (vd ⟨G',0,vb⟩) k k) M):=(J.block S (zc f) (e4 S _ _ f (by decide))).trans f;have f2:Ha (Kt b S w w8 q):=⟨c.kp.trans (J.mono (λz hz=>Or.inr (b6 z hz))),(J.block b (zc c.here) (e4 b _ _ c.here (by decide))).trans c.here⟩
    have i2:Ha (ls3.length=k):=by rw[Ha,<-b3.len,g5]
    have f9:=zb b3;have i9:Ha (XG (k-(i+1)) (i+1) ls3=Y):=by rw[Ha,<-d9.o,h8];rfl
    clear b3 J h8 d6 W f c d9 e4;go_wp2_with fail;go_roundw
    case rel=>exact⟨i+1,ls3,by go_num,by omega,i2,by rw[Nat.succ_mul];exact f9,g3,f2,i9⟩
    simp[intOf];omega
  have j4:i=k:=by omega
  subst j4;rw[xaT]at hY;have i8:Ha (X=vd (a2,q)):=by rw[Ha,d7.o,<-hY];rfl
  have W:=zb a8;have f:=zb H;have c:=zb C;clear a8 H C hY;go_wp2_with fail;go_end0;show MU b S td M w X _ _;rw[i8.o];have p:=W.o;exact⟨rfl,⟨_,bs,pvs,⟨p.c1,p.row,p.len,p.plen,p.lot,p.par,p.nodup,p.ids,p.pars,λl hl=>xi (p.giv l hl) (by omega),p.room⟩,f,b6,i3,λg hg=>by cases hg;exact d2⟩,c⟩
 have j3:=ZX a6;have d8:Ha (X=vb):=by
  unfold Ha;rw[HX.o];unfold cM;simp only[h1,P,xk];rw[xg a6]
 clear a6;go_wp2_with fail;refine(zI false w2 (k2.gu hb hS hu)).mono ?_
 rintro _ wz ⟨rfl,s⟩;rw[xg (by simp)]at s;obtain⟨t,v',rfl⟩:=s;refine⟨rfl,?_⟩;show MU b S td M w X _ _;rw[d8.o];exact⟨⟨t,v',rfl⟩,k2.kp⟩
