import Derived.Test.YtgcedalggnmooaaGreatDoorMp0X
import Derived.Handy
import Derived.Deep.RegionHeld3
set_option linter.all false
set_option maxRecDepth 100000
set_option maxHeartbeats 1600000
namespace Go.Proofs.YtgcedalggnmooaaGreatDoor
open Go.RowKit
def zT(l:L)(n:Nat):L:={ l with free:=l.free-n,gv:=l.gv+n }
def gS(l:L)(n:Nat):L:={ l with free:=l.free-n,sc:=l.sc+n }
def dG(w:World)(b:Nat)(l:L)(n:Nat):World :=
 ((w.setCell ⟨b,6,none⟩ (.int .i64 ((l.free:Int)-(n:Int)))).setCell ⟨b,10,none⟩ (.int .i64 ((l.gv:Int)+(n:Int)))).alloc (.cells #[.int .i64 l.id,.int .i64 n] 234)
theorem kQ(w:World)(b:Nat)(l:L)(n:Nat):(dG w b l n).heap.size=w.heap.size+1:=by simp[dG,World.setCell]
variable {S b td:Nat}{l:L}{w:World}
theorem gD{pv:Value}(f:w.heap[b]?=some (.cells (zo l pv) 231 (0,0)))(n:Nat)(g:n<=l.free):(dG w b l n).heap[b]?=some (.cells (zo (zT l n) pv) 231 (0,0)):=by
 have e:=xp w b 6 _ 231 (.int .i64 ((l.free:Int)-(n:Int))) f;have a:=xp _ b 10 _ 231 (.int .i64 ((l.gv:Int)+(n:Int))) e;rw[dG,XO _ _ _ (zc a),a];have c:((l.free-n:Nat):Int)=(l.free:Int)-(n:Int):=by omega
 have d:((l.gv+n:Nat):Int)=(l.gv:Int)+(n:Int):=by omega
 simp[zo,zT,c,d]
theorem ZV{n k:Nat}(c:k<w.heap.size)(a:k≠b):(dG w b l n).heap[k]?=w.heap[k]?:=by
 rw[dG,XO _ _ _ (by simp[World.setCell];exact c),xa _ _ _ _ a,xa _ _ _ _ a]
variable {Z:Nat->Prop}
theorem vV(w:World)(b:Nat)(l:L)(n:Nat)(a:Z b):Kp Z w (dG w b l n):=by
 refine Kp.after (Kp.setCell (Kp.setCell (Kp.refl Z w) ?_ _) ?_ _) (TQ _ _)
 ·exact Or.inl a
 exact Or.inl a
theorem vW{pv:Value}(a:w.heap[b]?=some (.cells (zo l pv) 231 (0,0)))(c:L.Ok l)(n:Nat)(r:n<=l.free):Calls Tryz.prog 149 #[.pointer (some ⟨b,0,none⟩),.int .i64 n] w λe w'=>e=.returned (.agg #[.int .i64 l.id,.int .i64 n])/\w'=dG w b l n:=by
 have k:=zc a;have c0:w.cell? ⟨b,0,none⟩=some (.int .i64 l.id):=by rw[za a];rfl
 have p:w.cell? ⟨b,6,none⟩=some (.int .i64 l.free):=by rw[za a];rfl
 have f:w.cell? ⟨b,10,none⟩=some (.int .i64 l.gv):=by rw[za a];rfl
 have q:=zf a 6;have g:=zf a 10;have j:=c.id;have d:=c.sum;have h:l.free<=2147483647:=by omega
 have i:l.gv+n<=2147483647:=by omega
 have m:=zb a;clear a d c;go_enter Tryz.func149,Tryz.ntmps149;go_wp2_with fail;go_returns;exact⟨rfl,rfl⟩
variable {M:Mx}{bs:List Nat}{ls:List L}{os:List O}{pvs:List Value}{rcs:List (Nat×Nat)}{v:Value}
theorem PV.lotset{W:World}(h:PV os rcs w S M v td bs pvs ls){i:Nat}(f:i<ls.length){l':L}(C:L.Ok l')(s:l'.par=(ls.getD i L0).par)
  (A:W.heap[bs.getD i 0]?=some (.cells (zo l' (pvs.getD i default)) 231 (0,0))) (n:∀k,k<w.heap.size->k≠bs.getD i 0->W.heap[k]?=w.heap[k]?):PV os rcs W S M v td bs pvs (ls.set i l') where
 store:=by rw[n S (zc h.store) (zv h.store (h.lot i f) (by decide))];exact h.store
 maps:=h.maps.congr (λk E c y=>n k (zc y) (Zb (h.lot i f) y).symm)
 row:=ze h.row (λg B=>by
  obtain⟨z,x⟩:=zi h.row B;exact n g (zc x) (zv (h.lot i f) x (by decide)).symm)
 len:=by rw[xl];exact h.len
 plen:=by rw[xl];exact h.plen
 lot:=λj b=>by
  rw[xl]at b;by_cases a:j=i
  ·subst a;rw[A];simp[Ul,Xe,b]
  have r:bs.getD j 0≠bs.getD i 0:=λe=>a (by
   have d:j<bs.length:=by rw[h.len];exact b
   have m:i<bs.length:=by rw[h.len];exact f
   rw[Ul,Ul,xh d,xh m]at e;simp only[Xw]at e;exact(List.getElem?_inj d h.nodup).1 (by rw[xh d,xh m,e]))
  rw[n _ (zc (h.lot j b)) r,h.lot j b];simp[Ul,Xe,yk a]
 par:=λj b=>by
  rw[xl]at b;have e:((ls.set i l').getD j L0).par=(ls.getD j L0).par:=by
   by_cases a:j=i
   ·subst a;rw[<-s];simp[Ul,Xe,b]
   simp[Ul,Xe,yk a]
  rw[e];exact(h.par j b).congr (λq t=>by
   obtain⟨z,u⟩:=(h.par j b).blk t;exact n _ (zc u) (zv (h.lot i f) u (by decide)).symm)
 nodup:=h.nodup
 today:=h.today
 ok:=λl D=>by
  rcases Xy D with p|p
  ·exact h.ok l p
  subst p;exact C
 room:=by rw[xl];exact h.room
theorem nL(h:L.Ok l){n:Nat}(a:n<=l.free):L.Ok (zT l n):=⟨h.id,h.gd,h.ex,h.place,(by have:=h.sum;show l.free-n+l.hd+l.sh+l.sc+(l.gv+n)<=2147483647;omega),h.got,h.par⟩
theorem Bl(h:L.Ok l){n:Nat}(a:n<=l.free):L.Ok (gS l n):=⟨h.id,h.gd,h.ex,h.place,(by have:=h.sum;show l.free-n+l.hd+l.sh+(l.sc+n)+l.gv<=2147483647;omega),h.got,h.par⟩
def Zv(ls:List L)(n c:Nat):Nat:=if Ur n ls<ls.length then (if (ls.getD (Ur n ls) L0).free<c then 7 else 0) else 4
def Zh(ls:List L)(n c:Nat):List L:=if Zv ls n c=0 then ls.set (Ur n ls) (gS (ls.getD (Ur n ls) L0) c) else ls
theorem JO(h:PI os rcs Z w S td ls)(n c:Nat)(h1:n<=2147483647)(h2:c<=2147483647):Calls Tryz.prog 106 #[.pointer (some ⟨S,0,none⟩),.agg #[.int .i64 n,.int .i64 c]] w λe w'=>Kp Z w w'/\e=.returned (.int .i64 (Zv ls n c:Int))/\PI os rcs (Zn Z w) w' S td (Zh ls n c):=by
 obtain⟨M,v,g,m,s,q⟩:=h;have d:=s.below (TQ w (Obj.cells #[.int .i64 n,.int .i64 c] 168));have z:=zb (Zz d n h1);by_cases i:Ur n ls<ls.length
 ·have y:Hid (zM g ls n=.pointer (some ⟨g.getD (Ur n ls) 0,0,none⟩)):=by unfold Hid zM;rw[xd i]
  rw[y.out]at z;have a:=s.lot _ i;have N:=zc a;have f:=s.ok _ (zg i);have t:g.getD (Ur n ls) 0∈g:=zK (by rw[s.len];exact i);have u:Z (g.getD (Ur n ls) 0):=q.b _ t;obtain⟨l,A⟩:=UC (ls.getD (Ur n ls) L0);rw[<-A.out]at a f;by_cases R:l.free<c
  ·have r:Hid (Zv ls n c=7):=by unfold Hid Zv;rw[xd i,<-A.out,xd R]
   have C:Hid (Zh ls n c=ls):=by unfold Hid Zh;rw[r.out];rfl
   generalize m.getD (Ur n ls) default=pv at a;generalize g.getD (Ur n ls) 0=b at *;have c6:w.cell? ⟨b,6,none⟩=some (.int .i64 l.free):=by rw[za a];rfl
   have j:=f.sum;have K:l.free<=2147483647:=by omega
   have B:=zb d;clear s d a f j;go_enter Tryz.func106,Tryz.ntmps106;go_wp2_with (go_at_call 148;refine z.mono ?_;rintro e w1 ⟨rfl,rfl⟩);go_region;go_wp2_with fail;go_ret;refine⟨Ut ((TQ w _).drew),by rw[r.out];rfl,M,v,g,m,?_,q.mono (λk D=>Or.inl D)⟩;rw[C.out];exact B.below (xg _ _).drew
  have r:Hid (Zv ls n c=0):=by unfold Hid Zv;rw[xd i,<-A.out,xe R]
  have C:Hid (Zh ls n c=ls.set (Ur n ls) (gS l c)):=by unfold Hid Zh;rw[r.out,<-A.out];rfl
  have B:=zb s;have T:=zb i;generalize E:m.getD (Ur n ls) default=pv at a;have J:=zb E;clear E;obtain⟨b,G⟩:=UC (g.getD (Ur n ls) 0);rw[<-G.out]at a z y N u;have c6:w.cell? ⟨b,6,none⟩=some (.int .i64 l.free):=by rw[za a];rfl
  have c9:w.cell? ⟨b,9,none⟩=some (.int .i64 l.sc):=by rw[za a];rfl
  have f6:=zf a 6;have f9:=zf a 9;have X:=zb f;have H:=zb a;have j:=f.sum;have K:l.free<=2147483647:=by omega
  have a0:l.sc+c<=2147483647:=by omega
  clear s d a f j i t y;go_enter Tryz.func106,Tryz.ntmps106;go_wp2_with (go_at_call 148;refine z.mono ?_;rintro e w1 ⟨rfl,rfl⟩);go_region;go_wp2_with fail;go_region;go_wp2_with fail;go_region;go_wp2_with fail;go_ret;have P:=xp w b 6 _ 231 (.int .i64 ((l.free:Int)-(c:Int))) H;have Q:=xp _ b 9 _ 231 (.int .i64 ((l.sc:Int)+(c:Int))) P;have p:((w.setCell ⟨b,6,none⟩ (.int .i64 ((l.free:Int)-(c:Int)))).setCell ⟨b,9,none⟩ (.int .i64 ((l.sc:Int)+(c:Int)))).heap[b]?=some (.cells (zo (gS l c) pv) 231 (0,0)):=by
   rw[Q];have e1:((l.free-c:Nat):Int)=(l.free:Int)-(c:Int):=by omega
   have e2:((l.sc+c:Nat):Int)=(l.sc:Int)+(c:Int):=by omega
   simp[zo,gS,e1,e2]
  refine⟨?_,by rw[r.out];rfl,M,v,g,m,?_,q.mono (λk D=>Or.inl D)⟩
  ·refine Kp.after (Kp.setCell (Kp.setCell (Kp.refl Z w) ?_ _) ?_ _) (((TQ _ _).drew).drew).drew
   ·exact Or.inl u
   exact Or.inl u
  rw[C.out];have F:=B.lotset (W:=(w.setCell ⟨b,6,none⟩ (.int .i64 ((l.free:Int)-(c:Int)))).setCell ⟨b,9,none⟩ (.int .i64 ((l.sc:Int)+(c:Int)))) T (l':=gS l c) (Bl X (by omega)) (by rw[A.out];rfl) (by rw[J.out,<-G.out];exact p) (λk _ x=>by
   rw[<-G.out]at x;rw[xa _ _ _ _ x,xa _ _ _ _ x])
  exact F.below (((TQ _ _).drew).drew).drew
 have y:Hid (zM g ls n=.pointer none):=by unfold Hid zM;rw[xe i]
 have r:Hid (Zv ls n c=4):=by unfold Hid Zv;rw[xe i]
 have C:Hid (Zh ls n c=ls):=by unfold Hid Zh;rw[r.out];rfl
 rw[y.out]at z;have B:=zb d;clear s d i y;go_enter Tryz.func106,Tryz.ntmps106;go_wp2_with (go_at_call 148;refine z.mono ?_;rintro e w1 ⟨rfl,rfl⟩);go_ret;refine⟨Ut (TQ w _),by rw[r.out];rfl,M,v,g,m,?_,q.mono (λk D=>Or.inl D)⟩;rw[C.out];exact B
def Uz(ls:List L)(id goods expiry got:Nat)(ps:List (Nat×Nat)):L:={ id:=id,gd:=goods,ex:=expiry,place:=ls.length+1,got:=got,free:=got,hd:=0,sh:=0,sc:=0,gv:=0,par:=ps }
def zR(ls:List L)(n m c:Nat):Nat:=if Ur n ls<ls.length then (if zA ls m=0 then (if (ls.getD (Ur n ls) L0).free<c then 7 else 0) else zA ls m) else 4
def Z7(ls:List L)(n m c:Nat):List L :=
 if zR ls n m c=0 then ls.set (Ur n ls) (zT (ls.getD (Ur n ls) L0) c)++[Uz ls m (ls.getD (Ur n ls) L0).gd (ls.getD (Ur n ls) L0).ex c [((ls.getD (Ur n ls) L0).id,c)]] else ls
theorem eM(ls:List L)(n:Nat):zA ls n<=6:=by unfold zA;split<;>(try split)<;>omega
theorem jP{n:Nat}(h:zA ls n=0):ls.length<30:=by
 unfold zA at h;by_cases a:30<=ls.length
 ·split at h
  ·omega
  omega
 omega
theorem Nc(h:PI os rcs Z w S td ls)(n m c:Nat)(A:n<=2147483647)(B:m<=2147483647)(J:c<=2147483647)(q:zR ls n m c≠0):Calls Tryz.prog 99 #[.pointer (some ⟨S,0,none⟩),.agg #[.int .i64 n,.int .i64 m,.int .i64 c]] w λe w'=>e=.returned (.int .i64 (zR ls n m c:Int))/\Below w.heap.size w w':=by
 obtain⟨M,v,u,y,p,D⟩:=h;have d:=p.below (TQ w (Obj.cells #[.int .i64 n,.int .i64 m,.int .i64 c] 149));have s:=zb (Zz d n A);have x:=zb (jQ d m B);have g:=eM ls m;by_cases f:Ur n ls<ls.length
 ·have k:Hid (zM u ls n=.pointer (some ⟨u.getD (Ur n ls) 0,0,none⟩)):=by unfold Hid zM;rw[xd f]
  rw[k.out]at s;have a:=p.lot _ f;have j:=p.ok _ (zg f);generalize u.getD (Ur n ls) 0=b at *;by_cases r:zA ls m=0
  ·have G:(ls.getD (Ur n ls) L0).free<c:=by
    unfold zR at q;rw[xd f,xd r]at q;by_cases z:(ls.getD (Ur n ls) L0).free<c
    ·exact z
    rw[xe z]at q;exact absurd rfl q
   have i:Hid (zR ls n m c=7):=by unfold Hid zR;rw[xd f,xd r,xd G]
   rw[i.out];rw[r]at x;generalize y.getD (Ur n ls) default=pv at *;generalize ls.getD (Ur n ls) L0=l at *;have H:w.cell? ⟨b,6,none⟩=some (.int .i64 l.free):=by rw[za a];rfl
   have E:=zc a;have t:=j.sum;have C:l.free<=2147483647:=by omega
   clear p d a j t f r g q k i;go_enter Tryz.func99,Tryz.ntmps99;go_wp2_with (first
    |(go_at_call 148;refine s.mono ?_;rintro e w1 ⟨rfl,rfl⟩)
    |(go_at_call 146;refine x.mono ?_;rintro e w1 ⟨rfl,rfl⟩))
   go_region
   go_wp2_with fail;go_ret
   exact⟨rfl,(TQ w _).drew⟩
  have i:Hid (zR ls n m c=zA ls m):=by unfold Hid zR;rw[xd f,xe r]
  rw[i.out];have F:((zA ls m:Int) != 0)=true:=by rw[ym];omega
  generalize zA ls m=rc at *;clear p d a j f r q k i;go_enter Tryz.func99,Tryz.ntmps99;go_wp2_with (first
   |(go_at_call 148;refine s.mono ?_;rintro e w1 ⟨rfl,rfl⟩)
   |(go_at_call 146;refine x.mono ?_;rintro e w1 ⟨rfl,rfl⟩))
  go_ret;exact⟨rfl,TQ w _⟩
 have k:Hid (zM u ls n=.pointer none):=by unfold Hid zM;rw[xe f]
 have i:Hid (zR ls n m c=4):=by unfold Hid zR;rw[xe f]
 rw[k.out]at s;rw[i.out];clear p d f k g;go_enter Tryz.func99,Tryz.ntmps99;go_wp2_with (go_at_call 148;refine s.mono ?_;rintro e w1 ⟨rfl,rfl⟩);go_ret;exact⟨rfl,TQ w _⟩
theorem Kp.cell{Z:Nat->Prop}{w w':World}(h:Kp Z w w'){b j:Nat}{x:Value}(d:¬Z b)(a:b<w.heap.size)(c:w.cell? ⟨b,j,none⟩=some x):w'.cell? ⟨b,j,none⟩=some x:=by
 rw[<-c];unfold World.cell?;simp only[h.block b a d]
theorem PV.apart(h:PV os rcs w S M v td bs pvs ls){b:Nat}{c:Array Value}{t:TypeId}(a:w.heap[b]?=some (.cells c t (0,0)))(f:t≠117)(g:t≠191):¬(b=S\/v.ownBlock=some b):=by
 rintro(e|e)
 ·exact zv a h.store f e
 obtain⟨d,i⟩:=zi h.row e;exact zv a i g rfl
theorem JZ(h:PI os rcs Z w S td ls)(n m c:Nat)(h1:n<=2147483647)(h2:m<=2147483647)(h3:c<=2147483647)(W:Ur n ls<ls.length)(hr:zA ls m=0)(hs:¬(ls.getD (Ur n ls) L0).free<c):Calls Tryz.prog 99 #[.pointer (some ⟨S,0,none⟩),.agg #[.int .i64 n,.int .i64 m,.int .i64 c]] w λe w'=>Kp Z w w'/\e=.returned (.int .i64 0) /\
   PI os rcs (Zn Z w) w' S td (ls.set (Ur n ls) (zT (ls.getD (Ur n ls) L0) c)++[Uz ls m (ls.getD (Ur n ls) L0).gd (ls.getD (Ur n ls) L0).ex c [((ls.getD (Ur n ls) L0).id,c)]]):=by
 obtain⟨M,v,bs,a7,T,t⟩:=h;have A:=T.below (TQ w (Obj.cells #[.int .i64 n,.int .i64 m,.int .i64 c] 149));have HR:=zb (Zz A n h1);have HM:=zb (jQ A m h2);have a3:=jP hr;have HF:Hid (zM bs ls n=.pointer (some ⟨bs.getD (Ur n ls) 0,0,none⟩)):=by unfold Hid zM;rw[xd W]
 rw[HF.out]at HR;rw[hr]at HM;have r:=A.lot _ W;have x:=T.ok _ (zg W);have a1:Z (bs.getD (Ur n ls) 0):=t.b _ (zK (by rw[T.len];exact W));obtain⟨l,HL⟩:=UC (ls.getD (Ur n ls) L0);obtain⟨b,HB⟩:=UC (bs.getD (Ur n ls) 0);obtain⟨pv,HV⟩:=UC (a7.getD (Ur n ls) default);rw[<-HL.out]at r x hs ⊢;rw[<-HB.out]at r HR a1;rw[<-HV.out]at r;have F:b<w.heap.size:=by
  have:=zc r
  have h2:=zv r (xo w (Obj.cells #[.int .i64 n,.int .i64 m,.int .i64 c] 149)) (by decide);simp at this;omega
 have y:w.heap[b]?=some (.cells (zo l pv) 231 (0,0)):=by rw[<-XO w (Obj.cells #[.int .i64 n,.int .i64 m,.int .i64 c] 149) b F];exact r
 have a5:=x.sum;have b6:l.free<=2147483647:=by omega
 have b1:=x.gd;have b0:=x.ex;have a2:=x.id;have c6:w.cell? ⟨b,6,none⟩=some (.int .i64 l.free):=by rw[za y];rfl
 obtain⟨w1,D⟩:∃w1,w1=(w.alloc (Obj.cells #[.int .i64 n,.int .i64 m,.int .i64 c] 149)).drew:=⟨_,rfl⟩
 have C:Below w.heap.size w w1:=by rw[D];exact(TQ w _).drew
 have u:w1.heap[b]?=some (.cells (zo l pv) 231 (0,0)):=by rw[C.block b F];exact y
 have z:w1.heap[w.heap.size]?=some (Obj.cells #[.int .i64 n,.int .i64 m,.int .i64 c] 149 (0,0)):=by rw[D];exact xo w _
 have a6:w1.heap.size=w.heap.size+1:=by rw[D];simp
 have HG:=zb (vW u x c (by omega));have P:PV os rcs (dG w1 b l c) S M v td bs a7 (ls.set (Ur n ls) (zT l c)):=(T.below C).lotset W (l':=zT l c) (nL x (by omega)) (by rw[HL.out];rfl) (by rw[<-HV.out,<-HB.out];exact gD u c (by omega)) (λk hk b2=>ZV hk (by rw[HB.out];exact b2));have i:=gD u c (by omega);have R:Kp Z w (dG w1 b l c):=Kp.before C (vV w1 b l c (Or.inl a1));have J:=kQ w1 b l c;have d:(dG w1 b l c).heap[w.heap.size]?=some (Obj.cells #[.int .i64 n,.int .i64 m,.int .i64 c] 149 (0,0)):=by
  rw[ZV (by omega) (λe=>by omega)];exact z
 obtain⟨G,X⟩:=UC (dG w1 b l c);rw[<-X.out]at HG P i R J d;have g1:G.cell? ⟨w.heap.size,1,none⟩=some (.int .i64 m):=by rw[za d];rfl
 have g2:G.cell? ⟨w.heap.size,2,none⟩=some (.int .i64 c):=by rw[za d];rfl
 have b4:G.cell? ⟨b,1,none⟩=some (.int .i64 l.gd):=by rw[za i];rfl
 have b5:G.cell? ⟨b,2,none⟩=some (.int .i64 l.ex):=by rw[za i];rfl
 have a4:=xo G (Obj.cells #[.int .i64 l.id,.int .i64 c] 234);have B:=P.below (TQ G (Obj.cells #[.int .i64 l.id,.int .i64 c] 234)).drew;have H:Par (G.alloc (Obj.cells #[.int .i64 l.id,.int .i64 c] 234)).drew (.slice (some ⟨G.heap.size,0,none⟩) 1 1) [(l.id,c)]:=by
  refine Or.inr ⟨G.heap.size,1,_,rfl,a4,λj hj=>?_⟩;obtain rfl:j=0:=by simp at hj;omega
  exact⟨rfl,rfl⟩
 have Q:=(TQ G (Obj.cells #[.int .i64 l.id,.int .i64 c] 234)).drew;have a:=(Q.block _ (zc d)).trans d;have f:=(Q.block _ (zc i)).trans i;have K:=B.apart a (by decide) (by decide);have N:=B.apart f (by decide) (by decide);have e1:(G.alloc (Obj.cells #[.int .i64 l.id,.int .i64 c] 234)).drew.cell? ⟨w.heap.size,1,none⟩=some (.int .i64 m):=by rw[za a];rfl
 have e2:(G.alloc (Obj.cells #[.int .i64 l.id,.int .i64 c] 234)).drew.cell? ⟨w.heap.size,2,none⟩=some (.int .i64 c):=by rw[za a];rfl
 have e3:(G.alloc (Obj.cells #[.int .i64 l.id,.int .i64 c] 234)).drew.cell? ⟨b,1,none⟩=some (.int .i64 l.gd):=by rw[za f];rfl
 have e4:(G.alloc (Obj.cells #[.int .i64 l.id,.int .i64 c] 234)).drew.cell? ⟨b,2,none⟩=some (.int .i64 l.ex):=by rw[za f];rfl
 have HA:=zb ((BM B m l.gd l.ex c _ _ H ⟨by simp,by simp;exact a2⟩ (by rw[xl];exact a3) h2 b1 b0 h3).mono (λe w' E=>(⟨E.1,zb E.2,E.2.1.cell K (zc a) e1,E.2.1.cell K (zc a) e2,E.2.1.cell N (zc f) e3,E.2.1.cell N (zc f) e4⟩:_/\Hid _/\_/\_/\_/\_)));have b3:=zb T;have HK:=zb R;have a8:Hid (G.heap.size=w.heap.size+2):=by unfold Hid;omega
 subst D;clear J a6 T A r y x a5 hr W u z P i R d a4 B H HF X C Q a f K N e1 e2 e3 e4;go_enter Tryz.func99,Tryz.ntmps99;go_wp2_with (first
  |(go_at_call 148;refine HR.mono ?_;rintro e w1 ⟨rfl,rfl⟩)
  |(go_at_call 146;refine HM.mono ?_;rintro e w1 ⟨rfl,rfl⟩))
 go_region
 go_wp2_with (go_at_call 149;refine HG.mono ?_;rintro e w2 ⟨rfl,rfl⟩)
 go_region_held3 (λw'=>w'.cell? ⟨w.heap.size,1,none⟩=some (.int .i64 m)/\w'.cell? ⟨w.heap.size,2,none⟩=some (.int .i64 c)/\w'.cell? ⟨b,1,none⟩=some (.int .i64 l.gd)/\w'.cell? ⟨b,2,none⟩=some (.int .i64 l.ex)) (go_keep) (first|(go_at_call 147;refine HA.mono ?_;rintro e w3 ⟨rfl,E,e1,e2,e3,e4⟩))
 go_wp2_with fail;go_ret
 have b7:=a8.out;obtain⟨hk,v',a0,a9⟩:=E.out;refine⟨?_,rfl,M,v',_,_,(by rw[xl]at a0;exact a0),?_⟩
 ·exact(HK.after (TQ _ _).drew).trans (hk.mono (λk hq=>Or.inl (hq.elim (λe=>e ▸ t.s) (λe=>t.v k e))))
 refine⟨Or.inl t.s,Or.inl t.m,Or.inl t.mo,Or.inl t.mh,λg hg=>?_,λk hk=>?_,λpv hp q hq=>?_⟩
 ·rcases a9 g hg with h|h
  ·exact Or.inl (t.v g h)
  right;simp at h;omega
 ·rcases xw.1 hk with h|h
  ·exact Or.inl (t.b k h)
  right;simp at h;omega
 rcases xw.1 hp with h|h
 ·exact Or.inl (t.p pv h q hq)
 right
 simp at h;subst h;simp[Value.ownBlock]at hq;omega
theorem JY(h:PI os rcs Z w S td ls)(n m c:Nat)(l:n<=2147483647)(p:m<=2147483647)(q:c<=2147483647):Calls Tryz.prog 99 #[.pointer (some ⟨S,0,none⟩),.agg #[.int .i64 n,.int .i64 m,.int .i64 c]] w λe w'=>Kp Z w w'/\e=.returned (.int .i64 (zR ls n m c:Int))/\PI os rcs (Zn Z w) w' S td (Z7 ls n m c):=by
 by_cases a:zR ls n m c=0
 ·have i:Ur n ls<ls.length/\zA ls m=0/\¬(ls.getD (Ur n ls) L0).free<c:=by
   unfold zR at a;by_cases f:Ur n ls<ls.length
   ·rw[xd f]at a;by_cases b:zA ls m=0
    ·rw[xd b]at a;refine⟨f,b,λu=>?_⟩;rw[xd u]at a;omega
    rw[xe b]at a;exact absurd a b
   rw[xe f]at a;omega
  have d:Z7 ls n m c=_:=xd a;rw[a,d];exact JZ h n m c l p q i.1 i.2.1 i.2.2
 have d:Z7 ls n m c=ls:=xe a;rw[d];refine(Nc h n m c l p q a).mono λe w' ⟨he,hb⟩=>⟨Ut hb,he,?_⟩
 obtain⟨M,v,r,j,s,g⟩:=h;exact⟨M,v,r,j,s.below hb,g.mono (λk t=>Or.inl t)⟩
def zd(ls:List L)(n:Nat):L:=ls.getD (Ur n ls) L0
def zN(ls:List L)(a b m:Nat):Nat :=
 if Ur a ls<ls.length/\Ur b ls<ls.length then
  (if Ur a ls=Ur b ls\/(zd ls a).gd≠(zd ls b).gd then 8 else
   if zA ls m=0 then (if (zd ls a).free+(zd ls b).free=0 then 7 else if 2147483647<(zd ls a).free+(zd ls b).free then 2 else 0) else zA ls m)
 else 4
def Zx(ls:List L)(a b m:Nat):List L :=
 if zN ls a b m=0 then (ls.set (Ur a ls) (zT (zd ls a) (zd ls a).free)).set (Ur b ls) (zT (zd ls b) (zd ls b).free)++[Uz ls m (zd ls a).gd (min (zd ls a).ex (zd ls b).ex) ((zd ls a).free+(zd ls b).free) [((zd ls a).id,(zd ls a).free),((zd ls b).id,(zd ls b).free)]] else ls
theorem Ow(h:PV os rcs w S M v td bs pvs ls){i j:Nat}(d:i<ls.length)(f:j<ls.length)(c:i≠j):bs.getD i 0≠bs.getD j 0:=λe=>c (by
 have b:j<bs.length:=by rw[h.len];exact f
 have a:i<bs.length:=by rw[h.len];exact d
 rw[Ul,Ul,xh b,xh a]at e;simp only[Xw]at e;exact(List.getElem?_inj a h.nodup).1 (by rw[xh b,xh a,e]))
theorem FT(n:PV os rcs w S M v td bs pvs ls)(a b m:Nat)(r:a<=2147483647)(s:b<=2147483647)(u:m<=2147483647)(p:¬(Ur a ls<ls.length/\Ur b ls<ls.length)):Calls Tryz.prog 100 #[.pointer (some ⟨S,0,none⟩),.agg #[.int .i64 a,.int .i64 b,.int .i64 m]] w λe w'=>e=.returned (.int .i64 4)/\Below w.heap.size w w':=by
 have g:=n.below (TQ w (Obj.cells #[.int .i64 a,.int .i64 b,.int .i64 m] 152)).drew;have d:=zb (Zz g a r);have f:=zb (Zz g b s);have l:=xo w (Obj.cells #[.int .i64 a,.int .i64 b,.int .i64 m] 152);by_cases k:Ur a ls<ls.length
 ·have q:¬Ur b ls<ls.length:=λh=>p ⟨k,h⟩
  have c:Hid (zM bs ls a=.pointer (some ⟨bs.getD (Ur a ls) 0,0,none⟩)):=by unfold Hid zM;rw[xd k]
  have i:Hid (zM bs ls b=.pointer none):=by unfold Hid zM;rw[xe q]
  rw[c.out]at d;rw[i.out]at f;generalize bs.getD (Ur a ls) 0=ba at *;clear n g k q p c i l;go_enter Tryz.func100,Tryz.ntmps100;go_wp2_with fail;go_region_held3 (λw'=>w'.cell? ⟨w.heap.size,0,none⟩=some (.int .i64 a)/\w'.cell? ⟨w.heap.size,1,none⟩=some (.int .i64 b)) (go_keep) (first
   |(go_at_call 148;with_reducible refine(d.out).mono ?_;rintro e w1 ⟨rfl,rfl⟩)
   |(go_at_call 148;with_reducible refine(f.out).mono ?_;rintro e w1 ⟨rfl,rfl⟩))
  go_wp2_with fail;go_ret
  exact⟨rfl,(TQ w _).drew⟩
 have c:Hid (zM bs ls a=.pointer none):=by unfold Hid zM;rw[xe k]
 rw[c.out]at d;obtain⟨t,j⟩:∃x,zM bs ls b=.pointer x:=by unfold zM;split<;>exact⟨_,rfl⟩
 rw[j]at f;clear n g k p c j l;go_enter Tryz.func100,Tryz.ntmps100;go_wp2_with fail;go_region_held3 (λw'=>w'.cell? ⟨w.heap.size,0,none⟩=some (.int .i64 a)/\w'.cell? ⟨w.heap.size,1,none⟩=some (.int .i64 b)) (go_keep) (first
  |(go_at_call 148;with_reducible refine(d.out).mono ?_;rintro e w1 ⟨rfl,rfl⟩)
  |(go_at_call 148;with_reducible refine(f.out).mono ?_;rintro e w1 ⟨rfl,rfl⟩))
 go_wp2_with fail;go_ret
 exact⟨rfl,(TQ w _).drew⟩
