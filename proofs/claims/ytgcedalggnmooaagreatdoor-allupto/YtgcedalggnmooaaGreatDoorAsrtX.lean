import Derived.Test.YtgcedalggnmooaaGreatDoorMp0X
import Derived.Handy
import Derived.Deep.RegionHeld3
set_option linter.all false
set_option maxRecDepth 100000
set_option maxHeartbeats 1600000
namespace Go.Proofs.YtgcedalggnmooaaGreatDoor
open Go.RowKit
open Value renaming int->Y,pointer->vd
open IntKind renaming i64->V
open Option renaming none->U,some->vb
open Obj renaming cells->ve
open Ending renaming returned->vf
open Tryz
def Asn(t u:TypeId)(z:List Int):Prop:=∀v w,(Instr.typeAssert (.iface t v) 105 u true).run prog w=.ok (.tuple #[.agg (z.map (Value.int .i64)).toArray,.bool false]) w
def Asn.o{t u:TypeId}{z:List Int}(h:Asn t u z)(v:Value)(w:World):(Instr.typeAssert (.iface t v) 105 u true).run prog w=.ok (.tuple #[.agg (z.map (Value.int .i64)).toArray,.bool false]) w:=h v w
def Asy(t:TypeId):Prop:=∀v w,(Instr.typeAssert (.iface t v) 105 t true).run prog w=.ok (.tuple #[v,.bool true]) w
def Asy.o{t:TypeId}(h:Asy t)(v:Value)(w:World):(Instr.typeAssert (.iface t v) 105 t true).run prog w=.ok (.tuple #[v,.bool true]) w:=h v w
def Gg:Asy 143:=λv w=>by kernel_rfl
def CE:Asn 143 171 [0]:=λv w=>by kernel_rfl
def vN:Asn 143 174 [0,0]:=λv w=>by kernel_rfl
def sU:Asn 146 143 [0]:=λv w=>by kernel_rfl
def iV:Asy 146:=λv w=>by kernel_rfl
def pE:Asn 146 171 [0]:=λv w=>by kernel_rfl
def kT:Asn 146 174 [0,0]:=λv w=>by kernel_rfl
def Aq:Asn 149 143 [0]:=λv w=>by kernel_rfl
def nN:Asn 149 146 [0,0,0,0]:=λv w=>by kernel_rfl
def tC:Asy 149:=λv w=>by kernel_rfl
def vW:Asn 149 171 [0]:=λv w=>by kernel_rfl
def pL:Asn 149 174 [0,0]:=λv w=>by kernel_rfl
def Al:Asn 152 143 [0]:=λv w=>by kernel_rfl
def nD:Asn 152 146 [0,0,0,0]:=λv w=>by kernel_rfl
def sO:Asn 152 149 [0,0,0]:=λv w=>by kernel_rfl
def sN:Asy 152:=λv w=>by kernel_rfl
def vO:Asn 152 171 [0]:=λv w=>by kernel_rfl
def oZ:Asn 152 174 [0,0]:=λv w=>by kernel_rfl
def Am:Asn 155 143 [0]:=λv w=>by kernel_rfl
def nE:Asn 155 146 [0,0,0,0]:=λv w=>by kernel_rfl
def sR:Asn 155 149 [0,0,0]:=λv w=>by kernel_rfl
def sP:Asn 155 152 [0,0,0]:=λv w=>by kernel_rfl
def sQ:Asy 155:=λv w=>by kernel_rfl
def vP:Asn 155 171 [0]:=λv w=>by kernel_rfl
def pA:Asn 155 174 [0,0]:=λv w=>by kernel_rfl
def vM:Asn 158 143 [0]:=λv w=>by kernel_rfl
def kR:Asn 158 146 [0,0,0,0]:=λv w=>by kernel_rfl
def oX:Asn 158 149 [0,0,0]:=λv w=>by kernel_rfl
def oV:Asn 158 152 [0,0,0]:=λv w=>by kernel_rfl
def oW:Asn 158 155 [0,0,0,0,0]:=λv w=>by kernel_rfl
def nB:Asy 158:=λv w=>by kernel_rfl
def sL:Asn 158 160 [0]:=λv w=>by kernel_rfl
def sK:Asn 158 171 [0]:=λv w=>by kernel_rfl
def nC:Asn 158 174 [0,0]:=λv w=>by kernel_rfl
def CF:Asn 160 143 [0]:=λv w=>by kernel_rfl
def pK:Asn 160 146 [0,0,0,0]:=λv w=>by kernel_rfl
def vV:Asn 160 149 [0,0,0]:=λv w=>by kernel_rfl
def vT:Asn 160 152 [0,0,0]:=λv w=>by kernel_rfl
def vU:Asn 160 155 [0,0,0,0,0]:=λv w=>by kernel_rfl
def tA:Asn 160 158 [0]:=λv w=>by kernel_rfl
def Ap:Asy 160:=λv w=>by kernel_rfl
def Ao:Asn 160 171 [0]:=λv w=>by kernel_rfl
def tB:Asn 160 174 [0,0]:=λv w=>by kernel_rfl
def vQ:Asn 163 143 [0]:=λv w=>by kernel_rfl
def kS:Asn 163 146 [0,0,0,0]:=λv w=>by kernel_rfl
def pD:Asn 163 149 [0,0,0]:=λv w=>by kernel_rfl
def pB:Asn 163 152 [0,0,0]:=λv w=>by kernel_rfl
def pC:Asn 163 155 [0,0,0,0,0]:=λv w=>by kernel_rfl
def nF:Asn 163 158 [0]:=λv w=>by kernel_rfl
def sT:Asn 163 160 [0]:=λv w=>by kernel_rfl
def nG:Asy 163:=λv w=>by kernel_rfl
def sS:Asn 163 171 [0]:=λv w=>by kernel_rfl
def nH:Asn 163 174 [0,0]:=λv w=>by kernel_rfl
def sV:Asn 165 143 [0]:=λv w=>by kernel_rfl
def iW:Asn 165 146 [0,0,0,0]:=λv w=>by kernel_rfl
def nK:Asn 165 149 [0,0,0]:=λv w=>by kernel_rfl
def nI:Asn 165 152 [0,0,0]:=λv w=>by kernel_rfl
def nJ:Asn 165 155 [0,0,0,0,0]:=λv w=>by kernel_rfl
def kU:Asn 165 158 [0]:=λv w=>by kernel_rfl
def pG:Asn 165 160 [0]:=λv w=>by kernel_rfl
def kV:Asn 165 163 [0,0]:=λv w=>by kernel_rfl
def iX:Asy 165:=λv w=>by kernel_rfl
def pF:Asn 165 171 [0]:=λv w=>by kernel_rfl
def kW:Asn 165 174 [0,0]:=λv w=>by kernel_rfl
def An:Asn 168 143 [0]:=λv w=>by kernel_rfl
def nL:Asn 168 146 [0,0,0,0]:=λv w=>by kernel_rfl
def sZ:Asn 168 149 [0,0,0]:=λv w=>by kernel_rfl
def sW:Asn 168 152 [0,0,0]:=λv w=>by kernel_rfl
def sX:Asn 168 155 [0,0,0,0,0]:=λv w=>by kernel_rfl
def pH:Asn 168 158 [0]:=λv w=>by kernel_rfl
def vS:Asn 168 160 [0]:=λv w=>by kernel_rfl
def pI:Asn 168 163 [0,0]:=λv w=>by kernel_rfl
def nM:Asn 168 165 [0,0]:=λv w=>by kernel_rfl
def sY:Asy 168:=λv w=>by kernel_rfl
def vR:Asn 168 171 [0]:=λv w=>by kernel_rfl
def pJ:Asn 168 174 [0,0]:=λv w=>by kernel_rfl
def oY:Asn 171 143 [0]:=λv w=>by kernel_rfl
def fL:Asn 171 146 [0,0,0,0]:=λv w=>by kernel_rfl
def iU:Asn 171 149 [0,0,0]:=λv w=>by kernel_rfl
def iR:Asn 171 152 [0,0,0]:=λv w=>by kernel_rfl
def iS:Asn 171 155 [0,0,0,0,0]:=λv w=>by kernel_rfl
def gZ:Asn 171 158 [0]:=λv w=>by kernel_rfl
def mK:Asn 171 160 [0]:=λv w=>by kernel_rfl
def hU:Asn 171 163 [0,0]:=λv w=>by kernel_rfl
def fM:Asn 171 165 [0,0]:=λv w=>by kernel_rfl
def iT:Asn 171 168 [0,0]:=λv w=>by kernel_rfl
def fK:Asy 171:=λv w=>by kernel_rfl
def sM:Asn 171 174 [0,0]:=λv w=>by kernel_rfl
def vX:Asn 174 143 [0]:=λv w=>by kernel_rfl
def kX:Asn 174 146 [0,0,0,0]:=λv w=>by kernel_rfl
def pQ:Asn 174 149 [0,0,0]:=λv w=>by kernel_rfl
def pM:Asn 174 152 [0,0,0]:=λv w=>by kernel_rfl
def pO:Asn 174 155 [0,0,0,0,0]:=λv w=>by kernel_rfl
def nO:Asn 174 158 [0]:=λv w=>by kernel_rfl
def tD:Asn 174 160 [0]:=λv w=>by kernel_rfl
def nP:Asn 174 163 [0,0]:=λv w=>by kernel_rfl
def kY:Asn 174 165 [0,0]:=λv w=>by kernel_rfl
def pP:Asn 174 168 [0,0]:=λv w=>by kernel_rfl
def iA:Asn 174 171 [0]:=λv w=>by kernel_rfl
def fD:Asy 174:=λv w=>by kernel_rfl
def Om(v : Value)(w : World): (method 459 143 v "InRange").run prog w = .ok (279, v) w := by kernel_rfl
def BC(v : Value)(w : World): (method 459 146 v "InRange").run prog w = .ok (281, v) w := by kernel_rfl
def Hj(v : Value)(w : World): (method 459 149 v "InRange").run prog w = .ok (284, v) w := by kernel_rfl
def Hg(v : Value)(w : World): (method 459 152 v "InRange").run prog w = .ok (285, v) w := by kernel_rfl
def Hh(v : Value)(w : World): (method 459 155 v "InRange").run prog w = .ok (286, v) w := by kernel_rfl
def DE(v : Value)(w : World): (method 459 158 v "InRange").run prog w = .ok (287, v) w := by kernel_rfl
def KS(v : Value)(w : World): (method 459 160 v "InRange").run prog w = .ok (288, v) w := by kernel_rfl
def DF(v : Value)(w : World): (method 459 163 v "InRange").run prog w = .ok (289, v) w := by kernel_rfl
def BD(v : Value)(w : World): (method 459 165 v "InRange").run prog w = .ok (290, v) w := by kernel_rfl
def Hi(v : Value)(w : World): (method 459 168 v "InRange").run prog w = .ok (291, v) w := by kernel_rfl
def KQ(v : Value)(w : World): (method 459 171 v "InRange").run prog w = .ok (292, v) w := by kernel_rfl
def DG(v : Value)(w : World): (method 459 174 v "InRange").run prog w = .ok (293, v) w := by kernel_rfl
def zS(l:L)(n:Nat):L:={ l with free:=l.free-n,gv:=l.gv+n }
def iC(l:L)(n:Nat):L:={ l with free:=l.free-n,sc:=l.sc+n }
def dK(w:World)(b:Nat)(l:L)(n:Nat):World :=
 ((w.setCell ⟨b,6,U⟩ (Y V ((l.free:Int)-(n:Int)))).setCell ⟨b,10,U⟩ (Y V ((l.gv:Int)+(n:Int)))).alloc (ve #[Y V l.id,Y V n] 234)
def lG(w:World)(b:Nat)(l:L)(n:Nat):(dK w b l n).heap.size=w.heap.size+1:=by simp[dK,World.setCell]
variable {S b td:Nat}{l:L}{w:World}
def gQ{pv:Value}(f:w.heap[b]?=vb (ve (zm l pv) 231 (0,0)))(n:Nat)(g:n<=l.free):(dK w b l n).heap[b]?=vb (ve (zm (zS l n) pv) 231 (0,0)):=by
 have e:=xu w b 6 _ 231 (Y V ((l.free:Int)-(n:Int))) f;have a:=xu _ b 10 _ 231 (Y V ((l.gv:Int)+(n:Int))) e;rw[dK,Ys _ _ _ (zc a),a];have c:((l.free-n:Nat):Int)=(l.free:Int)-(n:Int):=by omega
 have d:((l.gv+n:Nat):Int)=(l.gv:Int)+(n:Int):=by omega
 simp[zm,zS,c,d]
def ZY{n k:Nat}(c:k<w.heap.size)(a:k≠b):(dK w b l n).heap[k]?=w.heap[k]?:=by
 rw[dK,Ys _ _ _ (by simp[World.setCell];exact c),xd _ _ _ _ a,xd _ _ _ _ a]
variable {Z:Nat->Prop}
def wS(w:World)(b:Nat)(l:L)(n:Nat)(a:Z b):Kp Z w (dK w b l n):=by
 refine Kp.after (Kp.setCell (Kp.setCell (Kp.refl Z w) ?_ _) ?_ _) (Wm _ _)
 ·exact Or.inl a
 exact Or.inl a
def wT{pv:Value}(a:w.heap[b]?=vb (ve (zm l pv) 231 (0,0)))(c:L.Ok l)(n:Nat)(r:n<=l.free):Calls prog 149 #[vd (vb ⟨b,0,U⟩),Y V n] w λe w'=>e=vf (.agg #[Y V l.id,Y V n])/\w'=dK w b l n:=by
 have k:=zc a;have c0:w.cell? ⟨b,0,U⟩=vb (Y V l.id):=by rw[za a];rfl
 have p:w.cell? ⟨b,6,U⟩=vb (Y V l.free):=by rw[za a];rfl
 have f:w.cell? ⟨b,10,U⟩=vb (Y V l.gv):=by rw[za a];rfl
 have q:=ze a 6;have g:=ze a 10;have j:=c.id;have d:=c.sum;have h:l.free<=2147483647:=by omega
 have i:l.gv+n<=2147483647:=by omega
 have m:=zb a;clear a d c;go_enter func149,ntmps149;go_wp2_with fail;go_returns;exact⟨rfl,rfl⟩
variable {M:Mx}{bs:List Nat}{ls:List L}{os:List O}{pvs:List Value}{rj:List (Nat×Nat)}{v:Value}
def PV.lotset{W:World}(h:PV os rj w S M v td bs pvs ls){i:Nat}(f:i<ls.length){l':L}(C:L.Ok l')(s:l'.par=(ls.getD i L0).par)
  (A:W.heap[bs.getD i 0]?=vb (ve (zm l' (pvs.getD i default)) 231 (0,0))) (n:∀k,k<w.heap.size->k≠bs.getD i 0->W.heap[k]?=w.heap[k]?):PV os rj W S M v td bs pvs (ls.set i l'):={
 store:=by rw[n S (zc h.store) (zt h.store (h.lot i f) (by decide))];exact h.store
 maps:=h.maps.congr (λk E c y=>n k (zc y) (Za (h.lot i f) y).symm)
 row:=zd h.row (λg B=>by
  obtain⟨z,x⟩:=zi h.row B;exact n g (zc x) (zt (h.lot i f) x (by decide)).symm)
 len:=by rw[xp];exact h.len
 plen:=by rw[xp];exact h.plen
 lot:=λj b=>by
  rw[xp]at b;by_cases a:j=i
  ·subst a;rw[A];simp[WI,yi,b]
  have r:bs.getD j 0≠bs.getD i 0:=λe=>a (by
   have d:j<bs.length:=by rw[h.len];exact b
   have m:i<bs.length:=by rw[h.len];exact f
   rw[WI,WI,xj d,xj m]at e;simp only[yz]at e;exact(List.getElem?_inj d h.nodup).1 (by rw[xj d,xj m,e]))
  rw[n _ (zc (h.lot j b)) r,h.lot j b];simp[WI,yi,YM a]
 par:=λj b=>by
  rw[xp]at b;have e:((ls.set i l').getD j L0).par=(ls.getD j L0).par:=by
   by_cases a:j=i
   ·subst a;rw[<-s];simp[WI,yi,b]
   simp[WI,yi,YM a]
  rw[e];exact(h.par j b).congr (λq t=>by
   obtain⟨z,u⟩:=(h.par j b).blk t;exact n _ (zc u) (zt (h.lot i f) u (by decide)).symm)
 nodup:=h.nodup
 today:=h.today
 ok:=λl D=>by
  rcases Yd D with p|p
  ·exact h.ok l p
  subst p;exact C
 room:=by rw[xp];exact h.room}
def oE(h:L.Ok l){n:Nat}(a:n<=l.free):L.Ok (zS l n):=⟨h.id,h.gd,h.ex,h.place,(by have:=h.sum;show l.free-n+l.hd+l.sh+l.sc+(l.gv+n)<=2147483647;omega),h.got,h.par⟩
def Ce(h:L.Ok l){n:Nat}(a:n<=l.free):L.Ok (iC l n):=⟨h.id,h.gd,h.ex,h.place,(by have:=h.sum;show l.free-n+l.hd+l.sh+(l.sc+n)+l.gv<=2147483647;omega),h.got,h.par⟩
def Zw(ls:List L)(n c:Nat):Nat:=if WO n ls<ls.length then (if (ls.getD (WO n ls) L0).free<c then 7 else 0) else 4
def Zx(ls:List L)(n c:Nat):List L:=if Zw ls n c=0 then ls.set (WO n ls) (iC (ls.getD (WO n ls) L0) c) else ls
def LK(h:PI os rj Z w S td ls)(n c:Nat)(h1:n<=2147483647)(h2:c<=2147483647):Calls prog 106 #[vd (vb ⟨S,0,U⟩),.agg #[Y V n,Y V c]] w λe w'=>Kp Z w w'/\e=vf (Y V (Zw ls n c:Int))/\PI os rj (Zn Z w) w' S td (Zx ls n c):=by
 obtain⟨M,v,g,m,s,q⟩:=h;have d:=s.below (Wm w (Obj.cells #[Y V n,Y V c] 168));have z:=zb (Zy d n h1);by_cases i:WO n ls<ls.length
 ·have y:Ha (zJ g ls n=vd (vb ⟨g.getD (WO n ls) 0,0,U⟩)):=by unfold Ha zJ;rw[xh i]
  rw[y.o]at z;have a:=s.lot _ i;have N:=zc a;have f:=s.ok _ (zf i);have t:g.getD (WO n ls) 0∈g:=zH (by rw[s.len];exact i);have u:Z (g.getD (WO n ls) 0):=q.b _ t;obtain⟨l,A⟩:=Xc (ls.getD (WO n ls) L0);rw[<-A.o]at a f;by_cases R:l.free<c
  ·have r:Ha (Zw ls n c=7):=by unfold Ha Zw;rw[xh i,<-A.o,xh R]
   have C:Ha (Zx ls n c=ls):=by unfold Ha Zx;rw[r.o];rfl
   generalize m.getD (WO n ls) default=pv at a;generalize g.getD (WO n ls) 0=b at *;have c6:w.cell? ⟨b,6,U⟩=vb (Y V l.free):=by rw[za a];rfl
   have j:=f.sum;have K:l.free<=2147483647:=by omega
   have B:=zb d;clear s d a f j;go_enter func106,ntmps106;go_wp2_with (go_at_call 148;refine z.mono ?_;rintro e w1 ⟨rfl,rfl⟩);go_region;go_wp2_with fail;go_ret;refine⟨WT ((Wm w _).drew),by rw[r.o];rfl,M,v,g,m,?_,q.mono (λk D=>Or.inl D)⟩;rw[C.o];exact B.below (xm _ _).drew
  have r:Ha (Zw ls n c=0):=by unfold Ha Zw;rw[xh i,<-A.o,xg R]
  have C:Ha (Zx ls n c=ls.set (WO n ls) (iC l c)):=by unfold Ha Zx;rw[r.o,<-A.o];rfl
  have B:=zb s;have T:=zb i;generalize E:m.getD (WO n ls) default=pv at a;have J:=zb E;clear E;obtain⟨b,G⟩:=Xc (g.getD (WO n ls) 0);rw[<-G.o]at a z y N u;have c6:w.cell? ⟨b,6,U⟩=vb (Y V l.free):=by rw[za a];rfl
  have c9:w.cell? ⟨b,9,U⟩=vb (Y V l.sc):=by rw[za a];rfl
  have f6:=ze a 6;have f9:=ze a 9;have X:=zb f;have H:=zb a;have j:=f.sum;have K:l.free<=2147483647:=by omega
  have a0:l.sc+c<=2147483647:=by omega
  clear s d a f j i t y;go_enter func106,ntmps106;go_wp2_with (go_at_call 148;refine z.mono ?_;rintro e w1 ⟨rfl,rfl⟩);go_region;go_wp2_with fail;go_region;go_wp2_with fail;go_region;go_wp2_with fail;go_ret;have P:=xu w b 6 _ 231 (Y V ((l.free:Int)-(c:Int))) H;have Q:=xu _ b 9 _ 231 (Y V ((l.sc:Int)+(c:Int))) P;have p:((w.setCell ⟨b,6,U⟩ (Y V ((l.free:Int)-(c:Int)))).setCell ⟨b,9,U⟩ (Y V ((l.sc:Int)+(c:Int)))).heap[b]?=vb (ve (zm (iC l c) pv) 231 (0,0)):=by
   rw[Q];have e1:((l.free-c:Nat):Int)=(l.free:Int)-(c:Int):=by omega
   have e2:((l.sc+c:Nat):Int)=(l.sc:Int)+(c:Int):=by omega
   simp[zm,iC,e1,e2]
  refine⟨?_,by rw[r.o];rfl,M,v,g,m,?_,q.mono (λk D=>Or.inl D)⟩
  ·refine Kp.after (Kp.setCell (Kp.setCell (Kp.refl Z w) ?_ _) ?_ _) (((Wm _ _).drew).drew).drew
   ·exact Or.inl u
   exact Or.inl u
  rw[C.o];have F:=B.lotset (W:=(w.setCell ⟨b,6,U⟩ (Y V ((l.free:Int)-(c:Int)))).setCell ⟨b,9,U⟩ (Y V ((l.sc:Int)+(c:Int)))) T (l':=iC l c) (Ce X (by omega)) (by rw[A.o];rfl) (by rw[J.o,<-G.o];exact p) (λk _ x=>by
   rw[<-G.o]at x;rw[xd _ _ _ _ x,xd _ _ _ _ x])
  exact F.below (((Wm _ _).drew).drew).drew
 have y:Ha (zJ g ls n=vd U):=by unfold Ha zJ;rw[xg i]
 have r:Ha (Zw ls n c=4):=by unfold Ha Zw;rw[xg i]
 have C:Ha (Zx ls n c=ls):=by unfold Ha Zx;rw[r.o];rfl
 rw[y.o]at z;have B:=zb d;clear s d i y;go_enter func106,ntmps106;go_wp2_with (go_at_call 148;refine z.mono ?_;rintro e w1 ⟨rfl,rfl⟩);go_ret;refine⟨WT (Wm w _),by rw[r.o];rfl,M,v,g,m,?_,q.mono (λk D=>Or.inl D)⟩;rw[C.o];exact B
def WZ(ls:List L)(id gd expiry got:Nat)(ps:List (Nat×Nat)):L:={ id:=id,gd:=gd,ex:=expiry,place:=ls.length+1,got:=got,free:=got,hd:=0,sh:=0,sc:=0,gv:=0,par:=ps }
def zO(ls:List L)(n m c:Nat):Nat:=if WO n ls<ls.length then (if zx ls m=0 then (if (ls.getD (WO n ls) L0).free<c then 7 else 0) else zx ls m) else 4
def aE(ls:List L)(n m c:Nat):List L :=
 if zO ls n m c=0 then ls.set (WO n ls) (zS (ls.getD (WO n ls) L0) c)++[WZ ls m (ls.getD (WO n ls) L0).gd (ls.getD (WO n ls) L0).ex c [((ls.getD (WO n ls) L0).id,c)]] else ls
def fA(ls:List L)(n:Nat):zx ls n<=6:=by unfold zx;split<;>(try split)<;>omega
def kF{n:Nat}(h:zx ls n=0):ls.length<30:=by
 unfold zx at h;by_cases a:30<=ls.length
 ·split at h
  ·omega
  omega
 omega
def Pa(h:PI os rj Z w S td ls)(n m c:Nat)(A:n<=2147483647)(B:m<=2147483647)(J:c<=2147483647)(q:zO ls n m c≠0):Calls prog 99 #[vd (vb ⟨S,0,U⟩),.agg #[Y V n,Y V m,Y V c]] w λe w'=>e=vf (Y V (zO ls n m c:Int))/\Below w.heap.size w w':=by
 obtain⟨M,v,u,y,p,D⟩:=h;have d:=p.below (Wm w (Obj.cells #[Y V n,Y V m,Y V c] 149));have s:=zb (Zy d n A);have x:=zb (kG d m B);have g:=fA ls m;by_cases f:WO n ls<ls.length
 ·have k:Ha (zJ u ls n=vd (vb ⟨u.getD (WO n ls) 0,0,U⟩)):=by unfold Ha zJ;rw[xh f]
  rw[k.o]at s;have a:=p.lot _ f;have j:=p.ok _ (zf f);generalize u.getD (WO n ls) 0=b at *;by_cases r:zx ls m=0
  ·have G:(ls.getD (WO n ls) L0).free<c:=by
    unfold zO at q;rw[xh f,xh r]at q;by_cases z:(ls.getD (WO n ls) L0).free<c
    ·exact z
    rw[xg z]at q;exact absurd rfl q
   have i:Ha (zO ls n m c=7):=by unfold Ha zO;rw[xh f,xh r,xh G]
   rw[i.o];rw[r]at x;generalize y.getD (WO n ls) default=pv at *;generalize ls.getD (WO n ls) L0=l at *;have H:w.cell? ⟨b,6,U⟩=vb (Y V l.free):=by rw[za a];rfl
   have E:=zc a;have t:=j.sum;have C:l.free<=2147483647:=by omega
   clear p d a j t f r g q k i;go_enter func99,ntmps99;go_wp2_with (first
    |(go_at_call 148;refine s.mono ?_;rintro e w1 ⟨rfl,rfl⟩)
    |(go_at_call 146;refine x.mono ?_;rintro e w1 ⟨rfl,rfl⟩))
   go_region
   go_wp2_with fail;go_ret
   exact⟨rfl,(Wm w _).drew⟩
  have i:Ha (zO ls n m c=zx ls m):=by unfold Ha zO;rw[xh f,xg r]
  rw[i.o];have F:((zx ls m:Int) != 0)=true:=by rw[YP];omega
  generalize zx ls m=rc at *;clear p d a j f r q k i;go_enter func99,ntmps99;go_wp2_with (first
   |(go_at_call 148;refine s.mono ?_;rintro e w1 ⟨rfl,rfl⟩)
   |(go_at_call 146;refine x.mono ?_;rintro e w1 ⟨rfl,rfl⟩))
  go_ret;exact⟨rfl,Wm w _⟩
 have k:Ha (zJ u ls n=vd U):=by unfold Ha zJ;rw[xg f]
 have i:Ha (zO ls n m c=4):=by unfold Ha zO;rw[xg f]
 rw[k.o]at s;rw[i.o];clear p d f k g;go_enter func99,ntmps99;go_wp2_with (go_at_call 148;refine s.mono ?_;rintro e w1 ⟨rfl,rfl⟩);go_ret;exact⟨rfl,Wm w _⟩
def Kp.cell{Z:Nat->Prop}{w w':World}(h:Kp Z w w'){b j:Nat}{x:Value}(d:¬Z b)(a:b<w.heap.size)(c:w.cell? ⟨b,j,U⟩=vb x):w'.cell? ⟨b,j,U⟩=vb x:=by
 rw[<-c];unfold World.cell?;simp only[h.block b a d]
def PV.apart(h:PV os rj w S M v td bs pvs ls){b:Nat}{c:Array Value}{t:TypeId}(a:w.heap[b]?=vb (ve c t (0,0)))(f:t≠117)(g:t≠191):¬(b=S\/v.ownBlock=vb b):=by
 rintro(e|e)
 ·exact zt a h.store f e
 obtain⟨d,i⟩:=zi h.row e;exact zt a i g rfl
def LX(h:PI os rj Z w S td ls)(n m c:Nat)(h1:n<=2147483647)(h2:m<=2147483647)(h3:c<=2147483647)(W:WO n ls<ls.length)(hr:zx ls m=0)(hs:¬(ls.getD (WO n ls) L0).free<c):Calls prog 99 #[vd (vb ⟨S,0,U⟩),.agg #[Y V n,Y V m,Y V c]] w λe w'=>Kp Z w w'/\e=vf (Y V 0) /\
   PI os rj (Zn Z w) w' S td (ls.set (WO n ls) (zS (ls.getD (WO n ls) L0) c)++[WZ ls m (ls.getD (WO n ls) L0).gd (ls.getD (WO n ls) L0).ex c [((ls.getD (WO n ls) L0).id,c)]]):=by
 obtain⟨M,v,bs,a7,T,t⟩:=h;have A:=T.below (Wm w (Obj.cells #[Y V n,Y V m,Y V c] 149));have HR:=zb (Zy A n h1);have HM:=zb (kG A m h2);have a3:=kF hr;have HF:Ha (zJ bs ls n=vd (vb ⟨bs.getD (WO n ls) 0,0,U⟩)):=by unfold Ha zJ;rw[xh W]
 rw[HF.o]at HR;rw[hr]at HM;have r:=A.lot _ W;have x:=T.ok _ (zf W);have a1:Z (bs.getD (WO n ls) 0):=t.b _ (zH (by rw[T.len];exact W));obtain⟨l,HL⟩:=Xc (ls.getD (WO n ls) L0);obtain⟨b,HB⟩:=Xc (bs.getD (WO n ls) 0);obtain⟨pv,HV⟩:=Xc (a7.getD (WO n ls) default);rw[<-HL.o]at r x hs ⊢;rw[<-HB.o]at r HR a1;rw[<-HV.o]at r;have F:b<w.heap.size:=by
  have:=zc r
  have h2:=zt r (xq w (Obj.cells #[Y V n,Y V m,Y V c] 149)) (by decide);simp at this;omega
 have y:w.heap[b]?=vb (ve (zm l pv) 231 (0,0)):=by rw[<-Ys w (Obj.cells #[Y V n,Y V m,Y V c] 149) b F];exact r
 have a5:=x.sum;have b6:l.free<=2147483647:=by omega
 have b1:=x.gd;have b0:=x.ex;have a2:=x.id;have c6:w.cell? ⟨b,6,U⟩=vb (Y V l.free):=by rw[za y];rfl
 obtain⟨w1,D⟩:∃w1,w1=(w.alloc (Obj.cells #[Y V n,Y V m,Y V c] 149)).drew:=⟨_,rfl⟩
 have C:Below w.heap.size w w1:=by rw[D];exact(Wm w _).drew
 have u:w1.heap[b]?=vb (ve (zm l pv) 231 (0,0)):=by rw[C.block b F];exact y
 have z:w1.heap[w.heap.size]?=vb (Obj.cells #[Y V n,Y V m,Y V c] 149 (0,0)):=by rw[D];exact xq w _
 have a6:w1.heap.size=w.heap.size+1:=by rw[D];simp
 have HG:=zb (wT u x c (by omega));have P:PV os rj (dK w1 b l c) S M v td bs a7 (ls.set (WO n ls) (zS l c)):=(T.below C).lotset W (l':=zS l c) (oE x (by omega)) (by rw[HL.o];rfl) (by rw[<-HV.o,<-HB.o];exact gQ u c (by omega)) (λk hk b2=>ZY hk (by rw[HB.o];exact b2));have i:=gQ u c (by omega);have R:Kp Z w (dK w1 b l c):=Kp.before C (wS w1 b l c (Or.inl a1));have J:=lG w1 b l c;have d:(dK w1 b l c).heap[w.heap.size]?=vb (Obj.cells #[Y V n,Y V m,Y V c] 149 (0,0)):=by
  rw[ZY (by omega) (λe=>by omega)];exact z
 obtain⟨G,X⟩:=Xc (dK w1 b l c);rw[<-X.o]at HG P i R J d;have g1:G.cell? ⟨w.heap.size,1,U⟩=vb (Y V m):=by rw[za d];rfl
 have g2:G.cell? ⟨w.heap.size,2,U⟩=vb (Y V c):=by rw[za d];rfl
 have b4:G.cell? ⟨b,1,U⟩=vb (Y V l.gd):=by rw[za i];rfl
 have b5:G.cell? ⟨b,2,U⟩=vb (Y V l.ex):=by rw[za i];rfl
 have a4:=xq G (Obj.cells #[Y V l.id,Y V c] 234);have B:=P.below (Wm G (Obj.cells #[Y V l.id,Y V c] 234)).drew;have H:Par (G.alloc (Obj.cells #[Y V l.id,Y V c] 234)).drew (.slice (vb ⟨G.heap.size,0,U⟩) 1 1) [(l.id,c)]:=by
  refine Or.inr ⟨G.heap.size,1,_,rfl,a4,λj hj=>?_⟩;obtain rfl:j=0:=by simp at hj;omega
  exact⟨rfl,rfl⟩
 have Q:=(Wm G (Obj.cells #[Y V l.id,Y V c] 234)).drew;have a:=(Q.block _ (zc d)).trans d;have f:=(Q.block _ (zc i)).trans i;have K:=B.apart a (by decide) (by decide);have N:=B.apart f (by decide) (by decide);have e1:(G.alloc (Obj.cells #[Y V l.id,Y V c] 234)).drew.cell? ⟨w.heap.size,1,U⟩=vb (Y V m):=by rw[za a];rfl
 have e2:(G.alloc (Obj.cells #[Y V l.id,Y V c] 234)).drew.cell? ⟨w.heap.size,2,U⟩=vb (Y V c):=by rw[za a];rfl
 have e3:(G.alloc (Obj.cells #[Y V l.id,Y V c] 234)).drew.cell? ⟨b,1,U⟩=vb (Y V l.gd):=by rw[za f];rfl
 have e4:(G.alloc (Obj.cells #[Y V l.id,Y V c] 234)).drew.cell? ⟨b,2,U⟩=vb (Y V l.ex):=by rw[za f];rfl
 have HA:=zb ((CD B m l.gd l.ex c _ _ H ⟨by simp,by simp;exact a2⟩ (by rw[xp];exact a3) h2 b1 b0 h3).mono (λe w' E=>(⟨E.1,zb E.2,E.2.1.cell K (zc a) e1,E.2.1.cell K (zc a) e2,E.2.1.cell N (zc f) e3,E.2.1.cell N (zc f) e4⟩:_/\Ha _/\_/\_/\_/\_)));have b3:=zb T;have HK:=zb R;have a8:Ha (G.heap.size=w.heap.size+2):=by unfold Ha;omega
 subst D;clear J a6 T A r y x a5 hr W u z P i R d a4 B H HF X C Q a f K N e1 e2 e3 e4;go_enter func99,ntmps99;go_wp2_with (first
  |(go_at_call 148;refine HR.mono ?_;rintro e w1 ⟨rfl,rfl⟩)
  |(go_at_call 146;refine HM.mono ?_;rintro e w1 ⟨rfl,rfl⟩))
 go_region
 go_wp2_with (go_at_call 149;refine HG.mono ?_;rintro e w2 ⟨rfl,rfl⟩)
 go_region_held3 (λw'=>w'.cell? ⟨w.heap.size,1,U⟩=vb (Y V m)/\w'.cell? ⟨w.heap.size,2,U⟩=vb (Y V c)/\w'.cell? ⟨b,1,U⟩=vb (Y V l.gd)/\w'.cell? ⟨b,2,U⟩=vb (Y V l.ex)) (go_keep) (first|(go_at_call 147;refine HA.mono ?_;rintro e w3 ⟨rfl,E,e1,e2,e3,e4⟩))
 go_wp2_with fail;go_ret
 have b7:=a8.o;obtain⟨hk,v',a0,a9⟩:=E.o;refine⟨?_,rfl,M,v',_,_,(by rw[xp]at a0;exact a0),?_⟩
 ·exact(HK.after (Wm _ _).drew).trans (hk.mono (λk hq=>Or.inl (hq.elim (λe=>e ▸ t.s) (λe=>t.v k e))))
 refine⟨Or.inl t.s,Or.inl t.m,Or.inl t.mo,Or.inl t.mh,λg hg=>?_,λk hk=>?_,λpv hp q hq=>?_⟩
 ·rcases a9 g hg with h|h
  ·exact Or.inl (t.v g h)
  right;simp at h;omega
 ·rcases xx.1 hk with h|h
  ·exact Or.inl (t.b k h)
  right;simp at h;omega
 rcases xx.1 hp with h|h
 ·exact Or.inl (t.p pv h q hq)
 right
 simp at h;subst h;simp[Value.ownBlock]at hq;omega
def LW(h:PI os rj Z w S td ls)(n m c:Nat)(l:n<=2147483647)(p:m<=2147483647)(q:c<=2147483647):Calls prog 99 #[vd (vb ⟨S,0,U⟩),.agg #[Y V n,Y V m,Y V c]] w λe w'=>Kp Z w w'/\e=vf (Y V (zO ls n m c:Int))/\PI os rj (Zn Z w) w' S td (aE ls n m c):=by
 by_cases a:zO ls n m c=0
 ·have i:WO n ls<ls.length/\zx ls m=0/\¬(ls.getD (WO n ls) L0).free<c:=by
   unfold zO at a;by_cases f:WO n ls<ls.length
   ·rw[xh f]at a;by_cases b:zx ls m=0
    ·rw[xh b]at a;refine⟨f,b,λu=>?_⟩;rw[xh u]at a;omega
    rw[xg b]at a;exact absurd a b
   rw[xg f]at a;omega
  have d:aE ls n m c=_:=xh a;rw[a,d];exact LX h n m c l p q i.1 i.2.1 i.2.2
 have d:aE ls n m c=ls:=xg a;rw[d];refine(Pa h n m c l p q a).mono λe w' ⟨he,hb⟩=>⟨WT hb,he,?_⟩
 obtain⟨M,v,r,j,s,g⟩:=h;exact⟨M,v,r,j,s.below hb,g.mono (λk t=>Or.inl t)⟩
def zg(ls:List L)(n:Nat):L:=ls.getD (WO n ls) L0
def zL(ls:List L)(a b m:Nat):Nat :=
 if WO a ls<ls.length/\WO b ls<ls.length then
  (if WO a ls=WO b ls\/(zg ls a).gd≠(zg ls b).gd then 8 else
   if zx ls m=0 then (if (zg ls a).free+(zg ls b).free=0 then 7 else if 2147483647<(zg ls a).free+(zg ls b).free then 2 else 0) else zx ls m)
 else 4
def ZG(ls:List L)(a b m:Nat):List L :=
 if zL ls a b m=0 then (ls.set (WO a ls) (zS (zg ls a) (zg ls a).free)).set (WO b ls) (zS (zg ls b) (zg ls b).free)++[WZ ls m (zg ls a).gd (min (zg ls a).ex (zg ls b).ex) ((zg ls a).free+(zg ls b).free) [((zg ls a).id,(zg ls a).free),((zg ls b).id,(zg ls b).free)]] else ls
def QB(h:PV os rj w S M v td bs pvs ls){i j:Nat}(d:i<ls.length)(f:j<ls.length)(c:i≠j):bs.getD i 0≠bs.getD j 0:=λe=>c (by
 have b:j<bs.length:=by rw[h.len];exact f
 have a:i<bs.length:=by rw[h.len];exact d
 rw[WI,WI,xj b,xj a]at e;simp only[yz]at e;exact(List.getElem?_inj a h.nodup).1 (by rw[xj b,xj a,e]))
def Hf(n:PV os rj w S M v td bs pvs ls)(a b m:Nat)(r:a<=2147483647)(s:b<=2147483647)(u:m<=2147483647)(p:¬(WO a ls<ls.length/\WO b ls<ls.length)):Calls prog 100 #[vd (vb ⟨S,0,U⟩),.agg #[Y V a,Y V b,Y V m]] w λe w'=>e=vf (Y V 4)/\Below w.heap.size w w':=by
 have g:=n.below (Wm w (Obj.cells #[Y V a,Y V b,Y V m] 152)).drew;have d:=zb (Zy g a r);have f:=zb (Zy g b s);have l:=xq w (Obj.cells #[Y V a,Y V b,Y V m] 152);by_cases k:WO a ls<ls.length
 ·have q:¬WO b ls<ls.length:=λh=>p ⟨k,h⟩
  have c:Ha (zJ bs ls a=vd (vb ⟨bs.getD (WO a ls) 0,0,U⟩)):=by unfold Ha zJ;rw[xh k]
  have i:Ha (zJ bs ls b=vd U):=by unfold Ha zJ;rw[xg q]
  rw[c.o]at d;rw[i.o]at f;generalize bs.getD (WO a ls) 0=ba at *;clear n g k q p c i l;go_enter func100,ntmps100;go_wp2_with fail;go_region_held3 (λw'=>w'.cell? ⟨w.heap.size,0,U⟩=vb (Y V a)/\w'.cell? ⟨w.heap.size,1,U⟩=vb (Y V b)) (go_keep) (first
   |(go_at_call 148;with_reducible refine(d.o).mono ?_;rintro e w1 ⟨rfl,rfl⟩)
   |(go_at_call 148;with_reducible refine(f.o).mono ?_;rintro e w1 ⟨rfl,rfl⟩))
  go_wp2_with fail;go_ret
  exact⟨rfl,(Wm w _).drew⟩
 have c:Ha (zJ bs ls a=vd U):=by unfold Ha zJ;rw[xg k]
 rw[c.o]at d;obtain⟨t,j⟩:∃x,zJ bs ls b=vd x:=by unfold zJ;split<;>exact⟨_,rfl⟩
 rw[j]at f;clear n g k p c j l;go_enter func100,ntmps100;go_wp2_with fail;go_region_held3 (λw'=>w'.cell? ⟨w.heap.size,0,U⟩=vb (Y V a)/\w'.cell? ⟨w.heap.size,1,U⟩=vb (Y V b)) (go_keep) (first
  |(go_at_call 148;with_reducible refine(d.o).mono ?_;rintro e w1 ⟨rfl,rfl⟩)
  |(go_at_call 148;with_reducible refine(f.o).mono ?_;rintro e w1 ⟨rfl,rfl⟩))
 go_wp2_with fail;go_ret
 exact⟨rfl,(Wm w _).drew⟩
