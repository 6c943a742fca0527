import Derived.Test.YtgcedalggnmooaaGreatDoorMp0X
import Derived.Handy
import Derived.Deep.RegionHeld3
set_option linter.all false
set_option maxRecDepth 100000
set_option maxHeartbeats 1600000
namespace Go.Proofs.YtgcedalggnmooaaGreatDoor
open Go.RowKit
open Tryz
def Asn(t u:TypeId)(z:List Int):Prop:=∀v w,(Instr.typeAssert (.iface t v) 105 u true).run prog w=.ok (.tuple #[.agg (z.map (Value.int .i64)).toArray,.bool false]) w
def Asn.o{t u:TypeId}{z:List Int}(h:Asn t u z)(v:Value)(w:World):(Instr.typeAssert (.iface t v) 105 u true).run prog w=.ok (.tuple #[.agg (z.map (Value.int .i64)).toArray,.bool false]) w:=h v w
def Asy(t:TypeId):Prop:=∀v w,(Instr.typeAssert (.iface t v) 105 t true).run prog w=.ok (.tuple #[v,.bool true]) w
def Asy.o{t:TypeId}(h:Asy t)(v:Value)(w:World):(Instr.typeAssert (.iface t v) 105 t true).run prog w=.ok (.tuple #[v,.bool true]) w:=h v w
def FM:Asy 143:=λv w=>by kernel_rfl
def Cr:Asn 143 171 [0]:=λv w=>by kernel_rfl
def vG:Asn 143 174 [0,0]:=λv w=>by kernel_rfl
def sR:Asn 146 143 [0]:=λv w=>by kernel_rfl
def iS:Asy 146:=λv w=>by kernel_rfl
def pB:Asn 146 171 [0]:=λv w=>by kernel_rfl
def kQ:Asn 146 174 [0,0]:=λv w=>by kernel_rfl
def Ad:Asn 149 143 [0]:=λv w=>by kernel_rfl
def nK:Asn 149 146 [0,0,0,0]:=λv w=>by kernel_rfl
def sZ:Asy 149:=λv w=>by kernel_rfl
def vP:Asn 149 171 [0]:=λv w=>by kernel_rfl
def pI:Asn 149 174 [0,0]:=λv w=>by kernel_rfl
def yY:Asn 152 143 [0]:=λv w=>by kernel_rfl
def nA:Asn 152 146 [0,0,0,0]:=λv w=>by kernel_rfl
def sL:Asn 152 149 [0,0,0]:=λv w=>by kernel_rfl
def sK:Asy 152:=λv w=>by kernel_rfl
def vH:Asn 152 171 [0]:=λv w=>by kernel_rfl
def oW:Asn 152 174 [0,0]:=λv w=>by kernel_rfl
def yZ:Asn 155 143 [0]:=λv w=>by kernel_rfl
def nB:Asn 155 146 [0,0,0,0]:=λv w=>by kernel_rfl
def sO:Asn 155 149 [0,0,0]:=λv w=>by kernel_rfl
def sM:Asn 155 152 [0,0,0]:=λv w=>by kernel_rfl
def sN:Asy 155:=λv w=>by kernel_rfl
def vI:Asn 155 171 [0]:=λv w=>by kernel_rfl
def oX:Asn 155 174 [0,0]:=λv w=>by kernel_rfl
def vF:Asn 158 143 [0]:=λv w=>by kernel_rfl
def kO:Asn 158 146 [0,0,0,0]:=λv w=>by kernel_rfl
def oU:Asn 158 149 [0,0,0]:=λv w=>by kernel_rfl
def oS:Asn 158 152 [0,0,0]:=λv w=>by kernel_rfl
def oT:Asn 158 155 [0,0,0,0,0]:=λv w=>by kernel_rfl
def mY:Asy 158:=λv w=>by kernel_rfl
def sI:Asn 158 160 [0]:=λv w=>by kernel_rfl
def sH:Asn 158 171 [0]:=λv w=>by kernel_rfl
def mZ:Asn 158 174 [0,0]:=λv w=>by kernel_rfl
def Ct:Asn 160 143 [0]:=λv w=>by kernel_rfl
def pH:Asn 160 146 [0,0,0,0]:=λv w=>by kernel_rfl
def vO:Asn 160 149 [0,0,0]:=λv w=>by kernel_rfl
def vM:Asn 160 152 [0,0,0]:=λv w=>by kernel_rfl
def vN:Asn 160 155 [0,0,0,0,0]:=λv w=>by kernel_rfl
def sX:Asn 160 158 [0]:=λv w=>by kernel_rfl
def Ac:Asy 160:=λv w=>by kernel_rfl
def Ab:Asn 160 171 [0]:=λv w=>by kernel_rfl
def sY:Asn 160 174 [0,0]:=λv w=>by kernel_rfl
def vJ:Asn 163 143 [0]:=λv w=>by kernel_rfl
def kP:Asn 163 146 [0,0,0,0]:=λv w=>by kernel_rfl
def pA:Asn 163 149 [0,0,0]:=λv w=>by kernel_rfl
def oY:Asn 163 152 [0,0,0]:=λv w=>by kernel_rfl
def oZ:Asn 163 155 [0,0,0,0,0]:=λv w=>by kernel_rfl
def nC:Asn 163 158 [0]:=λv w=>by kernel_rfl
def sQ:Asn 163 160 [0]:=λv w=>by kernel_rfl
def nD:Asy 163:=λv w=>by kernel_rfl
def sP:Asn 163 171 [0]:=λv w=>by kernel_rfl
def nE:Asn 163 174 [0,0]:=λv w=>by kernel_rfl
def sS:Asn 165 143 [0]:=λv w=>by kernel_rfl
def iT:Asn 165 146 [0,0,0,0]:=λv w=>by kernel_rfl
def nH:Asn 165 149 [0,0,0]:=λv w=>by kernel_rfl
def nF:Asn 165 152 [0,0,0]:=λv w=>by kernel_rfl
def nG:Asn 165 155 [0,0,0,0,0]:=λv w=>by kernel_rfl
def kR:Asn 165 158 [0]:=λv w=>by kernel_rfl
def pD:Asn 165 160 [0]:=λv w=>by kernel_rfl
def kS:Asn 165 163 [0,0]:=λv w=>by kernel_rfl
def iU:Asy 165:=λv w=>by kernel_rfl
def pC:Asn 165 171 [0]:=λv w=>by kernel_rfl
def kT:Asn 165 174 [0,0]:=λv w=>by kernel_rfl
def Aa:Asn 168 143 [0]:=λv w=>by kernel_rfl
def nI:Asn 168 146 [0,0,0,0]:=λv w=>by kernel_rfl
def sW:Asn 168 149 [0,0,0]:=λv w=>by kernel_rfl
def sT:Asn 168 152 [0,0,0]:=λv w=>by kernel_rfl
def sU:Asn 168 155 [0,0,0,0,0]:=λv w=>by kernel_rfl
def pE:Asn 168 158 [0]:=λv w=>by kernel_rfl
def vL:Asn 168 160 [0]:=λv w=>by kernel_rfl
def pF:Asn 168 163 [0,0]:=λv w=>by kernel_rfl
def nJ:Asn 168 165 [0,0]:=λv w=>by kernel_rfl
def sV:Asy 168:=λv w=>by kernel_rfl
def vK:Asn 168 171 [0]:=λv w=>by kernel_rfl
def pG:Asn 168 174 [0,0]:=λv w=>by kernel_rfl
def oV:Asn 171 143 [0]:=λv w=>by kernel_rfl
def fI:Asn 171 146 [0,0,0,0]:=λv w=>by kernel_rfl
def iR:Asn 171 149 [0,0,0]:=λv w=>by kernel_rfl
def iO:Asn 171 152 [0,0,0]:=λv w=>by kernel_rfl
def iP:Asn 171 155 [0,0,0,0,0]:=λv w=>by kernel_rfl
def gW:Asn 171 158 [0]:=λv w=>by kernel_rfl
def mH:Asn 171 160 [0]:=λv w=>by kernel_rfl
def gX:Asn 171 163 [0,0]:=λv w=>by kernel_rfl
def fJ:Asn 171 165 [0,0]:=λv w=>by kernel_rfl
def iQ:Asn 171 168 [0,0]:=λv w=>by kernel_rfl
def fH:Asy 171:=λv w=>by kernel_rfl
def sJ:Asn 171 174 [0,0]:=λv w=>by kernel_rfl
def vQ:Asn 174 143 [0]:=λv w=>by kernel_rfl
def kU:Asn 174 146 [0,0,0,0]:=λv w=>by kernel_rfl
def pM:Asn 174 149 [0,0,0]:=λv w=>by kernel_rfl
def pJ:Asn 174 152 [0,0,0]:=λv w=>by kernel_rfl
def pK:Asn 174 155 [0,0,0,0,0]:=λv w=>by kernel_rfl
def nL:Asn 174 158 [0]:=λv w=>by kernel_rfl
def tA:Asn 174 160 [0]:=λv w=>by kernel_rfl
def nM:Asn 174 163 [0,0]:=λv w=>by kernel_rfl
def kV:Asn 174 165 [0,0]:=λv w=>by kernel_rfl
def pL:Asn 174 168 [0,0]:=λv w=>by kernel_rfl
def gY:Asn 174 171 [0]:=λv w=>by kernel_rfl
def eZ:Asy 174:=λv w=>by kernel_rfl
def NF(v : Value)(w : World): (method 459 143 v "InRange").run prog w = .ok (279, v) w := by kernel_rfl
def Bj(v : Value)(w : World): (method 459 146 v "InRange").run prog w = .ok (281, v) w := by kernel_rfl
def GN(v : Value)(w : World): (method 459 149 v "InRange").run prog w = .ok (284, v) w := by kernel_rfl
def GK(v : Value)(w : World): (method 459 152 v "InRange").run prog w = .ok (285, v) w := by kernel_rfl
def GL(v : Value)(w : World): (method 459 155 v "InRange").run prog w = .ok (286, v) w := by kernel_rfl
def Dn(v : Value)(w : World): (method 459 158 v "InRange").run prog w = .ok (287, v) w := by kernel_rfl
def Kh(v : Value)(w : World): (method 459 160 v "InRange").run prog w = .ok (288, v) w := by kernel_rfl
def Dp(v : Value)(w : World): (method 459 163 v "InRange").run prog w = .ok (289, v) w := by kernel_rfl
def Bl(v : Value)(w : World): (method 459 165 v "InRange").run prog w = .ok (290, v) w := by kernel_rfl
def GM(v : Value)(w : World): (method 459 168 v "InRange").run prog w = .ok (291, v) w := by kernel_rfl
def Kg(v : Value)(w : World): (method 459 171 v "InRange").run prog w = .ok (292, v) w := by kernel_rfl
def Dq(v : Value)(w : World): (method 459 174 v "InRange").run prog w = .ok (293, v) w := by kernel_rfl
def ZI(l:L)(n:Nat):L:={ l with free:=l.free-n,gv:=l.gv+n }
def hU(l:L)(n:Nat):L:={ l with free:=l.free-n,sc:=l.sc+n }
def dI(w:World)(b:Nat)(l:L)(n:Nat):World :=
 ((w.setCell ⟨b,6,none⟩ (.int .i64 ((l.free:Int)-(n:Int)))).setCell ⟨b,10,none⟩ (.int .i64 ((l.gv:Int)+(n:Int)))).alloc (.cells #[.int .i64 l.id,.int .i64 n] 234)
def lD(w:World)(b:Nat)(l:L)(n:Nat):(dI w b l n).heap.size=w.heap.size+1:=by simp[dI,World.setCell]
variable {S b td:Nat}{l:L}{w:World}
def gN{pv:Value}(f:w.heap[b]?=some (.cells (zm l pv) 231 (0,0)))(n:Nat)(g:n<=l.free):(dI w b l n).heap[b]?=some (.cells (zm (ZI l n) pv) 231 (0,0)):=by
 have e:=xu w b 6 _ 231 (.int .i64 ((l.free:Int)-(n:Int))) f;have a:=xu _ b 10 _ 231 (.int .i64 ((l.gv:Int)+(n:Int))) e;rw[dI,yl _ _ _ (zc a),a];have c:((l.free-n:Nat):Int)=(l.free:Int)-(n:Int):=by omega
 have d:((l.gv+n:Nat):Int)=(l.gv:Int)+(n:Int):=by omega
 simp[zm,ZI,c,d]
def ZU{n k:Nat}(c:k<w.heap.size)(a:k≠b):(dI w b l n).heap[k]?=w.heap[k]?:=by
 rw[dI,yl _ _ _ (by simp[World.setCell];exact c),xd _ _ _ _ a,xd _ _ _ _ a]
variable {Z:Nat->Prop}
def wJ(w:World)(b:Nat)(l:L)(n:Nat)(a:Z b):Kp Z w (dI w b l n):=by
 refine Kp.after (Kp.setCell (Kp.setCell (Kp.refl Z w) ?_ _) ?_ _) (VE _ _)
 ·exact Or.inl a
 exact Or.inl a
def wK{pv:Value}(a:w.heap[b]?=some (.cells (zm l pv) 231 (0,0)))(c:L.Ok l)(n:Nat)(r:n<=l.free):Calls prog 149 #[.pointer (some ⟨b,0,none⟩),.int .i64 n] w λe w'=>e=.returned (.agg #[.int .i64 l.id,.int .i64 n])/\w'=dI w b l n:=by
 have k:=zc a;have c0:w.cell? ⟨b,0,none⟩=some (.int .i64 l.id):=by rw[za a];rfl
 have p:w.cell? ⟨b,6,none⟩=some (.int .i64 l.free):=by rw[za a];rfl
 have f:w.cell? ⟨b,10,none⟩=some (.int .i64 l.gv):=by rw[za a];rfl
 have q:=ze a 6;have g:=ze a 10;have j:=c.id;have d:=c.sum;have h:l.free<=2147483647:=by omega
 have i:l.gv+n<=2147483647:=by omega
 have m:=zb a;clear a d c;go_enter func149,ntmps149;go_wp2_with fail;go_returns;exact⟨rfl,rfl⟩
variable {M:Mx}{bs:List Nat}{ls:List L}{os:List O}{pvs:List Value}{rj:List (Nat×Nat)}{v:Value}
def PV.lotset{W:World}(h:PV os rj w S M v td bs pvs ls){i:Nat}(f:i<ls.length){l':L}(C:L.Ok l')(s:l'.par=(ls.getD i L0).par)
  (A:W.heap[bs.getD i 0]?=some (.cells (zm l' (pvs.getD i default)) 231 (0,0))) (n:∀k,k<w.heap.size->k≠bs.getD i 0->W.heap[k]?=w.heap[k]?):PV os rj W S M v td bs pvs (ls.set i l'):={
 store:=by rw[n S (zc h.store) (zt h.store (h.lot i f) (by decide))];exact h.store
 maps:=h.maps.congr (λk E c y=>n k (zc y) (zX (h.lot i f) y).symm)
 row:=zd h.row (λg B=>by
  obtain⟨z,x⟩:=zh h.row B;exact n g (zc x) (zt (h.lot i f) x (by decide)).symm)
 len:=by rw[xq];exact h.len
 plen:=by rw[xq];exact h.plen
 lot:=λj b=>by
  rw[xq]at b;by_cases a:j=i
  ·subst a;rw[A];simp[Wc,XB,b]
  have r:bs.getD j 0≠bs.getD i 0:=λe=>a (by
   have d:j<bs.length:=by rw[h.len];exact b
   have m:i<bs.length:=by rw[h.len];exact f
   rw[Wc,Wc,xi d,xi m]at e;simp only[XQ]at e;exact(List.getElem?_inj d h.nodup).1 (by rw[xi d,xi m,e]))
  rw[n _ (zc (h.lot j b)) r,h.lot j b];simp[Wc,XB,Yl a]
 par:=λj b=>by
  rw[xq]at b;have e:((ls.set i l').getD j L0).par=(ls.getD j L0).par:=by
   by_cases a:j=i
   ·subst a;rw[<-s];simp[Wc,XB,b]
   simp[Wc,XB,Yl a]
  rw[e];exact(h.par j b).congr (λq t=>by
   obtain⟨z,u⟩:=(h.par j b).blk t;exact n _ (zc u) (zt (h.lot i f) u (by decide)).symm)
 nodup:=h.nodup
 today:=h.today
 ok:=λl D=>by
  rcases XU D with p|p
  ·exact h.ok l p
  subst p;exact C
 room:=by rw[xq];exact h.room}
def oB(h:L.Ok l){n:Nat}(a:n<=l.free):L.Ok (ZI l n):=⟨h.id,h.gd,h.ex,h.place,(by have:=h.sum;show l.free-n+l.hd+l.sh+l.sc+(l.gv+n)<=2147483647;omega),h.got,h.par⟩
def BS(h:L.Ok l){n:Nat}(a:n<=l.free):L.Ok (hU l n):=⟨h.id,h.gd,h.ex,h.place,(by have:=h.sum;show l.free-n+l.hd+l.sh+(l.sc+n)+l.gv<=2147483647;omega),h.got,h.par⟩
def ZC(ls:List L)(n c:Nat):Nat:=if Wj n ls<ls.length then (if (ls.getD (Wj n ls) L0).free<c then 7 else 0) else 4
def ZR(ls:List L)(n c:Nat):List L:=if ZC ls n c=0 then ls.set (Wj n ls) (hU (ls.getD (Wj n ls) L0) c) else ls
def Li(h:PI os rj Z w S td ls)(n c:Nat)(h1:n<=2147483647)(h2:c<=2147483647):Calls prog 106 #[.pointer (some ⟨S,0,none⟩),.agg #[.int .i64 n,.int .i64 c]] w λe w'=>Kp Z w w'/\e=.returned (.int .i64 (ZC ls n c:Int))/\PI os rj (Zn Z w) w' S td (ZR ls n c):=by
 obtain⟨M,v,g,m,s,q⟩:=h;have d:=s.below (VE w (Obj.cells #[.int .i64 n,.int .i64 c] 168));have z:=zb (Zm d n h1);by_cases i:Wj n ls<ls.length
 ·have y:Ha (zJ g ls n=.pointer (some ⟨g.getD (Wj n ls) 0,0,none⟩)):=by unfold Ha zJ;rw[xh i]
  rw[y.o]at z;have a:=s.lot _ i;have N:=zc a;have f:=s.ok _ (zf i);have t:g.getD (Wj n ls) 0∈g:=zH (by rw[s.len];exact i);have u:Z (g.getD (Wj n ls) 0):=q.b _ t;obtain⟨l,A⟩:=Ww (ls.getD (Wj n ls) L0);rw[<-A.o]at a f;by_cases R:l.free<c
  ·have r:Ha (ZC ls n c=7):=by unfold Ha ZC;rw[xh i,<-A.o,xh R]
   have C:Ha (ZR ls n c=ls):=by unfold Ha ZR;rw[r.o];rfl
   generalize m.getD (Wj n ls) default=pv at a;generalize g.getD (Wj n ls) 0=b at *;have c6:w.cell? ⟨b,6,none⟩=some (.int .i64 l.free):=by rw[za a];rfl
   have j:=f.sum;have K:l.free<=2147483647:=by omega
   have B:=zb d;clear s d a f j;go_enter func106,ntmps106;go_wp2_with (go_at_call 148;refine z.mono ?_;rintro e w1 ⟨rfl,rfl⟩);go_region;go_wp2_with fail;go_ret;refine⟨Wo ((VE w _).drew),by rw[r.o];rfl,M,v,g,m,?_,q.mono (λk D=>Or.inl D)⟩;rw[C.o];exact B.below (xm _ _).drew
  have r:Ha (ZC ls n c=0):=by unfold Ha ZC;rw[xh i,<-A.o,xg R]
  have C:Ha (ZR ls n c=ls.set (Wj n ls) (hU l c)):=by unfold Ha ZR;rw[r.o,<-A.o];rfl
  have B:=zb s;have T:=zb i;generalize E:m.getD (Wj n ls) default=pv at a;have J:=zb E;clear E;obtain⟨b,G⟩:=Ww (g.getD (Wj n ls) 0);rw[<-G.o]at a z y N u;have c6:w.cell? ⟨b,6,none⟩=some (.int .i64 l.free):=by rw[za a];rfl
  have c9:w.cell? ⟨b,9,none⟩=some (.int .i64 l.sc):=by rw[za a];rfl
  have f6:=ze a 6;have f9:=ze a 9;have X:=zb f;have H:=zb a;have j:=f.sum;have K:l.free<=2147483647:=by omega
  have a0:l.sc+c<=2147483647:=by omega
  clear s d a f j i t y;go_enter func106,ntmps106;go_wp2_with (go_at_call 148;refine z.mono ?_;rintro e w1 ⟨rfl,rfl⟩);go_region;go_wp2_with fail;go_region;go_wp2_with fail;go_region;go_wp2_with fail;go_ret;have P:=xu w b 6 _ 231 (.int .i64 ((l.free:Int)-(c:Int))) H;have Q:=xu _ b 9 _ 231 (.int .i64 ((l.sc:Int)+(c:Int))) P;have p:((w.setCell ⟨b,6,none⟩ (.int .i64 ((l.free:Int)-(c:Int)))).setCell ⟨b,9,none⟩ (.int .i64 ((l.sc:Int)+(c:Int)))).heap[b]?=some (.cells (zm (hU l c) pv) 231 (0,0)):=by
   rw[Q];have e1:((l.free-c:Nat):Int)=(l.free:Int)-(c:Int):=by omega
   have e2:((l.sc+c:Nat):Int)=(l.sc:Int)+(c:Int):=by omega
   simp[zm,hU,e1,e2]
  refine⟨?_,by rw[r.o];rfl,M,v,g,m,?_,q.mono (λk D=>Or.inl D)⟩
  ·refine Kp.after (Kp.setCell (Kp.setCell (Kp.refl Z w) ?_ _) ?_ _) (((VE _ _).drew).drew).drew
   ·exact Or.inl u
   exact Or.inl u
  rw[C.o];have F:=B.lotset (W:=(w.setCell ⟨b,6,none⟩ (.int .i64 ((l.free:Int)-(c:Int)))).setCell ⟨b,9,none⟩ (.int .i64 ((l.sc:Int)+(c:Int)))) T (l':=hU l c) (BS X (by omega)) (by rw[A.o];rfl) (by rw[J.o,<-G.o];exact p) (λk _ x=>by
   rw[<-G.o]at x;rw[xd _ _ _ _ x,xd _ _ _ _ x])
  exact F.below (((VE _ _).drew).drew).drew
 have y:Ha (zJ g ls n=.pointer none):=by unfold Ha zJ;rw[xg i]
 have r:Ha (ZC ls n c=4):=by unfold Ha ZC;rw[xg i]
 have C:Ha (ZR ls n c=ls):=by unfold Ha ZR;rw[r.o];rfl
 rw[y.o]at z;have B:=zb d;clear s d i y;go_enter func106,ntmps106;go_wp2_with (go_at_call 148;refine z.mono ?_;rintro e w1 ⟨rfl,rfl⟩);go_ret;refine⟨Wo (VE w _),by rw[r.o];rfl,M,v,g,m,?_,q.mono (λk D=>Or.inl D)⟩;rw[C.o];exact B
def Wt(ls:List L)(id gd expiry got:Nat)(ps:List (Nat×Nat)):L:={ id:=id,gd:=gd,ex:=expiry,place:=ls.length+1,got:=got,free:=got,hd:=0,sh:=0,sc:=0,gv:=0,par:=ps }
def zU(ls:List L)(n m c:Nat):Nat:=if Wj n ls<ls.length then (if zz ls m=0 then (if (ls.getD (Wj n ls) L0).free<c then 7 else 0) else zz ls m) else 4
def cJ(ls:List L)(n m c:Nat):List L :=
 if zU ls n m c=0 then ls.set (Wj n ls) (ZI (ls.getD (Wj n ls) L0) c)++[Wt ls m (ls.getD (Wj n ls) L0).gd (ls.getD (Wj n ls) L0).ex c [((ls.getD (Wj n ls) L0).id,c)]] else ls
def eX(ls:List L)(n:Nat):zz ls n<=6:=by unfold zz;split<;>(try split)<;>omega
def kB{n:Nat}(h:zz ls n=0):ls.length<30:=by
 unfold zz at h;by_cases a:30<=ls.length
 ·split at h
  ·omega
  omega
 omega
def Ov(h:PI os rj Z w S td ls)(n m c:Nat)(A:n<=2147483647)(B:m<=2147483647)(J:c<=2147483647)(q:zU ls n m c≠0):Calls prog 99 #[.pointer (some ⟨S,0,none⟩),.agg #[.int .i64 n,.int .i64 m,.int .i64 c]] w λe w'=>e=.returned (.int .i64 (zU ls n m c:Int))/\Below w.heap.size w w':=by
 obtain⟨M,v,u,y,p,D⟩:=h;have d:=p.below (VE w (Obj.cells #[.int .i64 n,.int .i64 m,.int .i64 c] 149));have s:=zb (Zm d n A);have x:=zb (kD d m B);have g:=eX ls m;by_cases f:Wj n ls<ls.length
 ·have k:Ha (zJ u ls n=.pointer (some ⟨u.getD (Wj n ls) 0,0,none⟩)):=by unfold Ha zJ;rw[xh f]
  rw[k.o]at s;have a:=p.lot _ f;have j:=p.ok _ (zf f);generalize u.getD (Wj n ls) 0=b at *;by_cases r:zz ls m=0
  ·have G:(ls.getD (Wj n ls) L0).free<c:=by
    unfold zU at q;rw[xh f,xh r]at q;by_cases z:(ls.getD (Wj n ls) L0).free<c
    ·exact z
    rw[xg z]at q;exact absurd rfl q
   have i:Ha (zU ls n m c=7):=by unfold Ha zU;rw[xh f,xh r,xh G]
   rw[i.o];rw[r]at x;generalize y.getD (Wj n ls) default=pv at *;generalize ls.getD (Wj n ls) L0=l at *;have H:w.cell? ⟨b,6,none⟩=some (.int .i64 l.free):=by rw[za a];rfl
   have E:=zc a;have t:=j.sum;have C:l.free<=2147483647:=by omega
   clear p d a j t f r g q k i;go_enter func99,ntmps99;go_wp2_with (first
    |(go_at_call 148;refine s.mono ?_;rintro e w1 ⟨rfl,rfl⟩)
    |(go_at_call 146;refine x.mono ?_;rintro e w1 ⟨rfl,rfl⟩))
   go_region
   go_wp2_with fail;go_ret
   exact⟨rfl,(VE w _).drew⟩
  have i:Ha (zU ls n m c=zz ls m):=by unfold Ha zU;rw[xh f,xg r]
  rw[i.o];have F:((zz ls m:Int) != 0)=true:=by rw[Yh];omega
  generalize zz ls m=rc at *;clear p d a j f r q k i;go_enter func99,ntmps99;go_wp2_with (first
   |(go_at_call 148;refine s.mono ?_;rintro e w1 ⟨rfl,rfl⟩)
   |(go_at_call 146;refine x.mono ?_;rintro e w1 ⟨rfl,rfl⟩))
  go_ret;exact⟨rfl,VE w _⟩
 have k:Ha (zJ u ls n=.pointer none):=by unfold Ha zJ;rw[xg f]
 have i:Ha (zU ls n m c=4):=by unfold Ha zU;rw[xg f]
 rw[k.o]at s;rw[i.o];clear p d f k g;go_enter func99,ntmps99;go_wp2_with (go_at_call 148;refine s.mono ?_;rintro e w1 ⟨rfl,rfl⟩);go_ret;exact⟨rfl,VE w _⟩
def Kp.cell{Z:Nat->Prop}{w w':World}(h:Kp Z w w'){b j:Nat}{x:Value}(d:¬Z b)(a:b<w.heap.size)(c:w.cell? ⟨b,j,none⟩=some x):w'.cell? ⟨b,j,none⟩=some x:=by
 rw[<-c];unfold World.cell?;simp only[h.block b a d]
def PV.apart(h:PV os rj w S M v td bs pvs ls){b:Nat}{c:Array Value}{t:TypeId}(a:w.heap[b]?=some (.cells c t (0,0)))(f:t≠117)(g:t≠191):¬(b=S\/v.ownBlock=some b):=by
 rintro(e|e)
 ·exact zt a h.store f e
 obtain⟨d,i⟩:=zh h.row e;exact zt a i g rfl
def Lv(h:PI os rj Z w S td ls)(n m c:Nat)(h1:n<=2147483647)(h2:m<=2147483647)(h3:c<=2147483647)(W:Wj n ls<ls.length)(hr:zz ls m=0)(hs:¬(ls.getD (Wj n ls) L0).free<c):Calls prog 99 #[.pointer (some ⟨S,0,none⟩),.agg #[.int .i64 n,.int .i64 m,.int .i64 c]] w λe w'=>Kp Z w w'/\e=.returned (.int .i64 0) /\
   PI os rj (Zn Z w) w' S td (ls.set (Wj n ls) (ZI (ls.getD (Wj n ls) L0) c)++[Wt ls m (ls.getD (Wj n ls) L0).gd (ls.getD (Wj n ls) L0).ex c [((ls.getD (Wj n ls) L0).id,c)]]):=by
 obtain⟨M,v,bs,a7,T,t⟩:=h;have A:=T.below (VE w (Obj.cells #[.int .i64 n,.int .i64 m,.int .i64 c] 149));have HR:=zb (Zm A n h1);have HM:=zb (kD A m h2);have a3:=kB hr;have HF:Ha (zJ bs ls n=.pointer (some ⟨bs.getD (Wj n ls) 0,0,none⟩)):=by unfold Ha zJ;rw[xh W]
 rw[HF.o]at HR;rw[hr]at HM;have r:=A.lot _ W;have x:=T.ok _ (zf W);have a1:Z (bs.getD (Wj n ls) 0):=t.b _ (zH (by rw[T.len];exact W));obtain⟨l,HL⟩:=Ww (ls.getD (Wj n ls) L0);obtain⟨b,HB⟩:=Ww (bs.getD (Wj n ls) 0);obtain⟨pv,HV⟩:=Ww (a7.getD (Wj n ls) default);rw[<-HL.o]at r x hs ⊢;rw[<-HB.o]at r HR a1;rw[<-HV.o]at r;have F:b<w.heap.size:=by
  have:=zc r
  have h2:=zt r (xp w (Obj.cells #[.int .i64 n,.int .i64 m,.int .i64 c] 149)) (by decide);simp at this;omega
 have y:w.heap[b]?=some (.cells (zm l pv) 231 (0,0)):=by rw[<-yl w (Obj.cells #[.int .i64 n,.int .i64 m,.int .i64 c] 149) b F];exact r
 have a5:=x.sum;have b6:l.free<=2147483647:=by omega
 have b1:=x.gd;have b0:=x.ex;have a2:=x.id;have c6:w.cell? ⟨b,6,none⟩=some (.int .i64 l.free):=by rw[za y];rfl
 obtain⟨w1,D⟩:∃w1,w1=(w.alloc (Obj.cells #[.int .i64 n,.int .i64 m,.int .i64 c] 149)).drew:=⟨_,rfl⟩
 have C:Below w.heap.size w w1:=by rw[D];exact(VE w _).drew
 have u:w1.heap[b]?=some (.cells (zm l pv) 231 (0,0)):=by rw[C.block b F];exact y
 have z:w1.heap[w.heap.size]?=some (Obj.cells #[.int .i64 n,.int .i64 m,.int .i64 c] 149 (0,0)):=by rw[D];exact xp w _
 have a6:w1.heap.size=w.heap.size+1:=by rw[D];simp
 have HG:=zb (wK u x c (by omega));have P:PV os rj (dI w1 b l c) S M v td bs a7 (ls.set (Wj n ls) (ZI l c)):=(T.below C).lotset W (l':=ZI l c) (oB x (by omega)) (by rw[HL.o];rfl) (by rw[<-HV.o,<-HB.o];exact gN u c (by omega)) (λk hk b2=>ZU hk (by rw[HB.o];exact b2));have i:=gN u c (by omega);have R:Kp Z w (dI w1 b l c):=Kp.before C (wJ w1 b l c (Or.inl a1));have J:=lD w1 b l c;have d:(dI w1 b l c).heap[w.heap.size]?=some (Obj.cells #[.int .i64 n,.int .i64 m,.int .i64 c] 149 (0,0)):=by
  rw[ZU (by omega) (λe=>by omega)];exact z
 obtain⟨G,X⟩:=Ww (dI w1 b l c);rw[<-X.o]at HG P i R J d;have g1:G.cell? ⟨w.heap.size,1,none⟩=some (.int .i64 m):=by rw[za d];rfl
 have g2:G.cell? ⟨w.heap.size,2,none⟩=some (.int .i64 c):=by rw[za d];rfl
 have b4:G.cell? ⟨b,1,none⟩=some (.int .i64 l.gd):=by rw[za i];rfl
 have b5:G.cell? ⟨b,2,none⟩=some (.int .i64 l.ex):=by rw[za i];rfl
 have a4:=xp G (Obj.cells #[.int .i64 l.id,.int .i64 c] 234);have B:=P.below (VE G (Obj.cells #[.int .i64 l.id,.int .i64 c] 234)).drew;have H:Par (G.alloc (Obj.cells #[.int .i64 l.id,.int .i64 c] 234)).drew (.slice (some ⟨G.heap.size,0,none⟩) 1 1) [(l.id,c)]:=by
  refine Or.inr ⟨G.heap.size,1,_,rfl,a4,λj hj=>?_⟩;obtain rfl:j=0:=by simp at hj;omega
  exact⟨rfl,rfl⟩
 have Q:=(VE G (Obj.cells #[.int .i64 l.id,.int .i64 c] 234)).drew;have a:=(Q.block _ (zc d)).trans d;have f:=(Q.block _ (zc i)).trans i;have K:=B.apart a (by decide) (by decide);have N:=B.apart f (by decide) (by decide);have e1:(G.alloc (Obj.cells #[.int .i64 l.id,.int .i64 c] 234)).drew.cell? ⟨w.heap.size,1,none⟩=some (.int .i64 m):=by rw[za a];rfl
 have e2:(G.alloc (Obj.cells #[.int .i64 l.id,.int .i64 c] 234)).drew.cell? ⟨w.heap.size,2,none⟩=some (.int .i64 c):=by rw[za a];rfl
 have e3:(G.alloc (Obj.cells #[.int .i64 l.id,.int .i64 c] 234)).drew.cell? ⟨b,1,none⟩=some (.int .i64 l.gd):=by rw[za f];rfl
 have e4:(G.alloc (Obj.cells #[.int .i64 l.id,.int .i64 c] 234)).drew.cell? ⟨b,2,none⟩=some (.int .i64 l.ex):=by rw[za f];rfl
 have HA:=zb ((Cq B m l.gd l.ex c _ _ H ⟨by simp,by simp;exact a2⟩ (by rw[xq];exact a3) h2 b1 b0 h3).mono (λe w' E=>(⟨E.1,zb E.2,E.2.1.cell K (zc a) e1,E.2.1.cell K (zc a) e2,E.2.1.cell N (zc f) e3,E.2.1.cell N (zc f) e4⟩:_/\Ha _/\_/\_/\_/\_)));have b3:=zb T;have HK:=zb R;have a8:Ha (G.heap.size=w.heap.size+2):=by unfold Ha;omega
 subst D;clear J a6 T A r y x a5 hr W u z P i R d a4 B H HF X C Q a f K N e1 e2 e3 e4;go_enter func99,ntmps99;go_wp2_with (first
  |(go_at_call 148;refine HR.mono ?_;rintro e w1 ⟨rfl,rfl⟩)
  |(go_at_call 146;refine HM.mono ?_;rintro e w1 ⟨rfl,rfl⟩))
 go_region
 go_wp2_with (go_at_call 149;refine HG.mono ?_;rintro e w2 ⟨rfl,rfl⟩)
 go_region_held3 (λw'=>w'.cell? ⟨w.heap.size,1,none⟩=some (.int .i64 m)/\w'.cell? ⟨w.heap.size,2,none⟩=some (.int .i64 c)/\w'.cell? ⟨b,1,none⟩=some (.int .i64 l.gd)/\w'.cell? ⟨b,2,none⟩=some (.int .i64 l.ex)) (go_keep) (first|(go_at_call 147;refine HA.mono ?_;rintro e w3 ⟨rfl,E,e1,e2,e3,e4⟩))
 go_wp2_with fail;go_ret
 have b7:=a8.o;obtain⟨hk,v',a0,a9⟩:=E.o;refine⟨?_,rfl,M,v',_,_,(by rw[xq]at a0;exact a0),?_⟩
 ·exact(HK.after (VE _ _).drew).trans (hk.mono (λk hq=>Or.inl (hq.elim (λe=>e ▸ t.s) (λe=>t.v k e))))
 refine⟨Or.inl t.s,Or.inl t.m,Or.inl t.mo,Or.inl t.mh,λg hg=>?_,λk hk=>?_,λpv hp q hq=>?_⟩
 ·rcases a9 g hg with h|h
  ·exact Or.inl (t.v g h)
  right;simp at h;omega
 ·rcases xx.1 hk with h|h
  ·exact Or.inl (t.b k h)
  right;simp at h;omega
 rcases xx.1 hp with h|h
 ·exact Or.inl (t.p pv h q hq)
 right
 simp at h;subst h;simp[Value.ownBlock]at hq;omega
def Lu(h:PI os rj Z w S td ls)(n m c:Nat)(l:n<=2147483647)(p:m<=2147483647)(q:c<=2147483647):Calls prog 99 #[.pointer (some ⟨S,0,none⟩),.agg #[.int .i64 n,.int .i64 m,.int .i64 c]] w λe w'=>Kp Z w w'/\e=.returned (.int .i64 (zU ls n m c:Int))/\PI os rj (Zn Z w) w' S td (cJ ls n m c):=by
 by_cases a:zU ls n m c=0
 ·have i:Wj n ls<ls.length/\zz ls m=0/\¬(ls.getD (Wj n ls) L0).free<c:=by
   unfold zU at a;by_cases f:Wj n ls<ls.length
   ·rw[xh f]at a;by_cases b:zz ls m=0
    ·rw[xh b]at a;refine⟨f,b,λu=>?_⟩;rw[xh u]at a;omega
    rw[xg b]at a;exact absurd a b
   rw[xg f]at a;omega
  have d:cJ ls n m c=_:=xh a;rw[a,d];exact Lv h n m c l p q i.1 i.2.1 i.2.2
 have d:cJ ls n m c=ls:=xg a;rw[d];refine(Ov h n m c l p q a).mono λe w' ⟨he,hb⟩=>⟨Wo hb,he,?_⟩
 obtain⟨M,v,r,j,s,g⟩:=h;exact⟨M,v,r,j,s.below hb,g.mono (λk t=>Or.inl t)⟩
def zi(ls:List L)(n:Nat):L:=ls.getD (Wj n ls) L0
def zQ(ls:List L)(a b m:Nat):Nat :=
 if Wj a ls<ls.length/\Wj b ls<ls.length then
  (if Wj a ls=Wj b ls\/(zi ls a).gd≠(zi ls b).gd then 8 else
   if zz ls m=0 then (if (zi ls a).free+(zi ls b).free=0 then 7 else if 2147483647<(zi ls a).free+(zi ls b).free then 2 else 0) else zz ls m)
 else 4
def Z9(ls:List L)(a b m:Nat):List L :=
 if zQ ls a b m=0 then (ls.set (Wj a ls) (ZI (zi ls a) (zi ls a).free)).set (Wj b ls) (ZI (zi ls b) (zi ls b).free)++[Wt ls m (zi ls a).gd (min (zi ls a).ex (zi ls b).ex) ((zi ls a).free+(zi ls b).free) [((zi ls a).id,(zi ls a).free),((zi ls b).id,(zi ls b).free)]] else ls
def PU(h:PV os rj w S M v td bs pvs ls){i j:Nat}(d:i<ls.length)(f:j<ls.length)(c:i≠j):bs.getD i 0≠bs.getD j 0:=λe=>c (by
 have b:j<bs.length:=by rw[h.len];exact f
 have a:i<bs.length:=by rw[h.len];exact d
 rw[Wc,Wc,xi b,xi a]at e;simp only[XQ]at e;exact(List.getElem?_inj a h.nodup).1 (by rw[xi b,xi a,e]))
def GJ(n:PV os rj w S M v td bs pvs ls)(a b m:Nat)(r:a<=2147483647)(s:b<=2147483647)(u:m<=2147483647)(p:¬(Wj a ls<ls.length/\Wj b ls<ls.length)):Calls prog 100 #[.pointer (some ⟨S,0,none⟩),.agg #[.int .i64 a,.int .i64 b,.int .i64 m]] w λe w'=>e=.returned (.int .i64 4)/\Below w.heap.size w w':=by
 have g:=n.below (VE w (Obj.cells #[.int .i64 a,.int .i64 b,.int .i64 m] 152)).drew;have d:=zb (Zm g a r);have f:=zb (Zm g b s);have l:=xp w (Obj.cells #[.int .i64 a,.int .i64 b,.int .i64 m] 152);by_cases k:Wj a ls<ls.length
 ·have q:¬Wj b ls<ls.length:=λh=>p ⟨k,h⟩
  have c:Ha (zJ bs ls a=.pointer (some ⟨bs.getD (Wj a ls) 0,0,none⟩)):=by unfold Ha zJ;rw[xh k]
  have i:Ha (zJ bs ls b=.pointer none):=by unfold Ha zJ;rw[xg q]
  rw[c.o]at d;rw[i.o]at f;generalize bs.getD (Wj a ls) 0=ba at *;clear n g k q p c i l;go_enter func100,ntmps100;go_wp2_with fail;go_region_held3 (λw'=>w'.cell? ⟨w.heap.size,0,none⟩=some (.int .i64 a)/\w'.cell? ⟨w.heap.size,1,none⟩=some (.int .i64 b)) (go_keep) (first
   |(go_at_call 148;with_reducible refine(d.o).mono ?_;rintro e w1 ⟨rfl,rfl⟩)
   |(go_at_call 148;with_reducible refine(f.o).mono ?_;rintro e w1 ⟨rfl,rfl⟩))
  go_wp2_with fail;go_ret
  exact⟨rfl,(VE w _).drew⟩
 have c:Ha (zJ bs ls a=.pointer none):=by unfold Ha zJ;rw[xg k]
 rw[c.o]at d;obtain⟨t,j⟩:∃x,zJ bs ls b=.pointer x:=by unfold zJ;split<;>exact⟨_,rfl⟩
 rw[j]at f;clear n g k p c j l;go_enter func100,ntmps100;go_wp2_with fail;go_region_held3 (λw'=>w'.cell? ⟨w.heap.size,0,none⟩=some (.int .i64 a)/\w'.cell? ⟨w.heap.size,1,none⟩=some (.int .i64 b)) (go_keep) (first
  |(go_at_call 148;with_reducible refine(d.o).mono ?_;rintro e w1 ⟨rfl,rfl⟩)
  |(go_at_call 148;with_reducible refine(f.o).mono ?_;rintro e w1 ⟨rfl,rfl⟩))
 go_wp2_with fail;go_ret
 exact⟨rfl,(VE w _).drew⟩
