import Derived.Test.YtgcedalggnmooaaGreatDoorMp0X
import Derived.Handy
import Derived.Deep.RegionHeld3
set_option linter.all false
set_option maxRecDepth 100000
set_option maxHeartbeats 1600000
namespace Go.Proofs.YtgcedalggnmooaaGreatDoor
open Go.RowKit
open Tryz
def Asn(t u:TypeId)(z:List Int):Prop:=∀v w,(Instr.typeAssert (.iface t v) 105 u true).run prog w=.ok (.tuple #[.agg (z.map (Value.int .i64)).toArray,.bool false]) w
theorem Asn.o{t u:TypeId}{z:List Int}(h:Asn t u z)(v:Value)(w:World):(Instr.typeAssert (.iface t v) 105 u true).run prog w=.ok (.tuple #[.agg (z.map (Value.int .i64)).toArray,.bool false]) w:=h v w
def Asy(t:TypeId):Prop:=∀v w,(Instr.typeAssert (.iface t v) 105 t true).run prog w=.ok (.tuple #[v,.bool true]) w
theorem Asy.o{t:TypeId}(h:Asy t)(v:Value)(w:World):(Instr.typeAssert (.iface t v) 105 t true).run prog w=.ok (.tuple #[v,.bool true]) w:=h v w
theorem Fa:Asy 143:=λv w=>by kernel_rfl
theorem BN:Asn 143 171 [0]:=λv w=>by kernel_rfl
theorem uO:Asn 143 174 [0,0]:=λv w=>by kernel_rfl
theorem rZ:Asn 146 143 [0]:=λv w=>by kernel_rfl
theorem iI:Asy 146:=λv w=>by kernel_rfl
theorem oL:Asn 146 171 [0]:=λv w=>by kernel_rfl
theorem kE:Asn 146 174 [0,0]:=λv w=>by kernel_rfl
theorem yM:Asn 149 143 [0]:=λv w=>by kernel_rfl
theorem mX:Asn 149 146 [0,0,0,0]:=λv w=>by kernel_rfl
theorem sH:Asy 149:=λv w=>by kernel_rfl
theorem uX:Asn 149 171 [0]:=λv w=>by kernel_rfl
theorem oS:Asn 149 174 [0,0]:=λv w=>by kernel_rfl
theorem yH:Asn 152 143 [0]:=λv w=>by kernel_rfl
theorem mM:Asn 152 146 [0,0,0,0]:=λv w=>by kernel_rfl
theorem rT:Asn 152 149 [0,0,0]:=λv w=>by kernel_rfl
theorem rS:Asy 152:=λv w=>by kernel_rfl
theorem uP:Asn 152 171 [0]:=λv w=>by kernel_rfl
theorem oG:Asn 152 174 [0,0]:=λv w=>by kernel_rfl
theorem yI:Asn 155 143 [0]:=λv w=>by kernel_rfl
theorem mN:Asn 155 146 [0,0,0,0]:=λv w=>by kernel_rfl
theorem rW:Asn 155 149 [0,0,0]:=λv w=>by kernel_rfl
theorem rU:Asn 155 152 [0,0,0]:=λv w=>by kernel_rfl
theorem rV:Asy 155:=λv w=>by kernel_rfl
theorem uQ:Asn 155 171 [0]:=λv w=>by kernel_rfl
theorem oH:Asn 155 174 [0,0]:=λv w=>by kernel_rfl
theorem uN:Asn 158 143 [0]:=λv w=>by kernel_rfl
theorem kB:Asn 158 146 [0,0,0,0]:=λv w=>by kernel_rfl
theorem oE:Asn 158 149 [0,0,0]:=λv w=>by kernel_rfl
theorem oC:Asn 158 152 [0,0,0]:=λv w=>by kernel_rfl
theorem oD:Asn 158 155 [0,0,0,0,0]:=λv w=>by kernel_rfl
theorem mK:Asy 158:=λv w=>by kernel_rfl
theorem rQ:Asn 158 160 [0]:=λv w=>by kernel_rfl
theorem rP:Asn 158 171 [0]:=λv w=>by kernel_rfl
theorem mL:Asn 158 174 [0,0]:=λv w=>by kernel_rfl
theorem BO:Asn 160 143 [0]:=λv w=>by kernel_rfl
theorem oR:Asn 160 146 [0,0,0,0]:=λv w=>by kernel_rfl
theorem uW:Asn 160 149 [0,0,0]:=λv w=>by kernel_rfl
theorem uU:Asn 160 152 [0,0,0]:=λv w=>by kernel_rfl
theorem uV:Asn 160 155 [0,0,0,0,0]:=λv w=>by kernel_rfl
theorem sF:Asn 160 158 [0]:=λv w=>by kernel_rfl
theorem yL:Asy 160:=λv w=>by kernel_rfl
theorem yK:Asn 160 171 [0]:=λv w=>by kernel_rfl
theorem sG:Asn 160 174 [0,0]:=λv w=>by kernel_rfl
theorem uR:Asn 163 143 [0]:=λv w=>by kernel_rfl
theorem kD:Asn 163 146 [0,0,0,0]:=λv w=>by kernel_rfl
theorem oK:Asn 163 149 [0,0,0]:=λv w=>by kernel_rfl
theorem oI:Asn 163 152 [0,0,0]:=λv w=>by kernel_rfl
theorem oJ:Asn 163 155 [0,0,0,0,0]:=λv w=>by kernel_rfl
theorem mO:Asn 163 158 [0]:=λv w=>by kernel_rfl
theorem rY:Asn 163 160 [0]:=λv w=>by kernel_rfl
theorem mP:Asy 163:=λv w=>by kernel_rfl
theorem rX:Asn 163 171 [0]:=λv w=>by kernel_rfl
theorem mQ:Asn 163 174 [0,0]:=λv w=>by kernel_rfl
theorem sA:Asn 165 143 [0]:=λv w=>by kernel_rfl
theorem iJ:Asn 165 146 [0,0,0,0]:=λv w=>by kernel_rfl
theorem mU:Asn 165 149 [0,0,0]:=λv w=>by kernel_rfl
theorem mS:Asn 165 152 [0,0,0]:=λv w=>by kernel_rfl
theorem mT:Asn 165 155 [0,0,0,0,0]:=λv w=>by kernel_rfl
theorem kF:Asn 165 158 [0]:=λv w=>by kernel_rfl
theorem oN:Asn 165 160 [0]:=λv w=>by kernel_rfl
theorem kG:Asn 165 163 [0,0]:=λv w=>by kernel_rfl
theorem iK:Asy 165:=λv w=>by kernel_rfl
theorem oM:Asn 165 171 [0]:=λv w=>by kernel_rfl
theorem kH:Asn 165 174 [0,0]:=λv w=>by kernel_rfl
theorem yJ:Asn 168 143 [0]:=λv w=>by kernel_rfl
theorem mV:Asn 168 146 [0,0,0,0]:=λv w=>by kernel_rfl
theorem sE:Asn 168 149 [0,0,0]:=λv w=>by kernel_rfl
theorem sB:Asn 168 152 [0,0,0]:=λv w=>by kernel_rfl
theorem sC:Asn 168 155 [0,0,0,0,0]:=λv w=>by kernel_rfl
theorem oO:Asn 168 158 [0]:=λv w=>by kernel_rfl
theorem uT:Asn 168 160 [0]:=λv w=>by kernel_rfl
theorem oP:Asn 168 163 [0,0]:=λv w=>by kernel_rfl
theorem mW:Asn 168 165 [0,0]:=λv w=>by kernel_rfl
theorem sD:Asy 168:=λv w=>by kernel_rfl
theorem uS:Asn 168 171 [0]:=λv w=>by kernel_rfl
theorem oQ:Asn 168 174 [0,0]:=λv w=>by kernel_rfl
theorem oF:Asn 171 143 [0]:=λv w=>by kernel_rfl
theorem fB:Asn 171 146 [0,0,0,0]:=λv w=>by kernel_rfl
theorem iH:Asn 171 149 [0,0,0]:=λv w=>by kernel_rfl
theorem iE:Asn 171 152 [0,0,0]:=λv w=>by kernel_rfl
theorem iF:Asn 171 155 [0,0,0,0,0]:=λv w=>by kernel_rfl
theorem gP:Asn 171 158 [0]:=λv w=>by kernel_rfl
theorem lT:Asn 171 160 [0]:=λv w=>by kernel_rfl
theorem gQ:Asn 171 163 [0,0]:=λv w=>by kernel_rfl
theorem fC:Asn 171 165 [0,0]:=λv w=>by kernel_rfl
theorem iG:Asn 171 168 [0,0]:=λv w=>by kernel_rfl
theorem fA:Asy 171:=λv w=>by kernel_rfl
theorem rR:Asn 171 174 [0,0]:=λv w=>by kernel_rfl
theorem uY:Asn 174 143 [0]:=λv w=>by kernel_rfl
theorem kI:Asn 174 146 [0,0,0,0]:=λv w=>by kernel_rfl
theorem oW:Asn 174 149 [0,0,0]:=λv w=>by kernel_rfl
theorem oT:Asn 174 152 [0,0,0]:=λv w=>by kernel_rfl
theorem oU:Asn 174 155 [0,0,0,0,0]:=λv w=>by kernel_rfl
theorem mY:Asn 174 158 [0]:=λv w=>by kernel_rfl
theorem sI:Asn 174 160 [0]:=λv w=>by kernel_rfl
theorem mZ:Asn 174 163 [0,0]:=λv w=>by kernel_rfl
theorem kJ:Asn 174 165 [0,0]:=λv w=>by kernel_rfl
theorem oV:Asn 174 168 [0,0]:=λv w=>by kernel_rfl
theorem gS:Asn 174 171 [0]:=λv w=>by kernel_rfl
theorem eT:Asy 174:=λv w=>by kernel_rfl
theorem Mw(v : Value)(w : World): (method 459 143 v "InRange").run prog w = .ok (279, v) w := by kernel_rfl
theorem AG(v : Value)(w : World): (method 459 146 v "InRange").run prog w = .ok (281, v) w := by kernel_rfl
theorem FZ(v : Value)(w : World): (method 459 149 v "InRange").run prog w = .ok (284, v) w := by kernel_rfl
theorem FW(v : Value)(w : World): (method 459 152 v "InRange").run prog w = .ok (285, v) w := by kernel_rfl
theorem FX(v : Value)(w : World): (method 459 155 v "InRange").run prog w = .ok (286, v) w := by kernel_rfl
theorem CH(v : Value)(w : World): (method 459 158 v "InRange").run prog w = .ok (287, v) w := by kernel_rfl
theorem Jj(v : Value)(w : World): (method 459 160 v "InRange").run prog w = .ok (288, v) w := by kernel_rfl
theorem CI(v : Value)(w : World): (method 459 163 v "InRange").run prog w = .ok (289, v) w := by kernel_rfl
theorem AH(v : Value)(w : World): (method 459 165 v "InRange").run prog w = .ok (290, v) w := by kernel_rfl
theorem FY(v : Value)(w : World): (method 459 168 v "InRange").run prog w = .ok (291, v) w := by kernel_rfl
theorem Ji(v : Value)(w : World): (method 459 171 v "InRange").run prog w = .ok (292, v) w := by kernel_rfl
theorem CJ(v : Value)(w : World): (method 459 174 v "InRange").run prog w = .ok (293, v) w := by kernel_rfl
def zF(l:L)(n:Nat):L:={ l with free:=l.free-n,gv:=l.gv+n }
def gT(l:L)(n:Nat):L:={ l with free:=l.free-n,sc:=l.sc+n }
def dI(w:World)(b:Nat)(l:L)(n:Nat):World :=
 ((w.setCell ⟨b,6,none⟩ (.int .i64 ((l.free:Int)-(n:Int)))).setCell ⟨b,10,none⟩ (.int .i64 ((l.gv:Int)+(n:Int)))).alloc (.cells #[.int .i64 l.id,.int .i64 n] 234)
theorem kQ(w:World)(b:Nat)(l:L)(n:Nat):(dI w b l n).heap.size=w.heap.size+1:=by simp[dI,World.setCell]
variable {S b td:Nat}{l:L}{w:World}
theorem gE{pv:Value}(f:w.heap[b]?=some (.cells (zn l pv) 231 (0,0)))(n:Nat)(g:n<=l.free):(dI w b l n).heap[b]?=some (.cells (zn (zF l n) pv) 231 (0,0)):=by
 have e:=xq w b 6 _ 231 (.int .i64 ((l.free:Int)-(n:Int))) f;have a:=xq _ b 10 _ 231 (.int .i64 ((l.gv:Int)+(n:Int))) e;rw[dI,XO _ _ _ (zc a),a];have c:((l.free-n:Nat):Int)=(l.free:Int)-(n:Int):=by omega
 have d:((l.gv+n:Nat):Int)=(l.gv:Int)+(n:Int):=by omega
 simp[zn,zF,c,d]
theorem ZV{n k:Nat}(c:k<w.heap.size)(a:k≠b):(dI w b l n).heap[k]?=w.heap[k]?:=by
 rw[dI,XO _ _ _ (by simp[World.setCell];exact c),xa _ _ _ _ a,xa _ _ _ _ a]
variable {Z:Nat->Prop}
theorem vT(w:World)(b:Nat)(l:L)(n:Nat)(a:Z b):Kp Z w (dI w b l n):=by
 refine Kp.after (Kp.setCell (Kp.setCell (Kp.refl Z w) ?_ _) ?_ _) (TZ _ _)
 ·exact Or.inl a
 exact Or.inl a
theorem vU{pv:Value}(a:w.heap[b]?=some (.cells (zn l pv) 231 (0,0)))(c:L.Ok l)(n:Nat)(r:n<=l.free):Calls prog 149 #[.pointer (some ⟨b,0,none⟩),.int .i64 n] w λe w'=>e=.returned (.agg #[.int .i64 l.id,.int .i64 n])/\w'=dI w b l n:=by
 have k:=zc a;have c0:w.cell? ⟨b,0,none⟩=some (.int .i64 l.id):=by rw[za a];rfl
 have p:w.cell? ⟨b,6,none⟩=some (.int .i64 l.free):=by rw[za a];rfl
 have f:w.cell? ⟨b,10,none⟩=some (.int .i64 l.gv):=by rw[za a];rfl
 have q:=zf a 6;have g:=zf a 10;have j:=c.id;have d:=c.sum;have h:l.free<=2147483647:=by omega
 have i:l.gv+n<=2147483647:=by omega
 have m:=zb a;clear a d c;go_enter func149,ntmps149;go_wp2_with fail;go_returns;exact⟨rfl,rfl⟩
variable {M:Mx}{bs:List Nat}{ls:List L}{os:List O}{pvs:List Value}{rj:List (Nat×Nat)}{v:Value}
theorem PV.lotset{W:World}(h:PV os rj w S M v td bs pvs ls){i:Nat}(f:i<ls.length){l':L}(C:L.Ok l')(s:l'.par=(ls.getD i L0).par)
  (A:W.heap[bs.getD i 0]?=some (.cells (zn l' (pvs.getD i default)) 231 (0,0))) (n:∀k,k<w.heap.size->k≠bs.getD i 0->W.heap[k]?=w.heap[k]?):PV os rj W S M v td bs pvs (ls.set i l'):={
 store:=by rw[n S (zc h.store) (zw h.store (h.lot i f) (by decide))];exact h.store
 maps:=h.maps.congr (λk E c y=>n k (zc y) (Zb (h.lot i f) y).symm)
 row:=ze h.row (λg B=>by
  obtain⟨z,x⟩:=zi h.row B;exact n g (zc x) (zw (h.lot i f) x (by decide)).symm)
 len:=by rw[xd];exact h.len
 plen:=by rw[xd];exact h.plen
 lot:=λj b=>by
  rw[xd]at b;by_cases a:j=i
  ·subst a;rw[A];simp[Uv,Xd,b]
  have r:bs.getD j 0≠bs.getD i 0:=λe=>a (by
   have d:j<bs.length:=by rw[h.len];exact b
   have m:i<bs.length:=by rw[h.len];exact f
   rw[Uv,Uv,xi d,xi m]at e;simp only[Xw]at e;exact(List.getElem?_inj d h.nodup).1 (by rw[xi d,xi m,e]))
  rw[n _ (zc (h.lot j b)) r,h.lot j b];simp[Uv,Xd,XZ a]
 par:=λj b=>by
  rw[xd]at b;have e:((ls.set i l').getD j L0).par=(ls.getD j L0).par:=by
   by_cases a:j=i
   ·subst a;rw[<-s];simp[Uv,Xd,b]
   simp[Uv,Xd,XZ a]
  rw[e];exact(h.par j b).congr (λq t=>by
   obtain⟨z,u⟩:=(h.par j b).blk t;exact n _ (zc u) (zw (h.lot i f) u (by decide)).symm)
 nodup:=h.nodup
 today:=h.today
 ok:=λl D=>by
  rcases Xy D with p|p
  ·exact h.ok l p
  subst p;exact C
 room:=by rw[xd];exact h.room}
theorem nM(h:L.Ok l){n:Nat}(a:n<=l.free):L.Ok (zF l n):=⟨h.id,h.gd,h.ex,h.place,(by have:=h.sum;show l.free-n+l.hd+l.sh+l.sc+(l.gv+n)<=2147483647;omega),h.got,h.par⟩
theorem Bj(h:L.Ok l){n:Nat}(a:n<=l.free):L.Ok (gT l n):=⟨h.id,h.gd,h.ex,h.place,(by have:=h.sum;show l.free-n+l.hd+l.sh+(l.sc+n)+l.gv<=2147483647;omega),h.got,h.par⟩
def Zv(ls:List L)(n c:Nat):Nat:=if UB n ls<ls.length then (if (ls.getD (UB n ls) L0).free<c then 7 else 0) else 4
def Zw(ls:List L)(n c:Nat):List L:=if Zv ls n c=0 then ls.set (UB n ls) (gT (ls.getD (UB n ls) L0) c) else ls
theorem JR(h:PI os rj Z w S td ls)(n c:Nat)(h1:n<=2147483647)(h2:c<=2147483647):Calls prog 106 #[.pointer (some ⟨S,0,none⟩),.agg #[.int .i64 n,.int .i64 c]] w λe w'=>Kp Z w w'/\e=.returned (.int .i64 (Zv ls n c:Int))/\PI os rj (Zn Z w) w' S td (Zw ls n c):=by
 obtain⟨M,v,g,m,s,q⟩:=h;have d:=s.below (TZ w (Obj.cells #[.int .i64 n,.int .i64 c] 168));have z:=zb (Zy d n h1);by_cases i:UB n ls<ls.length
 ·have y:Ha (zN g ls n=.pointer (some ⟨g.getD (UB n ls) 0,0,none⟩)):=by unfold Ha zN;rw[xe i]
  rw[y.o]at z;have a:=s.lot _ i;have N:=zc a;have f:=s.ok _ (zg i);have t:g.getD (UB n ls) 0∈g:=zL (by rw[s.len];exact i);have u:Z (g.getD (UB n ls) 0):=q.b _ t;obtain⟨l,A⟩:=UM (ls.getD (UB n ls) L0);rw[<-A.o]at a f;by_cases R:l.free<c
  ·have r:Ha (Zv ls n c=7):=by unfold Ha Zv;rw[xe i,<-A.o,xe R]
   have C:Ha (Zw ls n c=ls):=by unfold Ha Zw;rw[r.o];rfl
   generalize m.getD (UB n ls) default=pv at a;generalize g.getD (UB n ls) 0=b at *;have c6:w.cell? ⟨b,6,none⟩=some (.int .i64 l.free):=by rw[za a];rfl
   have j:=f.sum;have K:l.free<=2147483647:=by omega
   have B:=zb d;clear s d a f j;go_enter func106,ntmps106;go_wp2_with (go_at_call 148;refine z.mono ?_;rintro e w1 ⟨rfl,rfl⟩);go_region;go_wp2_with fail;go_ret;refine⟨UD ((TZ w _).drew),by rw[r.o];rfl,M,v,g,m,?_,q.mono (λk D=>Or.inl D)⟩;rw[C.o];exact B.below (xh _ _).drew
  have r:Ha (Zv ls n c=0):=by unfold Ha Zv;rw[xe i,<-A.o,xg R]
  have C:Ha (Zw ls n c=ls.set (UB n ls) (gT l c)):=by unfold Ha Zw;rw[r.o,<-A.o];rfl
  have B:=zb s;have T:=zb i;generalize E:m.getD (UB n ls) default=pv at a;have J:=zb E;clear E;obtain⟨b,G⟩:=UM (g.getD (UB n ls) 0);rw[<-G.o]at a z y N u;have c6:w.cell? ⟨b,6,none⟩=some (.int .i64 l.free):=by rw[za a];rfl
  have c9:w.cell? ⟨b,9,none⟩=some (.int .i64 l.sc):=by rw[za a];rfl
  have f6:=zf a 6;have f9:=zf a 9;have X:=zb f;have H:=zb a;have j:=f.sum;have K:l.free<=2147483647:=by omega
  have a0:l.sc+c<=2147483647:=by omega
  clear s d a f j i t y;go_enter func106,ntmps106;go_wp2_with (go_at_call 148;refine z.mono ?_;rintro e w1 ⟨rfl,rfl⟩);go_region;go_wp2_with fail;go_region;go_wp2_with fail;go_region;go_wp2_with fail;go_ret;have P:=xq w b 6 _ 231 (.int .i64 ((l.free:Int)-(c:Int))) H;have Q:=xq _ b 9 _ 231 (.int .i64 ((l.sc:Int)+(c:Int))) P;have p:((w.setCell ⟨b,6,none⟩ (.int .i64 ((l.free:Int)-(c:Int)))).setCell ⟨b,9,none⟩ (.int .i64 ((l.sc:Int)+(c:Int)))).heap[b]?=some (.cells (zn (gT l c) pv) 231 (0,0)):=by
   rw[Q];have e1:((l.free-c:Nat):Int)=(l.free:Int)-(c:Int):=by omega
   have e2:((l.sc+c:Nat):Int)=(l.sc:Int)+(c:Int):=by omega
   simp[zn,gT,e1,e2]
  refine⟨?_,by rw[r.o];rfl,M,v,g,m,?_,q.mono (λk D=>Or.inl D)⟩
  ·refine Kp.after (Kp.setCell (Kp.setCell (Kp.refl Z w) ?_ _) ?_ _) (((TZ _ _).drew).drew).drew
   ·exact Or.inl u
   exact Or.inl u
  rw[C.o];have F:=B.lotset (W:=(w.setCell ⟨b,6,none⟩ (.int .i64 ((l.free:Int)-(c:Int)))).setCell ⟨b,9,none⟩ (.int .i64 ((l.sc:Int)+(c:Int)))) T (l':=gT l c) (Bj X (by omega)) (by rw[A.o];rfl) (by rw[J.o,<-G.o];exact p) (λk _ x=>by
   rw[<-G.o]at x;rw[xa _ _ _ _ x,xa _ _ _ _ x])
  exact F.below (((TZ _ _).drew).drew).drew
 have y:Ha (zN g ls n=.pointer none):=by unfold Ha zN;rw[xg i]
 have r:Ha (Zv ls n c=4):=by unfold Ha Zv;rw[xg i]
 have C:Ha (Zw ls n c=ls):=by unfold Ha Zw;rw[r.o];rfl
 rw[y.o]at z;have B:=zb d;clear s d i y;go_enter func106,ntmps106;go_wp2_with (go_at_call 148;refine z.mono ?_;rintro e w1 ⟨rfl,rfl⟩);go_ret;refine⟨UD (TZ w _),by rw[r.o];rfl,M,v,g,m,?_,q.mono (λk D=>Or.inl D)⟩;rw[C.o];exact B
def UJ(ls:List L)(id gd expiry got:Nat)(ps:List (Nat×Nat)):L:={ id:=id,gd:=gd,ex:=expiry,place:=ls.length+1,got:=got,free:=got,hd:=0,sh:=0,sc:=0,gv:=0,par:=ps }
def zU(ls:List L)(n m c:Nat):Nat:=if UB n ls<ls.length then (if zx ls m=0 then (if (ls.getD (UB n ls) L0).free<c then 7 else 0) else zx ls m) else 4
def aA(ls:List L)(n m c:Nat):List L :=
 if zU ls n m c=0 then ls.set (UB n ls) (zF (ls.getD (UB n ls) L0) c)++[UJ ls m (ls.getD (UB n ls) L0).gd (ls.getD (UB n ls) L0).ex c [((ls.getD (UB n ls) L0).id,c)]] else ls
theorem eQ(ls:List L)(n:Nat):zx ls n<=6:=by unfold zx;split<;>(try split)<;>omega
theorem dC{n:Nat}(h:zx ls n=0):ls.length<30:=by
 unfold zx at h;by_cases a:30<=ls.length
 ·split at h
  ·omega
  omega
 omega
theorem Nj(h:PI os rj Z w S td ls)(n m c:Nat)(A:n<=2147483647)(B:m<=2147483647)(J:c<=2147483647)(q:zU ls n m c≠0):Calls prog 99 #[.pointer (some ⟨S,0,none⟩),.agg #[.int .i64 n,.int .i64 m,.int .i64 c]] w λe w'=>e=.returned (.int .i64 (zU ls n m c:Int))/\Below w.heap.size w w':=by
 obtain⟨M,v,u,y,p,D⟩:=h;have d:=p.below (TZ w (Obj.cells #[.int .i64 n,.int .i64 m,.int .i64 c] 149));have s:=zb (Zy d n A);have x:=zb (jR d m B);have g:=eQ ls m;by_cases f:UB n ls<ls.length
 ·have k:Ha (zN u ls n=.pointer (some ⟨u.getD (UB n ls) 0,0,none⟩)):=by unfold Ha zN;rw[xe f]
  rw[k.o]at s;have a:=p.lot _ f;have j:=p.ok _ (zg f);generalize u.getD (UB n ls) 0=b at *;by_cases r:zx ls m=0
  ·have G:(ls.getD (UB n ls) L0).free<c:=by
    unfold zU at q;rw[xe f,xe r]at q;by_cases z:(ls.getD (UB n ls) L0).free<c
    ·exact z
    rw[xg z]at q;exact absurd rfl q
   have i:Ha (zU ls n m c=7):=by unfold Ha zU;rw[xe f,xe r,xe G]
   rw[i.o];rw[r]at x;generalize y.getD (UB n ls) default=pv at *;generalize ls.getD (UB n ls) L0=l at *;have H:w.cell? ⟨b,6,none⟩=some (.int .i64 l.free):=by rw[za a];rfl
   have E:=zc a;have t:=j.sum;have C:l.free<=2147483647:=by omega
   clear p d a j t f r g q k i;go_enter func99,ntmps99;go_wp2_with (first
    |(go_at_call 148;refine s.mono ?_;rintro e w1 ⟨rfl,rfl⟩)
    |(go_at_call 146;refine x.mono ?_;rintro e w1 ⟨rfl,rfl⟩))
   go_region
   go_wp2_with fail;go_ret
   exact⟨rfl,(TZ w _).drew⟩
  have i:Ha (zU ls n m c=zx ls m):=by unfold Ha zU;rw[xe f,xg r]
  rw[i.o];have F:((zx ls m:Int) != 0)=true:=by rw[yk];omega
  generalize zx ls m=rc at *;clear p d a j f r q k i;go_enter func99,ntmps99;go_wp2_with (first
   |(go_at_call 148;refine s.mono ?_;rintro e w1 ⟨rfl,rfl⟩)
   |(go_at_call 146;refine x.mono ?_;rintro e w1 ⟨rfl,rfl⟩))
  go_ret;exact⟨rfl,TZ w _⟩
 have k:Ha (zN u ls n=.pointer none):=by unfold Ha zN;rw[xg f]
 have i:Ha (zU ls n m c=4):=by unfold Ha zU;rw[xg f]
 rw[k.o]at s;rw[i.o];clear p d f k g;go_enter func99,ntmps99;go_wp2_with (go_at_call 148;refine s.mono ?_;rintro e w1 ⟨rfl,rfl⟩);go_ret;exact⟨rfl,TZ w _⟩
theorem Kp.cell{Z:Nat->Prop}{w w':World}(h:Kp Z w w'){b j:Nat}{x:Value}(d:¬Z b)(a:b<w.heap.size)(c:w.cell? ⟨b,j,none⟩=some x):w'.cell? ⟨b,j,none⟩=some x:=by
 rw[<-c];unfold World.cell?;simp only[h.block b a d]
theorem PV.apart(h:PV os rj w S M v td bs pvs ls){b:Nat}{c:Array Value}{t:TypeId}(a:w.heap[b]?=some (.cells c t (0,0)))(f:t≠117)(g:t≠191):¬(b=S\/v.ownBlock=some b):=by
 rintro(e|e)
 ·exact zw a h.store f e
 obtain⟨d,i⟩:=zi h.row e;exact zw a i g rfl
theorem Kc(h:PI os rj Z w S td ls)(n m c:Nat)(h1:n<=2147483647)(h2:m<=2147483647)(h3:c<=2147483647)(W:UB n ls<ls.length)(hr:zx ls m=0)(hs:¬(ls.getD (UB n ls) L0).free<c):Calls prog 99 #[.pointer (some ⟨S,0,none⟩),.agg #[.int .i64 n,.int .i64 m,.int .i64 c]] w λe w'=>Kp Z w w'/\e=.returned (.int .i64 0) /\
   PI os rj (Zn Z w) w' S td (ls.set (UB n ls) (zF (ls.getD (UB n ls) L0) c)++[UJ ls m (ls.getD (UB n ls) L0).gd (ls.getD (UB n ls) L0).ex c [((ls.getD (UB n ls) L0).id,c)]]):=by
 obtain⟨M,v,bs,a7,T,t⟩:=h;have A:=T.below (TZ w (Obj.cells #[.int .i64 n,.int .i64 m,.int .i64 c] 149));have HR:=zb (Zy A n h1);have HM:=zb (jR A m h2);have a3:=dC hr;have HF:Ha (zN bs ls n=.pointer (some ⟨bs.getD (UB n ls) 0,0,none⟩)):=by unfold Ha zN;rw[xe W]
 rw[HF.o]at HR;rw[hr]at HM;have r:=A.lot _ W;have x:=T.ok _ (zg W);have a1:Z (bs.getD (UB n ls) 0):=t.b _ (zL (by rw[T.len];exact W));obtain⟨l,HL⟩:=UM (ls.getD (UB n ls) L0);obtain⟨b,HB⟩:=UM (bs.getD (UB n ls) 0);obtain⟨pv,HV⟩:=UM (a7.getD (UB n ls) default);rw[<-HL.o]at r x hs ⊢;rw[<-HB.o]at r HR a1;rw[<-HV.o]at r;have F:b<w.heap.size:=by
  have:=zc r
  have h2:=zw r (xo w (Obj.cells #[.int .i64 n,.int .i64 m,.int .i64 c] 149)) (by decide);simp at this;omega
 have y:w.heap[b]?=some (.cells (zn l pv) 231 (0,0)):=by rw[<-XO w (Obj.cells #[.int .i64 n,.int .i64 m,.int .i64 c] 149) b F];exact r
 have a5:=x.sum;have b6:l.free<=2147483647:=by omega
 have b1:=x.gd;have b0:=x.ex;have a2:=x.id;have c6:w.cell? ⟨b,6,none⟩=some (.int .i64 l.free):=by rw[za y];rfl
 obtain⟨w1,D⟩:∃w1,w1=(w.alloc (Obj.cells #[.int .i64 n,.int .i64 m,.int .i64 c] 149)).drew:=⟨_,rfl⟩
 have C:Below w.heap.size w w1:=by rw[D];exact(TZ w _).drew
 have u:w1.heap[b]?=some (.cells (zn l pv) 231 (0,0)):=by rw[C.block b F];exact y
 have z:w1.heap[w.heap.size]?=some (Obj.cells #[.int .i64 n,.int .i64 m,.int .i64 c] 149 (0,0)):=by rw[D];exact xo w _
 have a6:w1.heap.size=w.heap.size+1:=by rw[D];simp
 have HG:=zb (vU u x c (by omega));have P:PV os rj (dI w1 b l c) S M v td bs a7 (ls.set (UB n ls) (zF l c)):=(T.below C).lotset W (l':=zF l c) (nM x (by omega)) (by rw[HL.o];rfl) (by rw[<-HV.o,<-HB.o];exact gE u c (by omega)) (λk hk b2=>ZV hk (by rw[HB.o];exact b2));have i:=gE u c (by omega);have R:Kp Z w (dI w1 b l c):=Kp.before C (vT w1 b l c (Or.inl a1));have J:=kQ w1 b l c;have d:(dI w1 b l c).heap[w.heap.size]?=some (Obj.cells #[.int .i64 n,.int .i64 m,.int .i64 c] 149 (0,0)):=by
  rw[ZV (by omega) (λe=>by omega)];exact z
 obtain⟨G,X⟩:=UM (dI w1 b l c);rw[<-X.o]at HG P i R J d;have g1:G.cell? ⟨w.heap.size,1,none⟩=some (.int .i64 m):=by rw[za d];rfl
 have g2:G.cell? ⟨w.heap.size,2,none⟩=some (.int .i64 c):=by rw[za d];rfl
 have b4:G.cell? ⟨b,1,none⟩=some (.int .i64 l.gd):=by rw[za i];rfl
 have b5:G.cell? ⟨b,2,none⟩=some (.int .i64 l.ex):=by rw[za i];rfl
 have a4:=xo G (Obj.cells #[.int .i64 l.id,.int .i64 c] 234);have B:=P.below (TZ G (Obj.cells #[.int .i64 l.id,.int .i64 c] 234)).drew;have H:Par (G.alloc (Obj.cells #[.int .i64 l.id,.int .i64 c] 234)).drew (.slice (some ⟨G.heap.size,0,none⟩) 1 1) [(l.id,c)]:=by
  refine Or.inr ⟨G.heap.size,1,_,rfl,a4,λj hj=>?_⟩;obtain rfl:j=0:=by simp at hj;omega
  exact⟨rfl,rfl⟩
 have Q:=(TZ G (Obj.cells #[.int .i64 l.id,.int .i64 c] 234)).drew;have a:=(Q.block _ (zc d)).trans d;have f:=(Q.block _ (zc i)).trans i;have K:=B.apart a (by decide) (by decide);have N:=B.apart f (by decide) (by decide);have e1:(G.alloc (Obj.cells #[.int .i64 l.id,.int .i64 c] 234)).drew.cell? ⟨w.heap.size,1,none⟩=some (.int .i64 m):=by rw[za a];rfl
 have e2:(G.alloc (Obj.cells #[.int .i64 l.id,.int .i64 c] 234)).drew.cell? ⟨w.heap.size,2,none⟩=some (.int .i64 c):=by rw[za a];rfl
 have e3:(G.alloc (Obj.cells #[.int .i64 l.id,.int .i64 c] 234)).drew.cell? ⟨b,1,none⟩=some (.int .i64 l.gd):=by rw[za f];rfl
 have e4:(G.alloc (Obj.cells #[.int .i64 l.id,.int .i64 c] 234)).drew.cell? ⟨b,2,none⟩=some (.int .i64 l.ex):=by rw[za f];rfl
 have HA:=zb ((BM B m l.gd l.ex c _ _ H ⟨by simp,by simp;exact a2⟩ (by rw[xd];exact a3) h2 b1 b0 h3).mono (λe w' E=>(⟨E.1,zb E.2,E.2.1.cell K (zc a) e1,E.2.1.cell K (zc a) e2,E.2.1.cell N (zc f) e3,E.2.1.cell N (zc f) e4⟩:_/\Ha _/\_/\_/\_/\_)));have b3:=zb T;have HK:=zb R;have a8:Ha (G.heap.size=w.heap.size+2):=by unfold Ha;omega
 subst D;clear J a6 T A r y x a5 hr W u z P i R d a4 B H HF X C Q a f K N e1 e2 e3 e4;go_enter func99,ntmps99;go_wp2_with (first
  |(go_at_call 148;refine HR.mono ?_;rintro e w1 ⟨rfl,rfl⟩)
  |(go_at_call 146;refine HM.mono ?_;rintro e w1 ⟨rfl,rfl⟩))
 go_region
 go_wp2_with (go_at_call 149;refine HG.mono ?_;rintro e w2 ⟨rfl,rfl⟩)
 go_region_held3 (λw'=>w'.cell? ⟨w.heap.size,1,none⟩=some (.int .i64 m)/\w'.cell? ⟨w.heap.size,2,none⟩=some (.int .i64 c)/\w'.cell? ⟨b,1,none⟩=some (.int .i64 l.gd)/\w'.cell? ⟨b,2,none⟩=some (.int .i64 l.ex)) (go_keep) (first|(go_at_call 147;refine HA.mono ?_;rintro e w3 ⟨rfl,E,e1,e2,e3,e4⟩))
 go_wp2_with fail;go_ret
 have b7:=a8.o;obtain⟨hk,v',a0,a9⟩:=E.o;refine⟨?_,rfl,M,v',_,_,(by rw[xd]at a0;exact a0),?_⟩
 ·exact(HK.after (TZ _ _).drew).trans (hk.mono (λk hq=>Or.inl (hq.elim (λe=>e ▸ t.s) (λe=>t.v k e))))
 refine⟨Or.inl t.s,Or.inl t.m,Or.inl t.mo,Or.inl t.mh,λg hg=>?_,λk hk=>?_,λpv hp q hq=>?_⟩
 ·rcases a9 g hg with h|h
  ·exact Or.inl (t.v g h)
  right;simp at h;omega
 ·rcases xw.1 hk with h|h
  ·exact Or.inl (t.b k h)
  right;simp at h;omega
 rcases xw.1 hp with h|h
 ·exact Or.inl (t.p pv h q hq)
 right
 simp at h;subst h;simp[Value.ownBlock]at hq;omega
theorem Kb(h:PI os rj Z w S td ls)(n m c:Nat)(l:n<=2147483647)(p:m<=2147483647)(q:c<=2147483647):Calls prog 99 #[.pointer (some ⟨S,0,none⟩),.agg #[.int .i64 n,.int .i64 m,.int .i64 c]] w λe w'=>Kp Z w w'/\e=.returned (.int .i64 (zU ls n m c:Int))/\PI os rj (Zn Z w) w' S td (aA ls n m c):=by
 by_cases a:zU ls n m c=0
 ·have i:UB n ls<ls.length/\zx ls m=0/\¬(ls.getD (UB n ls) L0).free<c:=by
   unfold zU at a;by_cases f:UB n ls<ls.length
   ·rw[xe f]at a;by_cases b:zx ls m=0
    ·rw[xe b]at a;refine⟨f,b,λu=>?_⟩;rw[xe u]at a;omega
    rw[xg b]at a;exact absurd a b
   rw[xg f]at a;omega
  have d:aA ls n m c=_:=xe a;rw[a,d];exact Kc h n m c l p q i.1 i.2.1 i.2.2
 have d:aA ls n m c=ls:=xg a;rw[d];refine(Nj h n m c l p q a).mono λe w' ⟨he,hb⟩=>⟨UD hb,he,?_⟩
 obtain⟨M,v,r,j,s,g⟩:=h;exact⟨M,v,r,j,s.below hb,g.mono (λk t=>Or.inl t)⟩
def zd(ls:List L)(n:Nat):L:=ls.getD (UB n ls) L0
def zS(ls:List L)(a b m:Nat):Nat :=
 if UB a ls<ls.length/\UB b ls<ls.length then
  (if UB a ls=UB b ls\/(zd ls a).gd≠(zd ls b).gd then 8 else
   if zx ls m=0 then (if (zd ls a).free+(zd ls b).free=0 then 7 else if 2147483647<(zd ls a).free+(zd ls b).free then 2 else 0) else zx ls m)
 else 4
def ZI(ls:List L)(a b m:Nat):List L :=
 if zS ls a b m=0 then (ls.set (UB a ls) (zF (zd ls a) (zd ls a).free)).set (UB b ls) (zF (zd ls b) (zd ls b).free)++[UJ ls m (zd ls a).gd (min (zd ls a).ex (zd ls b).ex) ((zd ls a).free+(zd ls b).free) [((zd ls a).id,(zd ls a).free),((zd ls b).id,(zd ls b).free)]] else ls
theorem OE(h:PV os rj w S M v td bs pvs ls){i j:Nat}(d:i<ls.length)(f:j<ls.length)(c:i≠j):bs.getD i 0≠bs.getD j 0:=λe=>c (by
 have b:j<bs.length:=by rw[h.len];exact f
 have a:i<bs.length:=by rw[h.len];exact d
 rw[Uv,Uv,xi b,xi a]at e;simp only[Xw]at e;exact(List.getElem?_inj a h.nodup).1 (by rw[xi b,xi a,e]))
theorem FV(n:PV os rj w S M v td bs pvs ls)(a b m:Nat)(r:a<=2147483647)(s:b<=2147483647)(u:m<=2147483647)(p:¬(UB a ls<ls.length/\UB b ls<ls.length)):Calls prog 100 #[.pointer (some ⟨S,0,none⟩),.agg #[.int .i64 a,.int .i64 b,.int .i64 m]] w λe w'=>e=.returned (.int .i64 4)/\Below w.heap.size w w':=by
 have g:=n.below (TZ w (Obj.cells #[.int .i64 a,.int .i64 b,.int .i64 m] 152)).drew;have d:=zb (Zy g a r);have f:=zb (Zy g b s);have l:=xo w (Obj.cells #[.int .i64 a,.int .i64 b,.int .i64 m] 152);by_cases k:UB a ls<ls.length
 ·have q:¬UB b ls<ls.length:=λh=>p ⟨k,h⟩
  have c:Ha (zN bs ls a=.pointer (some ⟨bs.getD (UB a ls) 0,0,none⟩)):=by unfold Ha zN;rw[xe k]
  have i:Ha (zN bs ls b=.pointer none):=by unfold Ha zN;rw[xg q]
  rw[c.o]at d;rw[i.o]at f;generalize bs.getD (UB a ls) 0=ba at *;clear n g k q p c i l;go_enter func100,ntmps100;go_wp2_with fail;go_region_held3 (λw'=>w'.cell? ⟨w.heap.size,0,none⟩=some (.int .i64 a)/\w'.cell? ⟨w.heap.size,1,none⟩=some (.int .i64 b)) (go_keep) (first
   |(go_at_call 148;with_reducible refine(d.o).mono ?_;rintro e w1 ⟨rfl,rfl⟩)
   |(go_at_call 148;with_reducible refine(f.o).mono ?_;rintro e w1 ⟨rfl,rfl⟩))
  go_wp2_with fail;go_ret
  exact⟨rfl,(TZ w _).drew⟩
 have c:Ha (zN bs ls a=.pointer none):=by unfold Ha zN;rw[xg k]
 rw[c.o]at d;obtain⟨t,j⟩:∃x,zN bs ls b=.pointer x:=by unfold zN;split<;>exact⟨_,rfl⟩
 rw[j]at f;clear n g k p c j l;go_enter func100,ntmps100;go_wp2_with fail;go_region_held3 (λw'=>w'.cell? ⟨w.heap.size,0,none⟩=some (.int .i64 a)/\w'.cell? ⟨w.heap.size,1,none⟩=some (.int .i64 b)) (go_keep) (first
  |(go_at_call 148;with_reducible refine(d.o).mono ?_;rintro e w1 ⟨rfl,rfl⟩)
  |(go_at_call 148;with_reducible refine(f.o).mono ?_;rintro e w1 ⟨rfl,rfl⟩))
 go_wp2_with fail;go_ret
 exact⟨rfl,(TZ w _).drew⟩
