import Derived.Test.YtgcedalggnmooaaGreatDoorRefAX
import Derived.DeepKeys4
set_option linter.all false
set_option maxRecDepth 100000
set_option maxHeartbeats 1600000
namespace Go.Proofs.YtgcedalggnmooaaGreatDoor
open Go.RowKit
open Tryz
structure O where
 id:Nat
 gd:Nat
 li:List (Nat×Nat)
structure Mx where
 r:Nat
 o:Nat
 h:Nat
def zr(os:List O)(a b:Nat):Option Nat:=(os.find? (λo=>o.id==a)).bind λo=>o.li.lookup b
def dX(n:Nat):Lit:=.int .i64 n
def eW(a b:Nat):Lit:=.string (keyBytes [.int .i64 a,.int .i64 b])
theorem Vk:prog.underlying 2=some (.int .i64):=by kernel_rfl
theorem Vj: (prog.underlying 260).map (λd=>match d with | .struct fs=>some (fs.toList.map (λf=>(f.name, f.type, f.offset))) | _=>none) = some (some [("order", 2, 0), ("lot", 2, 1)]) := by kernel_rfl
theorem QU:prog.cellsOf 260=2:=by kernel_rfl
theorem QV:prog.cellsOf 2=1:=by kernel_rfl
theorem SI:prog.keyType 260=true:=by kernel_rfl
theorem Vl: (prog.underlying 202).map (λd=>match d with | .struct fs=>some (fs.toList.map (λf=>(f.name, f.type, f.offset))) | _=>none) = some (some [("lot", 2, 0), ("mark", 2, 1)]) := by kernel_rfl
theorem QW:prog.cellsOf 202=2:=by kernel_rfl
theorem SJ:prog.keyType 202=true:=by kernel_rfl
theorem NZ:laidOutB prog=true:=by kernel_rfl
theorem BJ:Maps.Keyed prog 2:=Maps.int_keyed Vk
theorem wJ:Maps.Keyed prog 260:=Maps.Keyed.of_law (deep_law_laid NZ (m:=5) (by decide) (of_decide_eq_true (by kernel_rfl)) (by kernel_rfl) (by kernel_rfl))
theorem Lc:Maps.Keyed prog 202:=Maps.Keyed.of_law (deep_law_laid NZ (m:=5) (by decide) (of_decide_eq_true (by kernel_rfl)) (by kernel_rfl) (by kernel_rfl))
theorem So:∃n,prog.types.size=n+2:=⟨357,by kernel_rfl⟩
variable {S a b i j n td:Nat}
theorem QE(h:n<=2147483647):(Lit.int .i64 n).wf=true:=by
 have a:IntKind.min .i64<=(n:Int):=by show(-9223372036854775808:Int)<=n;omega
 have b:(n:Int)<=IntKind.max .i64:=by show(n:Int)<=9223372036854775807;omega
 show(decide (IntKind.min .i64<=(n:Int))&&decide ((n:Int)<=IntKind.max .i64))=true;rw[xy a,xy b];rfl
theorem sS(h:n<=2147483647):keyOf prog 2 (.int .i64 n)=some (dX n):=Maps.keyOf_int_mk Vk (QE h)
theorem IP{T: TypeId}{m s1: String}(q : (m != "_") = true)(k : (s1 != "_") = true)(c : (prog.underlying T).map (λd=>match d with | .struct fs=>some (fs.toList.map (λf=>(f.name, f.type, f.offset))) | _=>none) = some (some [(m, 2, 0), (s1, 2, 1)]))(e : prog.cellsOf T = 2)(l : prog.keyType T = true){a b : Nat}(s : a <= 2147483647)(t : b <= 2147483647): keyOf prog T (.agg #[.int .i64 (a : Int), .int .i64 (b : Int)]) = some (eW a b) := by
 obtain⟨n,w⟩:=So
 cases hd:prog.underlying T with
 |none=>rw[hd]at c;cases c
 |some d=>
  rw[hd]at c
  cases d
  case struct fs=>
   simp only[XK,Xj]at c;have p:∀(x:Nat),x<=2147483647->prog.keyLits (n+2) 2 [.int .i64 x]=some [.int .i64 x]:=λx y=>by
    unfold Program.keyLits;rw[Vk];simp[QE y]
   obtain⟨g,h,i,⟨z,D,B⟩,A,E,C⟩:∃g h,fs.toList=[g,h]/\(g.name=m/\g.type=2/\g.offset=0)/\h.name=s1/\h.type=2/\h.offset=1:=by
    cases i:fs.toList with
    |nil=>rw[i]at c;simp at c
    |cons g r=>
     cases r with
     |nil=>rw[i]at c;simp at c
     |cons h r=>
      cases r with
      |nil=>rw[i]at c;simp at c;exact⟨g,h,rfl,c.1,c.2⟩
      |cons f2 r=>rw[i]at c;simp at c
   have j : fs.all (·.name != "_") = true := by
    rw[<-Array.all_toList,i];simp only[List.all_cons,List.all_nil,z,A,q,k,xbP]
   have v:(fs.toList.mapM λf=>prog.keyLits (n+2) f.type (([.int .i64 a,.int .i64 b]:List Value).drop f.offset |>.take (prog.cellsOf f.type)))=some [[.int .i64 a],[.int .i64 b]]:=by
    rw[i];simp[List.mapM_cons,D,E,B,C,QV,p a s,p b t]
   have u:prog.keyLits (prog.types.size+1) T [.int .i64 a,.int .i64 b]=some [.int .i64 a,.int .i64 b]:=by
    rw[w];unfold Program.keyLits;rw[hd];simp only[e,j];rw[xe ⟨rfl,trivial⟩,v];rfl
   unfold keyOf;rw[hd];simp only[l,Value.formed,hd,e,Value.cells,u];rfl
  all_goals (simp at c)
theorem Cz(c:a<=2147483647)(d:b<=2147483647):keyOf prog 260 (.agg #[.int .i64 a,.int .i64 b])=some (eW a b):=IP (by decide) (by decide) Vj QU SI c d
theorem IM(c:a<=2147483647)(d:b<=2147483647):keyOf prog 202 (.agg #[.int .i64 a,.int .i64 b])=some (eW a b):=IP (by decide) (by decide) Vl QW SJ c d
theorem jG{c d:Nat}(g:a<=2147483647)(i:b<=2147483647)(j:c<=2147483647)(hd:d<=2147483647)(h:eW a b=eW c d):a=c/\b=d:=by
 have e:=Cz g i;have f:=Cz j hd;rw[h]at e;have:=wJ.inj e f;simp at this;omega
theorem gH(h:dX a=dX b):a=b:=by simp[dX]at h;omega
def Zc(os:List O):Nat:=(os.map λo=>o.li.length).sum
def aC(os:List O)(n:Nat):Nat:=((os.find? (λo=>o.id==n)).map O.gd).getD 0
structure OD(os:List O)(D:DataW Unit):Prop where
 size:Maps.size D=os.length
 has:∀n:Nat,n<=2147483647->Maps.has D (dX n)=os.any (λo=>o.id==n)
 val:∀n:Nat,n<=2147483647->D.atKey (dX n) (.lit (.int .i64 0))=.lit (.int .i64 ((aC os n:Nat):Int))
 keys:∀kl,Maps.has D kl=true->∃o∈os,kl=dX o.id
structure HD(os:List O)(D:DataW Unit):Prop where
 size:Maps.size D=Zc os
 has:∀a b:Nat,a<=2147483647->b<=2147483647->Maps.has D (eW a b)=(zr os a b).isSome
 val:∀a b:Nat,a<=2147483647->b<=2147483647->D.atKey (eW a b) (.lit (.int .i64 0))=.lit (.int .i64 (((zr os a b).getD 0:Nat):Int))
structure RD(rj:List (Nat×Nat))(D:DataW Unit):Prop where
 size:Maps.size D=rj.length
 has:∀a b:Nat,a<=2147483647->b<=2147483647->Maps.has D (eW a b)=rj.contains (a,b)
 keys:∀kl,Maps.has D kl=true->∃p∈rj,kl=eW p.1 p.2
structure Rc(rj:List (Nat×Nat)):Prop where
 nodup:rj.Nodup
 len:rj.length<=10
 fits:∀p∈rj,p.1<=2147483647/\p.2<=2147483647
def Ln(w:World)(b n:Nat)(D:DataW Unit):Prop:=w.ownsMap prog 202 (unitElem (H:=Unit)) b n D
def Oq(w:World)(b n:Nat)(D:DataW Unit):Prop:=w.ownsMap prog 2 (plainElem prog 2) b n D
def Lm(w:World)(b n:Nat)(D:DataW Unit):Prop:=w.ownsMap prog 260 (plainElem prog 2) b n D
variable {D:DataW Unit}{R:Value->Option (DataW Unit×List MemPlace)}{c w w':World}{k t:TypeId}
theorem zB(h:w.ownsMap prog k R b n D)(f:w'.heap[b]?=w.heap[b]?):w'.ownsMap prog k R b n D:=by
 obtain⟨c,a,e,F,g,d⟩:=h;exact⟨c,a,by rw[f];exact e,F,g,d⟩
theorem ZS(h:w.ownsMap prog k R b n D):∃d c,w.heap[b]?=some (.map d c):=by
 obtain⟨d,a,e,_⟩:=h;exact⟨d,a,e⟩
theorem Z7(h:w.ownsMap prog k R b n D):w.ownsMap prog k R b (Maps.size D) D:=by
 obtain⟨d,a,e,F,f,c⟩:=h;exact⟨d,a,e,F,by rw[c];simp[Maps.size,length_sorted],c⟩
theorem gI(h:w.heap[b]?=some (.map #[] 0)):w.ownsMap prog k R b (Maps.size (DataW.map []:DataW Unit)) (DataW.map []) :=
 ⟨#[],0,h,⟨by simp,MapKept.stamped_empty 0,by simp⟩,xc _,rfl⟩
structure Mp(os:List O)(rj:List (Nat×Nat))(w:World)(M:Mx):Prop where
 r:∃D,Ln w M.r (Maps.size D) D/\RD rj D
 rc:Rc rj
 o:∃D,Oq w M.o (Maps.size D) D/\OD os D
 h:∃D,Lm w M.h (Maps.size D) D/\HD os D
 ro:M.r≠M.o
 rh:M.r≠M.h
 oh:M.o≠M.h
variable {M:Mx}{os:List O}{ps rj:List (Nat×Nat)}
theorem Mp.congr3(h:Mp os rj w M)(c:w'.heap[M.r]?=w.heap[M.r]?)(d:w'.heap[M.o]?=w.heap[M.o]?)(e:w'.heap[M.h]?=w.heap[M.h]?):Mp os rj w' M:={
 r:=by obtain⟨D,a,b⟩:=h.r;exact⟨D,zB a c,b⟩
 rc:=h.rc
 o:=by obtain⟨D,a,b⟩:=h.o;exact⟨D,zB a d,b⟩
 h:=by obtain⟨D,a,b⟩:=h.h;exact⟨D,zB a e,b⟩
 ro:=h.ro
 rh:=h.rh
 oh:=h.oh}
theorem Mp.mr(h:Mp os rj w M):∃a c,w.heap[M.r]?=some (.map a c):=by obtain⟨D,b,_⟩:=h.r;exact ZS b
theorem Mp.mo(h:Mp os rj w M):∃a c,w.heap[M.o]?=some (.map a c):=by obtain⟨D,b,_⟩:=h.o;exact ZS b
theorem Mp.mh(h:Mp os rj w M):∃a c,w.heap[M.h]?=some (.map a c):=by obtain⟨D,b,_⟩:=h.h;exact ZS b
theorem Mp.congr(h:Mp os rj w M)(a:∀(k:Nat) (b:Array MapEntry) (c:Nat),w.heap[k]?=some (.map b c)->w'.heap[k]?=w.heap[k]?):Mp os rj w' M:=by
 obtain⟨_,_,d⟩:=h.mr;obtain⟨_,_,e⟩:=h.mo;obtain⟨_,_,f⟩:=h.mh;exact h.congr3 (a _ _ _ d) (a _ _ _ e) (a _ _ _ f)
structure L where
 id:Nat
 gd:Nat
 ex:Nat
 place:Nat
 got:Nat
 free:Nat
 hd:Nat
 sh:Nat
 sc:Nat
 gv:Nat
 par:List (Nat×Nat):=[]
def L0:L:=⟨0,0,0,0,0,0,0,0,0,0,[]⟩
def i64(n:Nat):Value:=.int .i64 n
def zn(l:L)(pv:Value):Array Value :=
 #[.int .i64 l.id,.int .i64 l.gd,.int .i64 l.ex,.int .i64 l.place,pv,.int .i64 l.got,.int .i64 l.free,.int .i64 l.hd,.int .i64 l.sh,.int .i64 l.sc,.int .i64 l.gv]
def bZ(bs:List Nat):List Value:=bs.map λb=>Value.pointer (some ⟨b,0,none⟩)
structure L.Ok(l:L):Prop where
 id:l.id<=2147483647
 gd:l.gd<=2147483647
 ex:l.ex<=2147483647
 place:l.place<=30
 sum:l.free+l.hd+l.sh+l.sc+l.gv<=2147483647
 got:l.got<=2147483647
 par:l.par.length<=2/\∀p∈l.par,p.1<=2147483647
def Prs(t:TypeId)(w:World)(pv:Value)(ps:List (Nat×Nat)):Prop :=
 (pv=.slice none 0 0/\ps=[])\/∃q cap cs,pv=.slice (some ⟨q,0,none⟩) ps.length cap/\w.heap[q]?=some (.cells cs t (0,0))/\∀j,j<ps.length->cs[2*j]?=some (.int .i64 ((ps.getD j (0,0)).1:Int))/\cs[2*j+1]?=some (.int .i64 ((ps.getD j (0,0)).2:Int))
def Par(w:World)(pv:Value)(ps:List (Nat×Nat)):Prop:=Prs 234 w pv ps
structure PV(os:List O)(rj:List (Nat×Nat))(w:World)(S:Nat)(M:Mx)(v:Value)(td:Nat)(bs:List Nat)(pvs:List Value)(ls:List L):Prop where
 store:w.heap[S]?=some (.cells #[.int .i64 td,v,.map (some M.o),.map (some M.h),.map (some M.r)] 117 (0,0))
 maps:Mp os rj w M
 row:w.ownsRow 0 191 1 v bs.length (bZ bs)
 len:bs.length=ls.length
 plen:pvs.length=ls.length
 lot:∀i,i<ls.length->w.heap[bs.getD i 0]?=some (.cells (zn (ls.getD i L0) (pvs.getD i default)) 231 (0,0))
 par:∀i,i<ls.length->Par w (pvs.getD i default) (ls.getD i L0).par
 nodup:bs.Nodup
 today:td<=2147483647
 ok:∀l∈ls,L.Ok l
 room:ls.length<=30
variable {cs:Array Value}
theorem za(h:w.heap[b]?=some (.cells cs t (0,0)))(j:Nat):w.cell? ⟨b,j,none⟩=cs[j]?:=by
 unfold World.cell?;rw[h];rfl
theorem zf(h:w.heap[b]?=some (.cells cs t (0,0)))(j:Nat):w.frozen? ⟨b,j,none⟩=false:=by
 unfold World.frozen?;rw[h];simp
theorem zc{o:Obj}(h:w.heap[b]?=some o):b<w.heap.size:=(YJ.1 h).1
variable {bs:List Nat}{ls:List L}{pv v:Value}{pvs:List Value}
theorem PV.c0(h:PV os rj w S M v td bs pvs ls):w.cell? ⟨S,0,none⟩=some (.int .i64 td):=by rw[za h.store];rfl
theorem PV.c1(h:PV os rj w S M v td bs pvs ls):w.cell? ⟨S,1,none⟩=some v:=by rw[za h.store];rfl
theorem PV.c2(h:PV os rj w S M v td bs pvs ls):w.cell? ⟨S,2,none⟩=some (.map (some M.o)):=by rw[za h.store];rfl
theorem PV.c3(h:PV os rj w S M v td bs pvs ls):w.cell? ⟨S,3,none⟩=some (.map (some M.h)):=by rw[za h.store];rfl
theorem PV.c4(h:PV os rj w S M v td bs pvs ls):w.cell? ⟨S,4,none⟩=some (.map (some M.r)):=by rw[za h.store];rfl
theorem PV.cl(h:PV os rj w S M v td bs pvs ls)(i:Nat)(a:i<ls.length)(j:Nat):w.cell? ⟨bs.getD i 0,j,none⟩=(zn (ls.getD i L0) (pvs.getD i default))[j]?:=za (h.lot i a) j
theorem PV.shape(h:PV os rj w S M v td bs pvs ls):∃a cap,v=.slice a ls.length cap/\(0<ls.length->∃G,a=some ⟨G,0,none⟩/\∀i,i<ls.length->w.cell? ⟨G,i,none⟩=some (.pointer (some ⟨bs.getD i 0,0,none⟩))):=by
 obtain⟨a,cap,d⟩:=zT h.row;refine⟨a,cap,by rw[<-h.len];exact d,λk=>?_⟩;obtain⟨g,e,b,_,_⟩:=zK h.row (by rw[h.len];exact k);rw[d]at b
 cases b;refine⟨g,rfl,λi j=>?_⟩
 have f:=h.row;rw[d]at f;rw[f.cellAt i (by rw[h.len];omega)];have c:i<bs.length:=by rw[h.len];exact j
 simp[bZ,Uv,c]
def UB(n:Nat)(ls:List L):Nat:=ls.findIdx (λl=>l.id==n)
theorem eJ{k:Nat}(b:k<ls.length)(c:∀j,j<k->(ls.getD j L0).id≠n)(a:(ls.getD k L0).id=n):UB n ls=k:=by
 unfold UB;rw[xbG b];simp only[Uv,xi b,Xw]at a;refine⟨by simpa using a,λj d=>?_⟩;have:=c j d;simp only[Uv,xi (show j<ls.length by omega),Xw]at this;simpa using this
theorem wA(b:∀j,j<ls.length->(ls.getD j L0).id≠n):UB n ls=ls.length:=by
 unfold UB;rw[List.findIdx_eq_length];intro x c;obtain⟨j,a,rfl⟩:=xt c;have:=b j a;simp only[Uv,xi a,Xw]at this;simpa using this
theorem zg{k:Nat}(a:k<ls.length):ls.getD k L0∈ls:=by
 simp[Uv,a]
theorem aO(h:a=b):((a:Int)==(b:Int))=true:=by rw[yl];omega
theorem ZG(h:¬a=b):((a:Int)==(b:Int))=false:=by rw[xp];omega
def zN(bs:List Nat)(ls:List L)(n:Nat):Value:=if UB n ls<ls.length then .pointer (some ⟨bs.getD (UB n ls) 0,0,none⟩) else .pointer none
theorem Zy(h:PV os rj w S M v td bs pvs ls)(n:Nat)(H:n<=2147483647):Calls prog 148 #[.pointer (some ⟨S,0,none⟩),.int .i64 n] w λe w'=>e=.returned (zN bs ls n)/\w'=w:=by
 obtain⟨a,cap,C,f⟩:=h.shape;have c1:=h.c1;rw[C]at c1;have y:=h.room;have A:=zb h;clear h C;go_enter func148,ntmps148;go_wp2_with fail;go_loop [6,12] (λ_ i=>∃k:Nat,k<=ls.length/\i=.int .i64 k/\(∀j,j<k->(ls.getD j L0).id≠n)) (λ_ i=>ls.length-(intOf i).toNat)
 case atStart=>exact⟨0,by omega,rfl,λj h=>absurd h (by omega)⟩
 obtain⟨k,F,rfl,g⟩:=hrel;by_cases d:k<ls.length
 ·obtain⟨G,B,c⟩:=f (by omega);rw[B];have s:=c k d;have p:w.cell? ⟨bs.getD k 0,0,none⟩=some (.int .i64 ((ls.getD k L0).id:Int)):=by rw[A.o.cl k d 0];rfl
  have t:(ls.getD k L0).id<=2147483647:=(A.ok _ (zg d)).id;obtain⟨m,r⟩:=UM ((ls.getD k L0).id);obtain⟨b,z⟩:=UM (bs.getD k 0);rw[<-r.o]at p t;rw[<-z.o]at p s;clear c B f;by_cases l:m=n
  ·have x:((m:Int)==(n:Int))=true:=aO l;have q:Ha (zN bs ls n=.pointer (some ⟨b,0,none⟩)):=by
    have:=eJ d g (by rw[<-r.o];exact l)
    unfold Ha zN;rw[this,xe d,<-z.o]
   clear l;go_wp2_with fail;go_ret;exact⟨by rw[q.o];rfl,rfl⟩
  have x:((m:Int)==(n:Int))=false:=ZG l;have D:=zb l;clear l;go_wp2_with fail;go_round
  case rel=>
   refine⟨k+1,by omega,by go_num,?_⟩;intro j E;by_cases u:j=k
   ·subst u;rw[<-r.o];exact D
   exact g j (by omega)
  simp[intOf];omega
 obtain rfl:k=ls.length:=by omega
 have q:Ha (zN bs ls n=.pointer none):=by
  have:=wA g
  unfold Ha zN;rw[this,xg (by omega)]
 clear f d;go_wp2_with fail;go_ret;exact⟨by rw[q.o];rfl,rfl⟩
structure Kp(Z:Nat->Prop)(w w':World):Prop where
 os:w'.os=w.os
 tape:w'.tape=w.tape
 output:w'.output=w.output
 size:w.heap.size<=w'.heap.size
 block:∀k,k<w.heap.size->¬Z k->w'.heap[k]?=w.heap[k]?
theorem Kp.refl(Z:Nat->Prop)(w:World):Kp Z w w:=⟨rfl,rfl,rfl,xc _,λ_ _ _=>rfl⟩
theorem Kp.trans{Z:Nat->Prop}{a b c:World}(h:Kp Z a b)(k:Kp (λk=>Z k\/a.heap.size<=k) b c):Kp Z a c :=
 ⟨k.os.trans h.os,k.tape.trans h.tape,k.output.trans h.output,xj h.size k.size,λi d f=>
  (k.block i (xn d h.size) (λe=>e.elim f (λe=>absurd d (by omega)))).trans (h.block i d f)⟩
variable {Z Z':Nat->Prop}
theorem Kp.mono{a b:World}(h:Kp Z a b)(f:∀k,Z k->Z' k):Kp Z' a b :=
 ⟨h.os,h.tape,h.output,h.size,λi c d=>h.block i c (λe=>d (f i e))⟩
theorem UD{a b:World}(h:Below a.heap.size a b):Kp Z a b:=⟨h.os,h.tape,h.output,h.size,λi c _=>h.block i c⟩
theorem Kp.after{a b:World}(h:Kp Z a b)(k:Below b.heap.size b c):Kp Z a c:=h.trans (UD k)
theorem Kp.before{a b:World}(h:Below a.heap.size a b)(k:Kp (λk=>Z k\/a.heap.size<=k) b c):Kp Z a c:=(UD (Z:=Z) h).trans k
theorem Kp.setCell{Z:Nat->Prop}{a w:World}(h:Kp Z a w){p:Addr}(b:Z p.block\/a.heap.size<=p.block)(u:Value):Kp Z a (w.setCell p u) :=
 h.trans ⟨rfl,rfl,rfl,by simp[World.setCell],λk _ c=>xa _ _ _ _ (λe=>c (by rw[e];exact b))⟩
theorem Kp.grown{a:World}{row:Option Nat}(h:Kp Z a w)(b:w.grownBy w' row)(d:∀k,row=some k->Z k\/a.heap.size<=k):Kp Z a w' :=
 h.trans ⟨b.os,b.tape,b.output,b.size,λk c f=>b.block k c (λe=>f (d k e.symm))⟩
theorem zV(w:World)(a:Addr)(u:Value):w.grownBy (w.setCell a u) (some a.block) :=
 ⟨rfl,rfl,rfl,by simp[World.setCell],λk _ b=>xa _ _ _ _ (λe=>b (by rw[e]))⟩
structure PIn(Z:Nat->Prop)(S:Nat)(M:Mx)(v:Value)(bs:List Nat)(pvs:List Value):Prop where
 s:Z S
 m:Z M.r
 mo:Z M.o
 mh:Z M.h
 v:∀g,v.ownBlock=some g->Z g
 b:∀k∈bs,Z k
 p:∀pv∈pvs,∀q,pv.ownBlock=some q->Z q
theorem PIn.mono(h:PIn Z S M v bs pvs)(a:∀k,Z k->Z' k):PIn Z' S M v bs pvs :=
 ⟨a _ h.s,a _ h.m,a _ h.mo,a _ h.mh,λg c=>a _ (h.v g c),λk d=>a _ (h.b k d),λpv e q f=>a _ (h.p pv e q f)⟩
theorem Prs.congr(h:Prs t w pv ps)(e:∀q,pv.ownBlock=some q->w'.heap[q]?=w.heap[q]?):Prs t w' pv ps:=by
 rcases h with h|⟨q,cap,b,a,c,d⟩
 ·exact Or.inl h
 exact Or.inr ⟨q,cap,b,a,by rw[e q (by rw[a];rfl)];exact c,d⟩
theorem Par.congr{w w':World}{pv:Value}{ps:List (Nat×Nat)}(h:Par w pv ps)(a:∀q,pv.ownBlock=some q->w'.heap[q]?=w.heap[q]?):Par w' pv ps:=Prs.congr h a
theorem Prs.blk(h:Prs t w pv ps){q:Nat}(a:pv.ownBlock=some q):∃b,w.heap[q]?=some (.cells b t (0,0)):=by
 rcases h with ⟨c,_⟩|⟨f,cap,b,c,d,e⟩
 ·rw[c]at a;cases a
 rw[c]at a;cases a;exact⟨b,d⟩
theorem Par.blk{w:World}{pv:Value}{ps:List (Nat×Nat)}(h:Par w pv ps){q:Nat}(b:pv.ownBlock=some q):∃a,w.heap[q]?=some (.cells a 234 (0,0)):=Prs.blk h b
theorem Prs.isSl(h:Prs t w pv ps):∃a c,pv=.slice a ps.length c:=by
 rcases h with ⟨b,d⟩|⟨i,cap,e,b,f,g⟩
 ·exact⟨none,0,by rw[b,d];rfl⟩
 exact⟨_,_,b⟩
theorem ze{a e size:Nat}{xs:List Value}(h:w.ownsRow a e size v n xs)(j:∀g,v.ownBlock=some g->w'.heap[g]?=w.heap[g]?):w'.ownsRow a e size v n xs:=by
 refine⟨h.1,?_⟩;rcases h.2 with c|⟨g,cap,b,d,c,f,i⟩
 ·exact Or.inl c
 exact Or.inr ⟨g,cap,b,d,c,by rw[j g (by rw[d];rfl)];exact f,i⟩
theorem zL{l:List Nat}(h:i<l.length):l.getD i 0∈l:=by simp[Uv,h]
theorem bP{l:List Value}(h:i<l.length):l.getD i default∈l:=by simp[Uv,h]
theorem PV.congr{rj:List (Nat×Nat)}{Z:Nat->Prop}{w w':World}{S:Nat}{M:Mx}{v:Value}{td:Nat}{f:List Nat}{d:List Value}{ls:List L}{os:List O}(h:PV os rj w S M v td f d ls)(a:PIn Z S M v f d)(c:∀k,Z k->w'.heap[k]?=w.heap[k]?):PV os rj w' S M v td f d ls:={
 store:=by rw[c S a.s];exact h.store
 maps:=h.maps.congr3 (c _ a.m) (c _ a.mo) (c _ a.mh)
 row:=ze h.row (λg l=>c g (a.v g l))
 len:=h.len
 plen:=h.plen
 lot:=λi e=>by rw[c _ (a.b _ (zL (by rw[h.len];exact e)))];exact h.lot i e
 par:=λi e=>(h.par i e).congr (λq j=>c q (a.p _ (bP (by rw[h.plen];exact e)) q j))
 nodup:=h.nodup
 today:=h.today
 ok:=h.ok
 room:=h.room}
theorem PV.below(h:PV os rj w S M v td bs pvs ls)(a:Below w.heap.size w w'):PV os rj w' S M v td bs pvs ls:={
 store:=by rw[a.block S (zc h.store)];exact h.store
 maps:=h.maps.congr (λk j c f=>a.block k (zc f))
 row:=zh h.row a
 len:=h.len
 plen:=h.plen
 lot:=λi b=>by rw[a.block _ (zc (h.lot i b))];exact h.lot i b
 par:=λi b=>(h.par i b).congr (λq d=>by
  obtain⟨g,e⟩:=(h.par i b).blk d;exact a.block _ (zc e))
 nodup:=h.nodup
 today:=h.today
 ok:=h.ok
 room:=h.room}
def zx(ls:List L)(n:Nat):Nat:=if UB n ls<ls.length then 5 else if 30<=ls.length then 6 else 0
theorem jR(h:PV os rj w S M v td bs pvs ls)(n:Nat)(l:n<=2147483647):Calls prog 146 #[.pointer (some ⟨S,0,none⟩),.int .i64 n] w λe w'=>e=.returned (.int .i64 (zx ls n:Int))/\w'=w:=by
 have d:=zb (Zy h n l);obtain⟨a,cap,k,_⟩:=h.shape;have c1:=h.c1;rw[k]at c1;have j:=h.room;clear h k;by_cases c:UB n ls<ls.length
 ·have g:Ha (zx ls n=5):=by unfold Ha zx;rw[xe c]
  have f:Ha (zN bs ls n=.pointer (some ⟨bs.getD (UB n ls) 0,0,none⟩)):=by unfold Ha zN;rw[xe c]
  rw[f.o]at d;generalize bs.getD (UB n ls) 0=b at d;clear c f;go_enter func146,ntmps146;go_wp2_with (go_at_call 148;refine d.mono ?_;rintro e w1 ⟨rfl,rfl⟩);go_ret;exact⟨by rw[g.o];rfl,rfl⟩
 have f:Ha (zN bs ls n=.pointer none):=by unfold Ha zN;rw[xg c]
 rw[f.o]at d;by_cases i:30<=ls.length
 ·have g:Ha (zx ls n=6):=by unfold Ha zx;rw[xg c,xe i]
  clear c f;go_enter func146,ntmps146;go_wp2_with (go_at_call 148;refine d.mono ?_;rintro e w1 ⟨rfl,rfl⟩);go_ret;exact⟨by rw[g.o];rfl,rfl⟩
 have g:Ha (zx ls n=0):=by unfold Ha zx;rw[xg c,xg i]
 clear c f;go_enter func146,ntmps146;go_wp2_with (go_at_call 148;refine d.mono ?_;rintro e w1 ⟨rfl,rfl⟩);go_ret;exact⟨by rw[g.o];rfl,rfl⟩
theorem zw{d:Array Value}{u:TypeId}{f g:Nat×Nat}(h:w.heap[a]?=some (.cells cs t f))(k:w.heap[b]?=some (.cells d u g))(c:t≠u):a≠b:=by
 rintro rfl;rw[h]at k;cases k;exact c rfl
theorem Zb{f:Nat×Nat}{d:Array MapEntry}{c:Nat}(h:w.heap[a]?=some (.cells cs t f))(k:w.heap[b]?=some (.map d c)):a≠b:=by
 rintro rfl;rw[h]at k;cases k
theorem zi{a e size:Nat}{xs:List Value}(h:w.ownsRow a e size v n xs){g:Nat}(b:v.ownBlock=some g):∃f,w.heap[g]?=some (.cells f e (0,0)):=by
 rcases h.2 with ⟨d,_⟩|⟨k,cap,c,i,d,j,l⟩
 ·rw[d]at b;cases b
 rw[i]at b;cases b;exact⟨c,j⟩
variable {α:Type}
theorem Zl(l:List α)(x d:α)(i:Nat)(h:i<l.length):(l++[x]).getD i d=l.getD i d:=by
 simp[Uv,Xk h]
theorem Zk(l:List α)(x d:α)(i:Nat)(h:i=l.length):(l++[x]).getD i d=x:=by
 subst h;simp[Uv]
theorem PV.added{K p:World}{v':Value}(h:PV os rj w S M v td bs pvs ls){pv:Value}{l:L}
  (Q:∀k,k<w.heap.size->K.heap[k]?=w.heap[k]?) (hb:K.heap[w.heap.size]?=some (.cells (zn l pv) 231 (0,0)))
  (y:p.ownsRow 0 191 1 v' (bs.length+1) (bZ bs++[.pointer (some ⟨w.heap.size,0,none⟩)])) (W:K.grownBy p v.ownBlock) (hl:L.Ok l) (J:Par w pv l.par) (X:ls.length<30) (s:w.heap.size<K.heap.size) :
  PV os rj (p.setCell ⟨S,1,none⟩ v') S M v' td (bs++[w.heap.size]) (pvs++[pv]) (ls++[l]):=by
 have hS:=zc h.store;have B:v.ownBlock≠some S:=λe=>by
  obtain⟨F,m⟩:=zi h.row e;exact zw h.store m (by decide) rfl
 have A:∀(k:Nat) (N:Array MapEntry) (c:Nat),w.heap[k]?=some (.map N c)->v.ownBlock≠some k:=λk N c hM e=>by
  obtain⟨F,m⟩:=zi h.row e;exact Zb m hM rfl
 have old:∀k,k<w.heap.size->v.ownBlock≠some k->p.heap[k]?=w.heap[k]?:=λk u T=>(W.block k (by omega) (λe=>T e.symm)).trans (Q k u)
 have n:∀k,k<w.heap.size->v.ownBlock≠some k->k≠S->(p.setCell ⟨S,1,none⟩ v').heap[k]?=w.heap[k]?:=λk u T hs=>(xa _ _ _ _ hs).trans (old k u T)
 have G:p.heap[S]?=some (.cells #[.int .i64 td,v,.map (some M.o),.map (some M.h),.map (some M.r)] 117 (0,0)):=(old S hS B).trans h.store;have C:v.ownBlock≠some w.heap.size:=λe=>by
  obtain⟨F,m⟩:=zi h.row e;have:=zc m;omega
 have R:p.heap[w.heap.size]?=some (.cells (zn l pv) 231 (0,0)):=(W.block _ s (λe=>C e.symm)).trans hb;have j:∀i,i<ls.length->bs.getD i 0≠S/\v.ownBlock≠some (bs.getD i 0):=λi t=>⟨(zw h.store (h.lot i t) (by decide)).symm,λe=>by
  obtain⟨F,m⟩:=zi h.row e;exact zw (h.lot i t) m (by decide) rfl⟩
 have f:∀D ps,Par w D ps->Par (p.setCell ⟨S,1,none⟩ v') D ps:=λD ps Z=>Z.congr (λq hq=>by
   obtain⟨F,P⟩:=Z.blk hq;exact n _ (zc P) (λe=>by
    obtain⟨a0,m⟩:=zi h.row e;exact zw P m (by decide) rfl) (zw h.store P (by decide)).symm)
 refine⟨?_,?_,?_,by simp[h.len],by simp[h.plen],?_,?_,?_,h.today,?_,by simp;omega⟩
 ·have:=xq p S 1 _ 117 v' G
  simpa using this
 ·exact h.maps.congr (λk N c u=>n k (zc u) (A k N c u) (Zb h.store u).symm)
 ·have u:=y.kept (zV p ⟨S,1,none⟩ v') (Or.inr (λe=>by
   obtain⟨F,m⟩:=zi y (g:=S) e;exact zw G m (by decide) rfl))
  have e:bZ (bs++[w.heap.size])=bZ bs++[.pointer (some ⟨w.heap.size,0,none⟩)]:=by simp[bZ]
  rw[e,xb];exact u
 ·intro i t;rw[xb,Xc]at t;by_cases d:i<ls.length
  ·rw[Zl bs _ _ _ (by rw[h.len];exact d),Zl ls _ _ _ d,Zl pvs _ _ _ (by rw[h.plen];exact d),n _ (zc (h.lot i d)) (j i d).2 (j i d).1];exact h.lot i d
  have z:i=ls.length:=by omega
  rw[Zk bs _ _ _ (by rw[h.len];exact z),Zk ls _ _ _ z,Zk pvs _ _ _ (by rw[h.plen];exact z),xa _ _ _ _ (show w.heap.size≠S by omega)];exact R
 ·intro i t;rw[xb,Xc]at t;by_cases d:i<ls.length
  ·rw[Zl pvs _ _ _ (by rw[h.plen];exact d),Zl ls _ _ _ d];exact f _ _ (h.par i d)
  rw[Zk pvs _ _ _ (by rw[h.plen];omega),Zk ls _ _ _ (by omega)];exact f _ _ J
 ·rw[Xx];refine⟨h.nodup,by simp,?_⟩;intro a ha b H;simp at H;subst H;obtain⟨i,t,rfl⟩:=xt ha;have:=zc (h.lot i (by rw[<-h.len];exact t));rw[Uv,xi t]at this;simp at this;omega
 intro x E;rcases xw.1 E with E|E
 ·exact h.ok x E
 simp at E;subst E;exact hl
theorem SX:prog.underlying 115=some (.slice 191):=by kernel_rfl
theorem Cw:(prog.info? 191).map (λi=>(i.zero,i.size,i.bytes))=some (some (.pointer none),1,8):=by kernel_rfl
theorem ME(w1:World)(x:Value)(t:TypeId)(b:Nat)(a:b=w1.heap.size):∀(j:Nat) (u:Value),[x][j]?=some u->(w1.alloc (.cells #[x] t)).cell? (Addr.add ⟨b,0,none⟩ j)=some u:=by
 subst a;exact aY w1 x t
theorem BM(h:PV os rj w S M v td bs pvs ls)(id gd b got:Nat)(pv:Value)(ps:List (Nat×Nat))(t:Par w pv ps)(X:ps.length<=2/\∀p∈ps,p.1<=2147483647)(P:ls.length<30)
  (h1:id<=2147483647) (h2:gd<=2147483647) (h3:b<=2147483647) (h4:got<=2147483647) :
  Calls prog 147 #[.pointer (some ⟨S,0,none⟩),.agg #[.int .i64 id,.int .i64 gd,.int .i64 b,.int .i64 0,pv,.int .i64 got,.int .i64 0,.int .i64 0,.int .i64 0,.int .i64 0,.int .i64 0]] w
   λe w'=>e=.returned (.tuple #[])/\Kp (λk=>k=S\/v.ownBlock=some k) w w'/\∃v',PV os rj w' S M v' td (bs++[w.heap.size]) (pvs++[pv]) (ls++[{ id:=id,gd:=gd,ex:=b,place:=ls.length+1,got:=got,free:=got,hd:=0,sh:=0,sc:=0,gv:=0,par:=ps }]) /\
    (∀g,v'.ownBlock=some g->v.ownBlock=some g\/w.heap.size<=g):=by
 obtain⟨i0,hi,a0,a1,a2⟩:=XH Cw;obtain⟨a,cap,Z,_⟩:=h.shape;have hS:=zc h.store;have a4:S<w.heap.size:=hS;have c1:=h.c1;have f1:=zf h.store 1;have f:=h.row;rw[h.len]at f;rw[Z]at c1 f;have HP:=zb h;obtain⟨n,D⟩:=UM ls.length;rw[<-D.o]at c1 f P;have Q:∃F pl G,pv=.slice F pl G:=by
  obtain⟨a,c,h⟩:=Prs.isSl t;exact⟨_,_,_,h⟩
 obtain⟨F,pl,G,z⟩:=Q;have J:=zb z;have HV:=zb Z;rw[z];clear h Z z;go_enter func147,ntmps147;go_wp2_with (at_builtin;refine wpList_append_own_at _ rfl _ _ 115 rfl 0 191 i0 (.pointer none) 1 8 SX hi a0 a1 a2 rfl (by decide) _ n (bZ bs) rfl ?ho ⟨w.heap.size+1,0,none⟩ 1 1 [.pointer (some ⟨w.heap.size,0,none⟩)] rfl rfl ?c1 ?c2 ?c3 ?c4 ?c5 ?_)
 case ho=>exact(f.alloc _).alloc _
 case c1=>exact ME _ _ _ _ (by simp)
 case c2=>intro u hu;simp at hu;subst hu;rfl
 case c3=>unfold maxLen;omega
 case c4=>omega
 case c5=>exact Nat.zero_le _
 intro v' w2 i j W K;have E:=HP.o;have l:(zn { id:=id,gd:=gd,ex:=b,place:=ls.length+1,got:=got,free:=got,hd:=0,sh:=0,sc:=0,gv:=0,par:=ps } pv)=#[.int .i64 id,.int .i64 gd,.int .i64 b,.int .i64 ((n:Int)+1),.slice F pl G,.int .i64 got,.int .i64 got,.int .i64 0,.int .i64 0,.int .i64 0,.int .i64 0]:=by
  rw[J.o,D.o];rfl
 have C:v.ownBlock=(Value.slice a n cap).ownBlock:=by rw[HV.o,D.o]
 have d:((w.alloc (.cells #[.int .i64 id,.int .i64 gd,.int .i64 b,.int .i64 ((n:Int)+1),.slice F pl G,.int .i64 got,.int .i64 got,.int .i64 0,.int .i64 0,.int .i64 0,.int .i64 0] 231)).alloc (.cells #[.pointer (some ⟨w.heap.size,0,none⟩)] 191)).grownBy w2 v.ownBlock:=by rw[C];exact j
 have y:∀k,k<w.heap.size->((w.alloc (.cells #[.int .i64 id,.int .i64 gd,.int .i64 b,.int .i64 ((n:Int)+1),.slice F pl G,.int .i64 got,.int .i64 got,.int .i64 0,.int .i64 0,.int .i64 0,.int .i64 0] 231)).alloc (.cells #[.pointer (some ⟨w.heap.size,0,none⟩)] 191)).heap[k]?=w.heap[k]?:=λk T=>by
  rw[XO _ _ _ (by simp;omega),XO _ _ _ T]
 have hb:((w.alloc (.cells #[.int .i64 id,.int .i64 gd,.int .i64 b,.int .i64 ((n:Int)+1),.slice F pl G,.int .i64 got,.int .i64 got,.int .i64 0,.int .i64 0,.int .i64 0,.int .i64 0] 231)).alloc (.cells #[.pointer (some ⟨w.heap.size,0,none⟩)] 191)).heap[w.heap.size]?=some (.cells (zn { id:=id,gd:=gd,ex:=b,place:=ls.length+1,got:=got,free:=got,hd:=0,sh:=0,sc:=0,gv:=0,par:=ps } pv) 231 (0,0)):=by
  rw[XO _ _ _ (by simp),l];exact xo w _
 have s:=E.added y hb (by rw[E.len,<-D.o];exact i) d ⟨h1,h2,h3,(by show ls.length+1<=30;have:=D.o;omega),(by simp;omega),h4,X⟩ t (by have:=D.o;omega) (by simp;omega);have A:v.ownBlock≠some S:=λe=>by
  obtain⟨cs,hc⟩:=zi E.row e;exact zw E.store hc (by decide) rfl
 have x:w2.heap[S]?=some (.cells #[.int .i64 td,v,.map (some M.o),.map (some M.h),.map (some M.r)] 117 (0,0)):=((d.block S (by simp;omega) (λe=>A e.symm)).trans (y S hS)).trans E.store;have a5:w2.cell? ⟨S,1,none⟩=some v:=by rw[za x];rfl
 have a6:=zf x 1;have N:Kp (λk=>k=S\/v.ownBlock=some k) w (w2.setCell ⟨S,1,none⟩ v'):=by
  refine Kp.setCell ?_ (Or.inl (Or.inl rfl)) _
  refine Kp.grown (UD ?_) d (λk T=>Or.inl (Or.inr T));exact((xh _ _).alloc (xc _) _).alloc (by simp) _
 have q:∀g,v'.ownBlock=some g->v.ownBlock=some g\/w.heap.size<=g:=λg R=>by
  rcases K with h|h
  ·left;rw[C];exact h.symm.trans R
  right;rw[h]at R;simp at R;omega
 obtain⟨g,a3,B,_,_⟩:=zK i (by omega);have m:=zb s;have HK:=zb N;have HA:=zb q;rw[B]at m HK HA;rw[B];clear i j d y hb s N q K W B l C x f c1 f1 E;go_wp2_with fail;go_end0;have H:=m.o;rw[J.o]at H;exact⟨rfl,HK,_,H,HA⟩
def Zn(Z:Nat->Prop)(w:World)(k:Nat):Prop:=Z k\/w.heap.size<=k
def PI(os:List O)(rj:List (Nat×Nat))(Z:Nat->Prop)(w:World)(S td:Nat)(ls:List L):Prop:=∃M v bs pvs,PV os rj w S M v td bs pvs ls/\PIn Z S M v bs pvs
theorem PI.mono{rj:List (Nat×Nat)}{Z Z':Nat->Prop}{w:World}{S td:Nat}{ls:List L}{os:List O}(h:PI os rj Z w S td ls)(e:∀k,Z k->Z' k):PI os rj Z' w S td ls:=by
 obtain⟨M,v,b,a,c,d⟩:=h;exact⟨M,v,b,a,c,d.mono e⟩
theorem TZ(w:World)(o:Obj):Below w.heap.size w (w.alloc o):=(xh _ _).alloc (xc _) _
theorem PV.store_set{a:Nat}(h:PV os rj w S M v td bs pvs ls)(l:w'.heap[S]?=some (.cells #[.int .i64 a,v,.map (some M.o),.map (some M.h),.map (some M.r)] 117 (0,0)))(d:∀k,k≠S->w'.heap[k]?=w.heap[k]?)(s:a<=2147483647):PV os rj w' S M v a bs pvs ls:={
 store:=l
 maps:=h.maps.congr (λk t c p=>d k (Zb h.store p).symm)
 row:=ze h.row (λg n=>d g (by
  obtain⟨f,m⟩:=zi h.row n;exact(zw h.store m (by decide)).symm))
 len:=h.len
 plen:=h.plen
 lot:=λi b=>by rw[d _ (zw h.store (h.lot i b) (by decide)).symm];exact h.lot i b
 par:=λi b=>(h.par i b).congr (λq e=>by
  obtain⟨f,j⟩:=(h.par i b).blk e;exact d _ (zw h.store j (by decide)).symm)
 nodup:=h.nodup
 today:=s
 ok:=h.ok
 room:=h.room}
theorem PV.days(h:PV os rj w S M v td bs pvs ls)(d:Nat)(hd:d<=2147483647):PV os rj (w.setCell ⟨S,0,none⟩ (.int .i64 d)) S M v d bs pvs ls:=by
 refine h.store_set ?_ (λk a=>xa _ _ _ _ a) hd
 have:=xq w S 0 _ 117 (.int .i64 d) h.store
 simpa using this
theorem OQ(h:PI os rj Z w S td ls)(d:Nat)(hd:d<=2147483647):Calls prog 97 #[.pointer (some ⟨S,0,none⟩),.agg #[.int .i64 d]] w λe w'=>Kp Z w w' /\
   ((d<td/\e=.returned (.int .i64 3)/\PI os rj (Zn Z w) w' S td ls)\/(td<=d/\e=.returned (.int .i64 0)/\PI os rj (Zn Z w) w' S d ls)):=by
 obtain⟨M,v,l,c,b,a⟩:=h;have p:=zc b.store;have c0:=b.c0;have m:=b.today;have n:=zf b.store 0;have j:=zb b;clear b;by_cases i:d<td
 ·go_enter func97,ntmps97;go_wp2_with fail;go_region;go_wp2_with fail;go_ret;refine⟨?_,Or.inl ⟨i,rfl,M,v,l,c,?_,a.mono (λk g=>Or.inl g)⟩⟩
  ·exact UD (TZ w _).drew
  exact j.below (TZ w _).drew
 have f:td<=d:=by omega
 go_enter func97,ntmps97;go_wp2_with fail;go_region;go_wp2_with fail;go_ret;refine⟨?_,Or.inr ⟨f,rfl,M,v,l,c,?_,a.mono (λk g=>Or.inl g)⟩⟩
 ·exact(((Kp.refl Z w).setCell (Or.inl a.s) _).after (TZ _ _)).after (xh _ _).drew
 exact((j.days d hd).below (TZ _ _)).below (xh _ _).drew
theorem Dg(h:PI os rj Z w S td ls)(lot gd c a:Nat)(z:lot<=2147483647)(D:gd<=2147483647)(E:c<=2147483647)(F:a<=2147483647):Calls prog 98 #[.pointer (some ⟨S,0,none⟩),.agg #[.int .i64 lot,.int .i64 gd,.int .i64 c,.int .i64 a]] w λe w'=>Kp Z w w'/\e=.returned (.int .i64 (zx ls lot:Int)) /\
   PI os rj (Zn Z w) w' S td (if zx ls lot=0 then ls++[{ id:=lot,gd:=gd,ex:=a,place:=ls.length+1,got:=c,free:=c,hd:=0,sh:=0,sc:=0,gv:=0 }] else ls):=by
 obtain⟨M,v,C,y,t,d⟩:=h;obtain⟨o,K⟩:∃o,Ha (o=Obj.cells #[.int .i64 lot,.int .i64 gd,.int .i64 c,.int .i64 a] 146):=⟨_,rfl⟩
 have f:=t.below (TZ w (Obj.cells #[.int .i64 lot,.int .i64 gd,.int .i64 c,.int .i64 a] 146));have r:=zb (jR f lot z);have A:zx ls lot<=6:=by unfold zx;split<;>(try split)<;>omega
 by_cases n:zx ls lot=0
 ·have j:ls.length<30:=by
   unfold zx at n;by_cases l:30<=ls.length
   ·split at n
    ·omega
    omega
   omega
  have B:=zb (BM f lot gd a c (.slice none 0 0) [] (Or.inl ⟨rfl,rfl⟩) ⟨by simp,by simp⟩ j z D F E);rw[n]at r ⊢;rw[xe rfl];have N:=zb t;clear t f n;go_enter func98,ntmps98;go_wp2_with (first
   |(go_at_call 146;refine r.mono ?_;rintro e w1 ⟨rfl,rfl⟩)
   |(go_at_call 147;refine B.mono ?_;rintro e w2 ⟨rfl,i,v',u,x⟩))
  go_ret;refine⟨?_,rfl,M,v',_,_,u,?_⟩
  ·exact Kp.before (TZ w _) (i.mono (λk l=>Or.inl (l.elim (λe=>e ▸ d.s) (λe=>d.v k e))))
  refine⟨Or.inl d.s,Or.inl d.m,Or.inl d.mo,Or.inl d.mh,λg G=>?_,λk i=>?_,λpv H q l=>?_⟩
  ·rcases x g G with h|h
   ·exact Or.inl (d.v g h)
   right;simp at h;omega
  ·rcases xw.1 i with h|h
   ·exact Or.inl (d.b k h)
   right;simp at h;omega
  rcases xw.1 H with h|h
  ·exact Or.inl (d.p pv h q l)
  simp at h;subst h;cases l
 rw[xg n];have J:((zx ls lot:Int) != 0)=true:=by rw[yk];omega
 generalize zx ls lot=rc at *;go_enter func98,ntmps98;go_wp2_with (go_at_call 146;refine r.mono ?_;rintro e w1 ⟨rfl,rfl⟩);go_ret;exact⟨UD (TZ w _),rfl,M,v,C,y,f,d.mono (λk i=>Or.inl i)⟩
def ZW(o:O)(n:Nat):Nat:=(o.li.lookup n).getD 0
def zH(os:List O)(n:Nat):Nat:=(os.map λo=>ZW o n).sum
structure Good(os:List O)(ls:List L):Prop where
 ids:∀i j,i<ls.length->j<ls.length->(ls.getD i L0).id=(ls.getD j L0).id->i=j
 place:∀i,i<ls.length->(ls.getD i L0).place=i+1
 oids:(os.map O.id).Nodup
 oid:∀o∈os,o.id<=2147483647
 olen:os.length<=10
 keys:∀o∈os,(o.li.map Prod.fst).Nodup
 mem:∀o∈os,∀p∈o.li,∃i,i<ls.length/\(ls.getD i L0).id=p.1
 hd:∀i,i<ls.length->(ls.getD i L0).hd=zH os (ls.getD i L0).id
theorem DY:Good [] []:=⟨λi j h=>absurd h (by simp),λi h=>absurd h (by simp),by simp,λo h=>absurd h (by simp),by simp,λo h=>absurd h (by simp),λo h=>absurd h (by simp),λi h=>absurd h (by simp)⟩
theorem Za(a:i<ls.length)(l:L):(ls.set i l).getD i L0=l:=by simp[Uv,Xd,a]
theorem zQ(a:j≠i)(l:L):(ls.set i l).getD j L0=ls.getD j L0:=by simp[Uv,Xd,XZ a]
theorem Good.set{os:List O}{ls:List L}(h:Good os ls){i:Nat}(k:i<ls.length){l:L}(q:l.id=(ls.getD i L0).id)(r:l.place=(ls.getD i L0).place)(s:l.hd=(ls.getD i L0).hd):Good os (ls.set i l):=by
 have d:∀j,((ls.set i l).getD j L0).id=(ls.getD j L0).id:=λj=>by
  by_cases e:j=i
  ·subst e;rw[Za k];exact q
  rw[zQ e]
 have m:∀j,((ls.set i l).getD j L0).place=(ls.getD j L0).place:=λj=>by
  by_cases e:j=i
  ·subst e;rw[Za k];exact r
  rw[zQ e]
 have g:∀j,((ls.set i l).getD j L0).hd=(ls.getD j L0).hd:=λj=>by
  by_cases e:j=i
  ·subst e;rw[Za k];exact s
  rw[zQ e]
 refine⟨λa b c n f=>?_,λa c=>?_,h.oids,h.oid,h.olen,h.keys,λo t p u=>?_,λa c=>?_⟩
 ·rw[xd]at c n;rw[d,d]at f;exact h.ids a b c n f
 ·rw[xd]at c;rw[m];exact h.place a c
 ·obtain⟨a,c,f⟩:=h.mem o t p u;exact⟨a,by rw[xd];exact c,by rw[d];exact f⟩
 rw[xd]at c;rw[g,d];exact h.hd a c
theorem gY{n:Nat}:∀{l:List (Nat×Nat)},(∀p∈l,p.1≠n)->l.lookup n=none
 |[],_=>rfl
 |(a,b)::l,h=>by
  have c:(n==a)=false:=by rw[xp];exact(h (a,b) (by simp)).symm
  simp only[List.lookup,c];exact gY (λp d=>h p (by simp[d]))
theorem Ar(h:∀o∈os,∀p∈o.li,p.1≠n):zH os n=0:=by
 induction os with
 |nil=>rfl
 |cons o os ih=>
  have:=ih (λb a=>h b (by simp[a]))
  simp only[zH,List.map_cons,List.sum_cons]at this ⊢;rw[this];simp[ZW,gY (h o (by simp))]
theorem Good.snoc(h:Good os ls){l:L}(m:∀i,i<ls.length->(ls.getD i L0).id≠l.id)(s:l.place=ls.length+1)(t:l.hd=0):Good os (ls++[l]):=by
 have d:∀i,i<ls.length->(ls++[l]).getD i L0=ls.getD i L0:=λi n=>by simp[Uv,Xk n]
 have j:(ls++[l]).getD ls.length L0=l:=by simp[Uv]
 have e:(ls++[l]).length=ls.length+1:=by simp
 refine⟨λa b k u g=>?_,λa k=>?_,h.oids,h.oid,h.olen,h.keys,λo q p r=>?_,λa k=>?_⟩
 ·rw[e]at k u;by_cases c:a<ls.length
  ·by_cases f:b<ls.length
   ·rw[d a c,d b f]at g;exact h.ids a b c f g
   obtain rfl:b=ls.length:=by omega
   rw[d a c,j]at g;exact absurd g (m a c)
  obtain rfl:a=ls.length:=by omega
  by_cases f:b<ls.length
  ·rw[d b f,j]at g;exact absurd g.symm (m b f)
  omega
 ·rw[e]at k;by_cases c:a<ls.length
  ·rw[d a c];exact h.place a c
  obtain rfl:a=ls.length:=by omega
  rw[j];exact s
 ·obtain⟨a,k,g⟩:=h.mem o q p r;exact⟨a,by rw[e];omega,by rw[d a k];exact g⟩
 rw[e]at k;by_cases c:a<ls.length
 ·rw[d a c];exact h.hd a c
 obtain rfl:a=ls.length:=by omega
 rw[j,t,Ar];intro o q p r;obtain⟨i,n,g⟩:=h.mem o q p r;rw[<-g];exact m i n
theorem pY(h:¬UB n ls<ls.length):∀i,i<ls.length->(ls.getD i L0).id≠n:=by
 intro i c b;have:UB n ls<=i:=by
  unfold UB;apply Nat.le_of_not_lt;intro a;have:=List.not_of_lt_findIdx a;simp only[Uv,xi c,Xw]at b;simp[b]at this
 omega
theorem Zu(h:UB n ls<ls.length):(ls.getD (UB n ls) L0).id=n:=by
 have a:(ls[UB n ls]'h).id=n:=yl.1 (List.findIdx_getElem (xs:=ls) (p:=λl:L=>l.id==n) (w:=h));simp only[Uv,xi h,Xw];exact a
theorem Z8(h:(if UB n ls<ls.length then 5 else if 30<=ls.length then 6 else 0)=0):∀i,i<ls.length->(ls.getD i L0).id≠n:=by
 apply pY
 intro a;rw[xe a]at h;omega
def Zg(f:Nat->Bool)(l:L):Nat->Bool:=λn=>f n||(n==l.id&&l.par.any (λp=>f p.1))
def jY(ls:List L)(f:Nat->Bool):Nat->Bool:=ls.foldl Zg f
def Ob(rj:List (Nat×Nat)):Nat->Bool:=λn=>rj.any (λp=>n==p.1)
def cH(rj:List (Nat×Nat))(ls:List L):Nat->Bool:=jY ls (Ob rj)
def iQ(ls:List L)(n:Nat):Nat->Bool:=jY ls (λm=>m==n)
theorem pF(l:L)(ls:List L)(f:Nat->Bool):jY (l::ls) f=jY ls (Zg f l):=rfl
theorem Hy(ls:List L)(l:L)(f:Nat->Bool):jY (ls++[l]) f=Zg (jY ls f) l:=by simp[jY]
theorem ND{α:Type}(f g:α->Bool):∀l:List α,l.any (λx=>f x||g x)=(l.any f||l.any g)
 |[]=>rfl
 |x::l=>by simp only[xaa,ND f g l];cases f x<;>cases g x<;>simp
theorem Fr(f g:Nat->Bool)(l:L):Zg (λn=>f n||g n) l=λn=>Zg f l n||Zg g l n:=by
 funext n
 simp only[Zg,ND]
 cases f n<;>cases g n<;>cases (n==l.id)<;>simp
theorem OW(ls:List L):∀(f g:Nat->Bool),jY ls (λn=>f n||g n)=λn=>jY ls f n||jY ls g n:=by
 induction ls with
 |nil=>intro f g;rfl
 |cons l ls ih=>intro f g;simp only[pF,Fr,ih]
theorem Fq(l:L):Zg (λ_=>false) l=λ_=>false:=by
 funext n;simp[Zg]
theorem OV(ls:List L):jY ls (λ_=>false)=λ_=>false:=by
 induction ls with
 |nil=>rfl
 |cons l ls ih=>rw[pF,Fq,ih]
theorem EK(ls:List L)(n:Nat):∀rj:List (Nat×Nat),cH rj ls n=rj.any (λp=>iQ ls p.1 n)
 |[]=>by
  have:Ob []=λ_=>false:=by funext n;rfl
  simp only[cH,this,OV,List.any_nil]
 |p::r=>by
  have e:Ob (p::r)=λn=>(n==p.1)||Ob r n:=by funext n;simp[Ob]
  simp only[cH,e,OW,xaa];have a:=EK ls n r;simp only[cH]at a;rw[a];rfl
structure Fam(ls:List L):Prop where
 ids:∀i j,i<ls.length->j<ls.length->(ls.getD i L0).id=(ls.getD j L0).id->i=j
 par:∀i,i<ls.length->∀p∈(ls.getD i L0).par,∃j,j<i/\(ls.getD j L0).id=p.1
variable {F f:Nat->Bool}
theorem nK(a:i<ls.length):jY (ls.take (i+1)) f=Zg (jY (ls.take i) f) (ls.getD i L0):=by
 rw[xl a,Hy];simp[Uv,a]
theorem DO(b:i<=j)(c:j<=ls.length)(h:jY (ls.take i) f n=true):jY (ls.take j) f n=true:=by
 induction j with
 |zero=>
  obtain rfl:i=0:=by omega
  exact h
 |succ j ih=>
  by_cases a:i=j+1
  ·subst a;exact h
  rw[nK (by omega)];simp only[Zg,ih (by omega) (by omega),Bool.true_or]
theorem LP(hF:Fam ls){f:Nat->Bool}{n i j:Nat}(c:i<ls.length)(g:(ls.getD i L0).id=n)(d:i<j)(k:j<=ls.length)(h:jY (ls.take j) f n=true):jY (ls.take (i+1)) f n=true:=by
 induction j with
 |zero=>omega
 |succ j ih=>
  by_cases b:i=j
  ·subst b;exact h
  rw[nK (by omega)]at h;have a:(n==(ls.getD j L0).id)=false:=by
   rw[xp];intro e;exact b (hF.ids i j c (by omega) (by rw[g,e]))
  simp only[Zg,a,YR,YF]at h;exact ih (by omega) (by omega) h
theorem Fs(hF:Fam ls)(f:Nat->Bool){i:Nat}(d:i<ls.length){p:Nat×Nat}(e:p∈(ls.getD i L0).par)(h:jY ls f p.1=true):jY ls f (ls.getD i L0).id=true:=by
 obtain⟨j,m,b⟩:=hF.par i d p e;have a:ls.take ls.length=ls:=Xa;rw[<-a]at h;have g:=LP hF (by omega) b (by omega:j<ls.length) (xc _) h;have k:=DO (show j+1<=i by omega) (by omega) g;have l:jY (ls.take (i+1)) f (ls.getD i L0).id=true:=by
  rw[nK d];have:(ls.getD i L0).par.any (λp=>jY (ls.take i) f p.1)=true:=Yt.2 ⟨p,e,k⟩;simp only[Zg,this,xbx,xbP,Bool.or_true]
 have c:=DO (show i+1<=ls.length by omega) (xc _) l;rw[a]at c;exact c
def ZK(out:List Nat)(l:L):List Nat:=if !(out.contains l.id)&&l.par.any (λp=>out.contains p.1) then out++[l.id] else out
def iT(ls:List L)(out:List Nat):List Nat:=ls.foldl ZK out
def jX(ls:List L)(n:Nat):List Nat:=iT ls [n]
theorem vG(l:List Nat)(x n:Nat):(l++[x]).contains n=(l.contains n||n==x):=by
 rw[xz];simp
theorem BW(out:List Nat)(l:L)(n:Nat):(ZK out l).contains n=Zg (λm=>out.contains m) l n:=by
 unfold ZK Zg
 cases b:out.contains l.id with
 |true=>
  simp only[Bool.not_true,YR,XA,Yc];by_cases a:n=l.id
  ·subst a;rw[b];rfl
  have:(n==l.id)=false:=by simpa using a
  rw[this];simp
 |false=>
  cases c:l.par.any (λp=>out.contains p.1) with
  |true=>simp only[xbh,xbP,YC,vG,xaR]
  |false=>simp only[xbh,xah,XA,Yc,YF]
theorem LA(ls:List L):∀(out:List Nat) (n:Nat),(iT ls out).contains n=jY ls (λm=>out.contains m) n:=by
 induction ls with
 |nil=>intro out n;rfl
 |cons l ls ih=>
  intro out n;show(iT ls (ZK out l)).contains n=jY ls (Zg (λm=>out.contains m) l) n;rw[ih];congr 1;funext m;exact BW out l m
theorem iR(ls:List L)(n m:Nat):(jX ls n).contains m=iQ ls n m:=by
 have e:(λm=>[n].contains m)=λm=>m==n:=by funext m;rw[xz];simp
 rw[jX,LA,e];rfl
theorem fI{out:List Nat}(a:i<ls.length):iT (ls.take (i+1)) out=ZK (iT (ls.take i) out) (ls.getD i L0):=by
 rw[xl a,iT,xbm];show ZK (iT (ls.take i) out) ls[i]=_;simp[Uv,a]
theorem tC{ls:List L}{out:List Nat}(h:∀i,i<ls.length->∀p∈(ls.getD i L0).par,out.contains p.1=true->out.contains (ls.getD i L0).id=true):∀i,i<=ls.length->iT (ls.take i) out=out
 |0,_=>by simp[iT]
 |i+1,hi=>by
  rw[fI (by omega),tC h i (by omega)];unfold ZK
  cases a:(ls.getD i L0).par.any (λp=>out.contains p.1) with
  |false=>simp only[xah,XA,Yc]
  |true=>
   obtain⟨p,c,b⟩:=Yt.1 a;rw[h i (by omega) p c b];rfl
theorem BU(hF:Fam ls)(n:Nat):∀i,i<ls.length->∀p∈(ls.getD i L0).par,(jX ls n).contains p.1=true->(jX ls n).contains (ls.getD i L0).id=true:=by
 intro i a p b h;rw[iR]at h ⊢;exact Fs hF _ a b h
theorem tA(hF:Fam ls)(n:Nat){i:Nat}(a:i<=ls.length):iT (ls.take i) (jX ls n)=jX ls n:=tC (BU hF n) i a
theorem iU(ls:List L)(out:List Nat):∀i,i<=ls.length->(iT (ls.take i) out).length<=out.length+i
 |0,_=>by simp[iT]
 |i+1,hi=>by
  have:=iU ls out i (by omega)
  rw[fI (by omega)];unfold ZK;split
  ·simp;omega
  omega
theorem Fam.set{ls:List L}(h:Fam ls){i:Nat}(n:i<ls.length){l:L}(r:l.id=(ls.getD i L0).id)(s:l.par=(ls.getD i L0).par):Fam (ls.set i l):=by
 have c:∀j,((ls.set i l).getD j L0).id=(ls.getD j L0).id:=λj=>by
  by_cases d:j=i
  ·subst d;rw[<-r];simp[Uv,Xd,n]
  simp[Uv,Xd,XZ d]
 have g:∀j,((ls.set i l).getD j L0).par=(ls.getD j L0).par:=λj=>by
  by_cases d:j=i
  ·subst d;rw[<-s];simp[Uv,Xd,n]
  simp[Uv,Xd,XZ d]
 refine⟨λa b f k m=>?_,λa f p q=>?_⟩
 ·rw[xd]at f k;rw[c,c]at m;exact h.ids a b f k m
 rw[xd]at f;rw[g]at q;obtain⟨j,d,e⟩:=h.par a f p q;exact⟨j,d,by rw[c];exact e⟩
theorem Fam.snoc(h:Fam ls){l:L}(s:∀i,i<ls.length->(ls.getD i L0).id≠l.id)(t:∀p∈l.par,∃j,j<ls.length/\(ls.getD j L0).id=p.1):Fam (ls++[l]):=by
 have d:∀i,i<ls.length->(ls++[l]).getD i L0=ls.getD i L0:=λi v=>by simp[Uv,Xk v]
 have k:(ls++[l]).getD ls.length L0=l:=by simp[Uv]
 have g:(ls++[l]).length=ls.length+1:=by simp
 refine⟨λa b r u m=>?_,λa r p q=>?_⟩
 ·rw[g]at r u;by_cases c:a<ls.length
  ·by_cases f:b<ls.length
   ·rw[d a c,d b f]at m;exact h.ids a b c f m
   obtain rfl:b=ls.length:=by omega
   rw[d a c,k]at m;exact absurd m (s a c)
  obtain rfl:a=ls.length:=by omega
  by_cases f:b<ls.length
  ·rw[d b f,k]at m;exact absurd m.symm (s b f)
  omega
 rw[g]at r;by_cases c:a<ls.length
 ·rw[d a c]at q;obtain⟨j,n,e⟩:=h.par a c p q;exact⟨j,n,by rw[d j (by omega)];exact e⟩
 obtain rfl:a=ls.length:=by omega
 rw[k]at q;obtain⟨j,n,e⟩:=t p q;exact⟨j,n,by rw[d j n];exact e⟩
theorem OX:Fam []:=⟨λi j h=>absurd h (by simp),λi h=>absurd h (by simp)⟩
theorem PP{l':L}(b:l'.par=(ls.getD i L0).par)(j:Nat):((ls.set i l').getD j L0).par=(ls.getD j L0).par:=by
 by_cases a:j=i
 ·subst a;by_cases c:j<ls.length
  ·rw[<-b];simp[Uv,Xd,c]
  rw[yy (by omega)]
 simp[Uv,Xd,XZ a]
theorem No:prog.underlying 244=some (.map 2 206):=by kernel_rfl
theorem QG:(prog.info? 206).map (λi=>i.zero)=some (some (.agg #[])):=by kernel_rfl
theorem qZ(w:World):(zeroValue 206).run prog w=.ok (.agg #[]) w:=by
 have h:=QG
 cases a:prog.info? 206 with
 |none=>rw[a]at h;cases h
 |some i=>
  rw[a]at h;simp at h;simp[zeroValue,typeInfo,a,h]
def gW(w:World)(b n:Nat)(D:DataW Unit):Prop:=w.ownsMap prog 2 (unitElem (H:=Unit)) b n D
def FD(f:Nat->Bool)(D:DataW Unit):Prop:=∀n:Nat,n<=2147483647->Maps.has D (dX n)=f n
theorem MD(n:Nat):WideAt.IsKeyLit (dX n):=trivial
theorem FD.put{f:Nat->Bool}{D:DataW Unit}(h:FD f D)(c:Maps.IsMap D)(n:Nat)(d:DataW Unit):FD (λx=>f x||x==n) (D.put (dX n) d):=λm b=>by
 by_cases a:m=n
 ·subst a;rw[xaG c (MD _)];simp
 rw[YK (λe=>a (gH e)),h m b];have:(m==n)=false:=by simpa using a
 show f m=(f m||m==n);rw[this,YF]
theorem wQ{a N:Nat}(h:gW w a N D)(b:n<=2147483647):(Instr.lookup 244 (.map (some a)) (.int .i64 n) true).run prog w=.ok (.tuple #[.agg #[],.bool (Maps.has D (dX n))]) w:=by
 obtain⟨v,ps,c,d⟩:=xab h BJ No (qZ w) xat (sS b);obtain⟨rfl,_⟩:=unitElem_inv d;exact c
theorem It{a N:Nat}(d:gW w a N D)(f:n<=2147483647)(g:w.cell? ⟨b,0,none⟩=some (.int .i64 n)):Calls prog 158 #[.map (some a),.pointer (some ⟨b,0,none⟩)] w λe w'=>e=.returned (.bool (Maps.has D (dX n)))/\Below w.heap.size w w':=by
 have c:=wQ d f;generalize Maps.has D (dX n)=bb at *;go_enter func158,ntmps158;go_wp2_with fail;go_ret;exact⟨rfl,TZ w _⟩
def gj(F:Nat->Bool)(l:L)(j:Nat):Nat->Bool:=λx=>F x||(x==l.id&&(l.par.take j).any (λp=>F p.1))
theorem Ip(F:Nat->Bool)(l:L):gj F l 0=F:=by funext x;simp[gj]
theorem NP(F:Nat->Bool)(l:L):gj F l l.par.length=Zg F l:=by funext x;simp[gj,Zg]
theorem DG(a:j<ps.length):(ps.take (j+1)).any (λp=>F p.1)=((ps.take j).any (λp=>F p.1)||F (ps.getD j (0,0)).1):=by
 rw[xl a,xbI];simp[Uv,a]
theorem Rq{l:L}(a:j<l.par.length)(h:gj F l j (l.par.getD j (0,0)).1=true):gj F l (j+1)=λx=>gj F l j x||x==l.id:=by
 funext x
 simp only[gj,DG a]at h ⊢
 cases hF:F (l.par.getD j (0,0)).1 with
 |true=>cases F x<;>cases (x==l.id)<;>cases ((l.par.take j).any (λp=>F p.1))<;>simp
 |false=>
  rw[hF]at h;simp only[xbq,Xu]at h;rw[h.2]
  cases F x<;>cases (x==l.id)<;>simp
theorem Pe{l:L}(a:j<l.par.length)(h:gj F l j (l.par.getD j (0,0)).1=false):gj F l (j+1)=gj F l j:=by
 funext x
 simp only[gj,DG a]at h ⊢;simp only[xaW]at h;rw[h.1,YF]
theorem Prs.cells(h:Prs t w pv ps)(b:0<ps.length):∃q cap,pv=.slice (some ⟨q,0,none⟩) ps.length cap/\q<w.heap.size/\∀j,j<ps.length->w.cell? ⟨q,j*2,none⟩=some (.int .i64 ((ps.getD j (0,0)).1:Int))/\w.cell? ⟨q,j*2+1,none⟩=some (.int .i64 ((ps.getD j (0,0)).2:Int)):=by
 rcases h with ⟨_,h⟩|⟨q,cap,i,c,a,d⟩
 ·rw[h]at b;simp at b
 refine⟨q,cap,c,zc a,λj g=>?_⟩;obtain⟨e,f⟩:=d j g;rw[za a,za a,xaz];exact⟨e,f⟩
theorem PV.fam(h:PV os rj w S M v td bs pvs ls){d:Nat}(C:∃x c,w.heap[d]?=some (.map x c))(b:d≠M.r/\d≠M.o/\d≠M.h)(m:w.grownBy w' (some d)):PV os rj w' S M v td bs pvs ls:=by
 obtain⟨y,u,p⟩:=C;have l:∀(k:Nat) (j:Array Value) (t:TypeId),w.heap[k]?=some (.cells j t (0,0))->w'.heap[k]?=w.heap[k]?:=λk j t s=>m.block k (zc s) (λe=>Zb s p (xr e))
 obtain⟨_,_,z⟩:=h.maps.mr;obtain⟨_,_,A⟩:=h.maps.mo;obtain⟨_,_,B⟩:=h.maps.mh;exact {
  store:=(l _ _ _ h.store).trans h.store
  maps:=h.maps.congr3 (m.block _ (zc z) (λe=>b.1 (xr e).symm)) (m.block _ (zc A) (λe=>b.2.1 (xr e).symm)) (m.block _ (zc B) (λe=>b.2.2 (xr e).symm))
  row:=ze h.row (λg n=>by obtain⟨j,a⟩:=zi h.row n;exact l _ _ _ a)
  len:=h.len
  plen:=h.plen
  lot:=λi f=>(l _ _ _ (h.lot i f)).trans (h.lot i f)
  par:=λi f=>(h.par i f).congr (λq D=>by obtain⟨j,a⟩:=(h.par i f).blk D;exact l _ _ _ a)
  nodup:=h.nodup
  today:=h.today
  ok:=h.ok
  room:=h.room }
theorem LW{a b:World}{row:Option Nat}(h:a.grownBy b row)(o:Obj):a.grownBy (b.alloc o) row:=h.andThen (World.grownBy_alloc b o none) (λj h=>by cases h)
theorem DZ(h:PV os rj w S M v td bs pvs ls){R N:Nat}{D:DataW Unit}{f:Nat->Bool}(hm:gW w R N D)(hf:FD f D)(hN:N<=1000)(c6:R≠M.r/\R≠M.o/\R≠M.h):Calls prog 183 #[.pointer (some ⟨S,0,none⟩),.map (some R)] w λe w'=>e=.returned (.tuple #[])/\w.grownBy w' (some R)/\∃N' D',gW w' R N' D'/\FD (jY ls f) D':=by
 obtain⟨a,cap,hv,_⟩:=h.shape;have c1:=h.c1;rw[hv]at c1;have e3:=h.room;have HV:=zb hv;have HP:=zb h;have HM:=zb hm;have HF:=zb hf;have HE:=zb c6;clear h hv hm hf c6;go_enter func183,ntmps183;go_wp2_with fail;go_loopw [15] (λi wr=>∃(k n:Nat) (Dk:DataW Unit),k<=ls.length/\i=.int .i64 k/\n<=N+2*k/\gW wr R n Dk/\FD (jY (ls.take k) f) Dk/\w.grownBy wr (some R)) (λi _=>ls.length-(intOf i).toNat)
 case atStart=>exact⟨0,N,D,by omega,rfl,by omega,HM,HF,⟨rfl,rfl,rfl,xc _,λ_ _ _=>rfl⟩⟩
 obtain⟨k,n,Dk,hk,rfl,hn,s,B,a0⟩:=hrel;by_cases C:k<ls.length
 ·have A:=HP.fam (ZS HM) HE a0;obtain⟨a2,cap2,c9,a5⟩:=A.shape;rw[HV.o]at c9;obtain⟨d6,-,b1⟩:=Value.slice.inj c9;subst d6 b1;obtain⟨G,hG,z⟩:=a5 (by omega);rw[hG];have d8:=z k C;have b3:wr.cell? ⟨bs.getD k 0,0,none⟩=some (.int .i64 ((ls.getD k L0).id:Int)):=by rw[A.cl k C 0];rfl
  have b2:wr.cell? ⟨bs.getD k 0,4,none⟩=some (pvs.getD k default):=by rw[A.cl k C 4];rfl
  have u:=A.par k C;have Q:=A.ok _ (zg C);have X:=zb (nK (f:=f) C);obtain⟨l,HL⟩:=UM (ls.getD k L0);rw[<-HL.o]at u Q X b3;have d9:=Q.id;have e1:=Q.par.1;have d5:=zb Q.par.2;obtain⟨b,HB⟩:=UM (bs.getD k 0);rw[<-HB.o]at b2 d8 b3;obtain⟨e6,Z⟩:∃cs,wr.heap[b]?=some (.cells cs 231 (0,0)):=⟨_,by rw[HB.o];exact A.lot k C⟩
  have b5:=zb Z;obtain⟨F,b7⟩:=UM (jY (ls.take k) f);rw[<-b7.o]at B X;by_cases h0:l.par.length=0
  ·have e2:l.par=[]:=Xn.1 h0;have a4:pvs.getD k default=.slice none 0 0\/∃q c,pvs.getD k default=.slice (some ⟨q,0,none⟩) 0 c:=by
    rcases u with ⟨h1,_⟩|⟨q,c,cs,h1,_⟩
    ·exact Or.inl h1
    exact Or.inr ⟨q,c,by rw[h1,h0]⟩
   have b6:Ha (Zg F l=F):=by unfold Ha;rw[<-NP,e2];exact Ip F l
   generalize pvs.getD k default=pv at *;have HO:=zb s;have HD:=zb B;clear z hG a5 A u s B Q Z;rcases a4 with rfl|⟨q,c,rfl⟩
   ·go_wp2_with fail;refine Yw 1 ?_;rw[YU]
    go_wp2_with fail;go_roundw
    case rel=>exact⟨k+1,n,Dk,by omega,by go_num,by omega,HO,by rw[X.o,b6.o];exact HD,a0⟩
    simp[intOf];omega
   go_wp2_with fail;refine Yw 1 ?_;rw[YU]
   go_wp2_with fail;go_roundw
   case rel=>exact⟨k+1,n,Dk,by omega,by go_num,by omega,HO,by rw[X.o,b6.o];exact HD,a0⟩
   simp[intOf];omega
  obtain⟨q,qc,a4,e5,c8⟩:=Prs.cells u (by omega);obtain⟨e7,a8⟩:=u.blk (q:=q) (by rw[a4];rfl);rw[a4]at b2;have HO:=zb s;have HD:=zb B;have HQ:=zb a8;have b8:=zb c8;have d2:=zb (NP F l);obtain⟨m,K⟩:=UM l.par.length;rw[<-K.o]at b2 e1 h0;clear z hG a5 A u s B Q Z a8 c8 a4;go_wp2_with fail;obtain⟨wk,rfl⟩:∃wk,wk=wr:=⟨wr,rfl⟩
  go_loopw [24] (λi w3=>∃(j n3:Nat) (D3:DataW Unit),j<=m/\i=.int .i64 j/\n3<=n+j/\gW w3 R n3 D3/\FD (gj F l j) D3/\wk.grownBy w3 (some R)) (λi _=>m-(intOf i).toNat)
  case atStart=>exact⟨0,n,Dk,by omega,rfl,by omega,HO,by rw[Ip];exact HD,⟨rfl,rfl,rfl,xc _,λ_ _ _=>rfl⟩⟩
  obtain⟨j,n3,D3,hj,rfl,e8,g,p,J⟩:=hrel;have d:∀(b':Nat) (cs:Array Value) (t:TypeId),wk.heap[b']?=some (.cells cs t (0,0))->wr.heap[b']?=wk.heap[b']?:=λb' cs t b9=>J.block b' (zc b9) (λe=>by
   obtain⟨es,c,e0⟩:=ZS HO;exact Zb b9 e0 (xr e))
  by_cases a1:j<m
  ·have a7:=d _ _ _ HQ;have e9:wr.cell? ⟨q,j*2,none⟩=some (.int .i64 ((l.par.getD j (0,0)).1:Int)):=(xm (a:=⟨q,j*2,none⟩) a7).trans (b8 j (by rw[<-K.o];exact a1)).1;have f0:wr.cell? ⟨q,j*2+1,none⟩=some (.int .i64 ((l.par.getD j (0,0)).2:Int)):=(xm (a:=⟨q,j*2+1,none⟩) a7).trans (b8 j (by rw[<-K.o];exact a1)).2;have a6:=d _ _ _ b5;have e4:wr.cell? ⟨b,0,none⟩=some (.int .i64 l.id):=(xm (a:=⟨b,0,none⟩) a6).trans b3;have d7:=zc (a6.trans b5);have c7:(l.par.getD j (0,0)).1<=2147483647:=d5.o _ (by rw[Uv,xi (by rw[<-K.o];exact a1)];simp);have c5:j<l.par.length:=by rw[<-K.o];exact a1
   have HJ:Ha (FD (gj F l j) D3):=p;have P:=p _ c7;have W:=zb g;have T:=zb (Rq (F:=F) c5);have E:=zb (Pe (F:=F) c5);have b4:=λo=>wQ (World.ownsMap.alloc g o) c7
   have d3:=zb d
   cases hc:gj F l j (l.par.getD j (0,0)).1 with
   |false=>
    rw[hc]at P;rw[P]at b4;have b0:=zb (E hc);generalize (l.par.getD j (0,0)).1=x at *;generalize (l.par.getD j (0,0)).2=y at *;clear T E p g d hc P a7 a6;go_wp2_with fail;go_roundw
    case rel=>exact⟨j+1,n3,D3,by omega,by go_num,by omega,(W.alloc _).alloc _,by rw[b0.o];exact HJ,LW (LW J _) _⟩
    simp[intOf];omega
   |true=>
    rw[hc]at P;rw[P]at b4;have b0:=zb (T hc);generalize (l.par.getD j (0,0)).1=x at *;generalize (l.par.getD j (0,0)).2=y at *;clear T E p g d hc P a7 a6;go_wp2_with (at_mapUpdate;refine wpList_mapUpdate_own _ rfl _ _ _ 244 rfl 2 206 BJ No (unitElem (H:=Unit)) R n3 D3 rfl ((W.alloc _).alloc _) (by unfold maxLen;omega) _ _ _ rfl rfl (sS d9) _ [] xat ?_;intro w4 a3 a9);have d4:=zb a3;have d1:=zb ((LW (LW J _) _).andThen a9 (λq hq=>Or.inr hq));have d0:Ha (FD (gj F l (j+1)) (D3.put (dX l.id) (.agg []))):=by
     unfold Ha;rw[b0.o];exact HJ.put (xbb W) _ _
    clear a3 a9 b4;go_wp2_with fail;go_roundw
    case rel=>exact⟨j+1,n3+1,_,by omega,by go_num,by omega,d4,d0,d1⟩
    simp[intOf];omega
  obtain rfl:j=m:=by omega
  have HJ:Ha (FD (Zg F l) D3):=by unfold Ha;rw[<-d2.o,<-K.o];exact p
  have W:=zb g;clear a1 p g d;go_wp2_with fail;go_roundw
  case rel=>exact⟨k+1,n3,D3,by omega,by go_num,by omega,W,by rw[X.o];exact HJ,a0.andThen J (λq hq=>Or.inr hq)⟩
  simp[intOf];omega
 obtain rfl:k=ls.length:=by omega
 rw[Xa]at B;have HO:=zb s;have HD:=zb B;clear C s B;go_wp2_with fail;go_end0;exact⟨rfl,a0,n,Dk,HO,HD⟩
theorem Qr:prog.underlying 114=some (.map 202 206):=by kernel_rfl
def Ad(rj:List (Nat×Nat))(left:Lit->Bool):Nat->Bool:=λn=>rj.any (λp=>n==p.1&&!(left (eW p.1 p.2)))
theorem Ho{left:Lit->Bool}(h:∀a,left a=false):Ad rj left=Ob rj:=by
 funext n;simp[Ad,Ob,h]
theorem Ce(d:RD rj D)(e:Rc rj):Ad rj (Maps.has D)=λ_=>false:=by
 funext n
 rw[Ad,yp];intro p a;obtain⟨b,c⟩:=e.fits p a;rw[d.has p.1 p.2 b c];have:rj.contains (p.1,p.2)=true:=by rw[XG];exact a
 rw[this];simp
theorem Fo(g:Rc rj){left:Lit->Bool}{p:Nat×Nat}(i:p∈rj)(t:left (eW p.1 p.2)=true):Ad rj (λz=>left z&&!z.sameKey (eW p.1 p.2))=λn=>Ad rj left n||n==p.1:=by
 funext n
 have a:(eW p.1 p.2).sameKey (eW p.1 p.2)=true:=by simp[eW,Lit.sameKey]
 have c:∀q∈rj,q≠p->(eW q.1 q.2).sameKey (eW p.1 p.2)=false:=λq b f=>Maps.sameKey_ne (λe=>f (by
  obtain⟨j,k⟩:=g.fits q b;obtain⟨l,m⟩:=g.fits p i;obtain⟨r,s⟩:=jG j k l m e;exact Prod.ext r s))
 rw[xz];simp only[Ad,Yt,Yy,Xu,yl,xaD,xac];constructor
 ·rintro⟨q,b,rfl,h⟩;by_cases d:q=p
  ·right;rw[d]
  left
  refine⟨q,b,rfl,?_⟩;rcases h with h|h
  ·exact h
  rw[c q b d]at h;cases h
 rintro(⟨q,b,rfl,h⟩|rfl)
 ·exact⟨q,b,rfl,Or.inl h⟩
 exact⟨p,i,rfl,Or.inr (by rw[a];rfl)⟩
theorem IN{c:Value}{d:Lit}(h:keyOf prog 202 c=some d){a b:Nat}(e:a<=2147483647)(f:b<=2147483647)(g:d=eW a b):c=.agg #[.int .i64 a,.int .i64 b]:=by
 subst g;exact Lc.inj h (IM e f)
theorem CL{j:Array Oper}{e:List Oper}{o:Oper}{a:Act}{Q:Exit->Act->World->Prop}(N:Rc rj){D:DataW Unit}(M:RD rj D)(R:o.guard=none)(J:Operand)(m:o.op=Op.next J false)(b r n:Nat)(left:Lit->Bool)(cnt:Nat)
  (hit:a.eval J=.pointer (some ⟨r,0,none⟩)) (q:∀i,left i=true->Maps.has D i=true) (h:w.ranges prog 202 (unitElem (H:=Unit)) b r n D left cnt)
  (f:cnt=0->(∀i,left i=false)->wpList prog j Q e (a.put o.dst (.tuple #[.bool false])) w)
  (g:∀(x y:Nat) (w':World) (c:Nat),(x,y)∈rj->left (eW x y)=true->w'.ranges prog 202 (unitElem (H:=Unit)) b r n D (λz=>left z&&!z.sameKey (eW x y)) c->c<cnt->w.grownBy w' (some r)->w'.heap.size=w.heap.size ->
   (Instr.entry (.pointer (some ⟨r,0,none⟩))).run prog w'=.ok (.tuple #[.agg #[.int .i64 x,.int .i64 y],.agg #[]]) w'->wpList prog j Q e (a.put o.dst (.tuple #[.bool true,.agg #[.int .i64 x,.int .i64 y],.agg #[]])) w') :
  wpList prog j Q (o::e) a w:=by
 refine wpList_plain R λX k=>?_
 unfold Oper.wp;rcases h.next Lc o.type with ⟨K,S,d⟩|⟨W,v,i,y,w',c,eW,l,T,P,d,E,A,t,F,s⟩
 ·simp[execOp,m,hit,d,Result.andThen];exact k _ _ (f K S)
 obtain⟨p,G,rfl⟩:=M.keys i (q i l);obtain⟨B,C⟩:=N.fits p G;have u:=IN eW B C rfl;subst u;obtain⟨rfl,_⟩:=unitElem_inv T;simp[execOp,m,hit,d,Result.andThen];exact k _ _ (g p.1 p.2 w' c G l E A t F s)
theorem mG(h:PV os rj w S M v td bs pvs ls):Calls prog 157 #[.pointer (some ⟨S,0,none⟩)] w λe w'=>Below w.heap.size w w'/\∃Mf N D,e=.returned (.map (some Mf))/\gW w' Mf N D/\FD (cH rj ls) D/\w.heap.size<=Mf:=by
 have c7:=@run_makeMap prog;obtain⟨D,hD,J⟩:=h.maps.r;have P:=h.maps.rc;have i:=TZ w (Obj.map #[] 0);have hS:=zc h.store;have c4:(w.alloc (.map #[] 0)).cell? ⟨S,4,none⟩=some (.map (some M.r)):=(i.cell (by exact hS)).trans h.c4;have a2:Ln (w.alloc (.map #[] 0)) M.r (Maps.size D) D:=zB hD (i.block M.r (Xr hD));have c5:=Xr hD;have b9:M.o<w.heap.size:=by obtain⟨_,_,q⟩:=h.maps.mo;exact zc q
 have b8:M.h<w.heap.size:=by obtain⟨_,_,q⟩:=h.maps.mh;exact zc q
 have a3:gW (w.alloc (.map #[] 0)) w.heap.size 0 (.map []):=World.ownsMap_made _ _ _ _;have c9:Maps.size D<=10:=by rw[J.size];exact P.len
 have HP:=zb h;have a0:=zb J;have g:=zb P;have T:=zb a2;have W:=zb a3;clear h hD a2 J P a3;go_enter func157,ntmps157;go_wp2_with (at_range;refine wpList_range_own _ rfl _ 114 rfl 202 206 Lc Qr _ M.r (Maps.size D) D rfl T ?_;intro w0 t a b6);go_frame;have A:(w.alloc (.map #[] 0)).heap.size=w.heap.size+1:=by simp
 generalize hr:(w.alloc (Obj.map #[] 0)).heap.size=r at *;have j:=zb t;have C:Ha (Below w.heap.size w w0/\gW w0 w.heap.size 0 (.map [])):=by
  refine⟨⟨a.os,a.tape,a.output,by omega,λk K=>?_⟩,zB W (a.block _ (by rw[hr];omega) (by simp))⟩;rw[a.block k (by rw[hr];omega) (by simp)];exact i.block k K
 have f:=zb A;clear t a b6 i T c4 hr A;go_loopw [4] (λ_ wr=>∃(left:Lit->Bool) (cnt n:Nat) (Q:DataW Unit),wr.ranges prog 202 (unitElem (H:=Unit)) M.r r (Maps.size D) D left cnt/\(∀kl,left kl=true->Maps.has D kl=true)/\n+cnt<=Maps.size D/\gW wr w.heap.size n Q/\FD (Ad rj left) Q/\Below w.heap.size w wr) (λ_ wr=>wr.rangeLeft M.r r)
 case atStart=>exact⟨_,_,0,.map [],j,λkl h=>h,by omega,C.2,(by rw[Ce a0.o g.o];intro n _;rfl),C.1⟩
 obtain⟨left,cnt,n,Q,b0,z,hn,s,a6,hb⟩:=hrel;have HO:=zb s;have X:=zb a6;have R:=zb hb;have G:=zb b0;have m:=zb z;clear s a6 hb b0 z j C W;go_wp2_with (at_next;refine CL g a0 rfl _ rfl M.r r (Maps.size D) left cnt rfl m G ?_ ?_)
 ·intro _ b4;have HE:Ha (FD (Ob rj) Q):=by unfold Ha;rw[<-Ho b4];exact X
  have a4:=R.o;have HG:=zb (DZ (HP.below a4) HO HE (by omega) ⟨by omega,by omega,by omega⟩);clear a4;go_wp2_with fail;refine HG.mono ?_
  rintro e w1 ⟨rfl,b,N',D',a9,a5⟩;have F:=zb a9;have B:=zb a5;have c:Ha (Below w.heap.size w w1):=R.grown b R.size (λk K=>by cases K;exact xc _);clear b a9 a5;go_wp2_with fail;go_ret;exact⟨c,w.heap.size,N',D',rfl,F,B,xc _⟩
 intro x y w1 a1 b2 b5 u a8 b b1 c6;obtain⟨hx,hy⟩:=g.fits _ b2;have l:=zb u;have c8:=G.lt;have c:Ha (Below w.heap.size w w1):=R.grown b R.size (λk K=>by cases K;have:=f.o;omega);have F:Ha (gW w1 w.heap.size n Q):=zB HO (b.block _ (Xr HO) (by have:=f.o;simp;omega));have B:=zb (Fo g b2 b5);have b7:=zb b1;have Z:=zb a8;clear u b b1 a8;go_wp2_with (at_mapUpdate;refine wpList_mapUpdate_own _ rfl _ _ _ 244 rfl 2 206 BJ No (unitElem (H:=Unit)) w.heap.size n Q rfl (F.alloc _) (by unfold maxLen;omega) _ _ _ rfl rfl (sS hx) _ [] xat ?_;intro w4 d p);have b3:=zb d;have E:=zb p;clear d p;go_wp2_with fail;go_roundw
 case rel=>
  refine⟨_,a1,(l.alloc _).kept E (by simp;omega) (by simp;have:=f.o;omega),λkl a7=>?_,n+1,by have:=Z.o;omega,_,b3,?_,?_⟩
  ·simp only[Xu]at a7;exact m kl a7.1
  ·rw[B.o];exact X.put (xbb HO) _ _
  exact(c.alloc c.size _).grown E (by have:=c.size;simp;omega) (λk K=>by cases K;exact xc _)
 rw[((l.o.alloc _).kept E.o (by simp;omega) (by simp;have:=f.o;omega)).left_eq,G.o.left_eq];exact Z
