import Derived.Test.YtgcedalggnmooaaGreatDoorRefAX
import Derived.DeepKeys4
set_option linter.all false
set_option maxRecDepth 100000
set_option maxHeartbeats 1600000
namespace Go.Proofs.YtgcedalggnmooaaGreatDoor
open Go.RowKit
open Tryz
structure O where
 id:Nat
 gd:Nat
 li:List (Nat×Nat)
structure Mx where
 r:Nat
 o:Nat
 h:Nat
def zq(os:List O)(a b:Nat):Option Nat:=(os.find? (λo=>o.id==a)).bind λo=>o.li.lookup b
def dT(n:Nat):Lit:=.int .i64 n
def cG(a b:Nat):Lit:=.string (keyBytes [.int .i64 a,.int .i64 b])
def WZ:prog.underlying 2=some (.int .i64):=by kernel_rfl
def WY: (prog.underlying 260).map (λd=>match d with | .struct fs=>some (fs.toList.map (λf=>(f.name, f.type, f.offset))) | _=>none) = some (some [("order", 2, 0), ("lot", 2, 1)]) := by kernel_rfl
def Sw:prog.cellsOf 260=2:=by kernel_rfl
def Sx:prog.cellsOf 2=1:=by kernel_rfl
def Uk:prog.keyType 260=true:=by kernel_rfl
def Xa: (prog.underlying 202).map (λd=>match d with | .struct fs=>some (fs.toList.map (λf=>(f.name, f.type, f.offset))) | _=>none) = some (some [("lot", 2, 0), ("mark", 2, 1)]) := by kernel_rfl
def Sy:prog.cellsOf 202=2:=by kernel_rfl
def Ul:prog.keyType 202=true:=by kernel_rfl
def Pp:laidOutB prog=true:=by kernel_rfl
def AV:Maps.Keyed prog 2:=Maps.int_keyed WZ
def wY:Maps.Keyed prog 260:=Maps.Keyed.of_law (deep_law_laid Pp (m:=5) (by decide) (of_decide_eq_true (by kernel_rfl)) (by kernel_rfl) (by kernel_rfl))
def Ib:Maps.Keyed prog 202:=Maps.Keyed.of_law (deep_law_laid Pp (m:=5) (by decide) (of_decide_eq_true (by kernel_rfl)) (by kernel_rfl) (by kernel_rfl))
def TP:∃n,prog.types.size=n+2:=⟨357,by kernel_rfl⟩
variable {S a b i j n td:Nat}
def RY(h:n<=2147483647):(Lit.int .i64 n).wf=true:=by
 have a:IntKind.min .i64<=(n:Int):=by show(-9223372036854775808:Int)<=n;omega
 have b:(n:Int)<=IntKind.max .i64:=by show(n:Int)<=9223372036854775807;omega
 show(decide (IntKind.min .i64<=(n:Int))&&decide ((n:Int)<=IntKind.max .i64))=true;rw[Xt a,Xt b];rfl
def qS(h:n<=2147483647):keyOf prog 2 (.int .i64 n)=some (dT n):=Maps.keyOf_int_mk WZ (RY h)
def JL{T: TypeId}{m s1: String}(q : (m != "_") = true)(k : (s1 != "_") = true)(c : (prog.underlying T).map (λd=>match d with | .struct fs=>some (fs.toList.map (λf=>(f.name, f.type, f.offset))) | _=>none) = some (some [(m, 2, 0), (s1, 2, 1)]))(e : prog.cellsOf T = 2)(l : prog.keyType T = true){a b : Nat}(s : a <= 2147483647)(t : b <= 2147483647): keyOf prog T (.agg #[.int .i64 (a : Int), .int .i64 (b : Int)]) = some (cG a b) := by
 obtain⟨n,w⟩:=TP
 cases hd:prog.underlying T with
 |none=>rw[hd]at c;cases c
 |some d=>
  rw[hd]at c
  cases d
  case struct fs=>
   simp only[xag,XC]at c;have p:∀(x:Nat),x<=2147483647->prog.keyLits (n+2) 2 [.int .i64 x]=some [.int .i64 x]:=λx y=>by
    unfold Program.keyLits;rw[WZ];simp[RY y]
   obtain⟨g,h,i,⟨z,D,B⟩,A,E,C⟩:∃g h,fs.toList=[g,h]/\(g.name=m/\g.type=2/\g.offset=0)/\h.name=s1/\h.type=2/\h.offset=1:=by
    cases i:fs.toList with
    |nil=>rw[i]at c;simp at c
    |cons g r=>
     cases r with
     |nil=>rw[i]at c;simp at c
     |cons h r=>
      cases r with
      |nil=>rw[i]at c;simp at c;exact⟨g,h,rfl,c.1,c.2⟩
      |cons f2 r=>rw[i]at c;simp at c
   have j : fs.all (·.name != "_") = true := by
    rw[<-Array.all_toList,i];simp only[List.all_cons,List.all_nil,z,A,q,k,xcy]
   have v:(fs.toList.mapM λf=>prog.keyLits (n+2) f.type (([.int .i64 a,.int .i64 b]:List Value).drop f.offset |>.take (prog.cellsOf f.type)))=some [[.int .i64 a],[.int .i64 b]]:=by
    rw[i];simp[List.mapM_cons,D,E,B,C,Sx,p a s,p b t]
   have u:prog.keyLits (prog.types.size+1) T [.int .i64 a,.int .i64 b]=some [.int .i64 a,.int .i64 b]:=by
    rw[w];unfold Program.keyLits;rw[hd];simp only[e,j];rw[xh ⟨rfl,trivial⟩,v];rfl
   unfold keyOf;rw[hd];simp only[l,Value.formed,hd,e,Value.cells,u];rfl
  all_goals (simp at c)
def Db(c:a<=2147483647)(d:b<=2147483647):keyOf prog 260 (.agg #[.int .i64 a,.int .i64 b])=some (cG a b):=JL (by decide) (by decide) WY Sw Uk c d
def JK(c:a<=2147483647)(d:b<=2147483647):keyOf prog 202 (.agg #[.int .i64 a,.int .i64 b])=some (cG a b):=JL (by decide) (by decide) Xa Sy Ul c d
def gO{c d:Nat}(g:a<=2147483647)(i:b<=2147483647)(j:c<=2147483647)(hd:d<=2147483647)(h:cG a b=cG c d):a=c/\b=d:=by
 have e:=Db g i;have f:=Db j hd;rw[h]at e;have:=wY.inj e f;simp at this;omega
def gP(h:dT a=dT b):a=b:=by simp[dT]at h;omega
def Zc(os:List O):Nat:=(os.map λo=>o.li.length).sum
def Zu(os:List O)(n:Nat):Nat:=((os.find? (λo=>o.id==n)).map O.gd).getD 0
structure OD(os:List O)(D:DataW Unit):Prop where
 size:Maps.size D=os.length
 has:∀n:Nat,n<=2147483647->Maps.has D (dT n)=os.any (λo=>o.id==n)
 val:∀n:Nat,n<=2147483647->D.atKey (dT n) (.lit (.int .i64 0))=.lit (.int .i64 ((Zu os n:Nat):Int))
 keys:∀kl,Maps.has D kl=true->∃o∈os,kl=dT o.id
structure HD(os:List O)(D:DataW Unit):Prop where
 size:Maps.size D=Zc os
 has:∀a b:Nat,a<=2147483647->b<=2147483647->Maps.has D (cG a b)=(zq os a b).isSome
 val:∀a b:Nat,a<=2147483647->b<=2147483647->D.atKey (cG a b) (.lit (.int .i64 0))=.lit (.int .i64 (((zq os a b).getD 0:Nat):Int))
structure RD(rj:List (Nat×Nat))(D:DataW Unit):Prop where
 size:Maps.size D=rj.length
 has:∀a b:Nat,a<=2147483647->b<=2147483647->Maps.has D (cG a b)=rj.contains (a,b)
 keys:∀kl,Maps.has D kl=true->∃p∈rj,kl=cG p.1 p.2
structure Rc(rj:List (Nat×Nat)):Prop where
 nodup:rj.Nodup
 len:rj.length<=10
 fits:∀p∈rj,p.1<=2147483647/\p.2<=2147483647
def yU(w:World)(b n:Nat)(D:DataW Unit):Prop:=w.ownsMap prog 202 (unitElem (H:=Unit)) b n D
def Mv(w:World)(b n:Nat)(D:DataW Unit):Prop:=w.ownsMap prog 2 (plainElem prog 2) b n D
def Mu(w:World)(b n:Nat)(D:DataW Unit):Prop:=w.ownsMap prog 260 (plainElem prog 2) b n D
variable {D:DataW Unit}{R:Value->Option (DataW Unit×List MemPlace)}{c w w':World}{k t:TypeId}
def zu(h:w.ownsMap prog k R b n D)(f:w'.heap[b]?=w.heap[b]?):w'.ownsMap prog k R b n D:=by
 obtain⟨c,a,e,F,g,d⟩:=h;exact⟨c,a,by rw[f];exact e,F,g,d⟩
def ZP(h:w.ownsMap prog k R b n D):∃d c,w.heap[b]?=some (.map d c):=by
 obtain⟨d,a,e,_⟩:=h;exact⟨d,a,e⟩
def Z7(h:w.ownsMap prog k R b n D):w.ownsMap prog k R b (Maps.size D) D:=by
 obtain⟨d,a,e,F,f,c⟩:=h;exact⟨d,a,e,F,by rw[c];simp[Maps.size,length_sorted],c⟩
def cO(h:w.heap[b]?=some (.map #[] 0)):w.ownsMap prog k R b (Maps.size (DataW.map []:DataW Unit)) (DataW.map []) :=
 ⟨#[],0,h,⟨by simp,MapKept.stamped_empty 0,by simp⟩,xe _,rfl⟩
structure Mp(os:List O)(rj:List (Nat×Nat))(w:World)(M:Mx):Prop where
 r:∃D,yU w M.r (Maps.size D) D/\RD rj D
 rc:Rc rj
 o:∃D,Mv w M.o (Maps.size D) D/\OD os D
 h:∃D,Mu w M.h (Maps.size D) D/\HD os D
 ro:M.r≠M.o
 rh:M.r≠M.h
 oh:M.o≠M.h
variable {M:Mx}{os:List O}{ps rj:List (Nat×Nat)}
def Mp.congr3(h:Mp os rj w M)(c:w'.heap[M.r]?=w.heap[M.r]?)(d:w'.heap[M.o]?=w.heap[M.o]?)(e:w'.heap[M.h]?=w.heap[M.h]?):Mp os rj w' M:={
 r:=by obtain⟨D,a,b⟩:=h.r;exact⟨D,zu a c,b⟩
 rc:=h.rc
 o:=by obtain⟨D,a,b⟩:=h.o;exact⟨D,zu a d,b⟩
 h:=by obtain⟨D,a,b⟩:=h.h;exact⟨D,zu a e,b⟩
 ro:=h.ro
 rh:=h.rh
 oh:=h.oh}
def Mp.mr(h:Mp os rj w M):∃a c,w.heap[M.r]?=some (.map a c):=by obtain⟨D,b,_⟩:=h.r;exact ZP b
def Mp.mo(h:Mp os rj w M):∃a c,w.heap[M.o]?=some (.map a c):=by obtain⟨D,b,_⟩:=h.o;exact ZP b
def Mp.mh(h:Mp os rj w M):∃a c,w.heap[M.h]?=some (.map a c):=by obtain⟨D,b,_⟩:=h.h;exact ZP b
def Mp.congr(h:Mp os rj w M)(a:∀(k:Nat) (b:Array MapEntry) (c:Nat),w.heap[k]?=some (.map b c)->w'.heap[k]?=w.heap[k]?):Mp os rj w' M:=by
 obtain⟨_,_,d⟩:=h.mr;obtain⟨_,_,e⟩:=h.mo;obtain⟨_,_,f⟩:=h.mh;exact h.congr3 (a _ _ _ d) (a _ _ _ e) (a _ _ _ f)
structure L where
 id:Nat
 gd:Nat
 ex:Nat
 place:Nat
 got:Nat
 free:Nat
 hd:Nat
 sh:Nat
 sc:Nat
 gv:Nat
 par:List (Nat×Nat):=[]
def L0:L:=⟨0,0,0,0,0,0,0,0,0,0,[]⟩
def i64(n:Nat):Value:=.int .i64 n
def zm(l:L)(pv:Value):Array Value :=
 #[.int .i64 l.id,.int .i64 l.gd,.int .i64 l.ex,.int .i64 l.place,pv,.int .i64 l.got,.int .i64 l.free,.int .i64 l.hd,.int .i64 l.sh,.int .i64 l.sc,.int .i64 l.gv]
def aV(bs:List Nat):List Value:=bs.map λb=>Value.pointer (some ⟨b,0,none⟩)
structure L.Ok(l:L):Prop where
 id:l.id<=2147483647
 gd:l.gd<=2147483647
 ex:l.ex<=2147483647
 place:l.place<=30
 sum:l.free+l.hd+l.sh+l.sc+l.gv<=2147483647
 got:l.got<=2147483647
 par:l.par.length<=2/\∀p∈l.par,p.1<=2147483647
def Prs(t:TypeId)(w:World)(pv:Value)(ps:List (Nat×Nat)):Prop :=
 (pv=.slice none 0 0/\ps=[])\/∃q cap cs,pv=.slice (some ⟨q,0,none⟩) ps.length cap/\w.heap[q]?=some (.cells cs t (0,0))/\∀j,j<ps.length->cs[2*j]?=some (.int .i64 ((ps.getD j (0,0)).1:Int))/\cs[2*j+1]?=some (.int .i64 ((ps.getD j (0,0)).2:Int))
def Par(w:World)(pv:Value)(ps:List (Nat×Nat)):Prop:=Prs 234 w pv ps
structure PV(os:List O)(rj:List (Nat×Nat))(w:World)(S:Nat)(M:Mx)(v:Value)(td:Nat)(bs:List Nat)(pvs:List Value)(ls:List L):Prop where
 store:w.heap[S]?=some (.cells #[.int .i64 td,v,.map (some M.o),.map (some M.h),.map (some M.r)] 117 (0,0))
 maps:Mp os rj w M
 row:w.ownsRow 0 191 1 v bs.length (aV bs)
 len:bs.length=ls.length
 plen:pvs.length=ls.length
 lot:∀i,i<ls.length->w.heap[bs.getD i 0]?=some (.cells (zm (ls.getD i L0) (pvs.getD i default)) 231 (0,0))
 par:∀i,i<ls.length->Par w (pvs.getD i default) (ls.getD i L0).par
 nodup:bs.Nodup
 today:td<=2147483647
 ok:∀l∈ls,L.Ok l
 room:ls.length<=30
variable {cs:Array Value}
def za(h:w.heap[b]?=some (.cells cs t (0,0)))(j:Nat):w.cell? ⟨b,j,none⟩=cs[j]?:=by
 unfold World.cell?;rw[h];rfl
def ze(h:w.heap[b]?=some (.cells cs t (0,0)))(j:Nat):w.frozen? ⟨b,j,none⟩=false:=by
 unfold World.frozen?;rw[h];simp
def zc{o:Obj}(h:w.heap[b]?=some o):b<w.heap.size:=(xan.1 h).1
variable {bs:List Nat}{ls:List L}{pv v:Value}{pvs:List Value}
def PV.c0(h:PV os rj w S M v td bs pvs ls):w.cell? ⟨S,0,none⟩=some (.int .i64 td):=by rw[za h.store];rfl
def PV.c1(h:PV os rj w S M v td bs pvs ls):w.cell? ⟨S,1,none⟩=some v:=by rw[za h.store];rfl
def PV.c2(h:PV os rj w S M v td bs pvs ls):w.cell? ⟨S,2,none⟩=some (.map (some M.o)):=by rw[za h.store];rfl
def PV.c3(h:PV os rj w S M v td bs pvs ls):w.cell? ⟨S,3,none⟩=some (.map (some M.h)):=by rw[za h.store];rfl
def PV.c4(h:PV os rj w S M v td bs pvs ls):w.cell? ⟨S,4,none⟩=some (.map (some M.r)):=by rw[za h.store];rfl
def PV.cl(h:PV os rj w S M v td bs pvs ls)(i:Nat)(a:i<ls.length)(j:Nat):w.cell? ⟨bs.getD i 0,j,none⟩=(zm (ls.getD i L0) (pvs.getD i default))[j]?:=za (h.lot i a) j
def PV.shape(h:PV os rj w S M v td bs pvs ls):∃a cap,v=.slice a ls.length cap/\(0<ls.length->∃G,a=some ⟨G,0,none⟩/\∀i,i<ls.length->w.cell? ⟨G,i,none⟩=some (.pointer (some ⟨bs.getD i 0,0,none⟩))):=by
 obtain⟨a,cap,d⟩:=zK h.row;refine⟨a,cap,by rw[<-h.len];exact d,λk=>?_⟩;obtain⟨g,e,b,_,_⟩:=zG h.row (by rw[h.len];exact k);rw[d]at b
 cases b;refine⟨g,rfl,λi j=>?_⟩
 have f:=h.row;rw[d]at f;rw[f.cellAt i (by rw[h.len];omega)];have c:i<bs.length:=by rw[h.len];exact j
 simp[aV,Wc,c]
def Wj(n:Nat)(ls:List L):Nat:=ls.findIdx (λl=>l.id==n)
def fV{k:Nat}(b:k<ls.length)(c:∀j,j<k->(ls.getD j L0).id≠n)(a:(ls.getD k L0).id=n):Wj n ls=k:=by
 unfold Wj;rw[xcp b];simp only[Wc,xi b,XQ]at a;refine⟨by simpa using a,λj d=>?_⟩;have:=c j d;simp only[Wc,xi (show j<ls.length by omega),XQ]at this;simpa using this
def wP(b:∀j,j<ls.length->(ls.getD j L0).id≠n):Wj n ls=ls.length:=by
 unfold Wj;rw[List.findIdx_eq_length];intro x c;obtain⟨j,a,rfl⟩:=xw c;have:=b j a;simp only[Wc,xi a,XQ]at this;simpa using this
def zf{k:Nat}(a:k<ls.length):ls.getD k L0∈ls:=by
 simp[Wc,a]
def aR(h:a=b):((a:Int)==(b:Int))=true:=by rw[Yi];omega
def ZT(h:¬a=b):((a:Int)==(b:Int))=false:=by rw[xr];omega
def zJ(bs:List Nat)(ls:List L)(n:Nat):Value:=if Wj n ls<ls.length then .pointer (some ⟨bs.getD (Wj n ls) 0,0,none⟩) else .pointer none
def Zm(h:PV os rj w S M v td bs pvs ls)(n:Nat)(H:n<=2147483647):Calls prog 148 #[.pointer (some ⟨S,0,none⟩),.int .i64 n] w λe w'=>e=.returned (zJ bs ls n)/\w'=w:=by
 obtain⟨a,cap,C,f⟩:=h.shape;have c1:=h.c1;rw[C]at c1;have y:=h.room;have A:=zb h;clear h C;go_enter func148,ntmps148;go_wp2_with fail;go_loop [6,12] (λ_ i=>∃k:Nat,k<=ls.length/\i=.int .i64 k/\(∀j,j<k->(ls.getD j L0).id≠n)) (λ_ i=>ls.length-(intOf i).toNat)
 case atStart=>exact⟨0,by omega,rfl,λj h=>absurd h (by omega)⟩
 obtain⟨k,F,rfl,g⟩:=hrel;by_cases d:k<ls.length
 ·obtain⟨G,B,c⟩:=f (by omega);rw[B];have s:=c k d;have p:w.cell? ⟨bs.getD k 0,0,none⟩=some (.int .i64 ((ls.getD k L0).id:Int)):=by rw[A.o.cl k d 0];rfl
  have t:(ls.getD k L0).id<=2147483647:=(A.ok _ (zf d)).id;obtain⟨m,r⟩:=Ww ((ls.getD k L0).id);obtain⟨b,z⟩:=Ww (bs.getD k 0);rw[<-r.o]at p t;rw[<-z.o]at p s;clear c B f;by_cases l:m=n
  ·have x:((m:Int)==(n:Int))=true:=aR l;have q:Ha (zJ bs ls n=.pointer (some ⟨b,0,none⟩)):=by
    have:=fV d g (by rw[<-r.o];exact l)
    unfold Ha zJ;rw[this,xh d,<-z.o]
   clear l;go_wp2_with fail;go_ret;exact⟨by rw[q.o];rfl,rfl⟩
  have x:((m:Int)==(n:Int))=false:=ZT l;have D:=zb l;clear l;go_wp2_with fail;go_round
  case rel=>
   refine⟨k+1,by omega,by go_num,?_⟩;intro j E;by_cases u:j=k
   ·subst u;rw[<-r.o];exact D
   exact g j (by omega)
  simp[intOf];omega
 obtain rfl:k=ls.length:=by omega
 have q:Ha (zJ bs ls n=.pointer none):=by
  have:=wP g
  unfold Ha zJ;rw[this,xg (by omega)]
 clear f d;go_wp2_with fail;go_ret;exact⟨by rw[q.o];rfl,rfl⟩
structure Kp(Z:Nat->Prop)(w w':World):Prop where
 os:w'.os=w.os
 tape:w'.tape=w.tape
 output:w'.output=w.output
 size:w.heap.size<=w'.heap.size
 block:∀k,k<w.heap.size->¬Z k->w'.heap[k]?=w.heap[k]?
def Kp.refl(Z:Nat->Prop)(w:World):Kp Z w w:=⟨rfl,rfl,rfl,xe _,λ_ _ _=>rfl⟩
def Kp.trans{Z:Nat->Prop}{a b c:World}(h:Kp Z a b)(k:Kp (λk=>Z k\/a.heap.size<=k) b c):Kp Z a c :=
 ⟨k.os.trans h.os,k.tape.trans h.tape,k.output.trans h.output,xj h.size k.size,λi d f=>
  (k.block i (xl d h.size) (λe=>e.elim f (λe=>absurd d (by omega)))).trans (h.block i d f)⟩
variable {Z Z':Nat->Prop}
def Kp.mono{a b:World}(h:Kp Z a b)(f:∀k,Z k->Z' k):Kp Z' a b :=
 ⟨h.os,h.tape,h.output,h.size,λi c d=>h.block i c (λe=>d (f i e))⟩
def Wo{a b:World}(h:Below a.heap.size a b):Kp Z a b:=⟨h.os,h.tape,h.output,h.size,λi c _=>h.block i c⟩
def Kp.after{a b:World}(h:Kp Z a b)(k:Below b.heap.size b c):Kp Z a c:=h.trans (Wo k)
def Kp.before{a b:World}(h:Below a.heap.size a b)(k:Kp (λk=>Z k\/a.heap.size<=k) b c):Kp Z a c:=(Wo (Z:=Z) h).trans k
def Kp.setCell{Z:Nat->Prop}{a w:World}(h:Kp Z a w){p:Addr}(b:Z p.block\/a.heap.size<=p.block)(u:Value):Kp Z a (w.setCell p u) :=
 h.trans ⟨rfl,rfl,rfl,by simp[World.setCell],λk _ c=>xd _ _ _ _ (λe=>c (by rw[e];exact b))⟩
def Kp.grown{a:World}{row:Option Nat}(h:Kp Z a w)(b:w.grownBy w' row)(d:∀k,row=some k->Z k\/a.heap.size<=k):Kp Z a w' :=
 h.trans ⟨b.os,b.tape,b.output,b.size,λk c f=>b.block k c (λe=>f (d k e.symm))⟩
def zM(w:World)(a:Addr)(u:Value):w.grownBy (w.setCell a u) (some a.block) :=
 ⟨rfl,rfl,rfl,by simp[World.setCell],λk _ b=>xd _ _ _ _ (λe=>b (by rw[e]))⟩
structure PIn(Z:Nat->Prop)(S:Nat)(M:Mx)(v:Value)(bs:List Nat)(pvs:List Value):Prop where
 s:Z S
 m:Z M.r
 mo:Z M.o
 mh:Z M.h
 v:∀g,v.ownBlock=some g->Z g
 b:∀k∈bs,Z k
 p:∀pv∈pvs,∀q,pv.ownBlock=some q->Z q
def PIn.mono(h:PIn Z S M v bs pvs)(a:∀k,Z k->Z' k):PIn Z' S M v bs pvs :=
 ⟨a _ h.s,a _ h.m,a _ h.mo,a _ h.mh,λg c=>a _ (h.v g c),λk d=>a _ (h.b k d),λpv e q f=>a _ (h.p pv e q f)⟩
def Prs.congr(h:Prs t w pv ps)(e:∀q,pv.ownBlock=some q->w'.heap[q]?=w.heap[q]?):Prs t w' pv ps:=by
 rcases h with h|⟨q,cap,b,a,c,d⟩
 ·exact Or.inl h
 exact Or.inr ⟨q,cap,b,a,by rw[e q (by rw[a];rfl)];exact c,d⟩
def Par.congr{w w':World}{pv:Value}{ps:List (Nat×Nat)}(h:Par w pv ps)(a:∀q,pv.ownBlock=some q->w'.heap[q]?=w.heap[q]?):Par w' pv ps:=Prs.congr h a
def Prs.blk(h:Prs t w pv ps){q:Nat}(a:pv.ownBlock=some q):∃b,w.heap[q]?=some (.cells b t (0,0)):=by
 rcases h with ⟨c,_⟩|⟨f,cap,b,c,d,e⟩
 ·rw[c]at a;cases a
 rw[c]at a;cases a;exact⟨b,d⟩
def Par.blk{w:World}{pv:Value}{ps:List (Nat×Nat)}(h:Par w pv ps){q:Nat}(b:pv.ownBlock=some q):∃a,w.heap[q]?=some (.cells a 234 (0,0)):=Prs.blk h b
def Prs.isSl(h:Prs t w pv ps):∃a c,pv=.slice a ps.length c:=by
 rcases h with ⟨b,d⟩|⟨i,cap,e,b,f,g⟩
 ·exact⟨none,0,by rw[b,d];rfl⟩
 exact⟨_,_,b⟩
def zd{a e size:Nat}{xs:List Value}(h:w.ownsRow a e size v n xs)(j:∀g,v.ownBlock=some g->w'.heap[g]?=w.heap[g]?):w'.ownsRow a e size v n xs:=by
 refine⟨h.1,?_⟩;rcases h.2 with c|⟨g,cap,b,d,c,f,i⟩
 ·exact Or.inl c
 exact Or.inr ⟨g,cap,b,d,c,by rw[j g (by rw[d];rfl)];exact f,i⟩
def zH{l:List Nat}(h:i<l.length):l.getD i 0∈l:=by simp[Wc,h]
def bR{l:List Value}(h:i<l.length):l.getD i default∈l:=by simp[Wc,h]
def PV.congr{rj:List (Nat×Nat)}{Z:Nat->Prop}{w w':World}{S:Nat}{M:Mx}{v:Value}{td:Nat}{f:List Nat}{d:List Value}{ls:List L}{os:List O}(h:PV os rj w S M v td f d ls)(a:PIn Z S M v f d)(c:∀k,Z k->w'.heap[k]?=w.heap[k]?):PV os rj w' S M v td f d ls:={
 store:=by rw[c S a.s];exact h.store
 maps:=h.maps.congr3 (c _ a.m) (c _ a.mo) (c _ a.mh)
 row:=zd h.row (λg l=>c g (a.v g l))
 len:=h.len
 plen:=h.plen
 lot:=λi e=>by rw[c _ (a.b _ (zH (by rw[h.len];exact e)))];exact h.lot i e
 par:=λi e=>(h.par i e).congr (λq j=>c q (a.p _ (bR (by rw[h.plen];exact e)) q j))
 nodup:=h.nodup
 today:=h.today
 ok:=h.ok
 room:=h.room}
def PV.below(h:PV os rj w S M v td bs pvs ls)(a:Below w.heap.size w w'):PV os rj w' S M v td bs pvs ls:={
 store:=by rw[a.block S (zc h.store)];exact h.store
 maps:=h.maps.congr (λk j c f=>a.block k (zc f))
 row:=zg h.row a
 len:=h.len
 plen:=h.plen
 lot:=λi b=>by rw[a.block _ (zc (h.lot i b))];exact h.lot i b
 par:=λi b=>(h.par i b).congr (λq d=>by
  obtain⟨g,e⟩:=(h.par i b).blk d;exact a.block _ (zc e))
 nodup:=h.nodup
 today:=h.today
 ok:=h.ok
 room:=h.room}
def zz(ls:List L)(n:Nat):Nat:=if Wj n ls<ls.length then 5 else if 30<=ls.length then 6 else 0
def kD(h:PV os rj w S M v td bs pvs ls)(n:Nat)(l:n<=2147483647):Calls prog 146 #[.pointer (some ⟨S,0,none⟩),.int .i64 n] w λe w'=>e=.returned (.int .i64 (zz ls n:Int))/\w'=w:=by
 have d:=zb (Zm h n l);obtain⟨a,cap,k,_⟩:=h.shape;have c1:=h.c1;rw[k]at c1;have j:=h.room;clear h k;by_cases c:Wj n ls<ls.length
 ·have g:Ha (zz ls n=5):=by unfold Ha zz;rw[xh c]
  have f:Ha (zJ bs ls n=.pointer (some ⟨bs.getD (Wj n ls) 0,0,none⟩)):=by unfold Ha zJ;rw[xh c]
  rw[f.o]at d;generalize bs.getD (Wj n ls) 0=b at d;clear c f;go_enter func146,ntmps146;go_wp2_with (go_at_call 148;refine d.mono ?_;rintro e w1 ⟨rfl,rfl⟩);go_ret;exact⟨by rw[g.o];rfl,rfl⟩
 have f:Ha (zJ bs ls n=.pointer none):=by unfold Ha zJ;rw[xg c]
 rw[f.o]at d;by_cases i:30<=ls.length
 ·have g:Ha (zz ls n=6):=by unfold Ha zz;rw[xg c,xh i]
  clear c f;go_enter func146,ntmps146;go_wp2_with (go_at_call 148;refine d.mono ?_;rintro e w1 ⟨rfl,rfl⟩);go_ret;exact⟨by rw[g.o];rfl,rfl⟩
 have g:Ha (zz ls n=0):=by unfold Ha zz;rw[xg c,xg i]
 clear c f;go_enter func146,ntmps146;go_wp2_with (go_at_call 148;refine d.mono ?_;rintro e w1 ⟨rfl,rfl⟩);go_ret;exact⟨by rw[g.o];rfl,rfl⟩
def zt{d:Array Value}{u:TypeId}{f g:Nat×Nat}(h:w.heap[a]?=some (.cells cs t f))(k:w.heap[b]?=some (.cells d u g))(c:t≠u):a≠b:=by
 rintro rfl;rw[h]at k;cases k;exact c rfl
def zX{f:Nat×Nat}{d:Array MapEntry}{c:Nat}(h:w.heap[a]?=some (.cells cs t f))(k:w.heap[b]?=some (.map d c)):a≠b:=by
 rintro rfl;rw[h]at k;cases k
def zh{a e size:Nat}{xs:List Value}(h:w.ownsRow a e size v n xs){g:Nat}(b:v.ownBlock=some g):∃f,w.heap[g]?=some (.cells f e (0,0)):=by
 rcases h.2 with ⟨d,_⟩|⟨g',cap,c,i,d,j,k⟩
 ·rw[d]at b;cases b
 rw[i]at b;cases b;exact⟨c,j⟩
variable {α:Type}
def Zh(l:List α)(x d:α)(i:Nat)(h:i<l.length):(l++[x]).getD i d=l.getD i d:=by
 simp[Wc,XH h]
def Zg(l:List α)(x d:α)(i:Nat)(h:i=l.length):(l++[x]).getD i d=x:=by
 subst h;simp[Wc]
def PV.added{K p:World}{v':Value}(h:PV os rj w S M v td bs pvs ls){pv:Value}{l:L}
  (Q:∀k,k<w.heap.size->K.heap[k]?=w.heap[k]?) (hb:K.heap[w.heap.size]?=some (.cells (zm l pv) 231 (0,0)))
  (y:p.ownsRow 0 191 1 v' (bs.length+1) (aV bs++[.pointer (some ⟨w.heap.size,0,none⟩)])) (W:K.grownBy p v.ownBlock) (hl:L.Ok l) (J:Par w pv l.par) (X:ls.length<30) (s:w.heap.size<K.heap.size) :
  PV os rj (p.setCell ⟨S,1,none⟩ v') S M v' td (bs++[w.heap.size]) (pvs++[pv]) (ls++[l]):=by
 have hS:=zc h.store;have B:v.ownBlock≠some S:=λe=>by
  obtain⟨F,m⟩:=zh h.row e;exact zt h.store m (by decide) rfl
 have A:∀(k:Nat) (N:Array MapEntry) (c:Nat),w.heap[k]?=some (.map N c)->v.ownBlock≠some k:=λk N c hM e=>by
  obtain⟨F,m⟩:=zh h.row e;exact zX m hM rfl
 have old:∀k,k<w.heap.size->v.ownBlock≠some k->p.heap[k]?=w.heap[k]?:=λk u T=>(W.block k (by omega) (λe=>T e.symm)).trans (Q k u)
 have n:∀k,k<w.heap.size->v.ownBlock≠some k->k≠S->(p.setCell ⟨S,1,none⟩ v').heap[k]?=w.heap[k]?:=λk u T hs=>(xd _ _ _ _ hs).trans (old k u T)
 have G:p.heap[S]?=some (.cells #[.int .i64 td,v,.map (some M.o),.map (some M.h),.map (some M.r)] 117 (0,0)):=(old S hS B).trans h.store;have C:v.ownBlock≠some w.heap.size:=λe=>by
  obtain⟨F,m⟩:=zh h.row e;have:=zc m;omega
 have R:p.heap[w.heap.size]?=some (.cells (zm l pv) 231 (0,0)):=(W.block _ s (λe=>C e.symm)).trans hb;have j:∀i,i<ls.length->bs.getD i 0≠S/\v.ownBlock≠some (bs.getD i 0):=λi t=>⟨(zt h.store (h.lot i t) (by decide)).symm,λe=>by
  obtain⟨F,m⟩:=zh h.row e;exact zt (h.lot i t) m (by decide) rfl⟩
 have f:∀D ps,Par w D ps->Par (p.setCell ⟨S,1,none⟩ v') D ps:=λD ps Z=>Z.congr (λq hq=>by
   obtain⟨F,P⟩:=Z.blk hq;exact n _ (zc P) (λe=>by
    obtain⟨a0,m⟩:=zh h.row e;exact zt P m (by decide) rfl) (zt h.store P (by decide)).symm)
 refine⟨?_,?_,?_,by simp[h.len],by simp[h.plen],?_,?_,?_,h.today,?_,by simp;omega⟩
 ·have:=xu p S 1 _ 117 v' G
  simpa using this
 ·exact h.maps.congr (λk N c u=>n k (zc u) (A k N c u) (zX h.store u).symm)
 ·have u:=y.kept (zM p ⟨S,1,none⟩ v') (Or.inr (λe=>by
   obtain⟨F,m⟩:=zh y (g:=S) e;exact zt G m (by decide) rfl))
  have e:aV (bs++[w.heap.size])=aV bs++[.pointer (some ⟨w.heap.size,0,none⟩)]:=by simp[aV]
  rw[e,xc];exact u
 ·intro i t;rw[xc,Xw]at t;by_cases d:i<ls.length
  ·rw[Zh bs _ _ _ (by rw[h.len];exact d),Zh ls _ _ _ d,Zh pvs _ _ _ (by rw[h.plen];exact d),n _ (zc (h.lot i d)) (j i d).2 (j i d).1];exact h.lot i d
  have z:i=ls.length:=by omega
  rw[Zg bs _ _ _ (by rw[h.len];exact z),Zg ls _ _ _ z,Zg pvs _ _ _ (by rw[h.plen];exact z),xd _ _ _ _ (show w.heap.size≠S by omega)];exact R
 ·intro i t;rw[xc,Xw]at t;by_cases d:i<ls.length
  ·rw[Zh pvs _ _ _ (by rw[h.plen];exact d),Zh ls _ _ _ d];exact f _ _ (h.par i d)
  rw[Zg pvs _ _ _ (by rw[h.plen];omega),Zg ls _ _ _ (by omega)];exact f _ _ J
 ·rw[XP];refine⟨h.nodup,by simp,?_⟩;intro a ha b H;simp at H;subst H;obtain⟨i,t,rfl⟩:=xw ha;have:=zc (h.lot i (by rw[<-h.len];exact t));rw[Wc,xi t]at this;simp at this;omega
 intro x E;rcases xx.1 E with E|E
 ·exact h.ok x E
 simp at E;subst E;exact hl
def Uy:prog.underlying 115=some (.slice 191):=by kernel_rfl
def CW:(prog.info? 191).map (λi=>(i.zero,i.size,i.bytes))=some (some (.pointer none),1,8):=by kernel_rfl
def NN(w1:World)(x:Value)(t:TypeId)(b:Nat)(a:b=w1.heap.size):∀(j:Nat) (u:Value),[x][j]?=some u->(w1.alloc (.cells #[x] t)).cell? (Addr.add ⟨b,0,none⟩ j)=some u:=by
 subst a;exact Zy w1 x t
def Cq(h:PV os rj w S M v td bs pvs ls)(id gd b got:Nat)(pv:Value)(ps:List (Nat×Nat))(t:Par w pv ps)(X:ps.length<=2/\∀p∈ps,p.1<=2147483647)(P:ls.length<30)
  (h1:id<=2147483647) (h2:gd<=2147483647) (h3:b<=2147483647) (h4:got<=2147483647) :
  Calls prog 147 #[.pointer (some ⟨S,0,none⟩),.agg #[.int .i64 id,.int .i64 gd,.int .i64 b,.int .i64 0,pv,.int .i64 got,.int .i64 0,.int .i64 0,.int .i64 0,.int .i64 0,.int .i64 0]] w
   λe w'=>e=.returned (.tuple #[])/\Kp (λk=>k=S\/v.ownBlock=some k) w w'/\∃v',PV os rj w' S M v' td (bs++[w.heap.size]) (pvs++[pv]) (ls++[{ id:=id,gd:=gd,ex:=b,place:=ls.length+1,got:=got,free:=got,hd:=0,sh:=0,sc:=0,gv:=0,par:=ps }]) /\
    (∀g,v'.ownBlock=some g->v.ownBlock=some g\/w.heap.size<=g):=by
 obtain⟨i0,hi,a0,a1,a2⟩:=XT CW;obtain⟨a,cap,Z,_⟩:=h.shape;have hS:=zc h.store;have a4:S<w.heap.size:=hS;have c1:=h.c1;have f1:=ze h.store 1;have f:=h.row;rw[h.len]at f;rw[Z]at c1 f;have HP:=zb h;obtain⟨n,D⟩:=Ww ls.length;rw[<-D.o]at c1 f P;have Q:∃F pl G,pv=.slice F pl G:=by
  obtain⟨a,c,h⟩:=Prs.isSl t;exact⟨_,_,_,h⟩
 obtain⟨F,pl,G,z⟩:=Q;have J:=zb z;have HV:=zb Z;rw[z];clear h Z z;go_enter func147,ntmps147;go_wp2_with (at_builtin;refine wpList_append_own_at _ rfl _ _ 115 rfl 0 191 i0 (.pointer none) 1 8 Uy hi a0 a1 a2 rfl (by decide) _ n (aV bs) rfl ?ho ⟨w.heap.size+1,0,none⟩ 1 1 [.pointer (some ⟨w.heap.size,0,none⟩)] rfl rfl ?c1 ?c2 ?c3 ?c4 ?c5 ?_)
 case ho=>exact(f.alloc _).alloc _
 case c1=>exact NN _ _ _ _ (by simp)
 case c2=>intro u hu;simp at hu;subst hu;rfl
 case c3=>unfold maxLen;omega
 case c4=>omega
 case c5=>exact Nat.zero_le _
 intro v' w2 i j W K;have E:=HP.o;have l:(zm { id:=id,gd:=gd,ex:=b,place:=ls.length+1,got:=got,free:=got,hd:=0,sh:=0,sc:=0,gv:=0,par:=ps } pv)=#[.int .i64 id,.int .i64 gd,.int .i64 b,.int .i64 ((n:Int)+1),.slice F pl G,.int .i64 got,.int .i64 got,.int .i64 0,.int .i64 0,.int .i64 0,.int .i64 0]:=by
  rw[J.o,D.o];rfl
 have C:v.ownBlock=(Value.slice a n cap).ownBlock:=by rw[HV.o,D.o]
 have d:((w.alloc (.cells #[.int .i64 id,.int .i64 gd,.int .i64 b,.int .i64 ((n:Int)+1),.slice F pl G,.int .i64 got,.int .i64 got,.int .i64 0,.int .i64 0,.int .i64 0,.int .i64 0] 231)).alloc (.cells #[.pointer (some ⟨w.heap.size,0,none⟩)] 191)).grownBy w2 v.ownBlock:=by rw[C];exact j
 have y:∀k,k<w.heap.size->((w.alloc (.cells #[.int .i64 id,.int .i64 gd,.int .i64 b,.int .i64 ((n:Int)+1),.slice F pl G,.int .i64 got,.int .i64 got,.int .i64 0,.int .i64 0,.int .i64 0,.int .i64 0] 231)).alloc (.cells #[.pointer (some ⟨w.heap.size,0,none⟩)] 191)).heap[k]?=w.heap[k]?:=λk T=>by
  rw[yl _ _ _ (by simp;omega),yl _ _ _ T]
 have hb:((w.alloc (.cells #[.int .i64 id,.int .i64 gd,.int .i64 b,.int .i64 ((n:Int)+1),.slice F pl G,.int .i64 got,.int .i64 got,.int .i64 0,.int .i64 0,.int .i64 0,.int .i64 0] 231)).alloc (.cells #[.pointer (some ⟨w.heap.size,0,none⟩)] 191)).heap[w.heap.size]?=some (.cells (zm { id:=id,gd:=gd,ex:=b,place:=ls.length+1,got:=got,free:=got,hd:=0,sh:=0,sc:=0,gv:=0,par:=ps } pv) 231 (0,0)):=by
  rw[yl _ _ _ (by simp),l];exact xp w _
 have s:=E.added y hb (by rw[E.len,<-D.o];exact i) d ⟨h1,h2,h3,(by show ls.length+1<=30;have:=D.o;omega),(by simp;omega),h4,X⟩ t (by have:=D.o;omega) (by simp;omega);have A:v.ownBlock≠some S:=λe=>by
  obtain⟨cs,hc⟩:=zh E.row e;exact zt E.store hc (by decide) rfl
 have x:w2.heap[S]?=some (.cells #[.int .i64 td,v,.map (some M.o),.map (some M.h),.map (some M.r)] 117 (0,0)):=((d.block S (by simp;omega) (λe=>A e.symm)).trans (y S hS)).trans E.store;have a5:w2.cell? ⟨S,1,none⟩=some v:=by rw[za x];rfl
 have a6:=ze x 1;have N:Kp (λk=>k=S\/v.ownBlock=some k) w (w2.setCell ⟨S,1,none⟩ v'):=by
  refine Kp.setCell ?_ (Or.inl (Or.inl rfl)) _
  refine Kp.grown (Wo ?_) d (λk T=>Or.inl (Or.inr T));exact((xm _ _).alloc (xe _) _).alloc (by simp) _
 have q:∀g,v'.ownBlock=some g->v.ownBlock=some g\/w.heap.size<=g:=λg R=>by
  rcases K with h|h
  ·left;rw[C];exact h.symm.trans R
  right;rw[h]at R;simp at R;omega
 obtain⟨g,a3,B,_,_⟩:=zG i (by omega);have m:=zb s;have HK:=zb N;have HA:=zb q;rw[B]at m HK HA;rw[B];clear i j d y hb s N q K W B l C x f c1 f1 E;go_wp2_with fail;go_end0;have H:=m.o;rw[J.o]at H;exact⟨rfl,HK,_,H,HA⟩
def Zn(Z:Nat->Prop)(w:World)(k:Nat):Prop:=Z k\/w.heap.size<=k
def PI(os:List O)(rj:List (Nat×Nat))(Z:Nat->Prop)(w:World)(S td:Nat)(ls:List L):Prop:=∃M v bs pvs,PV os rj w S M v td bs pvs ls/\PIn Z S M v bs pvs
def PI.mono{rj:List (Nat×Nat)}{Z Z':Nat->Prop}{w:World}{S td:Nat}{ls:List L}{os:List O}(h:PI os rj Z w S td ls)(e:∀k,Z k->Z' k):PI os rj Z' w S td ls:=by
 obtain⟨M,v,b,a,c,d⟩:=h;exact⟨M,v,b,a,c,d.mono e⟩
def VE(w:World)(o:Obj):Below w.heap.size w (w.alloc o):=(xm _ _).alloc (xe _) _
def PV.store_set{a:Nat}(h:PV os rj w S M v td bs pvs ls)(l:w'.heap[S]?=some (.cells #[.int .i64 a,v,.map (some M.o),.map (some M.h),.map (some M.r)] 117 (0,0)))(d:∀k,k≠S->w'.heap[k]?=w.heap[k]?)(s:a<=2147483647):PV os rj w' S M v a bs pvs ls:={
 store:=l
 maps:=h.maps.congr (λk t c p=>d k (zX h.store p).symm)
 row:=zd h.row (λg n=>d g (by
  obtain⟨f,m⟩:=zh h.row n;exact(zt h.store m (by decide)).symm))
 len:=h.len
 plen:=h.plen
 lot:=λi b=>by rw[d _ (zt h.store (h.lot i b) (by decide)).symm];exact h.lot i b
 par:=λi b=>(h.par i b).congr (λq e=>by
  obtain⟨f,j⟩:=(h.par i b).blk e;exact d _ (zt h.store j (by decide)).symm)
 nodup:=h.nodup
 today:=s
 ok:=h.ok
 room:=h.room}
def PV.days(h:PV os rj w S M v td bs pvs ls)(d:Nat)(hd:d<=2147483647):PV os rj (w.setCell ⟨S,0,none⟩ (.int .i64 d)) S M v d bs pvs ls:=by
 refine h.store_set ?_ (λk a=>xd _ _ _ _ a) hd
 have:=xu w S 0 _ 117 (.int .i64 d) h.store
 simpa using this
def Qh(h:PI os rj Z w S td ls)(d:Nat)(hd:d<=2147483647):Calls prog 97 #[.pointer (some ⟨S,0,none⟩),.agg #[.int .i64 d]] w λe w'=>Kp Z w w' /\
   ((d<td/\e=.returned (.int .i64 3)/\PI os rj (Zn Z w) w' S td ls)\/(td<=d/\e=.returned (.int .i64 0)/\PI os rj (Zn Z w) w' S d ls)):=by
 obtain⟨M,v,l,c,b,a⟩:=h;have p:=zc b.store;have c0:=b.c0;have m:=b.today;have n:=ze b.store 0;have j:=zb b;clear b;by_cases i:d<td
 ·go_enter func97,ntmps97;go_wp2_with fail;go_region;go_wp2_with fail;go_ret;refine⟨?_,Or.inl ⟨i,rfl,M,v,l,c,?_,a.mono (λk g=>Or.inl g)⟩⟩
  ·exact Wo (VE w _).drew
  exact j.below (VE w _).drew
 have f:td<=d:=by omega
 go_enter func97,ntmps97;go_wp2_with fail;go_region;go_wp2_with fail;go_ret;refine⟨?_,Or.inr ⟨f,rfl,M,v,l,c,?_,a.mono (λk g=>Or.inl g)⟩⟩
 ·exact(((Kp.refl Z w).setCell (Or.inl a.s) _).after (VE _ _)).after (xm _ _).drew
 exact((j.days d hd).below (VE _ _)).below (xm _ _).drew
def DL(h:PI os rj Z w S td ls)(lot gd c a:Nat)(z:lot<=2147483647)(D:gd<=2147483647)(E:c<=2147483647)(F:a<=2147483647):Calls prog 98 #[.pointer (some ⟨S,0,none⟩),.agg #[.int .i64 lot,.int .i64 gd,.int .i64 c,.int .i64 a]] w λe w'=>Kp Z w w'/\e=.returned (.int .i64 (zz ls lot:Int)) /\
   PI os rj (Zn Z w) w' S td (if zz ls lot=0 then ls++[{ id:=lot,gd:=gd,ex:=a,place:=ls.length+1,got:=c,free:=c,hd:=0,sh:=0,sc:=0,gv:=0 }] else ls):=by
 obtain⟨M,v,C,y,t,d⟩:=h;obtain⟨o,K⟩:∃o,Ha (o=Obj.cells #[.int .i64 lot,.int .i64 gd,.int .i64 c,.int .i64 a] 146):=⟨_,rfl⟩
 have f:=t.below (VE w (Obj.cells #[.int .i64 lot,.int .i64 gd,.int .i64 c,.int .i64 a] 146));have r:=zb (kD f lot z);have A:zz ls lot<=6:=by unfold zz;split<;>(try split)<;>omega
 by_cases n:zz ls lot=0
 ·have j:ls.length<30:=by
   unfold zz at n;by_cases l:30<=ls.length
   ·split at n
    ·omega
    omega
   omega
  have B:=zb (Cq f lot gd a c (.slice none 0 0) [] (Or.inl ⟨rfl,rfl⟩) ⟨by simp,by simp⟩ j z D F E);rw[n]at r ⊢;rw[xh rfl];have N:=zb t;clear t f n;go_enter func98,ntmps98;go_wp2_with (first
   |(go_at_call 146;refine r.mono ?_;rintro e w1 ⟨rfl,rfl⟩)
   |(go_at_call 147;refine B.mono ?_;rintro e w2 ⟨rfl,i,v',u,x⟩))
  go_ret;refine⟨?_,rfl,M,v',_,_,u,?_⟩
  ·exact Kp.before (VE w _) (i.mono (λk l=>Or.inl (l.elim (λe=>e ▸ d.s) (λe=>d.v k e))))
  refine⟨Or.inl d.s,Or.inl d.m,Or.inl d.mo,Or.inl d.mh,λg G=>?_,λk i=>?_,λpv H q l=>?_⟩
  ·rcases x g G with h|h
   ·exact Or.inl (d.v g h)
   right;simp at h;omega
  ·rcases xx.1 i with h|h
   ·exact Or.inl (d.b k h)
   right;simp at h;omega
  rcases xx.1 H with h|h
  ·exact Or.inl (d.p pv h q l)
  simp at h;subst h;cases l
 rw[xg n];have J:((zz ls lot:Int) != 0)=true:=by rw[Yh];omega
 generalize zz ls lot=rc at *;go_enter func98,ntmps98;go_wp2_with (go_at_call 146;refine r.mono ?_;rintro e w1 ⟨rfl,rfl⟩);go_ret;exact⟨Wo (VE w _),rfl,M,v,C,y,f,d.mono (λk i=>Or.inl i)⟩
def ZV(o:O)(n:Nat):Nat:=(o.li.lookup n).getD 0
def zD(os:List O)(n:Nat):Nat:=(os.map λo=>ZV o n).sum
structure Good(os:List O)(ls:List L):Prop where
 ids:∀i j,i<ls.length->j<ls.length->(ls.getD i L0).id=(ls.getD j L0).id->i=j
 place:∀i,i<ls.length->(ls.getD i L0).place=i+1
 oids:(os.map O.id).Nodup
 oid:∀o∈os,o.id<=2147483647
 olen:os.length<=10
 keys:∀o∈os,(o.li.map Prod.fst).Nodup
 mem:∀o∈os,∀p∈o.li,∃i,i<ls.length/\(ls.getD i L0).id=p.1
 hd:∀i,i<ls.length->(ls.getD i L0).hd=zD os (ls.getD i L0).id
def wL:Good [] []:=⟨λi j h=>absurd h (by simp),λi h=>absurd h (by simp),by simp,λo h=>absurd h (by simp),by simp,λo h=>absurd h (by simp),λo h=>absurd h (by simp),λi h=>absurd h (by simp)⟩
def aY(a:i<ls.length)(l:L):(ls.set i l).getD i L0=l:=by simp[Wc,XB,a]
def ZJ(a:j≠i)(l:L):(ls.set i l).getD j L0=ls.getD j L0:=by simp[Wc,XB,Yl a]
def Good.set{os:List O}{ls:List L}(h:Good os ls){i:Nat}(k:i<ls.length){l:L}(q:l.id=(ls.getD i L0).id)(r:l.place=(ls.getD i L0).place)(s:l.hd=(ls.getD i L0).hd):Good os (ls.set i l):=by
 have d:∀j,((ls.set i l).getD j L0).id=(ls.getD j L0).id:=λj=>by
  by_cases e:j=i
  ·subst e;rw[aY k];exact q
  rw[ZJ e]
 have m:∀j,((ls.set i l).getD j L0).place=(ls.getD j L0).place:=λj=>by
  by_cases e:j=i
  ·subst e;rw[aY k];exact r
  rw[ZJ e]
 have g:∀j,((ls.set i l).getD j L0).hd=(ls.getD j L0).hd:=λj=>by
  by_cases e:j=i
  ·subst e;rw[aY k];exact s
  rw[ZJ e]
 refine⟨λa b c n f=>?_,λa c=>?_,h.oids,h.oid,h.olen,h.keys,λo t p u=>?_,λa c=>?_⟩
 ·rw[xq]at c n;rw[d,d]at f;exact h.ids a b c n f
 ·rw[xq]at c;rw[m];exact h.place a c
 ·obtain⟨a,c,f⟩:=h.mem o t p u;exact⟨a,by rw[xq];exact c,by rw[d];exact f⟩
 rw[xq]at c;rw[g,d];exact h.hd a c
def iG{n:Nat}:∀{l:List (Nat×Nat)},(∀p∈l,p.1≠n)->l.lookup n=none
 |[],_=>rfl
 |(a,b)::l,h=>by
  have c:(n==a)=false:=by rw[xr];exact(h (a,b) (by simp)).symm
  simp only[List.lookup,c];exact iG (λp d=>h p (by simp[d]))
def AO(h:∀o∈os,∀p∈o.li,p.1≠n):zD os n=0:=by
 induction os with
 |nil=>rfl
 |cons o os ih=>
  have:=ih (λb a=>h b (by simp[a]))
  simp only[zD,Xv,XZ]at this ⊢;rw[this];simp[ZV,iG (h o (by simp))]
def Good.snoc(h:Good os ls){l:L}(m:∀i,i<ls.length->(ls.getD i L0).id≠l.id)(s:l.place=ls.length+1)(t:l.hd=0):Good os (ls++[l]):=by
 have d:∀i,i<ls.length->(ls++[l]).getD i L0=ls.getD i L0:=λi n=>by simp[Wc,XH n]
 have j:(ls++[l]).getD ls.length L0=l:=by simp[Wc]
 have e:(ls++[l]).length=ls.length+1:=by simp
 refine⟨λa b k u g=>?_,λa k=>?_,h.oids,h.oid,h.olen,h.keys,λo q p r=>?_,λa k=>?_⟩
 ·rw[e]at k u;by_cases c:a<ls.length
  ·by_cases f:b<ls.length
   ·rw[d a c,d b f]at g;exact h.ids a b c f g
   obtain rfl:b=ls.length:=by omega
   rw[d a c,j]at g;exact absurd g (m a c)
  obtain rfl:a=ls.length:=by omega
  by_cases f:b<ls.length
  ·rw[d b f,j]at g;exact absurd g.symm (m b f)
  omega
 ·rw[e]at k;by_cases c:a<ls.length
  ·rw[d a c];exact h.place a c
  obtain rfl:a=ls.length:=by omega
  rw[j];exact s
 ·obtain⟨a,k,g⟩:=h.mem o q p r;exact⟨a,by rw[e];omega,by rw[d a k];exact g⟩
 rw[e]at k;by_cases c:a<ls.length
 ·rw[d a c];exact h.hd a c
 obtain rfl:a=ls.length:=by omega
 rw[j,t,AO];intro o q p r;obtain⟨i,n,g⟩:=h.mem o q p r;rw[<-g];exact m i n
def qO(h:¬Wj n ls<ls.length):∀i,i<ls.length->(ls.getD i L0).id≠n:=by
 intro i c b;have:Wj n ls<=i:=by
  unfold Wj;apply Nat.le_of_not_lt;intro a;have:=List.not_of_lt_findIdx a;simp only[Wc,xi c,XQ]at b;simp[b]at this
 omega
def aS(h:Wj n ls<ls.length):(ls.getD (Wj n ls) L0).id=n:=by
 have a:(ls[Wj n ls]'h).id=n:=Yi.1 (List.findIdx_getElem (xs:=ls) (p:=λl:L=>l.id==n) (w:=h));simp only[Wc,xi h,XQ];exact a
def cY(h:(if Wj n ls<ls.length then 5 else if 30<=ls.length then 6 else 0)=0):∀i,i<ls.length->(ls.getD i L0).id≠n:=by
 apply qO
 intro a;rw[xh a]at h;omega
def Zd(f:Nat->Bool)(l:L):Nat->Bool:=λn=>f n||(n==l.id&&l.par.any (λp=>f p.1))
def kK(ls:List L)(f:Nat->Bool):Nat->Bool:=ls.foldl Zd f
def Ps(rj:List (Nat×Nat)):Nat->Bool:=λn=>rj.any (λp=>n==p.1)
def cI(rj:List (Nat×Nat))(ls:List L):Nat->Bool:=kK ls (Ps rj)
def jA(ls:List L)(n:Nat):Nat->Bool:=kK ls (λm=>m==n)
def pW(l:L)(ls:List L)(f:Nat->Bool):kK (l::ls) f=kK ls (Zd f l):=rfl
def IW(ls:List L)(l:L)(f:Nat->Bool):kK (ls++[l]) f=Zd (kK ls f) l:=by simp[kK]
def OT{α:Type}(f g:α->Bool):∀l:List α,l.any (λx=>f x||g x)=(l.any f||l.any g)
 |[]=>rfl
 |x::l=>by simp only[xaF,OT f g l];cases f x<;>cases g x<;>simp
def Gd(f g:Nat->Bool)(l:L):Zd (λn=>f n||g n) l=λn=>Zd f l n||Zd g l n:=by
 funext n
 simp only[Zd,OT]
 cases f n<;>cases g n<;>cases (n==l.id)<;>simp
def Qo(ls:List L):∀(f g:Nat->Bool),kK ls (λn=>f n||g n)=λn=>kK ls f n||kK ls g n:=by
 induction ls with
 |nil=>intro f g;rfl
 |cons l ls ih=>intro f g;simp only[pW,Gd,ih]
def Gc(l:L):Zd (λ_=>false) l=λ_=>false:=by
 funext n;simp[Zd]
def Qm(ls:List L):kK ls (λ_=>false)=λ_=>false:=by
 induction ls with
 |nil=>rfl
 |cons l ls ih=>rw[pW,Gc,ih]
def Fs(ls:List L)(n:Nat):∀rj:List (Nat×Nat),cI rj ls n=rj.any (λp=>jA ls p.1 n)
 |[]=>by
  have:Ps []=λ_=>false:=by funext n;rfl
  simp only[cI,this,Qm,List.any_nil]
 |p::r=>by
  have e:Ps (p::r)=λn=>(n==p.1)||Ps r n:=by funext n;simp[Ps]
  simp only[cI,e,Qo,xaF];have a:=Fs ls n r;simp only[cI]at a;rw[a];rfl
structure Fam(ls:List L):Prop where
 ids:∀i j,i<ls.length->j<ls.length->(ls.getD i L0).id=(ls.getD j L0).id->i=j
 par:∀i,i<ls.length->∀p∈(ls.getD i L0).par,∃j,j<i/\(ls.getD j L0).id=p.1
variable {F f:Nat->Bool}
def nY(a:i<ls.length):kK (ls.take (i+1)) f=Zd (kK (ls.take i) f) (ls.getD i L0):=by
 rw[xn a,IW];simp[Wc,a]
def Ey(b:i<=j)(c:j<=ls.length)(h:kK (ls.take i) f n=true):kK (ls.take j) f n=true:=by
 induction j with
 |zero=>
  obtain rfl:i=0:=by omega
  exact h
 |succ j ih=>
  by_cases a:i=j+1
  ·subst a;exact h
  rw[nY (by omega)];simp only[Zd,ih (by omega) (by omega),Bool.true_or]
def MX(hF:Fam ls){f:Nat->Bool}{n i j:Nat}(c:i<ls.length)(g:(ls.getD i L0).id=n)(d:i<j)(k:j<=ls.length)(h:kK (ls.take j) f n=true):kK (ls.take (i+1)) f n=true:=by
 induction j with
 |zero=>omega
 |succ j ih=>
  by_cases b:i=j
  ·subst b;exact h
  rw[nY (by omega)]at h;have a:(n==(ls.getD j L0).id)=false:=by
   rw[xr];intro e;exact b (hF.ids i j c (by omega) (by rw[g,e]))
  simp only[Zd,a,xaA,xaj]at h;exact ih (by omega) (by omega) h
def Ge(hF:Fam ls)(f:Nat->Bool){i:Nat}(d:i<ls.length){p:Nat×Nat}(e:p∈(ls.getD i L0).par)(h:kK ls f p.1=true):kK ls f (ls.getD i L0).id=true:=by
 obtain⟨j,m,b⟩:=hF.par i d p e;have a:ls.take ls.length=ls:=Xs;rw[<-a]at h;have g:=MX hF (by omega) b (by omega:j<ls.length) (xe _) h;have k:=Ey (show j+1<=i by omega) (by omega) g;have l:kK (ls.take (i+1)) f (ls.getD i L0).id=true:=by
  rw[nY d];have:(ls.getD i L0).par.any (λp=>kK (ls.take i) f p.1)=true:=xal.2 ⟨p,e,k⟩;simp only[Zd,this,xch,xcy,Bool.or_true]
 have c:=Ey (show i+1<=ls.length by omega) (xe _) l;rw[a]at c;exact c
def ZD(out:List Nat)(l:L):List Nat:=if !(out.contains l.id)&&l.par.any (λp=>out.contains p.1) then out++[l.id] else out
def jD(ls:List L)(out:List Nat):List Nat:=ls.foldl ZD out
def kJ(ls:List L)(n:Nat):List Nat:=jD ls [n]
def wB(l:List Nat)(x n:Nat):(l++[x]).contains n=(l.contains n||n==x):=by
 rw[Ys];simp
def CA(out:List Nat)(l:L)(n:Nat):(ZD out l).contains n=Zd (λm=>out.contains m) l n:=by
 unfold ZD Zd
 cases b:out.contains l.id with
 |true=>
  simp only[Bool.not_true,xaA,XV,YF];by_cases a:n=l.id
  ·subst a;rw[b];rfl
  have:(n==l.id)=false:=by simpa using a
  rw[this];simp
 |false=>
  cases c:l.par.any (λp=>out.contains p.1) with
  |true=>simp only[xbP,xcy,Yo,wB,xbz]
  |false=>simp only[xbP,xaJ,XV,YF,xaj]
def MK(ls:List L):∀(out:List Nat) (n:Nat),(jD ls out).contains n=kK ls (λm=>out.contains m) n:=by
 induction ls with
 |nil=>intro out n;rfl
 |cons l ls ih=>
  intro out n;show(jD ls (ZD out l)).contains n=kK ls (Zd (λm=>out.contains m) l) n;rw[ih];congr 1;funext m;exact CA out l m
def jB(ls:List L)(n m:Nat):(kJ ls n).contains m=jA ls n m:=by
 have e:(λm=>[n].contains m)=λm=>m==n:=by funext m;rw[Ys];simp
 rw[kJ,MK,e];rfl
def fN{out:List Nat}(a:i<ls.length):jD (ls.take (i+1)) out=ZD (jD (ls.take i) out) (ls.getD i L0):=by
 rw[xn a,jD,xbl];show ZD (jD (ls.take i) out) ls[i]=_;simp[Wc,a]
def tR{ls:List L}{out:List Nat}(h:∀i,i<ls.length->∀p∈(ls.getD i L0).par,out.contains p.1=true->out.contains (ls.getD i L0).id=true):∀i,i<=ls.length->jD (ls.take i) out=out
 |0,_=>by simp[jD]
 |i+1,hi=>by
  rw[fN (by omega),tR h i (by omega)];unfold ZD
  cases a:(ls.getD i L0).par.any (λp=>out.contains p.1) with
  |false=>simp only[xaJ,XV,YF]
  |true=>
   obtain⟨p,c,b⟩:=xal.1 a;rw[h i (by omega) p c b];rfl
def Cy(hF:Fam ls)(n:Nat):∀i,i<ls.length->∀p∈(ls.getD i L0).par,(kJ ls n).contains p.1=true->(kJ ls n).contains (ls.getD i L0).id=true:=by
 intro i a p b h;rw[jB]at h ⊢;exact Ge hF _ a b h
def tP(hF:Fam ls)(n:Nat){i:Nat}(a:i<=ls.length):jD (ls.take i) (kJ ls n)=kJ ls n:=tR (Cy hF n) i a
def jE(ls:List L)(out:List Nat):∀i,i<=ls.length->(jD (ls.take i) out).length<=out.length+i
 |0,_=>by simp[jD]
 |i+1,hi=>by
  have:=jE ls out i (by omega)
  rw[fN (by omega)];unfold ZD;split
  ·simp;omega
  omega
def Fam.set{ls:List L}(h:Fam ls){i:Nat}(n:i<ls.length){l:L}(r:l.id=(ls.getD i L0).id)(s:l.par=(ls.getD i L0).par):Fam (ls.set i l):=by
 have c:∀j,((ls.set i l).getD j L0).id=(ls.getD j L0).id:=λj=>by
  by_cases d:j=i
  ·subst d;rw[<-r];simp[Wc,XB,n]
  simp[Wc,XB,Yl d]
 have g:∀j,((ls.set i l).getD j L0).par=(ls.getD j L0).par:=λj=>by
  by_cases d:j=i
  ·subst d;rw[<-s];simp[Wc,XB,n]
  simp[Wc,XB,Yl d]
 refine⟨λa b f k m=>?_,λa f p q=>?_⟩
 ·rw[xq]at f k;rw[c,c]at m;exact h.ids a b f k m
 rw[xq]at f;rw[g]at q;obtain⟨j,d,e⟩:=h.par a f p q;exact⟨j,d,by rw[c];exact e⟩
def Fam.snoc(h:Fam ls){l:L}(s:∀i,i<ls.length->(ls.getD i L0).id≠l.id)(t:∀p∈l.par,∃j,j<ls.length/\(ls.getD j L0).id=p.1):Fam (ls++[l]):=by
 have d:∀i,i<ls.length->(ls++[l]).getD i L0=ls.getD i L0:=λi v=>by simp[Wc,XH v]
 have k:(ls++[l]).getD ls.length L0=l:=by simp[Wc]
 have g:(ls++[l]).length=ls.length+1:=by simp
 refine⟨λa b r u m=>?_,λa r p q=>?_⟩
 ·rw[g]at r u;by_cases c:a<ls.length
  ·by_cases f:b<ls.length
   ·rw[d a c,d b f]at m;exact h.ids a b c f m
   obtain rfl:b=ls.length:=by omega
   rw[d a c,k]at m;exact absurd m (s a c)
  obtain rfl:a=ls.length:=by omega
  by_cases f:b<ls.length
  ·rw[d b f,k]at m;exact absurd m.symm (s b f)
  omega
 rw[g]at r;by_cases c:a<ls.length
 ·rw[d a c]at q;obtain⟨j,n,e⟩:=h.par a c p q;exact⟨j,n,by rw[d j (by omega)];exact e⟩
 obtain rfl:a=ls.length:=by omega
 rw[k]at q;obtain⟨j,n,e⟩:=t p q;exact⟨j,n,by rw[d j n];exact e⟩
def IX:Fam []:=⟨λi j h=>absurd h (by simp),λi h=>absurd h (by simp)⟩
def Rb{l':L}(b:l'.par=(ls.getD i L0).par)(j:Nat):((ls.set i l').getD j L0).par=(ls.getD j L0).par:=by
 by_cases a:j=i
 ·subst a;by_cases c:j<ls.length
  ·rw[<-b];simp[Wc,XB,c]
  rw[xad (by omega)]
 simp[Wc,XB,Yl a]
def OA:prog.underlying 244=some (.map 2 206):=by kernel_rfl
def Sa:(prog.info? 206).map (λi=>i.zero)=some (some (.agg #[])):=by kernel_rfl
def rQ(w:World):(zeroValue 206).run prog w=.ok (.agg #[]) w:=by
 have h:=Sa
 cases a:prog.info? 206 with
 |none=>rw[a]at h;cases h
 |some i=>
  rw[a]at h;simp at h;simp[zeroValue,typeInfo,a,h]
def iC(w:World)(b n:Nat)(D:DataW Unit):Prop:=w.ownsMap prog 2 (unitElem (H:=Unit)) b n D
def FD(f:Nat->Bool)(D:DataW Unit):Prop:=∀n:Nat,n<=2147483647->Maps.has D (dT n)=f n
def NM(n:Nat):WideAt.IsKeyLit (dT n):=trivial
def FD.put{f:Nat->Bool}{D:DataW Unit}(h:FD f D)(c:Maps.IsMap D)(n:Nat)(d:DataW Unit):FD (λx=>f x||x==n) (D.put (dT n) d):=λm b=>by
 by_cases a:m=n
 ·subst a;rw[xbn c (NM _)];simp
 rw[xao (λe=>a (gP e)),h m b];have:(m==n)=false:=by simpa using a
 show f m=(f m||m==n);rw[this,xaj]
def xE{a N:Nat}(h:iC w a N D)(b:n<=2147483647):(Instr.lookup 244 (.map (some a)) (.int .i64 n) true).run prog w=.ok (.tuple #[.agg #[],.bool (Maps.has D (dT n))]) w:=by
 obtain⟨v,ps,c,d⟩:=xaG h AV OA (rQ w) xaZ (qS b);obtain⟨rfl,_⟩:=xco d;exact c
def Jn{a N:Nat}(d:iC w a N D)(f:n<=2147483647)(g:w.cell? ⟨b,0,none⟩=some (.int .i64 n)):Calls prog 158 #[.map (some a),.pointer (some ⟨b,0,none⟩)] w λe w'=>e=.returned (.bool (Maps.has D (dT n)))/\Below w.heap.size w w':=by
 have c:=xE d f;generalize Maps.has D (dT n)=bb at *;go_enter func158,ntmps158;go_wp2_with fail;go_ret;exact⟨rfl,VE w _⟩
def gj(F:Nat->Bool)(l:L)(j:Nat):Nat->Bool:=λx=>F x||(x==l.id&&(l.par.take j).any (λp=>F p.1))
def Jk(F:Nat->Bool)(l:L):gj F l 0=F:=by funext x;simp[gj]
def Pf(F:Nat->Bool)(l:L):gj F l l.par.length=Zd F l:=by funext x;simp[gj,Zd]
def Ek(a:j<ps.length):(ps.take (j+1)).any (λp=>F p.1)=((ps.take j).any (λp=>F p.1)||F (ps.getD j (0,0)).1):=by
 rw[xn a,xct];simp[Wc,a]
def SP{l:L}(a:j<l.par.length)(h:gj F l j (l.par.getD j (0,0)).1=true):gj F l (j+1)=λx=>gj F l j x||x==l.id:=by
 funext x
 simp only[gj,Ek a]at h ⊢
 cases hF:F (l.par.getD j (0,0)).1 with
 |true=>cases F x<;>cases (x==l.id)<;>cases ((l.par.take j).any (λp=>F p.1))<;>simp
 |false=>
  rw[hF]at h;simp only[xbY,XK]at h;rw[h.2]
  cases F x<;>cases (x==l.id)<;>simp
def Qu{l:L}(a:j<l.par.length)(h:gj F l j (l.par.getD j (0,0)).1=false):gj F l (j+1)=gj F l j:=by
 funext x
 simp only[gj,Ek a]at h ⊢;simp only[xat]at h;rw[h.1,xaj]
def Prs.cells(h:Prs t w pv ps)(b:0<ps.length):∃q cap,pv=.slice (some ⟨q,0,none⟩) ps.length cap/\q<w.heap.size/\∀j,j<ps.length->w.cell? ⟨q,j*2,none⟩=some (.int .i64 ((ps.getD j (0,0)).1:Int))/\w.cell? ⟨q,j*2+1,none⟩=some (.int .i64 ((ps.getD j (0,0)).2:Int)):=by
 rcases h with ⟨_,h⟩|⟨q,cap,i,c,a,d⟩
 ·rw[h]at b;simp at b
 refine⟨q,cap,c,zc a,λj g=>?_⟩;obtain⟨e,f⟩:=d j g;rw[za a,za a,xbg];exact⟨e,f⟩
def PV.fam(h:PV os rj w S M v td bs pvs ls){d:Nat}(C:∃x c,w.heap[d]?=some (.map x c))(b:d≠M.r/\d≠M.o/\d≠M.h)(m:w.grownBy w' (some d)):PV os rj w' S M v td bs pvs ls:=by
 obtain⟨y,u,p⟩:=C;have l:∀(k:Nat) (j:Array Value) (t:TypeId),w.heap[k]?=some (.cells j t (0,0))->w'.heap[k]?=w.heap[k]?:=λk j t s=>m.block k (zc s) (λe=>zX s p (xt e))
 obtain⟨_,_,z⟩:=h.maps.mr;obtain⟨_,_,A⟩:=h.maps.mo;obtain⟨_,_,B⟩:=h.maps.mh;exact {
  store:=(l _ _ _ h.store).trans h.store
  maps:=h.maps.congr3 (m.block _ (zc z) (λe=>b.1 (xt e).symm)) (m.block _ (zc A) (λe=>b.2.1 (xt e).symm)) (m.block _ (zc B) (λe=>b.2.2 (xt e).symm))
  row:=zd h.row (λg n=>by obtain⟨j,a⟩:=zh h.row n;exact l _ _ _ a)
  len:=h.len
  plen:=h.plen
  lot:=λi f=>(l _ _ _ (h.lot i f)).trans (h.lot i f)
  par:=λi f=>(h.par i f).congr (λq D=>by obtain⟨j,a⟩:=(h.par i f).blk D;exact l _ _ _ a)
  nodup:=h.nodup
  today:=h.today
  ok:=h.ok
  room:=h.room }
def Nd{a b:World}{row:Option Nat}(h:a.grownBy b row)(o:Obj):a.grownBy (b.alloc o) row:=h.andThen (World.grownBy_alloc b o none) (λj h=>by cases h)
def EH(h:PV os rj w S M v td bs pvs ls){R N:Nat}{D:DataW Unit}{f:Nat->Bool}(hm:iC w R N D)(hf:FD f D)(hN:N<=1000)(c6:R≠M.r/\R≠M.o/\R≠M.h):Calls prog 183 #[.pointer (some ⟨S,0,none⟩),.map (some R)] w λe w'=>e=.returned (.tuple #[])/\w.grownBy w' (some R)/\∃N' D',iC w' R N' D'/\FD (kK ls f) D':=by
 obtain⟨a,cap,hv,_⟩:=h.shape;have c1:=h.c1;rw[hv]at c1;have e3:=h.room;have HV:=zb hv;have HP:=zb h;have HM:=zb hm;have HF:=zb hf;have HE:=zb c6;clear h hv hm hf c6;go_enter func183,ntmps183;go_wp2_with fail;go_loopw [15] (λi wr=>∃(k n:Nat) (Dk:DataW Unit),k<=ls.length/\i=.int .i64 k/\n<=N+2*k/\iC wr R n Dk/\FD (kK (ls.take k) f) Dk/\w.grownBy wr (some R)) (λi _=>ls.length-(intOf i).toNat)
 case atStart=>exact⟨0,N,D,by omega,rfl,by omega,HM,HF,⟨rfl,rfl,rfl,xe _,λ_ _ _=>rfl⟩⟩
 obtain⟨k,n,Dk,hk,rfl,hn,s,B,a0⟩:=hrel;by_cases C:k<ls.length
 ·have A:=HP.fam (ZP HM) HE a0;obtain⟨a2,cap2,c9,a5⟩:=A.shape;rw[HV.o]at c9;obtain⟨d6,-,b1⟩:=Value.slice.inj c9;subst d6 b1;obtain⟨G,hG,z⟩:=a5 (by omega);rw[hG];have d8:=z k C;have b3:wr.cell? ⟨bs.getD k 0,0,none⟩=some (.int .i64 ((ls.getD k L0).id:Int)):=by rw[A.cl k C 0];rfl
  have b2:wr.cell? ⟨bs.getD k 0,4,none⟩=some (pvs.getD k default):=by rw[A.cl k C 4];rfl
  have u:=A.par k C;have Q:=A.ok _ (zf C);have X:=zb (nY (f:=f) C);obtain⟨l,HL⟩:=Ww (ls.getD k L0);rw[<-HL.o]at u Q X b3;have d9:=Q.id;have e1:=Q.par.1;have d5:=zb Q.par.2;obtain⟨b,HB⟩:=Ww (bs.getD k 0);rw[<-HB.o]at b2 d8 b3;obtain⟨e6,Z⟩:∃cs,wr.heap[b]?=some (.cells cs 231 (0,0)):=⟨_,by rw[HB.o];exact A.lot k C⟩
  have b5:=zb Z;obtain⟨F,b7⟩:=Ww (kK (ls.take k) f);rw[<-b7.o]at B X;by_cases h0:l.par.length=0
  ·have e2:l.par=[]:=XD.1 h0;have a4:pvs.getD k default=.slice none 0 0\/∃q c,pvs.getD k default=.slice (some ⟨q,0,none⟩) 0 c:=by
    rcases u with ⟨h1,_⟩|⟨q,c,cs,h1,_⟩
    ·exact Or.inl h1
    exact Or.inr ⟨q,c,by rw[h1,h0]⟩
   have b6:Ha (Zd F l=F):=by unfold Ha;rw[<-Pf,e2];exact Jk F l
   generalize pvs.getD k default=pv at *;have HO:=zb s;have HD:=zb B;clear z hG a5 A u s B Q Z;rcases a4 with rfl|⟨q,c,rfl⟩
   ·go_wp2_with fail;refine YM 1 ?_;rw[xar]
    go_wp2_with fail;go_roundw
    case rel=>exact⟨k+1,n,Dk,by omega,by go_num,by omega,HO,by rw[X.o,b6.o];exact HD,a0⟩
    simp[intOf];omega
   go_wp2_with fail;refine YM 1 ?_;rw[xar]
   go_wp2_with fail;go_roundw
   case rel=>exact⟨k+1,n,Dk,by omega,by go_num,by omega,HO,by rw[X.o,b6.o];exact HD,a0⟩
   simp[intOf];omega
  obtain⟨q,qc,a4,e5,c8⟩:=Prs.cells u (by omega);obtain⟨e7,a8⟩:=u.blk (q:=q) (by rw[a4];rfl);rw[a4]at b2;have HO:=zb s;have HD:=zb B;have HQ:=zb a8;have b8:=zb c8;have d2:=zb (Pf F l);obtain⟨m,K⟩:=Ww l.par.length;rw[<-K.o]at b2 e1 h0;clear z hG a5 A u s B Q Z a8 c8 a4;go_wp2_with fail;obtain⟨wk,rfl⟩:∃wk,wk=wr:=⟨wr,rfl⟩
  go_loopw [24] (λi w3=>∃(j n3:Nat) (D3:DataW Unit),j<=m/\i=.int .i64 j/\n3<=n+j/\iC w3 R n3 D3/\FD (gj F l j) D3/\wk.grownBy w3 (some R)) (λi _=>m-(intOf i).toNat)
  case atStart=>exact⟨0,n,Dk,by omega,rfl,by omega,HO,by rw[Jk];exact HD,⟨rfl,rfl,rfl,xe _,λ_ _ _=>rfl⟩⟩
  obtain⟨j,n3,D3,hj,rfl,e8,g,p,J⟩:=hrel;have d:∀(b':Nat) (cs:Array Value) (t:TypeId),wk.heap[b']?=some (.cells cs t (0,0))->wr.heap[b']?=wk.heap[b']?:=λb' cs t b9=>J.block b' (zc b9) (λe=>by
   obtain⟨es,c,e0⟩:=ZP HO;exact zX b9 e0 (xt e))
  by_cases a1:j<m
  ·have a7:=d _ _ _ HQ;have e9:wr.cell? ⟨q,j*2,none⟩=some (.int .i64 ((l.par.getD j (0,0)).1:Int)):=(xo (a:=⟨q,j*2,none⟩) a7).trans (b8 j (by rw[<-K.o];exact a1)).1;have f0:wr.cell? ⟨q,j*2+1,none⟩=some (.int .i64 ((l.par.getD j (0,0)).2:Int)):=(xo (a:=⟨q,j*2+1,none⟩) a7).trans (b8 j (by rw[<-K.o];exact a1)).2;have a6:=d _ _ _ b5;have e4:wr.cell? ⟨b,0,none⟩=some (.int .i64 l.id):=(xo (a:=⟨b,0,none⟩) a6).trans b3;have d7:=zc (a6.trans b5);have c7:(l.par.getD j (0,0)).1<=2147483647:=d5.o _ (by rw[Wc,xi (by rw[<-K.o];exact a1)];simp);have c5:j<l.par.length:=by rw[<-K.o];exact a1
   have HJ:Ha (FD (gj F l j) D3):=p;have P:=p _ c7;have W:=zb g;have T:=zb (SP (F:=F) c5);have E:=zb (Qu (F:=F) c5);have b4:=λo=>xE (World.ownsMap.alloc g o) c7
   have d3:=zb d
   cases hc:gj F l j (l.par.getD j (0,0)).1 with
   |false=>
    rw[hc]at P;rw[P]at b4;have b0:=zb (E hc);generalize (l.par.getD j (0,0)).1=x at *;generalize (l.par.getD j (0,0)).2=y at *;clear T E p g d hc P a7 a6;go_wp2_with fail;go_roundw
    case rel=>exact⟨j+1,n3,D3,by omega,by go_num,by omega,(W.alloc _).alloc _,by rw[b0.o];exact HJ,Nd (Nd J _) _⟩
    simp[intOf];omega
   |true=>
    rw[hc]at P;rw[P]at b4;have b0:=zb (T hc);generalize (l.par.getD j (0,0)).1=x at *;generalize (l.par.getD j (0,0)).2=y at *;clear T E p g d hc P a7 a6;go_wp2_with (at_mapUpdate;refine wpList_mapUpdate_own _ rfl _ _ _ 244 rfl 2 206 AV OA (unitElem (H:=Unit)) R n3 D3 rfl ((W.alloc _).alloc _) (by unfold maxLen;omega) _ _ _ rfl rfl (qS d9) _ [] xaZ ?_;intro w4 a3 a9);have d4:=zb a3;have d1:=zb ((Nd (Nd J _) _).andThen a9 (λq hq=>Or.inr hq));have d0:Ha (FD (gj F l (j+1)) (D3.put (dT l.id) (.agg []))):=by
     unfold Ha;rw[b0.o];exact HJ.put (xbH W) _ _
    clear a3 a9 b4;go_wp2_with fail;go_roundw
    case rel=>exact⟨j+1,n3+1,_,by omega,by go_num,by omega,d4,d0,d1⟩
    simp[intOf];omega
  obtain rfl:j=m:=by omega
  have HJ:Ha (FD (Zd F l) D3):=by unfold Ha;rw[<-d2.o,<-K.o];exact p
  have W:=zb g;clear a1 p g d;go_wp2_with fail;go_roundw
  case rel=>exact⟨k+1,n3,D3,by omega,by go_num,by omega,W,by rw[X.o];exact HJ,a0.andThen J (λq hq=>Or.inr hq)⟩
  simp[intOf];omega
 obtain rfl:k=ls.length:=by omega
 rw[Xs]at B;have HO:=zb s;have HD:=zb B;clear C s B;go_wp2_with fail;go_end0;exact⟨rfl,a0,n,Dk,HO,HD⟩
def OC:prog.underlying 114=some (.map 202 206):=by kernel_rfl
def AB(rj:List (Nat×Nat))(left:Lit->Bool):Nat->Bool:=λn=>rj.any (λp=>n==p.1&&!(left (cG p.1 p.2)))
def IL{left:Lit->Bool}(h:∀a,left a=false):AB rj left=Ps rj:=by
 funext n;simp[AB,Ps,h]
def CI(d:RD rj D)(e:Rc rj):AB rj (Maps.has D)=λ_=>false:=by
 funext n
 rw[AB,Yn];intro p a;obtain⟨b,c⟩:=e.fits p a;rw[d.has p.1 p.2 b c];have:rj.contains (p.1,p.2)=true:=by rw[XW];exact a
 rw[this];simp
def Ga(g:Rc rj){left:Lit->Bool}{p:Nat×Nat}(i:p∈rj)(t:left (cG p.1 p.2)=true):AB rj (λz=>left z&&!z.sameKey (cG p.1 p.2))=λn=>AB rj left n||n==p.1:=by
 funext n
 have a:(cG p.1 p.2).sameKey (cG p.1 p.2)=true:=by simp[cG,Lit.sameKey]
 have c:∀q∈rj,q≠p->(cG q.1 q.2).sameKey (cG p.1 p.2)=false:=λq b f=>xcs (λe=>f (by
  obtain⟨j,k⟩:=g.fits q b;obtain⟨l,m⟩:=g.fits p i;obtain⟨r,s⟩:=gO j k l m e;exact Prod.ext r s))
 rw[Ys];simp only[AB,xal,YB,XK,Yi,xbk,YX];constructor
 ·rintro⟨q,b,rfl,h⟩;by_cases d:q=p
  ·right;rw[d]
  left
  refine⟨q,b,rfl,?_⟩;rcases h with h|h
  ·exact h
  rw[c q b d]at h;cases h
 rintro(⟨q,b,rfl,h⟩|rfl)
 ·exact⟨q,b,rfl,Or.inl h⟩
 exact⟨p,i,rfl,Or.inr (by rw[a];rfl)⟩
def AW{c:Value}{d:Lit}(h:keyOf prog 202 c=some d){a b:Nat}(e:a<=2147483647)(f:b<=2147483647)(g:d=cG a b):c=.agg #[.int .i64 a,.int .i64 b]:=by
 subst g;exact Ib.inj h (JK e f)
def Dt{j:Array Oper}{e:List Oper}{o:Oper}{a:Act}{Q:Exit->Act->World->Prop}(N:Rc rj){D:DataW Unit}(M:RD rj D)(R:o.guard=none)(J:Operand)(m:o.op=Op.next J false)(b r n:Nat)(left:Lit->Bool)(cnt:Nat)
  (hit:a.eval J=.pointer (some ⟨r,0,none⟩)) (q:∀i,left i=true->Maps.has D i=true) (h:w.ranges prog 202 (unitElem (H:=Unit)) b r n D left cnt)
  (f:cnt=0->(∀i,left i=false)->wpList prog j Q e (a.put o.dst (.tuple #[.bool false])) w)
  (g:∀(x y:Nat) (w':World) (c:Nat),(x,y)∈rj->left (cG x y)=true->w'.ranges prog 202 (unitElem (H:=Unit)) b r n D (λz=>left z&&!z.sameKey (cG x y)) c->c<cnt->w.grownBy w' (some r)->w'.heap.size=w.heap.size ->
   (Instr.entry (.pointer (some ⟨r,0,none⟩))).run prog w'=.ok (.tuple #[.agg #[.int .i64 x,.int .i64 y],.agg #[]]) w'->wpList prog j Q e (a.put o.dst (.tuple #[.bool true,.agg #[.int .i64 x,.int .i64 y],.agg #[]])) w') :
  wpList prog j Q (o::e) a w:=by
 refine wpList_plain R λX k=>?_
 unfold Oper.wp;rcases h.next Ib o.type with ⟨K,S,d⟩|⟨W,v,i,y,w',c,cG,l,T,P,d,E,A,t,F,s⟩
 ·simp[execOp,m,hit,d,Result.andThen];exact k _ _ (f K S)
 obtain⟨p,G,rfl⟩:=M.keys i (q i l);obtain⟨B,C⟩:=N.fits p G;have u:=AW cG B C rfl;subst u;obtain⟨rfl,_⟩:=xco T;simp[execOp,m,hit,d,Result.andThen];exact k _ _ (g p.1 p.2 w' c G l E A t F s)
def mU(h:PV os rj w S M v td bs pvs ls):Calls prog 157 #[.pointer (some ⟨S,0,none⟩)] w λe w'=>Below w.heap.size w w'/\∃Mf N D,e=.returned (.map (some Mf))/\iC w' Mf N D/\FD (cI rj ls) D/\w.heap.size<=Mf:=by
 have c7:=@xbT prog;obtain⟨D,hD,J⟩:=h.maps.r;have P:=h.maps.rc;have i:=VE w (Obj.map #[] 0);have hS:=zc h.store;have c4:(w.alloc (.map #[] 0)).cell? ⟨S,4,none⟩=some (.map (some M.r)):=(i.cell (by exact hS)).trans h.c4;have a2:yU (w.alloc (.map #[] 0)) M.r (Maps.size D) D:=zu hD (i.block M.r (XG hD));have c5:=XG hD;have b9:M.o<w.heap.size:=by obtain⟨_,_,q⟩:=h.maps.mo;exact zc q
 have b8:M.h<w.heap.size:=by obtain⟨_,_,q⟩:=h.maps.mh;exact zc q
 have a3:iC (w.alloc (.map #[] 0)) w.heap.size 0 (.map []):=World.ownsMap_made _ _ _ _;have c9:Maps.size D<=10:=by rw[J.size];exact P.len
 have HP:=zb h;have a0:=zb J;have g:=zb P;have T:=zb a2;have W:=zb a3;clear h hD a2 J P a3;go_enter func157,ntmps157;go_wp2_with (at_range;refine wpList_range_own _ rfl _ 114 rfl 202 206 Ib OC _ M.r (Maps.size D) D rfl T ?_;intro w0 t a b6);go_frame;have A:(w.alloc (.map #[] 0)).heap.size=w.heap.size+1:=by simp
 generalize hr:(w.alloc (Obj.map #[] 0)).heap.size=r at *;have j:=zb t;have C:Ha (Below w.heap.size w w0/\iC w0 w.heap.size 0 (.map [])):=by
  refine⟨⟨a.os,a.tape,a.output,by omega,λk K=>?_⟩,zu W (a.block _ (by rw[hr];omega) (by simp))⟩;rw[a.block k (by rw[hr];omega) (by simp)];exact i.block k K
 have f:=zb A;clear t a b6 i T c4 hr A;go_loopw [4] (λ_ wr=>∃(left:Lit->Bool) (cnt n:Nat) (Q:DataW Unit),wr.ranges prog 202 (unitElem (H:=Unit)) M.r r (Maps.size D) D left cnt/\(∀kl,left kl=true->Maps.has D kl=true)/\n+cnt<=Maps.size D/\iC wr w.heap.size n Q/\FD (AB rj left) Q/\Below w.heap.size w wr) (λ_ wr=>wr.rangeLeft M.r r)
 case atStart=>exact⟨_,_,0,.map [],j,λkl h=>h,by omega,C.2,(by rw[CI a0.o g.o];intro n _;rfl),C.1⟩
 obtain⟨left,cnt,n,Q,b0,z,hn,s,a6,hb⟩:=hrel;have HO:=zb s;have X:=zb a6;have R:=zb hb;have G:=zb b0;have m:=zb z;clear s a6 hb b0 z j C W;go_wp2_with (at_next;refine Dt g a0 rfl _ rfl M.r r (Maps.size D) left cnt rfl m G ?_ ?_)
 ·intro _ b4;have HE:Ha (FD (Ps rj) Q):=by unfold Ha;rw[<-IL b4];exact X
  have a4:=R.o;have HG:=zb (EH (HP.below a4) HO HE (by omega) ⟨by omega,by omega,by omega⟩);clear a4;go_wp2_with fail;refine HG.mono ?_
  rintro e w1 ⟨rfl,b,N',D',a9,a5⟩;have F:=zb a9;have B:=zb a5;have c:Ha (Below w.heap.size w w1):=R.grown b R.size (λk K=>by cases K;exact xe _);clear b a9 a5;go_wp2_with fail;go_ret;exact⟨c,w.heap.size,N',D',rfl,F,B,xe _⟩
 intro x y w1 a1 b2 b5 u a8 b b1 c6;obtain⟨hx,hy⟩:=g.fits _ b2;have l:=zb u;have c8:=G.lt;have c:Ha (Below w.heap.size w w1):=R.grown b R.size (λk K=>by cases K;have:=f.o;omega);have F:Ha (iC w1 w.heap.size n Q):=zu HO (b.block _ (XG HO) (by have:=f.o;simp;omega));have B:=zb (Ga g b2 b5);have b7:=zb b1;have Z:=zb a8;clear u b b1 a8;go_wp2_with (at_mapUpdate;refine wpList_mapUpdate_own _ rfl _ _ _ 244 rfl 2 206 AV OA (unitElem (H:=Unit)) w.heap.size n Q rfl (F.alloc _) (by unfold maxLen;omega) _ _ _ rfl rfl (qS hx) _ [] xaZ ?_;intro w4 d p);have b3:=zb d;have E:=zb p;clear d p;go_wp2_with fail;go_roundw
 case rel=>
  refine⟨_,a1,(l.alloc _).kept E (by simp;omega) (by simp;have:=f.o;omega),λkl a7=>?_,n+1,by have:=Z.o;omega,_,b3,?_,?_⟩
  ·simp only[XK]at a7;exact m kl a7.1
  ·rw[B.o];exact X.put (xbH HO) _ _
  exact(c.alloc c.size _).grown E (by have:=c.size;simp;omega) (λk K=>by cases K;exact xe _)
 rw[((l.o.alloc _).kept E.o (by simp;omega) (by simp;have:=f.o;omega)).left_eq,G.o.left_eq];exact Z
