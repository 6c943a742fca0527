import Derived.Test.YtgcedalggnmooaaGreatDoorExtX
import Derived.Deep.RegionHeld3
set_option linter.all false
set_option maxRecDepth 100000
set_option maxHeartbeats 3200000
namespace Go.Proofs.YtgcedalggnmooaaGreatDoor
open Go.RowKit
open Tryz
def xaL:=@AllReadyH.cons
def xaV:=@AllReadyH.nil
def xbo:=@wpAnyH_ready
def zo(l:L)(f:Value):List Value :=
 [.int .i64 l.id,.int .i64 l.gd,.int .i64 l.ex,.int .i64 l.place,.int .i64 l.got,.int .i64 l.free,.int .i64 l.hd,.int .i64 l.sh,.int .i64 l.sc,.int .i64 l.gv,f]
def tY:List L->List Value->List Value
 |l::ls,f::fs=>zo l f++tY ls fs
 |_,_=>[]
def EC:∀(ls:List L) (a:List Value),a.length=ls.length->(tY ls a).length=ls.length*11
 |[],[],_=>rfl
 |[],_::_,h=>by simp at h
 |_::_,[],h=>by simp at h
 |l::ls,f::a,h=>by
  have:=EC ls a (by simpa using h)
  simp only[tY,xc,this,zo,List.length_cons,XO];omega
def CL:∀(ls:List L) (a:List Value),a.length=ls.length->∀(i j:Nat),i<ls.length->j<11->(tY ls a)[i*11+j]?=(zo (ls.getD i L0) (a.getD i default))[j]?
 |[],[],_,i,_,hi,_=>by simp at hi
 |[],_::_,h,_,_,_,_=>by simp at h
 |_::_,[],h,_,_,_,_=>by simp at h
 |l::ls,f::a,h,0,j,_,hj=>by
  simp only[tY,Nat.zero_mul,Yz,xay];rw[XH (by simpa [zo] using hj)]
 |l::ls,f::a,h,i+1,j,hi,hj=>by
  have b:=CL ls a (by simpa using h) i j (by simpa using hi) hj;have e:(i+1)*11+j=(zo l f).length+(i*11+j):=by simp[zo];omega
  simp only[tY,List.getD_cons_succ];rw[e,Yc (by omega),xci,b]
def qB:∀(ls:List L) (c:List Value) (l:L) (f:Value),c.length=ls.length->tY (ls++[l]) (c++[f])=tY ls c++zo l f
 |[],[],l,f,_=>by simp[tY]
 |[],_::_,_,_,h=>by simp at h
 |_::_,[],_,_,h=>by simp at h
 |a::ls,b::c,l,f,h=>by
  have:=qB ls c l f (by simpa using h)
  simp only[XS,tY,this,yc]
def Sh(v:Value):Prop:=∃a n c,v=.slice a n c
structure Ro where
 ov:Value
 lvs:List Value
 rv:Value
 fvs:List Value
 pss:List (List (Nat×Nat))
def O0:O:=⟨0,0,[]⟩
def bJ:List O->List Value->List Value
 |o::os,f::fs=>.int .i64 o.id::.int .i64 o.gd::f::bJ os fs
 |_,_=>[]
def zl:List (Nat×Nat)->List Value
 |p::ps=>.int .i64 p.1::.int .i64 p.2::zl ps
 |_=>[]
def PB(ro:Ro)(g:Nat):Prop:=∃i,i<ro.fvs.length/\(ro.fvs.getD i default).ownBlock=some g
def FB(ro:Ro)(g:Nat):Prop:=ro.rv.ownBlock=some g\/PB ro g
def LB(ro:Ro)(g:Nat):Prop:=∃i,i<ro.lvs.length/\(ro.lvs.getD i default).ownBlock=some g
structure Fd(rj:List (Nat×Nat))(ro:Ro)(w:World):Prop where
 rrow:w.ownsRow 0 181 2 ro.rv rj.length (zl rj)
 flen:ro.fvs.length=ro.pss.length
 frm:∀i,i<ro.fvs.length->Prs 181 w (ro.fvs.getD i default) (ro.pss.getD i [])
 apart:∀g,ro.rv.ownBlock=some g->¬LB ro g/\¬PB ro g
structure Od(os:List O)(rj:List (Nat×Nat))(ro:Ro)(w:World):Prop where
 row:w.ownsRow 0 132 3 ro.ov os.length (bJ os ro.lvs)
 llen:ro.lvs.length=os.length
 li:∀i,i<os.length->w.ownsRow 0 181 2 (ro.lvs.getD i default) (os.getD i O0).li.length (zl (os.getD i O0).li)
 fd:Fd rj ro w
def OB(ro:Ro)(g:Nat):Prop:=ro.ov.ownBlock=some g\/LB ro g\/FB ro g
def Fd.congr{rj:List (Nat×Nat)}{ro:Ro}{w w':World}(h:Fd rj ro w)(c:∀g,FB ro g->w'.heap[g]?=w.heap[g]?):Fd rj ro w':={
 rrow:=zd h.rrow (λg a=>c g (Or.inl a))
 flen:=h.flen
 frm:=λi b=>(h.frm i b).congr (λg a=>c g (Or.inr ⟨i,b,a⟩))
 apart:=h.apart}
variable {rj:List (Nat×Nat)}{ro:Ro}{w w' w2:World}
def Fd.ty(h:Fd rj ro w){g:Nat}(a:FB ro g):∃b,w.heap[g]?=some (.cells b 181 (0,0)):=by
 rcases a with a|⟨i,c,a⟩
 ·exact zh h.rrow a
 exact(h.frm i c).blk a
def Od.congr{rj:List (Nat×Nat)}{os:List O}{ro:Ro}{w w':World}(h:Od os rj ro w)(b:∀g,OB ro g->w'.heap[g]?=w.heap[g]?):Od os rj ro w':={
 row:=zd h.row (λg a=>b g (Or.inl a))
 llen:=h.llen
 li:=λi c=>zd (h.li i c) (λg a=>b g (Or.inr (Or.inl ⟨i,by rw[h.llen];exact c,a⟩)))
 fd:=h.fd.congr (λg a=>b g (Or.inr (Or.inr a)))}
def Od.ty{rj:List (Nat×Nat)}{os:List O}{ro:Ro}{w:World}(h:Od os rj ro w){g:Nat}(b:OB ro g):∃a t,w.heap[g]?=some (.cells a t (0,0))/\(t=132\/t=181):=by
 rcases b with b|⟨i,d,b⟩|b
 ·obtain⟨a,c⟩:=zh h.row b;exact⟨a,_,c,Or.inl rfl⟩
 ·obtain⟨a,c⟩:=zh (h.li i (by rw[<-h.llen];exact d)) b;exact⟨a,_,c,Or.inr rfl⟩
 obtain⟨a,c⟩:=h.fd.ty b;exact⟨a,_,c,Or.inr rfl⟩
variable {os:List O}
def Od.lt(h:Od os rj ro w){g:Nat}(b:OB ro g):g<w.heap.size:=by
 obtain⟨c,t,a,_⟩:=h.ty b;exact zc a
def Od.ne(h:Od os rj ro w){g:Nat}(k:OB ro g){b:Nat}{a:Array Value}{t:TypeId}(i:w.heap[b]?=some (.cells a t (0,0)))(d:t≠132)(f:t≠181):g≠b:=by
 obtain⟨c,m,j,l⟩:=h.ty k;refine(zt i j (λe=>?_)).symm;rcases l with rfl|rfl
 ·exact d e
 exact f e
def zT:List (Nat×Nat)->List (Nat×Nat)
 |[a,b]=>if b.1<a.1 then [b,a] else [a,b]
 |l=>l
def ZN(l:List (Nat×Nat)):(zT l).length=l.length:=by
 unfold zT;split
 ·split<;>rfl
 rfl
def MT(f:Nat×Nat->Bool)(l:List (Nat×Nat)):(zT l).any f=l.any f:=by
 unfold zT;split
 ·split
  ·simp only[xaF,List.any_nil,xaj];exact Bool.or_comm _ _
  rfl
 rfl
def gK{l:List (Nat×Nat)}{p:Nat×Nat}:p∈zT l↔p∈l:=by
 unfold zT;split
 ·split
  ·simp[or_comm]
  rfl
 rfl
structure RV(os:List O)(rj:List (Nat×Nat))(ro:Ro)(w:World)(R:Nat)(v:Value)(td:Nat)(rec:ByteArray)(fs:List Value)(ls:List L):Prop where
 store:w.heap[R]?=some (.cells #[.int .i64 td,v,ro.ov,ro.rv,.string rec] 42 (0,0))
 row:w.ownsRow 0 129 11 v ls.length (tY ls fs)
 flen:fs.length=ls.length
 fro:ro.fvs=fs/\ro.pss=ls.map (λl=>zT l.par)
 ord:Od os rj ro w
 today:td<=2147483647
 ok:∀l∈ls,L.Ok l
 room:ls.length<=30
 fam:Fam ls
 rc:Rc rj
variable {R base j n td:Nat}{av iv ov v:Value}{fs:List Value}{ls:List L}{rec:ByteArray}
def RV.fsl(h:RV os rj ro w R v td rec fs ls):∀f∈fs,Sh f:=λf g=>by
 obtain⟨i,b,rfl⟩:=xw g;have d:=h.ord.fd.frm i (by rw[h.fro.1];exact b);rw[h.fro.1,Wc,xi b]at d;obtain⟨a,c,e⟩:=d.isSl;exact⟨a,_,c,e⟩
def RV.from(h:RV os rj ro w R v td rec fs ls){i:Nat}(b:i<ls.length):Prs 181 w (fs.getD i default) (zT (ls.getD i L0).par):=by
 have a:=h.ord.fd.frm i (by rw[h.fro.1,h.flen];exact b);rw[h.fro.1,h.fro.2]at a;have e:(ls.map (λl=>zT l.par)).getD i []=zT (ls.getD i L0).par:=by simp[Wc,b]
 rw[e]at a;exact a
def lR{e size:Nat}{xs:List Value}(h:w.ownsRow base e size v n xs):∃a cap,v=.slice a n cap:=by
 rcases h.2 with ⟨b,d⟩|⟨g,cap,c,b,_⟩
 ·exact⟨none,0,by rw[b,d]⟩
 exact⟨_,cap,b⟩
def rE{e size:Nat}{xs:List Value}(h:w.ownsRow base e size v n xs)(f:0<n):∃g cap,v=.slice (some ⟨g,0,none⟩) n cap/\base<=g/\g<w.heap.size:=by
 rcases h.2 with ⟨a,i⟩|⟨g,cap,b,a,c,d,_⟩
 ·omega
 exact⟨g,cap,a,c,(xan.1 d).1⟩
def RV.shape(h:RV os rj ro w R v td rec fs ls):∃a cap,v=.slice a ls.length cap/\(0<ls.length->∃G,a=some ⟨G,0,none⟩/\G<w.heap.size /\
  ∀i,i<ls.length->∀j,j<11->w.cell? ⟨G,i*11+j,none⟩=(zo (ls.getD i L0) (fs.getD i default))[j]?):=by
 obtain⟨a,cap,d⟩:=lR h.row;refine⟨a,cap,d,λm=>?_⟩;obtain⟨g,e,b,_,c⟩:=rE h.row m;rw[d]at b
 cases b;refine⟨g,rfl,c,λi k j l=>?_⟩
 have f:=h.row;rw[d]at f;rw[f.cellAt (i*11+j) (by omega)];exact CL ls fs h.flen i j k l
def RV.c0(h:RV os rj ro w R v td rec fs ls):w.cell? ⟨R,0,none⟩=some (.int .i64 td):=by rw[za h.store];rfl
def RV.c1(h:RV os rj ro w R v td rec fs ls):w.cell? ⟨R,1,none⟩=some v:=by rw[za h.store];rfl
def RV.c3(h:RV os rj ro w R v td rec fs ls):w.cell? ⟨R,3,none⟩=some ro.rv:=by rw[za h.store];rfl
def RV.c2(h:RV os rj ro w R v td rec fs ls):w.cell? ⟨R,2,none⟩=some ro.ov:=by rw[za h.store];rfl
def RV.c4(h:RV os rj ro w R v td rec fs ls):w.cell? ⟨R,4,none⟩=some (.string rec):=by rw[za h.store];rfl
def RV.below(h:RV os rj ro w R v td rec fs ls)(a:Below w.heap.size w w'):RV os rj ro w' R v td rec fs ls:={
 store:=by rw[a.block R (zc h.store)];exact h.store
 row:=zg h.row a
 flen:=h.flen
 fro:=h.fro
 ord:=h.ord.congr (λg b=>a.block g (h.ord.lt b))
 today:=h.today
 ok:=h.ok
 room:=h.room
 fam:=h.fam
 rc:=h.rc}
def VF(ls:List L)(n:Nat):Int:=if Wj n ls<ls.length then (Wj n ls:Int) else -1
def cF(h:RV os rj ro w R v td rec fs ls)(n:Nat)(D:n<=2147483647):Calls prog 111 #[.pointer (some ⟨R,0,none⟩),.int .i64 n] w λe w'=>e=.returned (.int .i64 (VF ls n))/\w'=w:=by
 obtain⟨a,cap,y,d⟩:=h.shape;have c1:=h.c1;rw[y]at c1;have u:=h.room;have A:=zb h;clear h y;go_enter func111,ntmps111;go_wp2_with fail;go_loop [5] (λi=>∃k:Nat,k<=ls.length/\i=.int .i64 k/\(∀j,j<k->(ls.getD j L0).id≠n)) (λi=>ls.length-(intOf i).toNat)
 case atStart=>exact⟨0,by omega,rfl,λj h=>absurd h (by omega)⟩
 obtain⟨k,C,rfl,f⟩:=hrel;by_cases c:k<ls.length
 ·obtain⟨G,x,_,b⟩:=d (by omega);rw[x]at c1;have q:w.cell? ⟨G,k*11,none⟩=some (.int .i64 ((ls.getD k L0).id:Int)):=b k c 0 (by omega);have r:(ls.getD k L0).id<=2147483647:=(A.ok _ (zf c)).id;obtain⟨m,p⟩:=Ww ((ls.getD k L0).id);rw[<-p.o]at q r;clear b x d;by_cases g:m=n
  ·have t:=aR g;have l:Ha (VF ls n=(k:Int)):=by
    have:=fV c f (by rw[<-p.o];exact g)
    unfold Ha VF;rw[this,xh c]
   clear g;go_wp2_with fail;go_ret;exact⟨by rw[l.o];rfl,rfl⟩
  have t:=ZT g;have z:=zb g;clear g;go_wp2_with fail;go_round
  case rel=>
   refine⟨k+1,by omega,by go_num,?_⟩;intro j B;by_cases s:j=k
   ·subst s;rw[<-p.o];exact z
   exact f j (by omega)
  simp[intOf];omega
 obtain rfl:k=ls.length:=by omega
 have l:Ha (VF ls n=-1):=by
  have:=wP f
  unfold Ha VF;rw[this,xg (by omega)]
 clear d c;go_wp2_with fail;go_ret;exact⟨by rw[l.o];rfl,rfl⟩
def gD(h:RV os rj ro w R v td rec fs ls)(n:Nat)(l:n<=2147483647):Calls prog 109 #[.pointer (some ⟨R,0,none⟩),.int .i64 n] w λe w'=>e=.returned (.int .i64 (zz ls n:Int))/\w'=w:=by
 have d:=zb (cF h n l);obtain⟨a,cap,j,_⟩:=h.shape;have c1:=h.c1;rw[j]at c1;have i:=h.room;clear h j;by_cases b:Wj n ls<ls.length
 ·have f:Ha (zz ls n=5):=by unfold Ha zz;rw[xh b]
  have c:Ha (VF ls n=(Wj n ls:Int)):=by unfold Ha VF;rw[xh b]
  rw[c.o]at d;generalize Wj n ls=k at *;clear c;go_enter func109,ntmps109;go_wp2_with (go_at_call 111;refine d.mono ?_;rintro e w1 ⟨rfl,rfl⟩);go_ret;exact⟨by rw[f.o];rfl,rfl⟩
 have c:Ha (VF ls n=-1):=by unfold Ha VF;rw[xg b]
 rw[c.o]at d;by_cases g:30<=ls.length
 ·have f:Ha (zz ls n=6):=by unfold Ha zz;rw[xg b,xh g]
  clear b c;go_enter func109,ntmps109;go_wp2_with (go_at_call 111;refine d.mono ?_;rintro e w1 ⟨rfl,rfl⟩);go_ret;exact⟨by rw[f.o];rfl,rfl⟩
 have f:Ha (zz ls n=0):=by unfold Ha zz;rw[xg b,xg g]
 clear b c;go_enter func109,ntmps109;go_wp2_with (go_at_call 111;refine d.mono ?_;rintro e w1 ⟨rfl,rfl⟩);go_ret;exact⟨by rw[f.o];rfl,rfl⟩
def yT(l:List Nat)(n:Nat):I (l++[n])=I l++[.int .i64 n]:=by simp[I]
def vA(l:List Nat):(I l).length=l.length:=by simp[I]
variable {ns out:List Nat}
def ZB{g cap:Nat}(h:w.ownsRow base 3 1 (.slice (some ⟨g,0,none⟩) ns.length cap) ns.length (I ns))(k:Nat)(a:k<ns.length):w.cell? ⟨g,k,none⟩=some (.int .i64 ((ns.getD k 0:Nat):Int)):=by
 rw[h.cellAt k (by omega)];simp[I,Wc,a]
def Au{k:Nat}(a:k<ns.length)(h:ns.getD k 0=n):ns.contains n=true:=by
 rw[XW,<-h];simp[Wc,a]
def vZ(h:∀j,j<ns.length->ns.getD j 0≠n):ns.contains n=false:=by
 rw[Bool.eq_false_iff];intro a;rw[XW]at a;obtain⟨j,b,e⟩:=xw a;exact h j b (by rw[Wc,xi b];simpa using e)
def qN(h:w.ownsRow base 3 1 v ns.length (I ns))(A:ns.length<=1000)(n:Nat):Calls prog 161 #[v,.int .i64 n] w λe w'=>e=.returned (.bool (ns.contains n))/\w'=w:=by
 obtain⟨a,cap,r⟩:=zK h;have q:0<ns.length->∃G,a=some ⟨G,0,none⟩:=λD=>by
  obtain⟨g,c,p,_,_⟩:=zG h D;rw[r]at p;cases p;exact⟨g,rfl⟩
 rw[r]at h;rw[r];have C:=zb h;obtain⟨E,b⟩:=Ww (ns.contains n);rw[<-b.o];clear h r;go_enter func161,ntmps161;go_wp2_with fail;go_loop [5] (λi=>∃k:Nat,k<=ns.length/\i=.int .i64 k/\(∀j,j<k->ns.getD j 0≠n)) (λi=>ns.length-(intOf i).toNat)
 case atStart=>exact⟨0,by omega,rfl,λj h=>absurd h (by omega)⟩
 obtain⟨k,H,rfl,l⟩:=hrel;by_cases d:k<ns.length
 ·obtain⟨G,u⟩:=q (by omega);subst u;have x:=ZB C k d;obtain⟨m,t⟩:=Ww (ns.getD k 0);rw[<-t.o]at x;by_cases f:m=n
  ·have z:=aR f;have s:Ha (ns.contains n=true):=Au d (by rw[<-t.o];exact f);clear f q;go_wp2_with fail;go_ret;exact⟨by rw[b.o,s.o];rfl,rfl⟩
  have z:=ZT f;have B:=zb f;clear f q;go_wp2_with fail;go_round
  case rel=>
   refine⟨k+1,by omega,by go_num,?_⟩;intro j F;by_cases y:j=k
   ·subst y;rw[<-t.o];exact B
   exact l j (by omega)
  simp[intOf];omega
 obtain rfl:k=ns.length:=by omega
 have s:Ha (ns.contains n=false):=vZ l;clear q d;go_wp2_with fail;go_ret;exact⟨by rw[b.o,s.o];rfl,rfl⟩
def Cz(ls:List L)(out:List Nat):∀i,i<=ls.length->out.length<=(jD (ls.take i) out).length
 |0,_=>by simp[jD]
 |i+1,hi=>by
  have:=Cz ls out i (by omega)
  rw[fN (by omega)];unfold ZD;split
  ·simp;omega
  omega
def oC(out:List Nat)(ps:List (Nat×Nat))(j:Nat):Bool:=(ps.take j).any (λp=>out.contains p.1)
def qL(out:List Nat)(ps:List (Nat×Nat)):oC out ps 0=false:=by simp[oC]
def qK{ps:List (Nat×Nat)}(a:j<ps.length):oC out ps (j+1)=(oC out ps j||out.contains (ps.getD j (0,0)).1):=by
 unfold oC;rw[xn a,xct];simp[Wc,a]
def wO(out:List Nat)(ps:List (Nat×Nat)):oC out (zT ps) (zT ps).length=ps.any (λp=>out.contains p.1):=by
 unfold oC;rw[Xs,MT]
def Bu(out:List Nat)(l:L)(h:Bool):List Nat:=if !(out.contains l.id)&&h then out++[l.id] else out
def Fe(out:List Nat)(l:L):Bu out l (oC out (zT l.par) (zT l.par).length)=ZD out l:=by
 unfold Bu ZD;rw[wO]
def PF{o:List Nat}{k:Nat}(c:k<ls.length)(out:List Nat)(b:out=jD (ls.take k) o)(l:L)(d:l=ls.getD k L0):(decide (out.length≠o.length)||(!(out.contains l.id)&&l.par.any (λp=>out.contains p.1)))=decide ((jD (ls.take (k+1)) o).length≠o.length):=by
 have a:=Cz ls o k (by omega);rw[<-b]at a;rw[fN c,<-b,<-d];unfold ZD
 cases e:(!(out.contains l.id)&&l.par.any (λp=>out.contains p.1)) with
 |false=>simp
 |true=>
  simp only[Bool.or_true,Yo,xc,Xw];symm;simp only[XI];omega
structure ComJ(base:Nat)(w:World)(out:List Nat)(l:L)(ag:Bool)(j:Nat)(ov av iv:Value)(w2:World):Prop where
 own:w2.ownsRow base 3 1 ov (Bu out l (oC out (zT l.par) j)).length (I (Bu out l (oC out (zT l.par) j)))
 ag:av=.bool (ag||(!(out.contains l.id)&&oC out (zT l.par) j))
 inn:iv=.bool (out.contains l.id||oC out (zT l.par) j)
 below:Below base w w2
def NT(out:List Nat)(l:L)(h:Bool):(Bu out l h).length<=out.length+1:=by
 unfold Bu;split
 ·simp
 omega
variable {ag:Bool}{l:L}
def ComJ.same(h:ComJ base w out l ag j ov av iv w2)(q:j<(zT l.par).length)(a:(out.contains l.id||oC out (zT l.par) j)=true):ComJ base w out l ag (j+1) ov av iv w2:=by
 obtain⟨k,m,n,p⟩:=h;have d:=qK (out:=out) q;have f:∀(i b c:Bool),(i||b)=true->(!i&&(b||c))=(!i&&b)/\(i||(b||c))=(i||b):=by decide
 obtain⟨g,r⟩:=f _ _ (out.contains ((zT l.par).getD j (0,0)).1) a;refine⟨?_,?_,?_,p⟩
 ·have e:Bu out l (oC out (zT l.par) (j+1))=Bu out l (oC out (zT l.par) j):=by
   unfold Bu;rw[d,g]
  rw[e];exact k
 ·rw[d,g];exact m
 rw[d,r];exact n
def ComJ.miss(h:ComJ base w out l ag j ov av iv w2)(b:j<(zT l.par).length)(c:out.contains ((zT l.par).getD j (0,0)).1=false):ComJ base w out l ag (j+1) ov av iv w2:=by
 obtain⟨d,e,f,a⟩:=h;refine⟨?_,?_,?_,a⟩<;>rw[qK b,c,xaj]<;>assumption
def QK:Value->Nat
 | .slice _ n _=>n
 |_=>0
def Ak(ov av:Value):Nat:=match av with
 | .bool true=>if QK ov=1 then 2 else 1
 |_=>0
def ComJ.hit(d:j<(zT l.par).length)(b:out.contains l.id=false)(g:out.contains ((zT l.par).getD j (0,0)).1=true)(f:w2.ownsRow base 3 1 ov (out++[l.id]).length (I (out++[l.id])))(c:Below base w w2):ComJ base w out l ag (j+1) ov (.bool true) (.bool true) w2:=by
 have a:=qK (out:=out) d;rw[g,Bool.or_true]at a;refine⟨?_,?_,?_,c⟩
 ·have e:Bu out l (oC out (zT l.par) (j+1))=out++[l.id]:=by unfold Bu;rw[a,b];rfl
  rw[e];exact f
 ·rw[a,b];simp
 rw[a];simp
def ComJ.fin(h:ComJ base w out l ag (zT l.par).length ov av iv w2):w2.ownsRow base 3 1 ov (ZD out l).length (I (ZD out l))/\av=.bool (ag||(!(out.contains l.id)&&l.par.any (λp=>out.contains p.1)))/\Below base w w2:=by
 obtain⟨a,b,d,c⟩:=h;rw[Fe]at a;rw[wO]at b;exact⟨a,b,c⟩
def Al(h:RV os rj ro w R v td rec fs ls)(n:Nat)(hn:n<=2147483647):Calls prog 118 #[.pointer (some ⟨R,0,none⟩),.int .i64 n] w λe w'=>Below w.heap.size w w'/\∃v',e=.returned v'/\w'.ownsRow w.heap.size 3 1 v' (kJ ls n).length (I (kJ ls n)):=by
 obtain⟨i0,hi,f4,f5,f6⟩:=XT Gq;obtain⟨a,cap,hv,C⟩:=h.shape;have c1:=h.c1;rw[hv]at c1;have f0:=h.room;have J:=zc h.store;have HP:=zb h;have HF:=zb h.fam;have d2:Ha ((w.alloc (.cells #[.int .i64 n] 3)).ownsRow w.heap.size 3 1 (.slice (some ⟨w.heap.size,0,none⟩) 1 1) [n].length (I [n])):=Yb w #[.int .i64 n] 1 (xe _) (by unfold maxLen;omega) rfl;clear h hv;go_enter func118,ntmps118;go_wp2_with fail;go_loopw [5,6,7,8,9,10] (λov ag _ _ _ _ wr=>∃(o:List Nat) (b:Bool),ag=.bool b/\wr.ownsRow w.heap.size 3 1 ov o.length (I o)/\Below w.heap.size w wr/\((o=[n]/\b=true)\/(o=kJ ls n/\(b=true->(kJ ls n).length≠1)))) (λov ag _ _ _ _ _=>Ak ov ag)
 case atStart=>exact⟨[n],true,rfl,d2,VE w _,Or.inl ⟨rfl,rfl⟩⟩
 obtain⟨o,b,rfl,d,A,T⟩:=hrel
 cases b with
 |false=>
  have E:Ha (o=kJ ls n):=by
   rcases T with ⟨_,h⟩|⟨h,_⟩
   ·cases h
   exact h
  have HO:=zb d;obtain⟨oa,oc,W⟩:=zK d;subst W;clear d T C;go_wp2_with fail;go_ret;exact⟨A,_,rfl,by rw[<-E.o];exact HO⟩
 |true=>
  have b4:Ha (o.length<=31):=by
   rcases T with ⟨h,_⟩|⟨h,_⟩
   ·unfold Ha;rw[h];simp
   unfold Ha;rw[h];have:=jE ls [n] ls.length (xe _);rw[Xs]at this;unfold kJ;simp at this;omega
  have HO:=zb d;have E:=zb T;have e2:=zb A;obtain⟨f7,f8,e0⟩:=zK d;subst e0;clear d T A;go_wp2_with fail;obtain⟨wo,rfl⟩:∃wo,wo=wr:=⟨wr,rfl⟩
  go_loopw [5,6,7,8,9,10] (λov ag ii _ _ _ w2=>∃k:Nat,k<=ls.length/\ii=.int .i64 k/\ag=.bool (decide ((jD (ls.take k) o).length≠o.length))/\w2.ownsRow w.heap.size 3 1 ov (jD (ls.take k) o).length (I (jD (ls.take k) o))/\Below w.heap.size w w2) (λ_ _ ii _ _ _ _=>ls.length-(intOf ii).toNat)
  case atStart=>exact⟨0,by omega,rfl,by simp[jD],by simpa [jD] using HO.o,e2⟩
  obtain⟨k,hk,rfl,rfl,d,A⟩:=hrel;by_cases s:k<ls.length
  ·obtain⟨G,hG,z,f⟩:=C (by omega);subst hG;have b6:=HP.below A;have cR:wr.cell? ⟨R,1,none⟩=some (.slice (some ⟨G,0,none⟩) ls.length cap):=(A.cell (by exact J)).trans c1;have e6:wr.cell? ⟨G,k*11,none⟩=some (.int .i64 ((ls.getD k L0).id:Int)):=(A.cell (by exact z)).trans (f k s 0 (by omega));have b2:wr.cell? ⟨G,k*11+10,none⟩=some (fs.getD k default):=(A.cell (by exact z)).trans (f k s 10 (by omega));have B:=HP.from s;have c6:=b6.ok _ (zf s);have Z:(ls.getD k L0).par.length<=2:=c6.par.1;have a8:=jE ls o k (by omega);have f9:=b4.o;obtain⟨out,H⟩:=Ww (jD (ls.take k) o);obtain⟨l,HL⟩:=Ww (ls.getD k L0);have c8:=zb (PF (o:=o) s out H l HL);have b5:Ha (jD (ls.take (k+1)) o=ZD out l):=by unfold Ha;rw[fN s,<-H.o,<-HL.o]
   rw[<-HL.o]at e6 B Z;rw[<-H.o]at d a8;rw[<-H.o];have K:=zb (qN d (by omega) l.id);obtain⟨ag,a1⟩:=Ww (decide (out.length≠o.length));rw[<-a1.o];have g6:=zb (Fe out l);have g5:=zb (wO out l.par);obtain⟨oa,oc,W⟩:=zK d;subst W;have a2:Ha (ComJ w.heap.size w out l ag 0 (.slice oa out.length oc) (.bool ag) (.bool (out.contains l.id)) wr):=by
    refine⟨?_,?_,?_,A⟩
    ·rw[qL];have e:Bu out l false=out:=by unfold Bu;simp
     rw[e];exact d
    ·rw[qL];simp
    rw[qL];simp
   have g4:=zb (ZN l.par);by_cases h0:l.par.length=0
   ·have e9:l.par=[]:=XD.1 h0;have d8:zT l.par=[]:=by rw[e9];rfl
    have a6:fs.getD k default=.slice none 0 0\/∃q c,fs.getD k default=.slice (some ⟨q,0,none⟩) 0 c:=by
     rcases B with ⟨M,_⟩|⟨q,c,cs,M,_⟩
     ·exact Or.inl M
     exact Or.inr ⟨q,c,by rw[M,d8];rfl⟩
    have b1:ComJ w.heap.size w out l ag (zT l.par).length (.slice oa out.length oc) (.bool ag) (.bool (out.contains l.id)) wr:=by rw[d8];exact a2
    obtain⟨f1,f2,f3⟩:=b1.fin;rw[a1.o,c8.o]at f2;rw[<-a1.o]at f2;have a3:=zb f1;have d0:=zb f2;have d1:=zb f3;obtain⟨ib,b3⟩:=Ww (out.contains l.id);rw[<-b3.o]at K;generalize fs.getD k default=fv at *;clear f b6 B c6 A d C E HO b4 b1 f1 f2 f3 a2;rcases a6 with rfl|⟨q,c,rfl⟩
    ·go_wp2_with (go_at_call 161;refine K.mono ?_;rintro e w1 ⟨rfl,rfl⟩)
     refine YM 1 ?_;rw[xar]
     go_wp2_with fail;go_roundw
     case rel=>exact⟨k+1,by omega,by go_num,d0,by rw[b5.o];exact a3,d1⟩
     simp[intOf];omega
    go_wp2_with (go_at_call 161;refine K.mono ?_;rintro e w1 ⟨rfl,rfl⟩)
    refine YM 1 ?_;rw[xar]
    go_wp2_with fail;go_roundw
    case rel=>exact⟨k+1,by omega,by go_num,d0,by rw[b5.o];exact a3,d1⟩
    simp[intOf];omega
   obtain⟨q,qc,a6,e1,c7⟩:=Prs.cells B (by rw[ZN];omega);have w0:w.cell? ⟨G,k*11,none⟩=some (.int .i64 l.id):=by rw[HL.o];exact f k s 0 (by omega)
   have a9:w.cell? ⟨G,k*11+10,none⟩=some (fs.getD k default):=f k s 10 (by omega);rw[a6]at b2 a9;obtain⟨m,P⟩:=Ww ((zT l.par).length);rw[<-P.o]at b2 c7 a9;have e4:=zb w0;have d5:=zb a9;clear w0 a9;have g9:m<=2:=by rw[P.o,ZN];exact Z
   have e3:=zb c7;have HB:=zb A;obtain⟨ib,b3⟩:=Ww (out.contains l.id);rw[<-b3.o]at K a2;have g1:G<wr.heap.size:=xl z A.size;have g2:R<wr.heap.size:=xl J A.size;have h3:w.heap.size<=wr.heap.size:=A.size;clear f b6 B c6 c7 A d a6 C E HO b4;go_wp2_with (go_at_call 161;refine K.mono ?_;rintro e w1 ⟨rfl,rfl⟩);clear K;obtain⟨wl,rfl⟩:∃wl,wl=w1:=⟨w1,rfl⟩
   go_loopw [5,6,8,9,10] (λov av iv jj _ w2=>∃j:Nat,j<=m/\jj=.int .i64 j/\ComJ w.heap.size w out l ag j ov av iv w2) (λ_ _ _ jj _ _=>m-(intOf jj).toNat)
   case atStart=>exact⟨0,by omega,rfl,a2⟩
   obtain⟨j,hj,rfl,g⟩:=hrel;obtain⟨ja,jc,e5⟩:=zK g.own;subst e5;have a4:=g.ag;have S:=g.inn;have F:=g.below;have g7:wr.cell? ⟨R,1,none⟩=some (.slice (some ⟨G,0,none⟩) ls.length cap):=(F.cell (by exact J)).trans c1;have g0:wr.cell? ⟨G,k*11,none⟩=some (.int .i64 l.id):=(F.cell (by exact z)).trans e4;have g8:wr.cell? ⟨G,k*11+10,none⟩=some (.slice (some ⟨q,0,none⟩) m qc):=(F.cell (by exact z)).trans d5;by_cases b9:j<m
   ·have b8:j<(zT l.par).length:=by rw[<-P.o];exact b9
    have hq:wr.cell? ⟨q,j*2,none⟩=some (.int .i64 (((zT l.par).getD j (0,0)).1:Int)):=(F.cell (by exact e1)).trans (e3 j b9).1;have e8:=NT out l (oC out (zT l.par) j);have D:=zb (qN g.own (by omega) ((zT l.par).getD j (0,0)).1);have r:=zb (λh=>g.same b8 h);have p:=zb (λh=>g.miss b8 h)
    cases i:(out.contains l.id||oC out (zT l.par) j) with
    |true=>
     have y:=zb (r i);rw[i]at S;subst S;subst a4;have d6:∃a',Value.bool (ag||(!(out.contains l.id)&&oC out (zT l.par) j))=.bool a':=⟨_,rfl⟩
     obtain⟨a',b7⟩:=d6;rw[b7]at y;rw[b7];generalize Bu out l (oC out (zT l.par) j)=oj at *;generalize ((zT l.par).getD j (0,0)).1=x at *;generalize oj.contains x=ob at *;clear r p g i b7
     cases ob
     ·go_wp2_with (go_at_call 161;refine D.mono ?_;rintro e w5 ⟨rfl,rfl⟩)
      go_roundw
      case rel=>exact⟨j+1,by omega,by go_num,y⟩
      simp[intOf];omega
     go_wp2_with (go_at_call 161;refine D.mono ?_;rintro e w5 ⟨rfl,rfl⟩)
     go_roundw
     case rel=>exact⟨j+1,by omega,by go_num,y⟩
     simp[intOf];omega
    |false=>
     have a5:out.contains l.id=false:=by cases hx:out.contains l.id with|false=>rfl|true=>rw[hx]at i;cases i
     have a7:oC out (zT l.par) j=false:=by cases hx:oC out (zT l.par) j with|false=>rfl|true=>rw[hx,a5]at i;cases i
     rw[i]at S;rw[a7,xaJ,xaj]at a4;subst S;subst a4;have eo:Bu out l (oC out (zT l.par) j)=out:=by unfold Bu;rw[a7];simp
     have t:=g.own;rw[eo]at t D
     cases N:out.contains ((zT l.par).getD j (0,0)).1 with
     |false=>
      have y:=zb (p N);rw[N]at D;rw[eo]at y;rw[eo];generalize ((zT l.par).getD j (0,0)).1=x at *;clear r p g i a5 a7 eo t N;go_wp2_with (go_at_call 161;refine D.mono ?_;rintro e w5 ⟨rfl,rfl⟩);go_roundw
      case rel=>exact⟨j+1,by omega,by go_num,y⟩
      simp[intOf];omega
     |true=>
      have b0:Ha (∀(ov:Value) (w2:World),w2.ownsRow w.heap.size 3 1 ov (out++[l.id]).length (I (out++[l.id]))->Below w.heap.size w w2->ComJ w.heap.size w out l ag (j+1) ov (.bool true) (.bool true) w2):=λov w2 M h2=>ComJ.hit b8 a5 N M h2
      rw[N]at D;rw[eo];have g3:w.heap.size<=wr.heap.size:=F.size;have c9:=zb F;generalize ((zT l.par).getD j (0,0)).1=x at *;clear r p g i a5 a7 eo N F;go_wp2_with (first
       |(go_at_call 161;refine D.mono ?_;rintro e w5 ⟨rfl,rfl⟩)
       |(at_builtin;refine Xr _ rfl _ _ 55 rfl (w.heap.size) 3 i0 (.int .i64 0) 1 8 yE hi f4 f5 f6 rfl (by decide) _ _ _ rfl (t.alloc _) ⟨w5.heap.size,0,none⟩ 1 1 [.int .i64 l.id] rfl rfl ?c1 ?c2 ?c3 ?c4 ?c5 ?_))
      case c1=>exact Zy _ _ _
      case c2=>intro u hu;simp at hu;subst hu;rfl
      case c3=>unfold maxLen;omega
      case c4=>omega
      case c5=>simp;omega
      intro v' w6 X Q e7;have d7:Below w.heap.size w w6:=(c9.alloc c9.size _).grown Q (by simp;omega) (λk hk=>(t.lt k hk).1);have d9:w6.ownsRow w.heap.size 3 1 v' (out++[l.id]).length (I (out++[l.id])):=by rw[yT,xc];exact X
      have y:=zb (b0 _ _ d9 d7);clear X Q e7 d9 d7 b0;go_wp2_with fail;go_roundw
      case rel=>exact⟨j+1,by omega,by go_num,y⟩
      simp[intOf];omega
   obtain rfl:j=m:=by omega
   rw[P.o]at g;obtain⟨f1,f2,f3⟩:=g.fin;rw[a1.o,c8.o]at f2;subst f2;have a3:Ha (wr.ownsRow w.heap.size 3 1 (.slice ja (Bu out l (oC out (zT l.par) j)).length jc) (ZD out l).length (I (ZD out l))):=by have h5:=f1;rw[<-P.o]at h5;exact h5
   clear g a4 S b9 f1;go_wp2_with fail;go_roundw
   case rel=>exact⟨k+1,by omega,by go_num,rfl,by rw[b5.o];exact a3,f3⟩
   simp[intOf];omega
  obtain rfl:k=ls.length:=by omega
  rw[Xs]at d;rw[Xs];have cR:wr.cell? ⟨R,1,none⟩=some (.slice a ls.length cap):=(A.cell (by exact J)).trans c1;obtain⟨oa,oc,W⟩:=zK d;subst W;have d4:Ha (∃(o':List Nat) (b:Bool),Value.bool (decide ((jD ls o).length≠o.length))=.bool b/\wr.ownsRow w.heap.size 3 1 (.slice oa (jD ls o).length oc) o'.length (I o')/\Below w.heap.size w wr/\((o'=[n]/\b=true)\/(o'=kJ ls n/\(b=true->(kJ ls n).length≠1)))):=by
   refine⟨_,_,rfl,d,A,Or.inr ?_⟩;rcases E with ⟨M,_⟩|⟨M,h2⟩
   ·subst M;exact⟨rfl,λh=>by simpa [kJ] using h⟩
   have a0:=tP HF n (xe ls.length);rw[Xs]at a0;rw[M,a0];exact⟨rfl,λh=>by simp at h⟩
  have d3:Ha (Ak (.slice oa (jD ls o).length oc) (.bool (decide ((jD ls o).length≠o.length)))<Ak (.slice f7 o.length f8) (.bool true)):=by
   rcases E with ⟨M,_⟩|⟨M,h2⟩
   ·subst M;unfold Ha Ak QK;by_cases hc:(jD ls [n]).length=1
    ·simp[hc]
    simp[hc]
   have a0:=tP HF n (xe ls.length);rw[Xs]at a0;subst M;rw[a0];unfold Ha Ak QK;simp;split<;>omega
  clear d C E HO s;go_wp2_with fail;go_roundw
  case rel=>exact d4
  exact d3
def cW{g cap:Nat}:∀{ps:List (Nat×Nat)},w.ownsRow base 181 2 (.slice (some ⟨g,0,none⟩) ps.length cap) ps.length (zl ps)->∀k,k<ps.length->w.cell? ⟨g,k*2,none⟩=some (.int .i64 ((ps.getD k (0,0)).1:Int))/\w.cell? ⟨g,k*2+1,none⟩=some (.int .i64 ((ps.getD k (0,0)).2:Int)):=by
 intro ps h k a;have d:∀(ps:List (Nat×Nat)) (k:Nat),k<ps.length->(zl ps)[k*2]?=some (.int .i64 ((ps.getD k (0,0)).1:Int))/\(zl ps)[k*2+1]?=some (.int .i64 ((ps.getD k (0,0)).2:Int)):=by
  intro ps;induction ps with
  |nil=>intro k a;simp at a
  |cons p ps ih=>
   intro k a
   cases k with
   |zero=>exact⟨rfl,rfl⟩
   |succ k=>
    obtain⟨b,c⟩:=ih k (by simpa using a);have e:(k+1)*2=k*2+2:=by omega
    rw[e];simpa [zl] using ⟨b,c⟩
 obtain⟨b,c⟩:=d ps k a;rw[h.cellAt (k*2) (by omega),h.cellAt (k*2+1) (by omega)];exact⟨b,c⟩
def RV.rshape(h:RV os rj ro w R v td rec fs ls):∃a cap,ro.rv=.slice a rj.length cap/\(0<rj.length->∃G,a=some ⟨G,0,none⟩/\G<w.heap.size/\∀k,k<rj.length->w.cell? ⟨G,k*2,none⟩=some (.int .i64 ((rj.getD k (0,0)).1:Int))/\w.cell? ⟨G,k*2+1,none⟩=some (.int .i64 ((rj.getD k (0,0)).2:Int))):=by
 obtain⟨a,cap,d⟩:=lR h.ord.fd.rrow;refine⟨a,cap,d,λj=>?_⟩;obtain⟨g,e,b,_,c⟩:=rE h.ord.fd.rrow j;rw[d]at b
 cases b;have f:=h.ord.fd.rrow
 rw[d]at f;exact⟨g,rfl,c,λk i=>cW f k i⟩
def kA(h:RV os rj ro w R v td rec fs ls)(n:Nat):Calls prog 119 #[.pointer (some ⟨R,0,none⟩),.int .i64 n] w λe w'=>e=.returned (.bool (cI rj ls n))/\Below w.heap.size w w':=by
 have c3:=h.c3;obtain⟨a,cap,M,g⟩:=h.rshape;rw[M]at c3;have S:=h.rc.len;have y:=zc h.store;have H:=zb h;have B:=zb h.rc;have J:Ha (cI rj ls n=rj.any (λp=>jA ls p.1 n)):=Fs ls n rj;obtain⟨rb,j⟩:=Ww (cI rj ls n);rw[<-j.o];clear h M;go_enter func119,ntmps119;go_wp2_with fail;go_loopw [5,6,7] (λF _ _ wr=>∃k:Nat,k<=rj.length/\F=.int .i64 k/\(rj.take k).any (λp=>jA ls p.1 n)=false/\Below w.heap.size w wr) (λF _ _ _=>rj.length-(intOf F).toNat)
 case atStart=>exact⟨0,by omega,rfl,by simp,xm _ _⟩
 obtain⟨k,X,rfl,i,m⟩:=hrel;have T:wr.cell? ⟨R,3,none⟩=some (.slice a rj.length cap):=(m.cell (by exact y)).trans c3;by_cases d:k<rj.length
 ·obtain⟨G,N,x,b⟩:=g (by omega);subst N;have P:wr.cell? ⟨G,k*2,none⟩=some (.int .i64 ((rj.getD k (0,0)).1:Int)):=(m.cell (by exact x)).trans (b k d).1;have l:rj.getD k (0,0)∈rj:=by rw[Wc,xi d];simp
  have D:=(B.fits _ l).1;have r:=zb (Al (H.below m) (rj.getD k (0,0)).1 D);have Q:(kJ ls (rj.getD k (0,0)).1).length<=31:=by
   have K:=jE ls [(rj.getD k (0,0)).1] ls.length (xe _);rw[Xs]at K;have W:=H.room;unfold kJ;simp only[List.length_cons,XO]at K;omega
  have u:Ha ((rj.take (k+1)).any (λp=>jA ls p.1 n)=(jA ls (rj.getD k (0,0)).1 n)):=by
   unfold Ha;rw[xn d,xct,i];simp[Wc,d]
  have s:=zb (jB ls (rj.getD k (0,0)).1 n);have t:=zb l;generalize Z:rj.getD k (0,0)=p at *;clear b g l;go_wp2_with fail;refine r.mono ?_
  rintro e w1 ⟨z,v',rfl,f⟩;have c:=zb (qN f (by omega) n);rw[s.o]at c;have q:Ha (Below w.heap.size w w1):=m.trans (z.mono m.size);obtain⟨va,vc,E⟩:=zK f;subst E;clear f z r
  cases A:jA ls p.1 n with
  |true=>
   have C:Ha (cI rj ls n=true):=by
    unfold Ha;rw[J.o,xal];exact⟨p,t,A⟩
   rw[A]at c;clear A;go_wp2_with (go_at_call 161;refine c.mono ?_;rintro e w2 ⟨rfl,rfl⟩);go_ret;exact⟨by rw[j.o,C.o];rfl,q⟩
  |false=>
   rw[A]at c u;clear A;go_wp2_with (go_at_call 161;refine c.mono ?_;rintro e w2 ⟨rfl,rfl⟩);go_roundw
   case rel=>exact⟨k+1,by omega,by go_num,u,q⟩
   simp[intOf];omega
 obtain rfl:k=rj.length:=by omega
 have C:Ha (cI rj ls n=false):=by
  unfold Ha;rw[J.o];rw[Xs]at i;exact i
 clear g d i;go_wp2_with fail;go_ret;exact⟨by rw[j.o,C.o];rfl,m⟩
def gV(rc:Nat->Bool)(l:L):List Nat:=[l.gd,l.ex,l.place,l.got,l.free,l.hd,l.sh,l.sc,l.gv,if rc l.id then 1 else 0]
def NC{S:Nat}{M:Mx}{z:List Nat}{x:List Value}(h:PV os rj w S M v td z x ls)(n:Nat)(J:n<=2147483647)(B:Wj n ls<ls.length):Calls prog 107 #[.pointer (some ⟨S,0,none⟩),.agg #[.int .i64 n]] w λe w'=>Below w.heap.size w w'/\∃g,e=.returned (.tuple #[.slice (some ⟨g,0,none⟩) 10 10,.int .i64 0])/\w'.heap[g]?=some (.cells (I (gV (cI rj ls) (ls.getD (Wj n ls) L0))).toArray 2 (0,0)):=by
 have A:=VE w (Obj.cells #[.int .i64 n] 171);have p:=h.below A;have y:=zb (Zm p n J);have H:=zb (mU p);have s:zJ z ls n=.pointer (some ⟨z.getD (Wj n ls) 0,0,none⟩):=by unfold zJ;rw[xh B]
 rw[s]at y;obtain⟨b,G⟩:=Ww (z.getD (Wj n ls) 0);obtain⟨l,F⟩:=Ww (ls.getD (Wj n ls) L0);rw[<-F.o];rw[<-G.o]at y;have d:=p.lot _ B;rw[<-G.o,<-F.o]at d;generalize x.getD (Wj n ls) default=pv at d;have E:=zb d;have k:Ha (l.id<=2147483647):=by rw[F.o];exact(p.ok _ (zf B)).id
 have m:Ha (gV (cI rj ls) l=[l.gd,l.ex,l.place,l.got,l.free,l.hd,l.sh,l.sc,l.gv,if cI rj ls l.id then 1 else 0]):=rfl;obtain⟨P,i⟩:=Ww (cI rj ls l.id);rw[m.o,<-i.o];clear h p s d m;go_enter func107,ntmps107;go_wp2_with (first
  |(go_at_call 148;refine y.mono ?_;rintro e w1 ⟨rfl,rfl⟩)
  |fail)
 refine H.mono ?_
 rintro e w1 ⟨f,Q,N,D,rfl,t,r,u⟩;have c:=(f.block b (zc E)).trans E;have C:=zb (Jn t k (by rw[za c];rfl));rw[r l.id k.o,<-i.o]at C;clear r i
 cases P
 all_goals (
  go_wp2_with fail;refine C.mono ?_
  rintro e w2 ⟨rfl,j⟩;have a:=(j.block b (zc c)).trans c;have R:w2.cell? ⟨b,1,none⟩=some (.int .i64 l.gd):=by rw[za a];rfl
  have T:w2.cell? ⟨b,2,none⟩=some (.int .i64 l.ex):=by rw[za a];rfl
  have W:w2.cell? ⟨b,3,none⟩=some (.int .i64 l.place):=by rw[za a];rfl
  have X:w2.cell? ⟨b,5,none⟩=some (.int .i64 l.got):=by rw[za a];rfl
  have Z:w2.cell? ⟨b,6,none⟩=some (.int .i64 l.free):=by rw[za a];rfl
  have k7:w2.cell? ⟨b,7,none⟩=some (.int .i64 l.hd):=by rw[za a];rfl
  have k8:w2.cell? ⟨b,8,none⟩=some (.int .i64 l.sh):=by rw[za a];rfl
  have k9:w2.cell? ⟨b,9,none⟩=some (.int .i64 l.sc):=by rw[za a];rfl
  have K:w2.cell? ⟨b,10,none⟩=some (.int .i64 l.gv):=by rw[za a];rfl
  have q:Ha (Below w.heap.size w w2):=A.trans ((f.trans (j.mono f.size)).mono A.size);clear c a C y H E f j t u A B J;go_wp2_with fail;go_region_held3 (λw'=>w'.cell? ⟨b,1,none⟩=some (.int .i64 l.gd)/\w'.cell? ⟨b,2,none⟩=some (.int .i64 l.ex)/\w'.cell? ⟨b,3,none⟩=some (.int .i64 l.place)/\w'.cell? ⟨b,5,none⟩=some (.int .i64 l.got)/\w'.cell? ⟨b,6,none⟩=some (.int .i64 l.free)/\w'.cell? ⟨b,7,none⟩=some (.int .i64 l.hd)/\w'.cell? ⟨b,8,none⟩=some (.int .i64 l.sh)/\w'.cell? ⟨b,9,none⟩=some (.int .i64 l.sc)/\w'.cell? ⟨b,10,none⟩=some (.int .i64 l.gv)) (go_keep) (fail);go_wp2_with fail;go_ret2;exact⟨(q.alloc q.size _).drew,w2.heap.size,rfl,xp w2 _⟩)
def JW{S:Nat}{M:Mx}{d:List Nat}{b:List Value}(h:PV os rj w S M v td d b ls)(n:Nat)(j:n<=2147483647)(i:¬Wj n ls<ls.length):Calls prog 107 #[.pointer (some ⟨S,0,none⟩),.agg #[.int .i64 n]] w λe w'=>Below w.heap.size w w'/\e=.returned (.tuple #[.slice none 0 0,.int .i64 4]):=by
 have g:=VE w (Obj.cells #[.int .i64 n] 171);have f:=h.below g;have c:=zb (Zm f n j);have a:zJ d ls n=.pointer none:=by unfold zJ;rw[xg i]
 rw[a]at c;clear h f a i;go_enter func107,ntmps107;go_wp2_with (first
  |(go_at_call 148;refine c.mono ?_;rintro e w1 ⟨rfl,rfl⟩)
  |fail)
 go_ret2;exact⟨g,rfl⟩
