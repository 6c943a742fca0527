import Derived.Test.YtgcedalggnmooaaGreatDoorExtX
import Derived.Deep.RegionHeld3
set_option linter.all false
set_option maxRecDepth 100000
set_option maxHeartbeats 3200000
namespace Go.Proofs.YtgcedalggnmooaaGreatDoor
open Go.RowKit
def xak:=@AllReadyH.cons
def xaq:=@AllReadyH.nil
def xaH:=@wpAnyH_ready
def zp(l:L)(f:Value):List Value :=
 [.int .i64 l.id,.int .i64 l.gd,.int .i64 l.ex,.int .i64 l.place,.int .i64 l.got,.int .i64 l.free,.int .i64 l.hd,.int .i64 l.sh,.int .i64 l.sc,.int .i64 l.gv,f]
def tK:List L->List Value->List Value
 |l::ls,f::fs=>zp l f++tK ls fs
 |_,_=>[]
theorem DW:∀(ls:List L) (a:List Value),a.length=ls.length->(tK ls a).length=ls.length*11
 |[],[],_=>rfl
 |[],_::_,h=>by simp at h
 |_::_,[],h=>by simp at h
 |l::ls,f::a,h=>by
  have:=DW ls a (by simpa using h)
  simp only[tK,xb,this,zp,List.length_cons,XB];omega
theorem Ch:∀(ls:List L) (a:List Value),a.length=ls.length->∀(i j:Nat),i<ls.length->j<11->(tK ls a)[i*11+j]?=(zp (ls.getD i L0) (a.getD i default))[j]?
 |[],[],_,i,_,hi,_=>by simp at hi
 |[],_::_,h,_,_,_,_=>by simp at h
 |_::_,[],h,_,_,_,_=>by simp at h
 |l::ls,f::a,h,0,j,_,hj=>by
  simp only[tK,Nat.zero_mul,Yu,YP];rw[Xk (by simpa [zp] using hj)]
 |l::ls,f::a,h,i+1,j,hi,hj=>by
  have b:=Ch ls a (by simpa using h) i j (by simpa using hi) hj;have e:(i+1)*11+j=(zp l f).length+(i*11+j):=by simp[zp];omega
  simp only[tK,List.getD_cons_succ];rw[e,ya (by omega),xby,b]
theorem pM:∀(ls:List L) (c:List Value) (l:L) (f:Value),c.length=ls.length->tK (ls++[l]) (c++[f])=tK ls c++zp l f
 |[],[],l,f,_=>by simp[tK]
 |[],_::_,_,_,h=>by simp at h
 |_::_,[],_,_,h=>by simp at h
 |a::ls,b::c,l,f,h=>by
  have:=pM ls c l f (by simpa using h)
  simp only[XF,tK,this,XK]
def QE(v:Value):Prop:=∃a n c,v=.slice a n c
structure Ro where
 ov:Value
 lvs:List Value
 rv:Value
 fvs:List Value
 pss:List (List (Nat×Nat))
def O0:O:=⟨0,0,[]⟩
def bF:List O->List Value->List Value
 |o::os,f::fs=>.int .i64 o.id::.int .i64 o.gd::f::bF os fs
 |_,_=>[]
def zx:List (Nat×Nat)->List Value
 |p::ps=>.int .i64 p.1::.int .i64 p.2::zx ps
 |_=>[]
def PB(ro:Ro)(g:Nat):Prop:=∃i,i<ro.fvs.length/\(ro.fvs.getD i default).ownBlock=some g
def FB(ro:Ro)(g:Nat):Prop:=ro.rv.ownBlock=some g\/PB ro g
def LB(ro:Ro)(g:Nat):Prop:=∃i,i<ro.lvs.length/\(ro.lvs.getD i default).ownBlock=some g
structure Fd(rcs:List (Nat×Nat))(ro:Ro)(w:World):Prop where
 rrow:w.ownsRow 0 181 2 ro.rv rcs.length (zx rcs)
 flen:ro.fvs.length=ro.pss.length
 frm:∀i,i<ro.fvs.length->Prs 181 w (ro.fvs.getD i default) (ro.pss.getD i [])
 apart:∀g,ro.rv.ownBlock=some g->¬LB ro g/\¬PB ro g
structure Od(os:List O)(rcs:List (Nat×Nat))(ro:Ro)(w:World):Prop where
 row:w.ownsRow 0 132 3 ro.ov os.length (bF os ro.lvs)
 llen:ro.lvs.length=os.length
 li:∀i,i<os.length->w.ownsRow 0 181 2 (ro.lvs.getD i default) (os.getD i O0).li.length (zx (os.getD i O0).li)
 fd:Fd rcs ro w
def OB(ro:Ro)(g:Nat):Prop:=ro.ov.ownBlock=some g\/LB ro g\/FB ro g
theorem Fd.congr{rcs:List (Nat×Nat)}{ro:Ro}{w w':World}(h:Fd rcs ro w)(c:∀g,FB ro g->w'.heap[g]?=w.heap[g]?):Fd rcs ro w' where
 rrow:=ze h.rrow (λg a=>c g (Or.inl a))
 flen:=h.flen
 frm:=λi b=>(h.frm i b).congr (λg a=>c g (Or.inr ⟨i,b,a⟩))
 apart:=h.apart
variable {rcs:List (Nat×Nat)}{ro:Ro}{w w' w2:World}
theorem Fd.ty(h:Fd rcs ro w){g:Nat}(a:FB ro g):∃b,w.heap[g]?=some (.cells b 181 (0,0)):=by
 rcases a with a|⟨i,c,a⟩
 ·exact zi h.rrow a
 exact(h.frm i c).blk a
theorem Od.congr{rcs:List (Nat×Nat)}{os:List O}{ro:Ro}{w w':World}(h:Od os rcs ro w)(b:∀g,OB ro g->w'.heap[g]?=w.heap[g]?):Od os rcs ro w' where
 row:=ze h.row (λg a=>b g (Or.inl a))
 llen:=h.llen
 li:=λi c=>ze (h.li i c) (λg a=>b g (Or.inr (Or.inl ⟨i,by rw[h.llen];exact c,a⟩)))
 fd:=h.fd.congr (λg a=>b g (Or.inr (Or.inr a)))
theorem Od.ty{rcs:List (Nat×Nat)}{os:List O}{ro:Ro}{w:World}(h:Od os rcs ro w){g:Nat}(b:OB ro g):∃a t,w.heap[g]?=some (.cells a t (0,0))/\(t=132\/t=181):=by
 rcases b with b|⟨i,d,b⟩|b
 ·obtain⟨a,c⟩:=zi h.row b;exact⟨a,_,c,Or.inl rfl⟩
 ·obtain⟨a,c⟩:=zi (h.li i (by rw[<-h.llen];exact d)) b;exact⟨a,_,c,Or.inr rfl⟩
 obtain⟨a,c⟩:=h.fd.ty b;exact⟨a,_,c,Or.inr rfl⟩
variable {os:List O}
theorem Od.lt(h:Od os rcs ro w){g:Nat}(b:OB ro g):g<w.heap.size:=by
 obtain⟨c,t,a,_⟩:=h.ty b;exact zc a
theorem Od.ne(h:Od os rcs ro w){g:Nat}(k:OB ro g){b:Nat}{a:Array Value}{t:TypeId}(i:w.heap[b]?=some (.cells a t (0,0)))(d:t≠132)(f:t≠181):g≠b:=by
 obtain⟨c,m,j,l⟩:=h.ty k;refine(zv i j (λe=>?_)).symm;rcases l with rfl|rfl
 ·exact d e
 exact f e
def zY:List (Nat×Nat)->List (Nat×Nat)
 |[a,b]=>if b.1<a.1 then [b,a] else [a,b]
 |l=>l
theorem aG(l:List (Nat×Nat)):(zY l).length=l.length:=by
 unfold zY;split
 ·split<;>rfl
 rfl
theorem LI(f:Nat×Nat->Bool)(l:List (Nat×Nat)):(zY l).any f=l.any f:=by
 unfold zY;split
 ·split
  ·simp only[xaa,List.any_nil,YE];exact Bool.or_comm _ _
  rfl
 rfl
theorem iV{l:List (Nat×Nat)}{p:Nat×Nat}:p∈zY l↔p∈l:=by
 unfold zY;split
 ·split
  ·simp[or_comm]
  rfl
 rfl
structure RV(os:List O)(rcs:List (Nat×Nat))(ro:Ro)(w:World)(R:Nat)(v:Value)(td:Nat)(rec:ByteArray)(fs:List Value)(ls:List L):Prop where
 store:w.heap[R]?=some (.cells #[.int .i64 td,v,ro.ov,ro.rv,.string rec] 42 (0,0))
 row:w.ownsRow 0 129 11 v ls.length (tK ls fs)
 flen:fs.length=ls.length
 fro:ro.fvs=fs/\ro.pss=ls.map (λl=>zY l.par)
 ord:Od os rcs ro w
 today:td<=2147483647
 ok:∀l∈ls,L.Ok l
 room:ls.length<=30
 fam:Fam ls
 rc:Rc rcs
variable {R base j n td:Nat}{av iv ov v:Value}{fs:List Value}{ls:List L}{rec:ByteArray}
theorem RV.fsl(h:RV os rcs ro w R v td rec fs ls):∀f∈fs,QE f:=λf g=>by
 obtain⟨i,b,rfl⟩:=xt g;have d:=h.ord.fd.frm i (by rw[h.fro.1];exact b);rw[h.fro.1,Ul,xh b]at d;obtain⟨a,c,e⟩:=d.isSl;exact⟨a,_,c,e⟩
theorem RV.from(h:RV os rcs ro w R v td rec fs ls){i:Nat}(b:i<ls.length):Prs 181 w (fs.getD i default) (zY (ls.getD i L0).par):=by
 have a:=h.ord.fd.frm i (by rw[h.fro.1,h.flen];exact b);rw[h.fro.1,h.fro.2]at a;have e:(ls.map (λl=>zY l.par)).getD i []=zY (ls.getD i L0).par:=by simp[Ul,b]
 rw[e]at a;exact a
theorem lE{e size:Nat}{xs:List Value}(h:w.ownsRow base e size v n xs):∃a cap,v=.slice a n cap:=by
 rcases h.2 with ⟨b,d⟩|⟨g,cap,c,b,_⟩
 ·exact⟨none,0,by rw[b,d]⟩
 exact⟨_,cap,b⟩
theorem qP{e size:Nat}{xs:List Value}(h:w.ownsRow base e size v n xs)(f:0<n):∃g cap,v=.slice (some ⟨g,0,none⟩) n cap/\base<=g/\g<w.heap.size:=by
 rcases h.2 with ⟨a,i⟩|⟨g,cap,b,a,c,d,_⟩
 ·omega
 exact⟨g,cap,a,c,(YI.1 d).1⟩
theorem RV.shape(h:RV os rcs ro w R v td rec fs ls):∃a cap,v=.slice a ls.length cap/\(0<ls.length->∃G,a=some ⟨G,0,none⟩/\G<w.heap.size /\
  ∀i,i<ls.length->∀j,j<11->w.cell? ⟨G,i*11+j,none⟩=(zp (ls.getD i L0) (fs.getD i default))[j]?):=by
 obtain⟨a,cap,d⟩:=lE h.row;refine⟨a,cap,d,λm=>?_⟩;obtain⟨g,e,b,_,c⟩:=qP h.row m;rw[d]at b
 cases b;refine⟨g,rfl,c,λi k j l=>?_⟩
 have f:=h.row;rw[d]at f;rw[f.cellAt (i*11+j) (by omega)];exact Ch ls fs h.flen i j k l
theorem RV.c0(h:RV os rcs ro w R v td rec fs ls):w.cell? ⟨R,0,none⟩=some (.int .i64 td):=by rw[za h.store];rfl
theorem RV.c1(h:RV os rcs ro w R v td rec fs ls):w.cell? ⟨R,1,none⟩=some v:=by rw[za h.store];rfl
theorem RV.c3(h:RV os rcs ro w R v td rec fs ls):w.cell? ⟨R,3,none⟩=some ro.rv:=by rw[za h.store];rfl
theorem RV.c2(h:RV os rcs ro w R v td rec fs ls):w.cell? ⟨R,2,none⟩=some ro.ov:=by rw[za h.store];rfl
theorem RV.c4(h:RV os rcs ro w R v td rec fs ls):w.cell? ⟨R,4,none⟩=some (.string rec):=by rw[za h.store];rfl
theorem RV.below(h:RV os rcs ro w R v td rec fs ls)(a:Below w.heap.size w w'):RV os rcs ro w' R v td rec fs ls where
 store:=by rw[a.block R (zc h.store)];exact h.store
 row:=zh h.row a
 flen:=h.flen
 fro:=h.fro
 ord:=h.ord.congr (λg b=>a.block g (h.ord.lt b))
 today:=h.today
 ok:=h.ok
 room:=h.room
 fam:=h.fam
 rc:=h.rc
def TR(ls:List L)(n:Nat):Int:=if Ur n ls<ls.length then (Ur n ls:Int) else -1
theorem cD(h:RV os rcs ro w R v td rec fs ls)(n:Nat)(D:n<=2147483647):Calls Tryz.prog 111 #[.pointer (some ⟨R,0,none⟩),.int .i64 n] w λe w'=>e=.returned (.int .i64 (TR ls n))/\w'=w:=by
 obtain⟨a,cap,y,d⟩:=h.shape;have c1:=h.c1;rw[y]at c1;have u:=h.room;have A:=zb h;clear h y;go_enter Tryz.func111,Tryz.ntmps111;go_wp2_with fail;go_loop [5] (λi=>∃k:Nat,k<=ls.length/\i=.int .i64 k/\(∀j,j<k->(ls.getD j L0).id≠n)) (λi=>ls.length-(intOf i).toNat)
 case atStart=>exact⟨0,by omega,rfl,λj h=>absurd h (by omega)⟩
 obtain⟨k,C,rfl,f⟩:=hrel;by_cases c:k<ls.length
 ·obtain⟨G,x,_,b⟩:=d (by omega);rw[x]at c1;have q:w.cell? ⟨G,k*11,none⟩=some (.int .i64 ((ls.getD k L0).id:Int)):=b k c 0 (by omega);have r:(ls.getD k L0).id<=2147483647:=(A.ok _ (zg c)).id;obtain⟨m,p⟩:=UC ((ls.getD k L0).id);rw[<-p.out]at q r;clear b x d;by_cases g:m=n
  ·have t:=aM g;have l:Hid (TR ls n=(k:Int)):=by
    have:=eG c f (by rw[<-p.out];exact g)
    unfold Hid TR;rw[this,xd c]
   clear g;go_wp2_with fail;go_ret;exact⟨by rw[l.out];rfl,rfl⟩
  have t:=ZU g;have z:=zb g;clear g;go_wp2_with fail;go_round
  case rel=>
   refine⟨k+1,by omega,by go_num,?_⟩;intro j B;by_cases s:j=k
   ·subst s;rw[<-p.out];exact z
   exact f j (by omega)
  simp[intOf];omega
 obtain rfl:k=ls.length:=by omega
 have l:Hid (TR ls n=-1):=by
  have:=wB f
  unfold Hid TR;rw[this,xe (by omega)]
 clear d c;go_wp2_with fail;go_ret;exact⟨by rw[l.out];rfl,rfl⟩
theorem fW(h:RV os rcs ro w R v td rec fs ls)(n:Nat)(l:n<=2147483647):Calls Tryz.prog 109 #[.pointer (some ⟨R,0,none⟩),.int .i64 n] w λe w'=>e=.returned (.int .i64 (zA ls n:Int))/\w'=w:=by
 have d:=zb (cD h n l);obtain⟨a,cap,j,_⟩:=h.shape;have c1:=h.c1;rw[j]at c1;have i:=h.room;clear h j;by_cases b:Ur n ls<ls.length
 ·have f:Hid (zA ls n=5):=by unfold Hid zA;rw[xd b]
  have c:Hid (TR ls n=(Ur n ls:Int)):=by unfold Hid TR;rw[xd b]
  rw[c.out]at d;generalize Ur n ls=k at *;clear c;go_enter Tryz.func109,Tryz.ntmps109;go_wp2_with (go_at_call 111;refine d.mono ?_;rintro e w1 ⟨rfl,rfl⟩);go_ret;exact⟨by rw[f.out];rfl,rfl⟩
 have c:Hid (TR ls n=-1):=by unfold Hid TR;rw[xe b]
 rw[c.out]at d;by_cases g:30<=ls.length
 ·have f:Hid (zA ls n=6):=by unfold Hid zA;rw[xe b,xd g]
  clear b c;go_enter Tryz.func109,Tryz.ntmps109;go_wp2_with (go_at_call 111;refine d.mono ?_;rintro e w1 ⟨rfl,rfl⟩);go_ret;exact⟨by rw[f.out];rfl,rfl⟩
 have f:Hid (zA ls n=0):=by unfold Hid zA;rw[xe b,xe g]
 clear b c;go_enter Tryz.func109,Tryz.ntmps109;go_wp2_with (go_at_call 111;refine d.mono ?_;rintro e w1 ⟨rfl,rfl⟩);go_ret;exact⟨by rw[f.out];rfl,rfl⟩
theorem yG(l:List Nat)(n:Nat):I (l++[n])=I l++[.int .i64 n]:=by simp[I]
theorem BL(l:List Nat):(I l).length=l.length:=by simp[I]
variable {ns out:List Nat}
theorem ZH{g cap:Nat}(h:w.ownsRow base 3 1 (.slice (some ⟨g,0,none⟩) ns.length cap) ns.length (I ns))(k:Nat)(a:k<ns.length):w.cell? ⟨g,k,none⟩=some (.int .i64 ((ns.getD k 0:Nat):Int)):=by
 rw[h.cellAt k (by omega)];simp[I,Ul,a]
theorem yY{k:Nat}(a:k<ns.length)(h:ns.getD k 0=n):ns.contains n=true:=by
 rw[XG,<-h];simp[Ul,a]
theorem vH(h:∀j,j<ns.length->ns.getD j 0≠n):ns.contains n=false:=by
 rw[Bool.eq_false_iff];intro a;rw[XG]at a;obtain⟨j,b,e⟩:=xt a;exact h j b (by rw[Ul,xh b];simpa using e)
theorem pY(h:w.ownsRow base 3 1 v ns.length (I ns))(A:ns.length<=1000)(n:Nat):Calls Tryz.prog 161 #[v,.int .i64 n] w λe w'=>e=.returned (.bool (ns.contains n))/\w'=w:=by
 obtain⟨a,cap,r⟩:=zQ h;have q:0<ns.length->∃G,a=some ⟨G,0,none⟩:=λD=>by
  obtain⟨g,c,p,_,_⟩:=zJ h D;rw[r]at p;cases p;exact⟨g,rfl⟩
 rw[r]at h;rw[r];have C:=zb h;obtain⟨E,b⟩:=UC (ns.contains n);rw[<-b.out];clear h r;go_enter Tryz.func161,Tryz.ntmps161;go_wp2_with fail;go_loop [5] (λi=>∃k:Nat,k<=ns.length/\i=.int .i64 k/\(∀j,j<k->ns.getD j 0≠n)) (λi=>ns.length-(intOf i).toNat)
 case atStart=>exact⟨0,by omega,rfl,λj h=>absurd h (by omega)⟩
 obtain⟨k,H,rfl,l⟩:=hrel;by_cases d:k<ns.length
 ·obtain⟨G,u⟩:=q (by omega);subst u;have x:=ZH C k d;obtain⟨m,t⟩:=UC (ns.getD k 0);rw[<-t.out]at x;by_cases f:m=n
  ·have z:=aM f;have s:Hid (ns.contains n=true):=yY d (by rw[<-t.out];exact f);clear f q;go_wp2_with fail;go_ret;exact⟨by rw[b.out,s.out];rfl,rfl⟩
  have z:=ZU f;have B:=zb f;clear f q;go_wp2_with fail;go_round
  case rel=>
   refine⟨k+1,by omega,by go_num,?_⟩;intro j F;by_cases y:j=k
   ·subst y;rw[<-t.out];exact B
   exact l j (by omega)
  simp[intOf];omega
 obtain rfl:k=ns.length:=by omega
 have s:Hid (ns.contains n=false):=vH l;clear q d;go_wp2_with fail;go_ret;exact⟨by rw[b.out,s.out];rfl,rfl⟩
theorem BV(ls:List L)(out:List Nat):∀i,i<=ls.length->out.length<=(iR (ls.take i) out).length
 |0,_=>by simp[iR]
 |i+1,hi=>by
  have:=BV ls out i (by omega)
  rw[fF (by omega)];unfold ZI;split
  ·simp;omega
  omega
def nN(out:List Nat)(ps:List (Nat×Nat))(j:Nat):Bool:=(ps.take j).any (λp=>out.contains p.1)
theorem pW(out:List Nat)(ps:List (Nat×Nat)):nN out ps 0=false:=by simp[nN]
theorem pV{ps:List (Nat×Nat)}(a:j<ps.length):nN out ps (j+1)=(nN out ps j||out.contains (ps.getD j (0,0)).1):=by
 unfold nN;rw[xk a,xbI];simp[Ul,a]
theorem wA(out:List Nat)(ps:List (Nat×Nat)):nN out (zY ps) (zY ps).length=ps.any (λp=>out.contains p.1):=by
 unfold nN;rw[Xa,LI]
def AQ(out:List Nat)(l:L)(h:Bool):List Nat:=if !(out.contains l.id)&&h then out++[l.id] else out
theorem ED(out:List Nat)(l:L):AQ out l (nN out (zY l.par) (zY l.par).length)=ZI out l:=by
 unfold AQ ZI;rw[wA]
theorem Oj{o:List Nat}{k:Nat}(c:k<ls.length)(out:List Nat)(b:out=iR (ls.take k) o)(l:L)(d:l=ls.getD k L0):(decide (out.length≠o.length)||(!(out.contains l.id)&&l.par.any (λp=>out.contains p.1)))=decide ((iR (ls.take (k+1)) o).length≠o.length):=by
 have a:=BV ls o k (by omega);rw[<-b]at a;rw[fF c,<-b,<-d];unfold ZI
 cases e:(!(out.contains l.id)&&l.par.any (λp=>out.contains p.1)) with
 |false=>simp
 |true=>
  simp only[Bool.or_true,YC,xb,Xc];symm;simp only[Xu];omega
structure ComJ(base:Nat)(w:World)(out:List Nat)(l:L)(ag:Bool)(j:Nat)(ov av iv:Value)(w2:World):Prop where
 own:w2.ownsRow base 3 1 ov (AQ out l (nN out (zY l.par) j)).length (I (AQ out l (nN out (zY l.par) j)))
 ag:av=.bool (ag||(!(out.contains l.id)&&nN out (zY l.par) j))
 inn:iv=.bool (out.contains l.id||nN out (zY l.par) j)
 below:Below base w w2
theorem MJ(out:List Nat)(l:L)(h:Bool):(AQ out l h).length<=out.length+1:=by
 unfold AQ;split
 ·simp
 omega
variable {ag:Bool}{l:L}
theorem ComJ.same(h:ComJ base w out l ag j ov av iv w2)(q:j<(zY l.par).length)(a:(out.contains l.id||nN out (zY l.par) j)=true):ComJ base w out l ag (j+1) ov av iv w2:=by
 obtain⟨k,m,n,p⟩:=h;have d:=pV (out:=out) q;have f:∀(i b c:Bool),(i||b)=true->(!i&&(b||c))=(!i&&b)/\(i||(b||c))=(i||b):=by decide
 obtain⟨g,r⟩:=f _ _ (out.contains ((zY l.par).getD j (0,0)).1) a;refine⟨?_,?_,?_,p⟩
 ·have e:AQ out l (nN out (zY l.par) (j+1))=AQ out l (nN out (zY l.par) j):=by
   unfold AQ;rw[d,g]
  rw[e];exact k
 ·rw[d,g];exact m
 rw[d,r];exact n
theorem ComJ.miss(h:ComJ base w out l ag j ov av iv w2)(b:j<(zY l.par).length)(c:out.contains ((zY l.par).getD j (0,0)).1=false):ComJ base w out l ag (j+1) ov av iv w2:=by
 obtain⟨d,e,f,a⟩:=h;refine⟨?_,?_,?_,a⟩<;>rw[pV b,c,YE]<;>assumption
def Pn:Value->Nat
 | .slice _ n _=>n
 |_=>0
def yS(ov av:Value):Nat:=match av with
 | .bool true=>if Pn ov=1 then 2 else 1
 |_=>0
theorem ComJ.hit(d:j<(zY l.par).length)(b:out.contains l.id=false)(g:out.contains ((zY l.par).getD j (0,0)).1=true)(f:w2.ownsRow base 3 1 ov (out++[l.id]).length (I (out++[l.id])))(c:Below base w w2):ComJ base w out l ag (j+1) ov (.bool true) (.bool true) w2:=by
 have a:=pV (out:=out) d;rw[g,Bool.or_true]at a;refine⟨?_,?_,?_,c⟩
 ·have e:AQ out l (nN out (zY l.par) (j+1))=out++[l.id]:=by unfold AQ;rw[a,b];rfl
  rw[e];exact f
 ·rw[a,b];simp
 rw[a];simp
theorem ComJ.fin(h:ComJ base w out l ag (zY l.par).length ov av iv w2):w2.ownsRow base 3 1 ov (ZI out l).length (I (ZI out l))/\av=.bool (ag||(!(out.contains l.id)&&l.par.any (λp=>out.contains p.1)))/\Below base w w2:=by
 obtain⟨a,b,d,c⟩:=h;rw[ED]at a;rw[wA]at b;exact⟨a,b,c⟩
theorem yT(h:RV os rcs ro w R v td rec fs ls)(n:Nat)(hn:n<=2147483647):Calls Tryz.prog 118 #[.pointer (some ⟨R,0,none⟩),.int .i64 n] w λe w'=>Below w.heap.size w w'/\∃v',e=.returned v'/\w'.ownsRow w.heap.size 3 1 v' (jW ls n).length (I (jW ls n)):=by
 obtain⟨i0,hi,f4,f5,f6⟩:=XH FG;obtain⟨a,cap,hv,C⟩:=h.shape;have c1:=h.c1;rw[hv]at c1;have f0:=h.room;have J:=zc h.store;have HP:=zb h;have HF:=zb h.fam;have d2:Hid ((w.alloc (.cells #[.int .i64 n] 3)).ownsRow w.heap.size 3 1 (.slice (some ⟨w.heap.size,0,none⟩) 1 1) [n].length (I [n])):=Yh w #[.int .i64 n] 1 (xc _) (by unfold maxLen;omega) rfl;clear h hv;go_enter Tryz.func118,Tryz.ntmps118;go_wp2_with fail;go_loopw [5,6,7,8,9,10] (λov ag _ _ _ _ wr=>∃(o:List Nat) (b:Bool),ag=.bool b/\wr.ownsRow w.heap.size 3 1 ov o.length (I o)/\Below w.heap.size w wr/\((o=[n]/\b=true)\/(o=jW ls n/\(b=true->(jW ls n).length≠1)))) (λov ag _ _ _ _ _=>yS ov ag)
 case atStart=>exact⟨[n],true,rfl,d2,TQ w _,Or.inl ⟨rfl,rfl⟩⟩
 obtain⟨o,b,rfl,d,A,T⟩:=hrel
 cases b with
 |false=>
  have E:Hid (o=jW ls n):=by
   rcases T with ⟨_,h⟩|⟨h,_⟩
   ·cases h
   exact h
  have HO:=zb d;obtain⟨oa,oc,W⟩:=zQ d;subst W;clear d T C;go_wp2_with fail;go_ret;exact⟨A,_,rfl,by rw[<-E.out];exact HO⟩
 |true=>
  have b4:Hid (o.length<=31):=by
   rcases T with ⟨h,_⟩|⟨h,_⟩
   ·unfold Hid;rw[h];simp
   unfold Hid;rw[h];have:=iS ls [n] ls.length (xc _);rw[Xa]at this;unfold jW;simp at this;omega
  have HO:=zb d;have E:=zb T;have e2:=zb A;obtain⟨f7,f8,e0⟩:=zQ d;subst e0;clear d T A;go_wp2_with fail;obtain⟨wo,rfl⟩:∃wo,wo=wr:=⟨wr,rfl⟩
  go_loopw [5,6,7,8,9,10] (λov ag ii _ _ _ w2=>∃k:Nat,k<=ls.length/\ii=.int .i64 k/\ag=.bool (decide ((iR (ls.take k) o).length≠o.length))/\w2.ownsRow w.heap.size 3 1 ov (iR (ls.take k) o).length (I (iR (ls.take k) o))/\Below w.heap.size w w2) (λ_ _ ii _ _ _ _=>ls.length-(intOf ii).toNat)
  case atStart=>exact⟨0,by omega,rfl,by simp[iR],by simpa [iR] using HO.out,e2⟩
  obtain⟨k,hk,rfl,rfl,d,A⟩:=hrel;by_cases s:k<ls.length
  ·obtain⟨G,hG,z,f⟩:=C (by omega);subst hG;have b6:=HP.below A;have cR:wr.cell? ⟨R,1,none⟩=some (.slice (some ⟨G,0,none⟩) ls.length cap):=(A.cell (by exact J)).trans c1;have e6:wr.cell? ⟨G,k*11,none⟩=some (.int .i64 ((ls.getD k L0).id:Int)):=(A.cell (by exact z)).trans (f k s 0 (by omega));have b2:wr.cell? ⟨G,k*11+10,none⟩=some (fs.getD k default):=(A.cell (by exact z)).trans (f k s 10 (by omega));have B:=HP.from s;have c6:=b6.ok _ (zg s);have Z:(ls.getD k L0).par.length<=2:=c6.par.1;have a8:=iS ls o k (by omega);have f9:=b4.out;obtain⟨out,H⟩:=UC (iR (ls.take k) o);obtain⟨l,HL⟩:=UC (ls.getD k L0);have c8:=zb (Oj (o:=o) s out H l HL);have b5:Hid (iR (ls.take (k+1)) o=ZI out l):=by unfold Hid;rw[fF s,<-H.out,<-HL.out]
   rw[<-HL.out]at e6 B Z;rw[<-H.out]at d a8;rw[<-H.out];have K:=zb (pY d (by omega) l.id);obtain⟨ag,a1⟩:=UC (decide (out.length≠o.length));rw[<-a1.out];have g6:=zb (ED out l);have g5:=zb (wA out l.par);obtain⟨oa,oc,W⟩:=zQ d;subst W;have a2:Hid (ComJ w.heap.size w out l ag 0 (.slice oa out.length oc) (.bool ag) (.bool (out.contains l.id)) wr):=by
    refine⟨?_,?_,?_,A⟩
    ·rw[pW];have e:AQ out l false=out:=by unfold AQ;simp
     rw[e];exact d
    ·rw[pW];simp
    rw[pW];simp
   have g4:=zb (aG l.par);by_cases h0:l.par.length=0
   ·have e9:l.par=[]:=Xn.1 h0;have d8:zY l.par=[]:=by rw[e9];rfl
    have a6:fs.getD k default=.slice none 0 0\/∃q c,fs.getD k default=.slice (some ⟨q,0,none⟩) 0 c:=by
     rcases B with ⟨M,_⟩|⟨q,c,cs,M,_⟩
     ·exact Or.inl M
     exact Or.inr ⟨q,c,by rw[M,d8];rfl⟩
    have b1:ComJ w.heap.size w out l ag (zY l.par).length (.slice oa out.length oc) (.bool ag) (.bool (out.contains l.id)) wr:=by rw[d8];exact a2
    obtain⟨f1,f2,f3⟩:=b1.fin;rw[a1.out,c8.out]at f2;rw[<-a1.out]at f2;have a3:=zb f1;have d0:=zb f2;have d1:=zb f3;obtain⟨ib,b3⟩:=UC (out.contains l.id);rw[<-b3.out]at K;generalize fs.getD k default=fv at *;clear f b6 B c6 A d C E HO b4 b1 f1 f2 f3 a2;rcases a6 with rfl|⟨q,c,rfl⟩
    ·go_wp2_with (go_at_call 161;refine K.mono ?_;rintro e w1 ⟨rfl,rfl⟩)
     refine Yw 1 ?_;rw[YU]
     go_wp2_with fail;go_roundw
     case rel=>exact⟨k+1,by omega,by go_num,d0,by rw[b5.out];exact a3,d1⟩
     simp[intOf];omega
    go_wp2_with (go_at_call 161;refine K.mono ?_;rintro e w1 ⟨rfl,rfl⟩)
    refine Yw 1 ?_;rw[YU]
    go_wp2_with fail;go_roundw
    case rel=>exact⟨k+1,by omega,by go_num,d0,by rw[b5.out];exact a3,d1⟩
    simp[intOf];omega
   obtain⟨q,qc,a6,e1,c7⟩:=Prs.cells B (by rw[aG];omega);have w0:w.cell? ⟨G,k*11,none⟩=some (.int .i64 l.id):=by rw[HL.out];exact f k s 0 (by omega)
   have a9:w.cell? ⟨G,k*11+10,none⟩=some (fs.getD k default):=f k s 10 (by omega);rw[a6]at b2 a9;obtain⟨m,P⟩:=UC ((zY l.par).length);rw[<-P.out]at b2 c7 a9;have e4:=zb w0;have d5:=zb a9;clear w0 a9;have g9:m<=2:=by rw[P.out,aG];exact Z
   have e3:=zb c7;have HB:=zb A;obtain⟨ib,b3⟩:=UC (out.contains l.id);rw[<-b3.out]at K a2;have g1:G<wr.heap.size:=xn z A.size;have g2:R<wr.heap.size:=xn J A.size;have h3:w.heap.size<=wr.heap.size:=A.size;clear f b6 B c6 c7 A d a6 C E HO b4;go_wp2_with (go_at_call 161;refine K.mono ?_;rintro e w1 ⟨rfl,rfl⟩);clear K;obtain⟨wl,rfl⟩:∃wl,wl=w1:=⟨w1,rfl⟩
   go_loopw [5,6,8,9,10] (λov av iv jj _ w2=>∃j:Nat,j<=m/\jj=.int .i64 j/\ComJ w.heap.size w out l ag j ov av iv w2) (λ_ _ _ jj _ _=>m-(intOf jj).toNat)
   case atStart=>exact⟨0,by omega,rfl,a2⟩
   obtain⟨j,hj,rfl,g⟩:=hrel;obtain⟨ja,jc,e5⟩:=zQ g.own;subst e5;have a4:=g.ag;have S:=g.inn;have F:=g.below;have g7:wr.cell? ⟨R,1,none⟩=some (.slice (some ⟨G,0,none⟩) ls.length cap):=(F.cell (by exact J)).trans c1;have g0:wr.cell? ⟨G,k*11,none⟩=some (.int .i64 l.id):=(F.cell (by exact z)).trans e4;have g8:wr.cell? ⟨G,k*11+10,none⟩=some (.slice (some ⟨q,0,none⟩) m qc):=(F.cell (by exact z)).trans d5;by_cases b9:j<m
   ·have b8:j<(zY l.par).length:=by rw[<-P.out];exact b9
    have hq:wr.cell? ⟨q,j*2,none⟩=some (.int .i64 (((zY l.par).getD j (0,0)).1:Int)):=(F.cell (by exact e1)).trans (e3 j b9).1;have e8:=MJ out l (nN out (zY l.par) j);have D:=zb (pY g.own (by omega) ((zY l.par).getD j (0,0)).1);have r:=zb (λh=>g.same b8 h);have p:=zb (λh=>g.miss b8 h)
    cases i:(out.contains l.id||nN out (zY l.par) j) with
    |true=>
     have y:=zb (r i);rw[i]at S;subst S;subst a4;have d6:∃a',Value.bool (ag||(!(out.contains l.id)&&nN out (zY l.par) j))=.bool a':=⟨_,rfl⟩
     obtain⟨a',b7⟩:=d6;rw[b7]at y;rw[b7];generalize AQ out l (nN out (zY l.par) j)=oj at *;generalize ((zY l.par).getD j (0,0)).1=x at *;generalize oj.contains x=ob at *;clear r p g i b7
     cases ob
     ·go_wp2_with (go_at_call 161;refine D.mono ?_;rintro e w5 ⟨rfl,rfl⟩)
      go_roundw
      case rel=>exact⟨j+1,by omega,by go_num,y⟩
      simp[intOf];omega
     go_wp2_with (go_at_call 161;refine D.mono ?_;rintro e w5 ⟨rfl,rfl⟩)
     go_roundw
     case rel=>exact⟨j+1,by omega,by go_num,y⟩
     simp[intOf];omega
    |false=>
     have a5:out.contains l.id=false:=by cases hx:out.contains l.id with|false=>rfl|true=>rw[hx]at i;cases i
     have a7:nN out (zY l.par) j=false:=by cases hx:nN out (zY l.par) j with|false=>rfl|true=>rw[hx,a5]at i;cases i
     rw[i]at S;rw[a7,xah,YE]at a4;subst S;subst a4;have eo:AQ out l (nN out (zY l.par) j)=out:=by unfold AQ;rw[a7];simp
     have t:=g.own;rw[eo]at t D
     cases N:out.contains ((zY l.par).getD j (0,0)).1 with
     |false=>
      have y:=zb (p N);rw[N]at D;rw[eo]at y;rw[eo];generalize ((zY l.par).getD j (0,0)).1=x at *;clear r p g i a5 a7 eo t N;go_wp2_with (go_at_call 161;refine D.mono ?_;rintro e w5 ⟨rfl,rfl⟩);go_roundw
      case rel=>exact⟨j+1,by omega,by go_num,y⟩
      simp[intOf];omega
     |true=>
      have b0:Hid (∀(ov:Value) (w2:World),w2.ownsRow w.heap.size 3 1 ov (out++[l.id]).length (I (out++[l.id]))->Below w.heap.size w w2->ComJ w.heap.size w out l ag (j+1) ov (.bool true) (.bool true) w2):=λov w2 M h2=>ComJ.hit b8 a5 N M h2
      rw[N]at D;rw[eo];have g3:w.heap.size<=wr.heap.size:=F.size;have c9:=zb F;generalize ((zY l.par).getD j (0,0)).1=x at *;clear r p g i a5 a7 eo N F;go_wp2_with (first
       |(go_at_call 161;refine D.mono ?_;rintro e w5 ⟨rfl,rfl⟩)
       |(at_builtin;refine Xb _ rfl _ _ 55 rfl (w.heap.size) 3 i0 (.int .i64 0) 1 8 xQ hi f4 f5 f6 rfl (by decide) _ _ _ rfl (t.alloc _) ⟨w5.heap.size,0,none⟩ 1 1 [.int .i64 l.id] rfl rfl ?c1 ?c2 ?c3 ?c4 ?c5 ?_))
      case c1=>exact aV _ _ _
      case c2=>intro u hu;simp at hu;subst hu;rfl
      case c3=>unfold maxLen;omega
      case c4=>omega
      case c5=>simp;omega
      intro v' w6 X Q e7;have d7:Below w.heap.size w w6:=(c9.alloc c9.size _).grown Q (by simp;omega) (λk hk=>(t.lt k hk).1);have d9:w6.ownsRow w.heap.size 3 1 v' (out++[l.id]).length (I (out++[l.id])):=by rw[yG,xb];exact X
      have y:=zb (b0 _ _ d9 d7);clear X Q e7 d9 d7 b0;go_wp2_with fail;go_roundw
      case rel=>exact⟨j+1,by omega,by go_num,y⟩
      simp[intOf];omega
   obtain rfl:j=m:=by omega
   rw[P.out]at g;obtain⟨f1,f2,f3⟩:=g.fin;rw[a1.out,c8.out]at f2;subst f2;have a3:Hid (wr.ownsRow w.heap.size 3 1 (.slice ja (AQ out l (nN out (zY l.par) j)).length jc) (ZI out l).length (I (ZI out l))):=by have h5:=f1;rw[<-P.out]at h5;exact h5
   clear g a4 S b9 f1;go_wp2_with fail;go_roundw
   case rel=>exact⟨k+1,by omega,by go_num,rfl,by rw[b5.out];exact a3,f3⟩
   simp[intOf];omega
  obtain rfl:k=ls.length:=by omega
  rw[Xa]at d;rw[Xa];have cR:wr.cell? ⟨R,1,none⟩=some (.slice a ls.length cap):=(A.cell (by exact J)).trans c1;obtain⟨oa,oc,W⟩:=zQ d;subst W;have d4:Hid (∃(o':List Nat) (b:Bool),Value.bool (decide ((iR ls o).length≠o.length))=.bool b/\wr.ownsRow w.heap.size 3 1 (.slice oa (iR ls o).length oc) o'.length (I o')/\Below w.heap.size w wr/\((o'=[n]/\b=true)\/(o'=jW ls n/\(b=true->(jW ls n).length≠1)))):=by
   refine⟨_,_,rfl,d,A,Or.inr ?_⟩;rcases E with ⟨M,_⟩|⟨M,h2⟩
   ·subst M;exact⟨rfl,λh=>by simpa [jW] using h⟩
   have a0:=tB HF n (xc ls.length);rw[Xa]at a0;rw[M,a0];exact⟨rfl,λh=>by simp at h⟩
  have d3:Hid (yS (.slice oa (iR ls o).length oc) (.bool (decide ((iR ls o).length≠o.length)))<yS (.slice f7 o.length f8) (.bool true)):=by
   rcases E with ⟨M,_⟩|⟨M,h2⟩
   ·subst M;unfold Hid yS Pn;by_cases hc:(iR ls [n]).length=1
    ·simp[hc]
    simp[hc]
   have a0:=tB HF n (xc ls.length);rw[Xa]at a0;subst M;rw[a0];unfold Hid yS Pn;simp;split<;>omega
  clear d C E HO s;go_wp2_with fail;go_roundw
  case rel=>exact d4
  exact d3
theorem cO{g cap:Nat}:∀{ps:List (Nat×Nat)},w.ownsRow base 181 2 (.slice (some ⟨g,0,none⟩) ps.length cap) ps.length (zx ps)->∀k,k<ps.length->w.cell? ⟨g,k*2,none⟩=some (.int .i64 ((ps.getD k (0,0)).1:Int))/\w.cell? ⟨g,k*2+1,none⟩=some (.int .i64 ((ps.getD k (0,0)).2:Int)):=by
 intro ps h k a;have d:∀(ps:List (Nat×Nat)) (k:Nat),k<ps.length->(zx ps)[k*2]?=some (.int .i64 ((ps.getD k (0,0)).1:Int))/\(zx ps)[k*2+1]?=some (.int .i64 ((ps.getD k (0,0)).2:Int)):=by
  intro ps;induction ps with
  |nil=>intro k a;simp at a
  |cons p ps ih=>
   intro k a
   cases k with
   |zero=>exact⟨rfl,rfl⟩
   |succ k=>
    obtain⟨b,c⟩:=ih k (by simpa using a);have e:(k+1)*2=k*2+2:=by omega
    rw[e];simpa [zx] using ⟨b,c⟩
 obtain⟨b,c⟩:=d ps k a;rw[h.cellAt (k*2) (by omega),h.cellAt (k*2+1) (by omega)];exact⟨b,c⟩
theorem RV.rshape(h:RV os rcs ro w R v td rec fs ls):∃a cap,ro.rv=.slice a rcs.length cap/\(0<rcs.length->∃G,a=some ⟨G,0,none⟩/\G<w.heap.size/\∀k,k<rcs.length->w.cell? ⟨G,k*2,none⟩=some (.int .i64 ((rcs.getD k (0,0)).1:Int))/\w.cell? ⟨G,k*2+1,none⟩=some (.int .i64 ((rcs.getD k (0,0)).2:Int))):=by
 obtain⟨a,cap,d⟩:=lE h.ord.fd.rrow;refine⟨a,cap,d,λj=>?_⟩;obtain⟨g,e,b,_,c⟩:=qP h.ord.fd.rrow j;rw[d]at b
 cases b;have f:=h.ord.fd.rrow
 rw[d]at f;exact⟨g,rfl,c,λk i=>cO f k i⟩
theorem jO(h:RV os rcs ro w R v td rec fs ls)(n:Nat):Calls Tryz.prog 119 #[.pointer (some ⟨R,0,none⟩),.int .i64 n] w λe w'=>e=.returned (.bool (cG rcs ls n))/\Below w.heap.size w w':=by
 have c3:=h.c3;obtain⟨a,cap,M,g⟩:=h.rshape;rw[M]at c3;have S:=h.rc.len;have y:=zc h.store;have H:=zb h;have B:=zb h.rc;have J:Hid (cG rcs ls n=rcs.any (λp=>iO ls p.1 n)):=EN ls n rcs;obtain⟨rb,j⟩:=UC (cG rcs ls n);rw[<-j.out];clear h M;go_enter Tryz.func119,Tryz.ntmps119;go_wp2_with fail;go_loopw [5,6,7] (λF _ _ wr=>∃k:Nat,k<=rcs.length/\F=.int .i64 k/\(rcs.take k).any (λp=>iO ls p.1 n)=false/\Below w.heap.size w wr) (λF _ _ _=>rcs.length-(intOf F).toNat)
 case atStart=>exact⟨0,by omega,rfl,by simp,xg _ _⟩
 obtain⟨k,X,rfl,i,m⟩:=hrel;have T:wr.cell? ⟨R,3,none⟩=some (.slice a rcs.length cap):=(m.cell (by exact y)).trans c3;by_cases d:k<rcs.length
 ·obtain⟨G,N,x,b⟩:=g (by omega);subst N;have P:wr.cell? ⟨G,k*2,none⟩=some (.int .i64 ((rcs.getD k (0,0)).1:Int)):=(m.cell (by exact x)).trans (b k d).1;have l:rcs.getD k (0,0)∈rcs:=by rw[Ul,xh d];simp
  have D:=(B.fits _ l).1;have r:=zb (yT (H.below m) (rcs.getD k (0,0)).1 D);have Q:(jW ls (rcs.getD k (0,0)).1).length<=31:=by
   have K:=iS ls [(rcs.getD k (0,0)).1] ls.length (xc _);rw[Xa]at K;have W:=H.room;unfold jW;simp only[List.length_cons,XB]at K;omega
  have u:Hid ((rcs.take (k+1)).any (λp=>iO ls p.1 n)=(iO ls (rcs.getD k (0,0)).1 n)):=by
   unfold Hid;rw[xk d,xbI,i];simp[Ul,d]
  have s:=zb (iP ls (rcs.getD k (0,0)).1 n);have t:=zb l;generalize Z:rcs.getD k (0,0)=p at *;clear b g l;go_wp2_with fail;refine r.mono ?_
  rintro e w1 ⟨z,v',rfl,f⟩;have c:=zb (pY f (by omega) n);rw[s.out]at c;have q:Hid (Below w.heap.size w w1):=m.trans (z.mono m.size);obtain⟨va,vc,E⟩:=zQ f;subst E;clear f z r
  cases A:iO ls p.1 n with
  |true=>
   have C:Hid (cG rcs ls n=true):=by
    unfold Hid;rw[J.out,Yt];exact⟨p,t,A⟩
   rw[A]at c;clear A;go_wp2_with (go_at_call 161;refine c.mono ?_;rintro e w2 ⟨rfl,rfl⟩);go_ret;exact⟨by rw[j.out,C.out];rfl,q⟩
  |false=>
   rw[A]at c u;clear A;go_wp2_with (go_at_call 161;refine c.mono ?_;rintro e w2 ⟨rfl,rfl⟩);go_roundw
   case rel=>exact⟨k+1,by omega,by go_num,u,q⟩
   simp[intOf];omega
 obtain rfl:k=rcs.length:=by omega
 have C:Hid (cG rcs ls n=false):=by
  unfold Hid;rw[J.out];rw[Xa]at i;exact i
 clear g d i;go_wp2_with fail;go_ret;exact⟨by rw[j.out,C.out];rfl,m⟩
def gN(rc:Nat->Bool)(l:L):List Nat:=[l.gd,l.ex,l.place,l.got,l.free,l.hd,l.sh,l.sc,l.gv,if rc l.id then 1 else 0]
theorem Mn{S:Nat}{M:Mx}{z:List Nat}{x:List Value}(h:PV os rcs w S M v td z x ls)(n:Nat)(J:n<=2147483647)(B:Ur n ls<ls.length):Calls Tryz.prog 107 #[.pointer (some ⟨S,0,none⟩),.agg #[.int .i64 n]] w λe w'=>Below w.heap.size w w'/\∃g,e=.returned (.tuple #[.slice (some ⟨g,0,none⟩) 10 10,.int .i64 0])/\w'.heap[g]?=some (.cells (I (gN (cG rcs ls) (ls.getD (Ur n ls) L0))).toArray 2 (0,0)):=by
 have A:=TQ w (Obj.cells #[.int .i64 n] 171);have p:=h.below A;have y:=zb (Zz p n J);have H:=zb (mF p);have s:zM z ls n=.pointer (some ⟨z.getD (Ur n ls) 0,0,none⟩):=by unfold zM;rw[xd B]
 rw[s]at y;obtain⟨b,G⟩:=UC (z.getD (Ur n ls) 0);obtain⟨l,F⟩:=UC (ls.getD (Ur n ls) L0);rw[<-F.out];rw[<-G.out]at y;have d:=p.lot _ B;rw[<-G.out,<-F.out]at d;generalize x.getD (Ur n ls) default=pv at d;have E:=zb d;have k:Hid (l.id<=2147483647):=by rw[F.out];exact(p.ok _ (zg B)).id
 have m:Hid (gN (cG rcs ls) l=[l.gd,l.ex,l.place,l.got,l.free,l.hd,l.sh,l.sc,l.gv,if cG rcs ls l.id then 1 else 0]):=rfl;obtain⟨P,i⟩:=UC (cG rcs ls l.id);rw[m.out,<-i.out];clear h p s d m;go_enter Tryz.func107,Tryz.ntmps107;go_wp2_with (first
  |(go_at_call 148;refine y.mono ?_;rintro e w1 ⟨rfl,rfl⟩)
  |fail)
 refine H.mono ?_
 rintro e w1 ⟨f,Q,N,D,rfl,t,r,u⟩;have c:=(f.block b (zc E)).trans E;have C:=zb (Ip t k (by rw[za c];rfl));rw[r l.id k.out,<-i.out]at C;clear r i
 cases P
 all_goals (
  go_wp2_with fail;refine C.mono ?_
  rintro e w2 ⟨rfl,j⟩;have a:=(j.block b (zc c)).trans c;have R:w2.cell? ⟨b,1,none⟩=some (.int .i64 l.gd):=by rw[za a];rfl
  have T:w2.cell? ⟨b,2,none⟩=some (.int .i64 l.ex):=by rw[za a];rfl
  have W:w2.cell? ⟨b,3,none⟩=some (.int .i64 l.place):=by rw[za a];rfl
  have X:w2.cell? ⟨b,5,none⟩=some (.int .i64 l.got):=by rw[za a];rfl
  have Z:w2.cell? ⟨b,6,none⟩=some (.int .i64 l.free):=by rw[za a];rfl
  have k7:w2.cell? ⟨b,7,none⟩=some (.int .i64 l.hd):=by rw[za a];rfl
  have k8:w2.cell? ⟨b,8,none⟩=some (.int .i64 l.sh):=by rw[za a];rfl
  have k9:w2.cell? ⟨b,9,none⟩=some (.int .i64 l.sc):=by rw[za a];rfl
  have K:w2.cell? ⟨b,10,none⟩=some (.int .i64 l.gv):=by rw[za a];rfl
  have q:Hid (Below w.heap.size w w2):=A.trans ((f.trans (j.mono f.size)).mono A.size);clear c a C y H E f j t u A B J;go_wp2_with fail;go_region_held3 (λw'=>w'.cell? ⟨b,1,none⟩=some (.int .i64 l.gd)/\w'.cell? ⟨b,2,none⟩=some (.int .i64 l.ex)/\w'.cell? ⟨b,3,none⟩=some (.int .i64 l.place)/\w'.cell? ⟨b,5,none⟩=some (.int .i64 l.got)/\w'.cell? ⟨b,6,none⟩=some (.int .i64 l.free)/\w'.cell? ⟨b,7,none⟩=some (.int .i64 l.hd)/\w'.cell? ⟨b,8,none⟩=some (.int .i64 l.sh)/\w'.cell? ⟨b,9,none⟩=some (.int .i64 l.sc)/\w'.cell? ⟨b,10,none⟩=some (.int .i64 l.gv)) (go_keep) (fail);go_wp2_with fail;go_ret2;exact⟨(q.alloc q.size _).drew,w2.heap.size,rfl,xo w2 _⟩)
theorem IV{S:Nat}{M:Mx}{d:List Nat}{b:List Value}(h:PV os rcs w S M v td d b ls)(n:Nat)(j:n<=2147483647)(i:¬Ur n ls<ls.length):Calls Tryz.prog 107 #[.pointer (some ⟨S,0,none⟩),.agg #[.int .i64 n]] w λe w'=>Below w.heap.size w w'/\e=.returned (.tuple #[.slice none 0 0,.int .i64 4]):=by
 have g:=TQ w (Obj.cells #[.int .i64 n] 171);have f:=h.below g;have c:=zb (Zz f n j);have a:zM d ls n=.pointer none:=by unfold zM;rw[xe i]
 rw[a]at c;clear h f a i;go_enter Tryz.func107,Tryz.ntmps107;go_wp2_with (first
  |(go_at_call 148;refine c.mono ?_;rintro e w1 ⟨rfl,rfl⟩)
  |fail)
 go_ret2;exact⟨g,rfl⟩
