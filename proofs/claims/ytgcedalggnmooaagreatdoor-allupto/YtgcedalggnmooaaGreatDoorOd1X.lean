import Derived.Test.YtgcedalggnmooaaGreatDoorOrdX
import Derived.Deep.AppendLies
import Derived.Deep.RegionLaw
import Derived.Test.YtgcedalggnmooaaGreatDoorAsrtX
set_option linter.all false
set_option maxRecDepth 100000
set_option maxHeartbeats 1600000
namespace Go.Proofs.YtgcedalggnmooaaGreatDoor
open Go.RowKit
open Value renaming int->Y,slice->vd,pointer->ve
open IntKind renaming i64->V
open Option renaming none->U,some->vb
open Obj renaming cells->vf
open Ending renaming returned->vg
open Tryz
def IF:prog.underlying 112=vb (.map 2 2):=by kernel_rfl
def Ul:prog.underlying 113=vb (.map 260 2):=by kernel_rfl
def UN:(prog.info? 2).map (λi=>i.zero)=vb (vb (Y V 0)):=by kernel_rfl
def MI(w:World):(zeroValue 2).run prog w=.ok (Y V 0) w:=by
 have h:=UN
 cases a:prog.info? 2 with
 |none=>rw[a]at h;cases h
 |some i=>
  rw[a]at h;simp at h;unfold zeroValue typeInfo;simp[program,Sem.run,a,h]
variable {S b cap g id n td:Nat}{v:Value}{w:World}
def zF{d e size:Nat}{xs:List Value}(h:w.ownsRow b e size v n xs)(j:d<=b):w.ownsRow d e size v n xs:=by
 refine⟨h.1,?_⟩;rcases h.2 with c|⟨g,cap,a,c,f,i⟩
 ·exact Or.inl c
 exact Or.inr ⟨g,cap,a,c,xi j f,i⟩
variable {D:DataW Unit}{os:List O}
def TP(h:MW w b n D)(hd:OD os D)(k:Nat)(a:k<=2147483647):∃c:Int,(Instr.lookup 112 (.map (vb b)) (Y V k) true).run prog w=.ok (.tuple #[Y V c,.bool (os.any (λo=>o.id==k))]) w:=by
 obtain⟨v,ps,d,e⟩:=xbk h Bj IF (MI w) (xbi XE (by decide)) (qV a);obtain⟨c,rfl,_,_⟩:=plainElem_int_inv XE e;exact⟨c,by rw[d,hd.has k a]⟩
def TO(h:MV w b n D)(hd:HD os D)(k l:Nat)(d:k<=2147483647)(e:l<=2147483647):(Instr.lookup 113 (.map (vb b)) (.agg #[Y V k,Y V l]) true).run prog w=.ok (.tuple #[Y V (((zn os k l).getD 0:Nat):Int),.bool (zn os k l).isSome]) w:=by
 obtain⟨v,ps,f,g⟩:=xbk h xK Ul (MI w) (xbi XE (by decide)) (Du d e);obtain⟨c,rfl,a,_⟩:=plainElem_int_inv XE g;rw[hd.val k l d e]at a;simp at a;rw[f,hd.has k l d e,<-a.1]
variable {M:Mx}{bs:List Nat}{l rj:List (Nat×Nat)}{ls:List L}{pvs:List Value}
def bX(h:PV os rj w S M v td bs pvs ls)(k:Nat)(b:k<=2147483647):Calls prog 150 #[ve (vb ⟨S,0,U⟩),Y V k] w λe w'=>e=vg (.bool (os.any (λo=>o.id==k)))/\w'=w:=by
 obtain⟨D,a,hd⟩:=h.maps.o;obtain⟨c,d⟩:=TP a hd k b;have c2:=h.c2;generalize os.any (λo=>o.id==k)=bb at *;clear h a hd;go_enter func150,ntmps150;go_wp2_with fail;go_ret;exact⟨rfl,rfl⟩
def mI(way:Nat):Bool:=decide (2<=way)
def Ey(way:Nat):Bool:=decide (way=1\/way=3)
def Vt{a:Nat}(h:a<=3):(bits .and .i64 (a:Int) 2 != 0)=mI a:=by
 rcases(show a=0\/a=1\/a=2\/a=3 by omega) with rfl|rfl|rfl|rfl<;>decide
def Vk{a:Nat}(h:a<=3):(bits .and .i64 (a:Int) 1 != 0)=Ey a:=by
 rcases(show a=0\/a=1\/a=2\/a=3 by omega) with rfl|rfl|rfl|rfl<;>decide
def zo(rj:List (Nat×Nat))(td gd count gate way:Nat)(ls:List L):List (Nat×Nat):=aG ls (cU rj (mI way) td gd gate ls) count
def mQ(h:PV os rj w S M v td bs pvs ls)(B:Good os ls)(id gd d b g:Nat)(R:gd<=2147483647)(P:d<=2147483647)(T:b<=2147483647)(W:g<=3):Calls prog 151 #[ve (vb ⟨S,0,U⟩),.agg #[Y V id,Y V gd,Y V d,Y V b,Y V g]] w λe w'=>Below w.heap.size w w'/\∃v',e=vg v'/\w'.ownsRow w.heap.size 241 2 v' (zo rj td gd d b g ls).length (zk bs (zo rj td gd d b g ls)):=by
 have A:=Wm w (Obj.cells #[Y V id,Y V gd,Y V d,Y V b,Y V g] 155);have p:=xq w (Obj.cells #[Y V id,Y V gd,Y V d,Y V b,Y V g] 155);have H:=h.below A;have F:=zb (mL H gd b R T);have G:=zb H;have y:=zb B;have K:=h.room;clear H h B;go_enter func151,ntmps151;go_wp2_with fail;refine F.mono ?_
 rintro e w1 ⟨l,v',rfl,i⟩;have Z:w1.cell? ⟨w.heap.size,2,U⟩=vb (Y V d):=(l.cell (by simp)).trans (by rw[za p];rfl);have k4:w1.cell? ⟨w.heap.size,4,U⟩=vb (Y V g):=(l.cell (by simp)).trans (by rw[za p];rfl);obtain⟨a,cap,E⟩:=zM i;rw[E]at i;rw[E];rw[Zu]at i;rw[Zu];have m:=G.below l;have r:∀c∈dF rj td gd b ls ls.length,c<ls.length:=λc J=>rY J
 have q:∀c∈dF rj td gd b ls ls.length,0<(ls.getD c L0).free:=λc J=>by
  have:=(dD (f:=true)).1 ((eE true td gd b ls).mem_iff.2 J)
  have Q:=this.2;unfold Xt at Q;simp only[yt,yr]at Q;omega
 have C:(dF rj td gd b ls ls.length).length<=30:=by have:=dS (rj:=rj) td gd b ls ls.length;omega
 have j:w1.ownsRow 0 191 1 (vd a (dF rj td gd b ls ls.length).length cap) (dF rj td gd b ls ls.length).length (aW (sb bs (dF rj td gd b ls ls.length))):=aO i;have z:=Vt W;generalize D:dF rj td gd b ls ls.length=is at *;have X:=zb D;have n:Ha (zo rj td gd d b g ls=aG ls (Af (bK (mI g) ls) is) d):=by unfold Ha zo cU;rw[D]
 cases s:mI g with
 |true=>
  rw[s]at z n;have t:=zb (Qt m.lots m.ok y is r q C a cap j d P);have k:=zb (A.trans (l.mono A.size));clear D s i j m r q E p l F G;go_wp2_with fail
  with_reducible refine(t.o).mono ?_
  rintro e w2 ⟨u,N,rfl,x⟩;go_wp2_with fail;go_ret;refine⟨k.trans (u.mono k.size),N,rfl,?_⟩;rw[n.o];exact zF x k.size
 |false=>
  rw[s]at z n;have t:=zb (Qu m.lots m.ok y is r q C a cap j d P);have k:=zb (A.trans (l.mono A.size));clear D s i j m r q E p l F G;go_wp2_with fail
  with_reducible refine(t.o).mono ?_
  rintro e w2 ⟨u,N,rfl,x⟩;go_wp2_with fail;go_ret;refine⟨k.trans (u.mono k.size),N,rfl,?_⟩;rw[n.o];exact zF x k.size
def fY(a:List Nat):∀(l:List (Nat×Nat)) (i:Nat),i<l.length->(zk a l)[i*2]?=vb (ve (vb ⟨a.getD (l.getD i (0,0)).1 0,0,U⟩))/\(zk a l)[i*2+1]?=vb (Y V ((l.getD i (0,0)).2:Int))
 |[],_,h=>by simp at h
 |p::r,0,_=>by simp[zk]
 |p::r,i+1,h=>by
  have:=fY a r i (by simpa using h)
  have b:(i+1)*2=i*2+1+1:=by omega
  have c:(i+1)*2+1=i*2+1+1+1:=by omega
  rw[b];simpa [zk] using this
variable {a:Option Addr}
def Z6{b:Nat}(h:w.ownsRow b 241 2 (vd a l.length cap) l.length (zk bs l))(k:Nat)(f:k<l.length):∃G,a=vb ⟨G,0,U⟩/\G<w.heap.size/\w.cell? ⟨G,k*2,U⟩=vb (ve (vb ⟨bs.getD (l.getD k (0,0)).1 0,0,U⟩))/\w.cell? ⟨G,k*2+1,U⟩=vb (Y V ((l.getD k (0,0)).2:Int)):=by
 obtain⟨g,e,d,_,c⟩:=zN h (by omega)
 cases d;refine⟨g,rfl,c,?_,?_⟩
 ·rw[h.cellAt (k*2) (by omega)];exact(fY bs l k f).1
 rw[h.cellAt (k*2+1) (by omega)];exact(fY bs l k f).2
def iL(a b:List (Nat×Nat)):aX (a++b)=aX a+aX b:=by
 induction a with
 |nil=>simp[aX]
 |cons x a ih=>
  simp only[aX,Yb,XY,Yf]at ih ⊢;omega
def Cq(l:List (Nat×Nat))(k:Nat)(h:k<l.length):aX (l.take (k+1))=aX (l.take k)+(l.getD k (0,0)).2:=by
 rw[xn h,iL];simp[aX,WI,h]
def mY(l:List (Nat×Nat))(k:Nat):aX (l.take k)<=aX l:=by
 have:aX l=aX (l.take k)+aX (l.drop k):=by
  rw[<-iL,Yz]
 omega
def Pe(l:List (Nat×Nat))(k:Nat)(h:k<l.length):(l.getD k (0,0)).2<=aX l:=by
 have:=Cq l k h
 have:=mY l (k+1)
 omega
def pW(h:w.ownsRow 0 241 2 (vd a l.length cap) l.length (zk bs l))(y:l.length<=30)(z:aX l<=2147483647):Calls prog 152 #[vd a l.length cap] w λe w'=>e=vg (Y V (aX l:Int))/\Below w.heap.size w w':=by
 have q:=zb (λk m=>Z6 h k m);clear h;go_enter func152,ntmps152;go_wp2_with fail;go_loopw [3,5,8] (λt _ i wr=>∃k:Nat,i=Y V k/\k<=l.length/\t=Y V (aX (l.take k):Nat)/\Below w.heap.size w wr) (λ_ _ i _=>l.length-(intOf i).toNat)
 case atStart=>exact⟨0,rfl,by omega,rfl,xm _ _⟩
 obtain⟨k,rfl,m,rfl,d⟩:=hrel;by_cases c:k<l.length
 ·obtain⟨G,rfl,b,j,g2⟩:=q.o k c;have c1:=(d.cell (p:=⟨G,k*2,U⟩) (by exact b)).trans j;have c2:=(d.cell (p:=⟨G,k*2+1,U⟩) (by exact b)).trans g2;have n:=Cq l k c;have v:=mY l (k+1);have r:=zb n;obtain⟨x,g⟩:=Xc ((l.getD k (0,0)).2);obtain⟨s,f⟩:=Xc (aX (l.take k));rw[<-g.o]at c2;have u:s+x<=2147483647:=by rw[f.o,g.o];omega
  rw[show(aX (l.take k):Nat)=s from f.o.symm];generalize bs.getD (l.getD k (0,0)).1 0=bk at *;clear j g2 n v;go_wp2_with fail;go_roundw
  case rel=>exact⟨k+1,by go_num,by omega,by rw[r.o,<-g.o,<-f.o];go_num,d.alloc d.size _⟩
  simp[intOf];omega
 obtain rfl:k=l.length:=by omega
 rw[XZ];clear c;go_wp2_with fail;go_ret;exact⟨rfl,d⟩
def aJ(ls:List L):List (Nat×Nat)->List Nat
 |p::r=>(ls.getD p.1 L0).id::p.2::aJ ls r
 |[]=>[]
def zA(ls:List L)(l:List (Nat×Nat)):List Nat:=l.length::aJ ls l
def mF(ls:List L)(p:Nat×Nat):∀l,aJ ls (l++[p])=aJ ls l++[(ls.getD p.1 L0).id,p.2]
 |[]=>rfl
 |q::r=>by simp only[Yb,aJ,mF ls p r]
def dG(ls:List L):∀l,(aJ ls l).length=l.length*2
 |[]=>rfl
 |q::r=>by simp only[aJ,List.length_cons,dG ls r];omega
def Rk:(prog.info? 2).map (λi=>(i.zero,i.size,i.bytes))=vb (vb (Y V 0),1,8):=by kernel_rfl
def MP:prog.underlying 81=vb (.slice 2):=by kernel_rfl
def LineAt(w:World)(bs:List Nat)(a:Option Addr)(l:List (Nat×Nat)):Prop:=∀k,k<l.length->∃G,a=vb ⟨G,0,U⟩/\G<w.heap.size/\w.cell? ⟨G,k*2,U⟩=vb (ve (vb ⟨bs.getD (l.getD k (0,0)).1 0,0,U⟩))/\w.cell? ⟨G,k*2+1,U⟩=vb (Y V ((l.getD k (0,0)).2:Int))
def sD(h:LineAt w bs a l)(hl:l.length<=30)(hs:∀k,k<l.length->(l.getD k (0,0)).2<=2147483647)(M:LotsOK w bs ls)(P:∀x∈ls,L.Ok x)(K:∀p∈l,p.1<ls.length):Calls prog 127 #[vd a l.length cap] w λe w'=>Below w.heap.size w w'/\∃g c,e=vg (vd (vb ⟨g,0,U⟩) (zA ls l).length c)/\w'.ownsRow w.heap.size 2 1 (vd (vb ⟨g,0,U⟩) (zA ls l).length c) (zA ls l).length (I (zA ls l)):=by
 obtain⟨i0,hi,a3,a4,a5⟩:=Yc Rk;have HC:=zb (λk hk=>h k hk);have X:=zb M;have a0:=zb P;have W:=zb K;have HS:=zb hs;have C:Ha ((w.alloc (vf #[Y V l.length] 2)).ownsRow w.heap.size 2 1 (vd (vb ⟨w.heap.size,0,U⟩) 1 1) 1 (I (l.length::aJ ls (l.take 0)))):=YE w #[Y V l.length] 1 (xe _) (by unfold maxLen;omega) rfl;clear h M P K hs;go_enter func127,ntmps127;go_wp2_with fail;go_loopw [3,5,11] (λnn _ ii wr=>∃(k g c:Nat),ii=Y V k/\k<=l.length/\nn=vd (vb ⟨g,0,U⟩) (1+k*2) c/\wr.ownsRow w.heap.size 2 1 (vd (vb ⟨g,0,U⟩) (1+k*2) c) (1+k*2) (I (l.length::aJ ls (l.take k)))/\Below w.heap.size w wr) (λ_ _ ii _=>l.length-(intOf ii).toNat)
 case atStart=>exact⟨0,_,_,rfl,by omega,rfl,C,Wm w _⟩
 clear C;obtain⟨k,g,c,rfl,hk,rfl,b,v⟩:=hrel;by_cases i:k<l.length
 ·obtain⟨G,rfl,n,g1,g2⟩:=HC.o k i;have c1:=(v.cell (p:=⟨G,k*2,U⟩) (by exact n)).trans g1;have c2:=(v.cell (p:=⟨G,k*2+1,U⟩) (by exact n)).trans g2;have Q:l.getD k (0,0)∈l:=by simp[WI,i]
  have hc:=W.o _ Q;obtain⟨pv,A⟩:=(X.below v) _ hc;have s:=a0.o _ (zf hc);have HT:Ha (aJ ls (l.take (k+1))=aJ ls (l.take k)++[(ls.getD (l.getD k (0,0)).1 L0).id,(l.getD k (0,0)).2]):=by
   have e:l.take (k+1)=l.take k++[l.getD k (0,0)]:=by
    rw[xn i];simp[WI,i]
   unfold Ha;rw[e,mF]
  have a8:(l.getD k (0,0)).2<=2147483647:=HS.o k i;have a7:=s.id;have J:wr.cell? ⟨bs.getD (l.getD k (0,0)).1 0,0,U⟩=vb (Y V ((ls.getD (l.getD k (0,0)).1 L0).id:Int)):=by rw[za A];rfl
  have F:=zc A;generalize (l.getD k (0,0)).2=x at *;generalize (ls.getD (l.getD k (0,0)).1 L0).id=id at *;generalize bs.getD (l.getD k (0,0)).1 0=bk at *;have R:=Wm wr (vf #[ve (vb ⟨bk,0,U⟩),Y V x] 241);have j:=xq wr (vf #[ve (vb ⟨bk,0,U⟩),Y V x] 241);clear g1 g2 A s Q hc;go_wp2_with fail;have d0:(wr.alloc (vf #[ve (vb ⟨bk,0,U⟩),Y V x] 241)).cell? ⟨wr.heap.size,0,U⟩=vb (ve (vb ⟨bk,0,U⟩)):=by rw[za j];rfl
  have d1:(wr.alloc (vf #[ve (vb ⟨bk,0,U⟩),Y V x] 241)).cell? ⟨wr.heap.size,1,U⟩=vb (Y V x):=by rw[za j];rfl
  have e0:(wr.alloc (vf #[ve (vb ⟨bk,0,U⟩),Y V x] 241)).cell? ⟨bk,0,U⟩=vb (Y V id):=(R.cell (by exact F)).trans J;have d:=zh b R;have y:=v.trans (R.mono v.size);have a6:w.heap.size<=(wr.alloc (vf #[ve (vb ⟨bk,0,U⟩),Y V x] 241)).heap.size:=y.size;generalize (wr.alloc (vf #[ve (vb ⟨bk,0,U⟩),Y V x] 241))=wb at *;have z:Below wb.heap.size wb (wb.alloc (vf #[Y V id,Y V x] 2)).drew:=(Wm wb _).drew;have E:(wb.alloc (vf #[Y V id,Y V x] 2)).drew.heap[wb.heap.size]?=vb (vf #[Y V id,Y V x] 2 (0,0)):=xq wb _;have t:∀u∈([Y V id,Y V x]:List Value),u.oneCell'=true:=by
   intro u hu;simp at hu;rcases hu with rfl|rfl<;>rfl
  have B:=zb y;have a1:=zb d;have S:=zb z;clear J c1 c2 b v j R y;go_region_law (refine step_append_lies _ rfl _ _ 81 rfl w.heap.size 2 i0 (Y V 0) 1 8 MP hi a3 a4 a5 rfl (by decide) (vd (vb ⟨g,0,U⟩) (1+k*2) c) (1+k*2) (I (l.length::aJ ls (l.take k))) rfl (zh d z) ⟨wb.heap.size,0,U⟩ 2 2 [Y V id,Y V x] rfl rfl (World.news_of_block E) t (by decide) (by unfold maxLen;omega) (by omega) (by simp;omega) (wb.heap.size+1) (by simp) ?_;intro g2 cap2 w2 f m a2 N)
  all_goals
   have e1:I (l.length::aJ ls (l.take k))++[Y V id,Y V x]=I (l.length::aJ ls (l.take (k+1))):=by rw[HT.o];simp[I]
   rw[e1]at f;have H:Below w.heap.size w w2:=(B.trans (S.mono B.size)).grown m (by simp;omega) (λq hq=>(a1.lt q hq).1);have Z:=zb f;have T:=zb H;clear f m a2 N H e1 z E t d d0 d1 e0;go_wp2_with fail;go_roundw
   case rel=>exact⟨k+1,g2,cap2,by go_num,by omega,by rw[show 1+(k+1)*2=1+k*2+2 by omega],by rw[show 1+(k+1)*2=1+k*2+2 by omega];exact Z,T⟩
   simp[intOf];omega
 obtain rfl:k=l.length:=by omega
 rw[XZ]at b;have r:(zA ls l).length=1+l.length*2:=by simp[zA,dG];omega
 have HO:=zb b;have D:=zb r;clear i b r;go_wp2_with fail;go_ret;exact⟨v,g,c,by rw[D.o];rfl,by rw[D.o];exact HO⟩
def FY(h:w.ownsRow 0 241 2 (vd a l.length cap) l.length (zk bs l))(j:l.length<=30)(m:aX l<=2147483647)(f:LotsOK w bs ls)(i:∀x∈ls,L.Ok x)(b:∀p∈l,p.1<ls.length):Calls prog 127 #[vd a l.length cap] w λe w'=>Below w.heap.size w w'/\∃g c,e=vg (vd (vb ⟨g,0,U⟩) (zA ls l).length c)/\w'.ownsRow w.heap.size 2 1 (vd (vb ⟨g,0,U⟩) (zA ls l).length c) (zA ls l).length (I (zA ls l)) :=
 sD (λk d=>Z6 h k d) j (λk d=>xi (Pe l k d) m) f i b
def dC(b a n:Nat):∀l:List (Nat×Nat),(l++[(b,n)]).lookup a=(l.lookup a).or (if a=b then vb n else U)
 |[]=>by by_cases h:a=b<;>simp[List.lookup,h,xr.2]
 |(x,y)::l=>by
  cases c:a==x with
  |true=>simp[List.lookup,c]
  |false=>simp only[Yb,List.lookup,c];exact dC b a n l
def jV(b a:Nat):∀l:List (Nat×Nat),(l.filter (λp=>p.1 != b)).lookup a=if a=b then U else l.lookup a
 |[]=>by simp[List.lookup]
 |(x,y)::l=>by
  have d:=jV b a l;by_cases c:x=b
  ·subst c;simp only[List.filter,xbR,d,List.lookup];by_cases h:a=x
   ·subst h;simp
   simp[h,xr.2 h]
  have e:(x != b)=true:=by simp[c]
  simp only[List.filter,e,List.lookup,d]
  cases f:a==x with
  |true=>
   have:a=x:=by simpa using f
   subst this;simp[c]
  |false=>rfl
def ZC{b n:Nat}:∀{l:List (Nat×Nat)},l.lookup b=vb n->(b,n)∈l
 |[],h=>by simp[List.lookup]at h
 |(x,y)::l,h=>by
  simp only[List.lookup]at h
  cases a:b==x with
  |true=>
   rw[a]at h;have:b=x:=by simpa using a
   simp at h;simp[this,h]
  |false=>rw[a]at h;exact xaK _ (ZC h)
def zR{b n:Nat}:∀{l:List (Nat×Nat)},(l.map Prod.fst).Nodup->(b,n)∈l->l.lookup b=vb n
 |[],_,h=>by simp at h
 |(x,y)::l,hn,h=>by
  simp only[XY,Yq]at hn;rcases xz.1 h with h|h
  ·cases h;simp[List.lookup]
  have a:b≠x:=λe=>hn.1 (by rw[<-e];exact yb h)
  have c:(b==x)=false:=by simpa using a
  simp only[List.lookup,c];exact zR hn.2 h
def ZB{b:Nat}:∀{l:List (Nat×Nat)},l.lookup b=U↔b ∉ l.map Prod.fst
 |[]=>by simp[List.lookup]
 |(x,y)::l=>by
  by_cases a:b=x
  ·subst a;simp[List.lookup]
  have c:(b==x)=false:=by simpa using a
  simp only[List.lookup,c,XY,xz,not_or];rw[ZB];exact⟨λh=>⟨a,h⟩,λh=>h.2⟩
def uC(b:Nat):∀l:List (Nat×Nat),(l.map Prod.fst).Nodup->(l.filter (λp=>p.1 != b)).length+(if (l.lookup b).isSome then 1 else 0)=l.length
 |[],_=>by simp[List.lookup]
 |(x,y)::l,hn=>by
  simp only[XY,Yq]at hn;have f:=uC b l hn.2;by_cases c:x=b
  ·subst c;have a:l.lookup x=U:=ZB.2 hn.1;rw[a]at f;simp only[List.filter,xbR,List.lookup,xcL,Option.isSome_some,YX,List.length_cons];simp only[Option.isSome_none,Yg,xam,xbr]at f;rw[f]
  have g:(x != b)=true:=by simp[c]
  have d:(b==x)=false:=by simp;exact λe=>c e.symm
  simp only[List.filter,g,List.lookup,d,List.length_cons];omega
def CQ(a b:Nat)(o:O):O:=if o.id=a then { o with li:=o.li.filter (λp=>p.1 != b) } else o
def Zd(os:List O)(a b:Nat):List O:=os.map (CQ a b)
def lC(a b:Nat)(o:O):(CQ a b o).id=o.id:=by unfold CQ;split<;>rfl
def EO(a b c:Nat):∀os:List O,(os.map (CQ a b)).find? (λo=>o.id==c)=(os.find? (λo=>o.id==c)).map (CQ a b)
 |[]=>rfl
 |o::os=>by
  simp only[XY,List.find?,lC]
  cases h:o.id==c with
  |true=>rfl
  |false=>exact EO a b c os
def lN(os:List O)(a b c e:Nat):zn (Zd os a b) c e=if c=a/\e=b then U else zn os c e:=by
 unfold zn Zd;rw[EO]
 cases h:os.find? (λo=>o.id==c) with
 |none=>simp
 |some o=>
  have i:o.id=c:=by simpa using xcU h
  simp only[xaM,xk,CQ];by_cases f:o.id=a
  ·rw[xh f];simp only[jV];have d:c=a:=by omega
   by_cases g:e=b<;>simp[d,g]
  rw[xg f];have d:¬c=a:=by omega
  simp[d]
def Qv(os:List O)(a b n:Nat):(Zd os a b).any (λo=>o.id==n)=os.any (λo=>o.id==n):=by
 unfold Zd;rw[List.any_map];congr 1;funext o;simp[lC]
def uV(a b:Nat):∀os:List O,(os.map O.id).Nodup->(∀o∈os,(o.li.map Prod.fst).Nodup)->Zb (Zd os a b)+(if (zn os a b).isSome then 1 else 0)=Zb os
 |[],_,_=>by simp[Zb,Zd,zn]
 |o::os,hn,hk=>by
  simp only[XY,Yq]at hn;have f:=uV a b os hn.2 (λj h=>hk j (by simp[h]));have g:=hk o (by simp);by_cases e:o.id=a
  ·have d:os.find? (λo=>o.id==a)=U:=by
    rw[YO];intro j i l;have:j.id=a:=by simpa using l
    exact hn.1 (by rw[e,<-this];exact yb i)
   have m:zn os a b=U:=by unfold zn;rw[d];rfl
   rw[m]at f;have c:zn (o::os) a b=o.li.lookup b:=by unfold zn;simp[List.find?,e]
   have n:=uC b o.li g;rw[c];simp only[Zb,Zd,XY,Yf,CQ,xh e]at f ⊢;simp only[Option.isSome_none,Yg,xam]at f;omega
  have c:zn (o::os) a b=zn os a b:=by
   have k:(o.id==a)=false:=by simpa using e
   unfold zn;simp[List.find?,k]
  rw[c];simp only[Zb,Zd,XY,Yf,CQ,xg e]at f ⊢;omega
def TG(n:Nat):WideAt.IsKeyLit (dV n):=trivial
def TF(a b:Nat):WideAt.IsKeyLit (cL a b):=trivial
def HD.del{os:List O}{D:DataW Unit}(h:HD os D)(r:Maps.Tidy D){a b:Nat}(m:a<=2147483647)(n:b<=2147483647)(q:(os.map O.id).Nodup)(p:∀o∈os,(o.li.map Prod.fst).Nodup):HD (Zd os a b) (D.del (cL a b)):=by
 have j:∀c d:Nat,c<=2147483647->d<=2147483647->¬(c=a/\d=b)->cL c d≠cL a b:=λc d f g l e=>l (gS f g m n e)
 refine⟨?_,λc d f g=>?_,λc d f g=>?_⟩
 ·have s:=Maps.size_del (k:=cL a b) r;have t:=uV a b os q p;rw[h.has a b m n,h.size]at s;omega
 ·rw[lN];by_cases i:c=a/\d=b
  ·obtain⟨rfl,rfl⟩:=i;rw[xh ⟨rfl,rfl⟩,xbl];rfl
  rw[xg i,xbh (j c d f g i)];exact h.has c d f g
 rw[lN];by_cases i:c=a/\d=b
 ·obtain⟨rfl,rfl⟩:=i;rw[xh ⟨rfl,rfl⟩,Maps.atKey_del_same];rfl
 rw[xg i,Maps.atKey_del_other (j c d f g i)];exact h.val c d f g
def qC(os:List O)(o:O)(h:∀b∈os,b.id≠o.id)(a:Nat):(os++[o]).find? (λo=>o.id==a)=if a=o.id then vb o else os.find? (λo=>o.id==a):=by
 rw[xcA];by_cases c:a=o.id
 ·subst c;have:os.find? (λb=>b.id==o.id)=U:=by
   rw[YO];intro b d f;exact h b d (by simpa using f)
  rw[this];simp
 rw[xg c];have:(o.id==a)=false:=by simp;exact λe=>c e.symm
 simp[List.find?,this]
def HD.put{os:List O}{D:DataW Unit}{id g:Nat}{i:List (Nat×Nat)}(h:HD (os++[⟨id,g,i⟩]) D)(t:Maps.Tidy D)(q:id<=2147483647)(v:∀w∈os,w.id≠id){b n:Nat}(u:b<=2147483647)(f:i.lookup b=U):HD (os++[⟨id,g,i++[(b,n)]⟩]) (D.put (cL id b) (.lit (.int .i64 n))):=by
 have r:∀a c:Nat,a<=2147483647->c<=2147483647->¬(a=id/\c=b)->cL a c≠cL id b:=λa c j k s e=>s (gS j k q u e)
 have lo:∀(i:List (Nat×Nat)) (a c:Nat),zn (os++[⟨id,g,i⟩]) a c=if a=id then i.lookup c else zn os a c:=λi a c=>by
  unfold zn;rw[qC os ⟨id,g,i⟩ v a];by_cases d:a=id
  ·simp[d]
  simp[d]
 have p:Maps.has D (cL id b)=false:=by rw[h.has id b q u,lo,xh rfl,f];rfl
 refine⟨?_,λa c j k=>?_,λa c j k=>?_⟩
 ·rw[Maps.size_put t,p,h.size];simp[Zb];omega
 ·rw[lo];by_cases m:a=id/\c=b
  ·obtain⟨rfl,rfl⟩:=m;rw[xh rfl,xbS t.isMap (TF _ _),dC,f];simp
  rw[xaS (r a c j k m),h.has a c j k,lo];by_cases d:a=id
  ·have l:¬c=b:=λe=>m ⟨d,e⟩
   rw[xh d,xh d,dC];simp[l]
  rw[xg d,xg d]
 rw[lo];by_cases m:a=id/\c=b
 ·obtain⟨rfl,rfl⟩:=m;rw[xh rfl,Maps.atKey_put_same t.isMap (TF _ _),dC,f];simp
 rw[Maps.atKey_put_other (r a c j k m),h.val a c j k,lo];by_cases d:a=id
 ·have l:¬c=b:=λe=>m ⟨d,e⟩
  rw[xh d,xh d,dC];simp[l]
 rw[xg d,xg d]
def OD.put{os:List O}{D:DataW Unit}{id g:Nat}(h:OD os D)(f:Maps.Tidy D)(b:id<=2147483647)(j:os.any (λo=>o.id==id)=false):OD (os++[⟨id,g,[]⟩]) (D.put (dV id) (.lit (.int .i64 g))):=by
 have m:os.find? (λo=>o.id==id)=U:=YO.2 (λo a=>by simpa using YW.1 j o a)
 refine⟨?_,λn c=>?_,λn c=>?_,λk i=>?_⟩
 ·rw[Maps.size_put f,h.has id b,j,h.size];simp
 ·by_cases e:n=id
  ·subst e;rw[xbS f.isMap (TG _)];simp
  rw[xaS (λq=>e (gT q)),h.has n c];have:(id==n)=false:=by simp;exact λq=>e q.symm
  simp[this]
 ·by_cases e:n=id
  ·subst e;rw[Maps.atKey_put_same f.isMap (TG _)];unfold Ze;rw[xcA,m];simp
  rw[Maps.atKey_put_other (λq=>e (gT q)),h.val n c];have:(id==n)=false:=by simp;exact λq=>e q.symm
  unfold Ze;rw[xcA];have l:[(⟨id,g,[]⟩:O)].find? (λo=>o.id==n)=U:=by simp[this]
  rw[l,Option.or_none]
 by_cases a:k=dV id
 ·exact⟨⟨id,g,[]⟩,by simp,a⟩
 rw[xaS a]at i;obtain⟨o,d,e⟩:=h.keys k i;exact⟨o,by simp[d],e⟩
def OD.congr{os':List O}(h:OD os D)(e:os'.map (λo=>(o.id,o.gd))=os.map (λo=>(o.id,o.gd))):OD os' D:=by
 have a:∀(l:List O) (n:Nat),l.any (λo=>o.id==n)=(l.map (λo=>(o.id,o.gd))).any (λq=>q.1==n):=λl n=>by rw[List.any_map];rfl
 have b:∀(l:List O) (n:Nat),Ze l n=(((l.map (λo=>(o.id,o.gd))).find? (λq=>q.1==n)).map Prod.snd).getD 0:=λl n=>by
  unfold Ze;rw[List.find?_map];have:((λq:Nat×Nat=>q.1==n)∘λo:O=>(o.id,o.gd))=λo=>o.id==n:=rfl
  rw[this]
  cases l.find? (λo=>o.id==n)<;>rfl
 refine⟨?_,λn c=>?_,λn c=>?_,λm i=>?_⟩
 ·have:=xas List.length e
  simp at this;rw[h.size,this]
 ·rw[h.has n c,a,a,e]
 ·rw[h.val n c,b,b,e]
 obtain⟨o,k,f⟩:=h.keys m i;have j:(o.id,o.gd)∈os'.map (λo=>(o.id,o.gd)):=by rw[e];exact yb k
 obtain⟨p,d,g⟩:=yc.1 j;exact⟨p,d,by rw[f,<-(Prod.mk.inj g).1]⟩
def HD.snoc(h:HD os D)(n:os.any (λo=>o.id==id)=false):HD (os++[⟨id,g,[]⟩]) D:=by
 have c:∀d∈os,d.id≠id:=λd k e=>by
  have:=YW.1 n d k
  simp[e]at this
 have lo:∀a b:Nat,zn (os++[⟨id,g,[]⟩]) a b=zn os a b:=λa b=>by
  unfold zn;rw[qC os ⟨id,g,[]⟩ c a];by_cases f:a=id
  ·have m:os.find? (λo=>o.id==a)=U:=by
    rw[YO];intro d k l;exact c d k (by rw[<-f];simpa using l)
   simp[f,List.lookup];rw[<-f,m];rfl
  simp[f]
 exact⟨by rw[h.size];simp[Zb],λa b i j=>by rw[lo];exact h.has a b i j,λa b i j=>by rw[lo];exact h.val a b i j⟩
def qP(l:L)(n:Nat):L:={ l with free:=l.free-n,hd:=l.hd+n }
def Zt(ls:List L):List (Nat×Nat)->List L
 |p::r=>Zt (ls.set p.1 (qP (ls.getD p.1 L0) p.2)) r
 |[]=>ls
def zr(ls:List L)(l:List (Nat×Nat)):List (Nat×Nat):=l.map λp=>((ls.getD p.1 L0).id,p.2)
def Fb{l:L}(h:L.Ok l){n:Nat}(a:n<=l.free):L.Ok (qP l n):=⟨h.id,h.gd,h.ex,h.place,(by have:=h.sum;show l.free-n+(l.hd+n)+l.sh+l.sc+l.gv<=2147483647;omega),h.got,h.par⟩
def lK(p:Nat×Nat):∀(l:List (Nat×Nat)) (ls:List L),Zt ls (l++[p])=(Zt ls l).set p.1 (qP ((Zt ls l).getD p.1 L0) p.2)
 |[],ls=>rfl
 |q::r,ls=>by simp only[Yb,Zt];exact lK p r _
def bY:∀(l:List (Nat×Nat)) (ls:List L),(Zt ls l).length=ls.length
 |[],ls=>rfl
 |q::r,ls=>by simp only[Zt];rw[bY r];simp
def dZ{i:Nat}:∀(l:List (Nat×Nat)) (ls:List L),i ∉ l.map Prod.fst->(Zt ls l).getD i L0=ls.getD i L0
 |[],ls,_=>rfl
 |q::r,ls,h=>by
  simp only[XY,xz,not_or]at h;simp only[Zt];rw[dZ r _ h.2,zZ h.1]
def wZ{i n:Nat}:∀(l:List (Nat×Nat)) (ls:List L),(l.map Prod.fst).Nodup->(i,n)∈l->i<ls.length->(Zt ls l).getD i L0=qP (ls.getD i L0) n
 |[],ls,_,h,_=>by simp at h
 |q::r,ls,hn,h,hi=>by
  simp only[XY,Yq]at hn;simp only[Zt];rcases xz.1 h with h|h
  ·subst h;rw[dZ r _ hn.1,ZJ hi]
  have a:i≠q.1:=λe=>hn.1 (by rw[<-e];exact yb h)
  rw[wZ r _ hn.2 h (by simpa using hi),zZ a]
def dU{ls:List L}(a:∀i j,i<ls.length->j<ls.length->(ls.getD i L0).id=(ls.getD j L0).id->i=j):∀(l:List (Nat×Nat)),(∀p∈l,p.1<ls.length)->∀i,i<ls.length->(zr ls l).lookup (ls.getD i L0).id=l.lookup i
 |[],_,i,_=>rfl
 |q::r,h,i,hi=>by
  have b:=dU a r (λp f=>h p (by simp[f])) i hi;have g:=h q (by simp);simp only[zr,XY,List.lookup]at b ⊢;by_cases e:i=q.1
  ·subst e;simp
  have c:(i==q.1)=false:=by simpa using e
  have d:((ls.getD i L0).id==(ls.getD q.1 L0).id)=false:=by
   rw[xr];exact λh=>e (a i q.1 hi g h)
  rw[c,d];exact b
def PV.mapsTo{w':World}{os':List O}(h:PV os rj w S M v td bs pvs ls)(n:∀k,k<w.heap.size->k≠M.o->k≠M.h->w'.heap[k]?=w.heap[k]?)(m:Mp os' rj w' M):PV os' rj w' S M v td bs pvs ls:=by
 obtain⟨_,_,mo⟩:=h.maps.mo;obtain⟨_,_,mh⟩:=h.maps.mh;have c:∀(k:Nat) (b:Array Value) (t:TypeId),w.heap[k]?=vb (vf b t (0,0))->w'.heap[k]?=w.heap[k]?:=λk b t e=>n k (zc e) (Za e mo) (Za e mh)
 exact {
  store:=(c _ _ _ h.store).trans h.store
  maps:=m
  row:=zd h.row (λg l=>by obtain⟨b,d⟩:=zi h.row l;exact c _ _ _ d)
  len:=h.len
  plen:=h.plen
  lot:=λi a=>(c _ _ _ (h.lot i a)).trans (h.lot i a)
  par:=λi a=>(h.par i a).congr (λq f=>by
   obtain⟨b,j⟩:=(h.par i a).blk f;exact c _ _ _ j)
  nodup:=h.nodup
  today:=h.today
  ok:=h.ok
  room:=h.room }
def jO{Z:Nat->Prop}{w':World}(h:w.grownBy w' (vb b))(d:Z b):Kp Z w w':=⟨h.os,h.tape,h.output,h.size,λk a c=>h.block k a (λe=>c (by cases e;exact d))⟩
