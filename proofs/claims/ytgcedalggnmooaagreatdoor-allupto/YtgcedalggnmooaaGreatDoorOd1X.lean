import Derived.Test.YtgcedalggnmooaaGreatDoorOrdX
import Derived.Deep.AppendLies
import Derived.Deep.RegionLaw
import Derived.Test.YtgcedalggnmooaaGreatDoorAsrtX
set_option linter.all false
set_option maxRecDepth 100000
set_option maxHeartbeats 3200000
namespace Go.Proofs.YtgcedalggnmooaaGreatDoor
open Go.RowKit
open Tryz
def yr:=@World.news_of_block
def YD:=@wpList_append_lies
def YG:=@step_append_lies
def Ii:prog.underlying 112=some (.map 2 2):=by kernel_rfl
def TF:prog.underlying 113=some (.map 260 2):=by kernel_rfl
def Ui:(prog.info? 2).map (λi=>i.zero)=some (some (.int .i64 0)):=by kernel_rfl
def Mg(w:World):(zeroValue 2).run prog w=.ok (.int .i64 0) w:=by
 have h:=Ui
 cases a:prog.info? 2 with
 |none=>rw[a]at h;cases h
 |some i=>
  rw[a]at h;simp at h;unfold zeroValue typeInfo;simp[program,Sem.run,a,h]
variable {S b cap g id n td:Nat}{v:Value}{w:World}
def zF{d e size:Nat}{xs:List Value}(h:w.ownsRow b e size v n xs)(j:d<=b):w.ownsRow d e size v n xs:=by
 refine⟨h.1,?_⟩;rcases h.2 with c|⟨g,cap,a,c,f,i⟩
 ·exact Or.inl c
 exact Or.inr ⟨g,cap,a,c,xj j f,i⟩
variable {D:DataW Unit}{os:List O}
def Tg(h:Mv w b n D)(hd:OD os D)(k:Nat)(a:k<=2147483647):∃c:Int,(Instr.lookup 112 (.map (some b)) (.int .i64 k) true).run prog w=.ok (.tuple #[.int .i64 c,.bool (os.any (λo=>o.id==k))]) w:=by
 obtain⟨v,ps,d,e⟩:=xaG h AV Ii (Mg w) (xaE WZ (by decide)) (qS a);obtain⟨c,rfl,_,_⟩:=plainElem_int_inv WZ e;exact⟨c,by rw[d,hd.has k a]⟩
def Tf(h:Mu w b n D)(hd:HD os D)(k l:Nat)(d:k<=2147483647)(e:l<=2147483647):(Instr.lookup 113 (.map (some b)) (.agg #[.int .i64 k,.int .i64 l]) true).run prog w=.ok (.tuple #[.int .i64 (((zq os k l).getD 0:Nat):Int),.bool (zq os k l).isSome]) w:=by
 obtain⟨v,ps,f,g⟩:=xaG h wY TF (Mg w) (xaE WZ (by decide)) (Db d e);obtain⟨c,rfl,a,_⟩:=plainElem_int_inv WZ g;rw[hd.val k l d e]at a;simp at a;rw[f,hd.has k l d e,<-a.1]
variable {M:Mx}{bs:List Nat}{l rj:List (Nat×Nat)}{ls:List L}{pvs:List Value}
def bT(h:PV os rj w S M v td bs pvs ls)(k:Nat)(b:k<=2147483647):Calls prog 150 #[.pointer (some ⟨S,0,none⟩),.int .i64 k] w λe w'=>e=.returned (.bool (os.any (λo=>o.id==k)))/\w'=w:=by
 obtain⟨D,a,hd⟩:=h.maps.o;obtain⟨c,d⟩:=Tg a hd k b;have c2:=h.c2;generalize os.any (λo=>o.id==k)=bb at *;clear h a hd;go_enter func150,ntmps150;go_wp2_with fail;go_ret;exact⟨rfl,rfl⟩
def mF(way:Nat):Bool:=decide (2<=way)
def Eg(way:Nat):Bool:=decide (way=1\/way=3)
def UM{a:Nat}(h:a<=3):(bits .and .i64 (a:Int) 2 != 0)=mF a:=by
 rcases(show a=0\/a=1\/a=2\/a=3 by omega) with rfl|rfl|rfl|rfl<;>decide
def UD{a:Nat}(h:a<=3):(bits .and .i64 (a:Int) 1 != 0)=Eg a:=by
 rcases(show a=0\/a=1\/a=2\/a=3 by omega) with rfl|rfl|rfl|rfl<;>decide
def zn(rj:List (Nat×Nat))(td gd count gate way:Nat)(ls:List L):List (Nat×Nat):=aB ls (cQ rj (mF way) td gd gate ls) count
def mN(h:PV os rj w S M v td bs pvs ls)(B:Good os ls)(id gd d b g:Nat)(R:gd<=2147483647)(P:d<=2147483647)(T:b<=2147483647)(W:g<=3):Calls prog 151 #[.pointer (some ⟨S,0,none⟩),.agg #[.int .i64 id,.int .i64 gd,.int .i64 d,.int .i64 b,.int .i64 g]] w λe w'=>Below w.heap.size w w'/\∃v',e=.returned v'/\w'.ownsRow w.heap.size 241 2 v' (zn rj td gd d b g ls).length (zk bs (zn rj td gd d b g ls)):=by
 have A:=VE w (Obj.cells #[.int .i64 id,.int .i64 gd,.int .i64 d,.int .i64 b,.int .i64 g] 155);have p:=xp w (Obj.cells #[.int .i64 id,.int .i64 gd,.int .i64 d,.int .i64 b,.int .i64 g] 155);have H:=h.below A;have F:=zb (mI H gd b R T);have G:=zb H;have y:=zb B;have K:=h.room;clear H h B;go_enter func151,ntmps151;go_wp2_with fail;refine F.mono ?_
 rintro e w1 ⟨l,v',rfl,i⟩;have Z:w1.cell? ⟨w.heap.size,2,none⟩=some (.int .i64 d):=(l.cell (by simp)).trans (by rw[za p];rfl);have k4:w1.cell? ⟨w.heap.size,4,none⟩=some (.int .i64 g):=(l.cell (by simp)).trans (by rw[za p];rfl);obtain⟨a,cap,E⟩:=zK i;rw[E]at i;rw[E];rw[Zi]at i;rw[Zi];have m:=G.below l;have r:∀c∈dE rj td gd b ls ls.length,c<ls.length:=λc J=>rV J
 have q:∀c∈dE rj td gd b ls ls.length,0<(ls.getD c L0).free:=λc J=>by
  have:=(dC (f:=true)).1 ((eC true td gd b ls).mem_iff.2 J)
  have Q:=this.2;unfold WN at Q;simp only[XK,XI]at Q;omega
 have C:(dE rj td gd b ls ls.length).length<=30:=by have:=dP (rj:=rj) td gd b ls ls.length;omega
 have j:w1.ownsRow 0 191 1 (.slice a (dE rj td gd b ls ls.length).length cap) (dE rj td gd b ls ls.length).length (aV (sb bs (dE rj td gd b ls ls.length))):=aK i;have z:=UM W;generalize D:dE rj td gd b ls ls.length=is at *;have X:=zb D;have n:Ha (zn rj td gd d b g ls=aB ls (yS (bI (mF g) ls) is) d):=by unfold Ha zn cQ;rw[D]
 cases s:mF g with
 |true=>
  rw[s]at z n;have t:=zb (PJ m.lots m.ok y is r q C a cap j d P);have k:=zb (A.trans (l.mono A.size));clear D s i j m r q E p l F G;go_wp2_with fail
  with_reducible refine(t.o).mono ?_
  rintro e w2 ⟨u,N,rfl,x⟩;go_wp2_with fail;go_ret;refine⟨k.trans (u.mono k.size),N,rfl,?_⟩;rw[n.o];exact zF x k.size
 |false=>
  rw[s]at z n;have t:=zb (PK m.lots m.ok y is r q C a cap j d P);have k:=zb (A.trans (l.mono A.size));clear D s i j m r q E p l F G;go_wp2_with fail
  with_reducible refine(t.o).mono ?_
  rintro e w2 ⟨u,N,rfl,x⟩;go_wp2_with fail;go_ret;refine⟨k.trans (u.mono k.size),N,rfl,?_⟩;rw[n.o];exact zF x k.size
def fW(a:List Nat):∀(l:List (Nat×Nat)) (i:Nat),i<l.length->(zk a l)[i*2]?=some (.pointer (some ⟨a.getD (l.getD i (0,0)).1 0,0,none⟩))/\(zk a l)[i*2+1]?=some (.int .i64 ((l.getD i (0,0)).2:Int))
 |[],_,h=>by simp at h
 |p::r,0,_=>by simp[zk]
 |p::r,i+1,h=>by
  have:=fW a r i (by simpa using h)
  have b:(i+1)*2=i*2+1+1:=by omega
  have c:(i+1)*2+1=i*2+1+1+1:=by omega
  rw[b];simpa [zk] using this
variable {a:Option Addr}
def ZW{b:Nat}(h:w.ownsRow b 241 2 (.slice a l.length cap) l.length (zk bs l))(k:Nat)(f:k<l.length):∃G,a=some ⟨G,0,none⟩/\G<w.heap.size/\w.cell? ⟨G,k*2,none⟩=some (.pointer (some ⟨bs.getD (l.getD k (0,0)).1 0,0,none⟩))/\w.cell? ⟨G,k*2+1,none⟩=some (.int .i64 ((l.getD k (0,0)).2:Int)):=by
 obtain⟨g,e,d,_,c⟩:=zL h (by omega)
 cases d;refine⟨g,rfl,c,?_,?_⟩
 ·rw[h.cellAt (k*2) (by omega)];exact(fW bs l k f).1
 rw[h.cellAt (k*2+1) (by omega)];exact(fW bs l k f).2
def iI(a b:List (Nat×Nat)):aU (a++b)=aU a+aU b:=by
 induction a with
 |nil=>simp[aU]
 |cons x a ih=>
  simp only[aU,XS,Xv,XZ]at ih ⊢;omega
def Cc(l:List (Nat×Nat))(k:Nat)(h:k<l.length):aU (l.take (k+1))=aU (l.take k)+(l.getD k (0,0)).2:=by
 rw[xn h,iI];simp[aU,Wc,h]
def mV(l:List (Nat×Nat))(k:Nat):aU (l.take k)<=aU l:=by
 have:aU l=aU (l.take k)+aU (l.drop k):=by
  rw[<-iI,yu]
 omega
def Oz(l:List (Nat×Nat))(k:Nat)(h:k<l.length):(l.getD k (0,0)).2<=aU l:=by
 have:=Cc l k h
 have:=mV l (k+1)
 omega
def pT(h:w.ownsRow 0 241 2 (.slice a l.length cap) l.length (zk bs l))(y:l.length<=30)(z:aU l<=2147483647):Calls prog 152 #[.slice a l.length cap] w λe w'=>e=.returned (.int .i64 (aU l:Int))/\Below w.heap.size w w':=by
 have q:=zb (λk m=>ZW h k m);clear h;go_enter func152,ntmps152;go_wp2_with fail;go_loopw [3,5,8] (λt _ i wr=>∃k:Nat,i=.int .i64 k/\k<=l.length/\t=.int .i64 (aU (l.take k):Nat)/\Below w.heap.size w wr) (λ_ _ i _=>l.length-(intOf i).toNat)
 case atStart=>exact⟨0,rfl,by omega,rfl,xm _ _⟩
 obtain⟨k,rfl,m,rfl,d⟩:=hrel;by_cases c:k<l.length
 ·obtain⟨G,rfl,b,j,g2⟩:=q.o k c;have c1:=(d.cell (p:=⟨G,k*2,none⟩) (by exact b)).trans j;have c2:=(d.cell (p:=⟨G,k*2+1,none⟩) (by exact b)).trans g2;have n:=Cc l k c;have v:=mV l (k+1);have r:=zb n;obtain⟨x,g⟩:=Ww ((l.getD k (0,0)).2);obtain⟨s,f⟩:=Ww (aU (l.take k));rw[<-g.o]at c2;have u:s+x<=2147483647:=by rw[f.o,g.o];omega
  rw[show(aU (l.take k):Nat)=s from f.o.symm];generalize bs.getD (l.getD k (0,0)).1 0=bk at *;clear j g2 n v;go_wp2_with fail;go_roundw
  case rel=>exact⟨k+1,by go_num,by omega,by rw[r.o,<-g.o,<-f.o];go_num,d.alloc d.size _⟩
  simp[intOf];omega
 obtain rfl:k=l.length:=by omega
 rw[Xs];clear c;go_wp2_with fail;go_ret;exact⟨rfl,d⟩
def aF(ls:List L):List (Nat×Nat)->List Nat
 |p::r=>(ls.getD p.1 L0).id::p.2::aF ls r
 |[]=>[]
def zA(ls:List L)(l:List (Nat×Nat)):List Nat:=l.length::aF ls l
def mC(ls:List L)(p:Nat×Nat):∀l,aF ls (l++[p])=aF ls l++[(ls.getD p.1 L0).id,p.2]
 |[]=>rfl
 |q::r=>by simp only[XS,aF,mC ls p r]
def dF(ls:List L):∀l,(aF ls l).length=l.length*2
 |[]=>rfl
 |q::r=>by simp only[aF,List.length_cons,dF ls r];omega
def QA:(prog.info? 2).map (λi=>(i.zero,i.size,i.bytes))=some (some (.int .i64 0),1,8):=by kernel_rfl
def Mn:prog.underlying 81=some (.slice 2):=by kernel_rfl
def OS(w:World)(bs:List Nat)(a:Option Addr)(l:List (Nat×Nat)):Prop:=∀k,k<l.length->∃G,a=some ⟨G,0,none⟩/\G<w.heap.size/\w.cell? ⟨G,k*2,none⟩=some (.pointer (some ⟨bs.getD (l.getD k (0,0)).1 0,0,none⟩))/\w.cell? ⟨G,k*2+1,none⟩=some (.int .i64 ((l.getD k (0,0)).2:Int))
def sA(h:OS w bs a l)(hl:l.length<=30)(hs:∀k,k<l.length->(l.getD k (0,0)).2<=2147483647)(M:LotsOK w bs ls)(P:∀x∈ls,L.Ok x)(K:∀p∈l,p.1<ls.length):Calls prog 127 #[.slice a l.length cap] w λe w'=>Below w.heap.size w w'/\∃g c,e=.returned (.slice (some ⟨g,0,none⟩) (zA ls l).length c)/\w'.ownsRow w.heap.size 2 1 (.slice (some ⟨g,0,none⟩) (zA ls l).length c) (zA ls l).length (I (zA ls l)):=by
 obtain⟨i0,hi,a3,a4,a5⟩:=XT QA;have HC:=zb (λk hk=>h k hk);have X:=zb M;have a0:=zb P;have W:=zb K;have HS:=zb hs;have C:Ha ((w.alloc (.cells #[.int .i64 l.length] 2)).ownsRow w.heap.size 2 1 (.slice (some ⟨w.heap.size,0,none⟩) 1 1) 1 (I (l.length::aF ls (l.take 0)))):=Yb w #[.int .i64 l.length] 1 (xe _) (by unfold maxLen;omega) rfl;clear h M P K hs;go_enter func127,ntmps127;go_wp2_with fail;go_loopw [3,5,11] (λnn _ ii wr=>∃(k g c:Nat),ii=.int .i64 k/\k<=l.length/\nn=.slice (some ⟨g,0,none⟩) (1+k*2) c/\wr.ownsRow w.heap.size 2 1 (.slice (some ⟨g,0,none⟩) (1+k*2) c) (1+k*2) (I (l.length::aF ls (l.take k)))/\Below w.heap.size w wr) (λ_ _ ii _=>l.length-(intOf ii).toNat)
 case atStart=>exact⟨0,_,_,rfl,by omega,rfl,C,VE w _⟩
 clear C;obtain⟨k,g,c,rfl,hk,rfl,b,v⟩:=hrel;by_cases i:k<l.length
 ·obtain⟨G,rfl,n,g1,g2⟩:=HC.o k i;have c1:=(v.cell (p:=⟨G,k*2,none⟩) (by exact n)).trans g1;have c2:=(v.cell (p:=⟨G,k*2+1,none⟩) (by exact n)).trans g2;have Q:l.getD k (0,0)∈l:=by simp[Wc,i]
  have hc:=W.o _ Q;obtain⟨pv,A⟩:=(X.below v) _ hc;have s:=a0.o _ (zf hc);have HT:Ha (aF ls (l.take (k+1))=aF ls (l.take k)++[(ls.getD (l.getD k (0,0)).1 L0).id,(l.getD k (0,0)).2]):=by
   have e:l.take (k+1)=l.take k++[l.getD k (0,0)]:=by
    rw[xn i];simp[Wc,i]
   unfold Ha;rw[e,mC]
  have a8:(l.getD k (0,0)).2<=2147483647:=HS.o k i;have a7:=s.id;have J:wr.cell? ⟨bs.getD (l.getD k (0,0)).1 0,0,none⟩=some (.int .i64 ((ls.getD (l.getD k (0,0)).1 L0).id:Int)):=by rw[za A];rfl
  have F:=zc A;generalize (l.getD k (0,0)).2=x at *;generalize (ls.getD (l.getD k (0,0)).1 L0).id=id at *;generalize bs.getD (l.getD k (0,0)).1 0=bk at *;have R:=VE wr (.cells #[.pointer (some ⟨bk,0,none⟩),.int .i64 x] 241);have j:=xp wr (.cells #[.pointer (some ⟨bk,0,none⟩),.int .i64 x] 241);clear g1 g2 A s Q hc;go_wp2_with fail;have d0:(wr.alloc (.cells #[.pointer (some ⟨bk,0,none⟩),.int .i64 x] 241)).cell? ⟨wr.heap.size,0,none⟩=some (.pointer (some ⟨bk,0,none⟩)):=by rw[za j];rfl
  have d1:(wr.alloc (.cells #[.pointer (some ⟨bk,0,none⟩),.int .i64 x] 241)).cell? ⟨wr.heap.size,1,none⟩=some (.int .i64 x):=by rw[za j];rfl
  have e0:(wr.alloc (.cells #[.pointer (some ⟨bk,0,none⟩),.int .i64 x] 241)).cell? ⟨bk,0,none⟩=some (.int .i64 id):=(R.cell (by exact F)).trans J;have d:=zg b R;have y:=v.trans (R.mono v.size);have a6:w.heap.size<=(wr.alloc (.cells #[.pointer (some ⟨bk,0,none⟩),.int .i64 x] 241)).heap.size:=y.size;generalize (wr.alloc (.cells #[.pointer (some ⟨bk,0,none⟩),.int .i64 x] 241))=wb at *;have z:Below wb.heap.size wb (wb.alloc (.cells #[.int .i64 id,.int .i64 x] 2)).drew:=(VE wb _).drew;have E:(wb.alloc (.cells #[.int .i64 id,.int .i64 x] 2)).drew.heap[wb.heap.size]?=some (.cells #[.int .i64 id,.int .i64 x] 2 (0,0)):=xp wb _;have t:∀u∈([.int .i64 id,.int .i64 x]:List Value),u.oneCell'=true:=by
   intro u hu;simp at hu;rcases hu with rfl|rfl<;>rfl
  have B:=zb y;have a1:=zb d;have S:=zb z;clear J c1 c2 b v j R y;go_region_law (refine YG _ rfl _ _ 81 rfl w.heap.size 2 i0 (.int .i64 0) 1 8 Mn hi a3 a4 a5 rfl (by decide) (.slice (some ⟨g,0,none⟩) (1+k*2) c) (1+k*2) (I (l.length::aF ls (l.take k))) rfl (zg d z) ⟨wb.heap.size,0,none⟩ 2 2 [.int .i64 id,.int .i64 x] rfl rfl (yr E) t (by decide) (by unfold maxLen;omega) (by omega) (by simp;omega) (wb.heap.size+1) (by simp) ?_;intro g2 cap2 w2 f m a2 N)
  all_goals
   have e1:I (l.length::aF ls (l.take k))++[.int .i64 id,.int .i64 x]=I (l.length::aF ls (l.take (k+1))):=by rw[HT.o];simp[I]
   rw[e1]at f;have H:Below w.heap.size w w2:=(B.trans (S.mono B.size)).grown m (by simp;omega) (λq hq=>(a1.lt q hq).1);have Z:=zb f;have T:=zb H;clear f m a2 N H e1 z E t d d0 d1 e0;go_wp2_with fail;go_roundw
   case rel=>exact⟨k+1,g2,cap2,by go_num,by omega,by rw[show 1+(k+1)*2=1+k*2+2 by omega],by rw[show 1+(k+1)*2=1+k*2+2 by omega];exact Z,T⟩
   simp[intOf];omega
 obtain rfl:k=l.length:=by omega
 rw[Xs]at b;have r:(zA ls l).length=1+l.length*2:=by simp[zA,dF];omega
 have HO:=zb b;have D:=zb r;clear i b r;go_wp2_with fail;go_ret;exact⟨v,g,c,by rw[D.o];rfl,by rw[D.o];exact HO⟩
def FE(h:w.ownsRow 0 241 2 (.slice a l.length cap) l.length (zk bs l))(j:l.length<=30)(m:aU l<=2147483647)(f:LotsOK w bs ls)(i:∀x∈ls,L.Ok x)(b:∀p∈l,p.1<ls.length):Calls prog 127 #[.slice a l.length cap] w λe w'=>Below w.heap.size w w'/\∃g c,e=.returned (.slice (some ⟨g,0,none⟩) (zA ls l).length c)/\w'.ownsRow w.heap.size 2 1 (.slice (some ⟨g,0,none⟩) (zA ls l).length c) (zA ls l).length (I (zA ls l)) :=
 sA (λk d=>ZW h k d) j (λk d=>xj (Oz l k d) m) f i b
def dA(b a n:Nat):∀l:List (Nat×Nat),(l++[(b,n)]).lookup a=(l.lookup a).or (if a=b then some n else none)
 |[]=>by by_cases h:a=b<;>simp[List.lookup,h,xr.2]
 |(x,y)::l=>by
  cases c:a==x with
  |true=>simp[List.lookup,c]
  |false=>simp only[XS,List.lookup,c];exact dA b a n l
def jT(b a:Nat):∀l:List (Nat×Nat),(l.filter (λp=>p.1 != b)).lookup a=if a=b then none else l.lookup a
 |[]=>by simp[List.lookup]
 |(x,y)::l=>by
  have d:=jT b a l;by_cases c:x=b
  ·subst c;simp only[List.filter,xbm,d,List.lookup];by_cases h:a=x
   ·subst h;simp
   simp[h,xr.2 h]
  have e:(x != b)=true:=by simp[c]
  simp only[List.filter,e,List.lookup,d]
  cases f:a==x with
  |true=>
   have:a=x:=by simpa using f
   subst this;simp[c]
  |false=>rfl
def Zx{b n:Nat}:∀{l:List (Nat×Nat)},l.lookup b=some n->(b,n)∈l
 |[],h=>by simp[List.lookup]at h
 |(x,y)::l,h=>by
  simp only[List.lookup]at h
  cases a:b==x with
  |true=>
   rw[a]at h;have:b=x:=by simpa using a
   simp at h;simp[this,h]
  |false=>rw[a]at h;exact xae _ (Zx h)
def zN{b n:Nat}:∀{l:List (Nat×Nat)},(l.map Prod.fst).Nodup->(b,n)∈l->l.lookup b=some n
 |[],_,h=>by simp at h
 |(x,y)::l,hn,h=>by
  simp only[Xv,yj]at hn;rcases xz.1 h with h|h
  ·cases h;simp[List.lookup]
  have a:b≠x:=λe=>hn.1 (by rw[<-e];exact Xu h)
  have c:(b==x)=false:=by simpa using a
  simp only[List.lookup,c];exact zN hn.2 h
def Zw{b:Nat}:∀{l:List (Nat×Nat)},l.lookup b=none↔b ∉ l.map Prod.fst
 |[]=>by simp[List.lookup]
 |(x,y)::l=>by
  by_cases a:b=x
  ·subst a;simp[List.lookup]
  have c:(b==x)=false:=by simpa using a
  simp only[List.lookup,c,Xv,xz,not_or];rw[Zw];exact⟨λh=>⟨a,h⟩,λh=>h.2⟩
def tX(b:Nat):∀l:List (Nat×Nat),(l.map Prod.fst).Nodup->(l.filter (λp=>p.1 != b)).length+(if (l.lookup b).isSome then 1 else 0)=l.length
 |[],_=>by simp[List.lookup]
 |(x,y)::l,hn=>by
  simp only[Xv,yj]at hn;have f:=tX b l hn.2;by_cases c:x=b
  ·subst c;have a:l.lookup x=none:=Zw.2 hn.1;rw[a]at f;simp only[List.filter,xbm,List.lookup,xch,Option.isSome_some,Yo,List.length_cons];simp only[Option.isSome_none,XV,YF,xaN]at f;rw[f]
  have g:(x != b)=true:=by simp[c]
  have d:(b==x)=false:=by simp;exact λe=>c e.symm
  simp only[List.filter,g,List.lookup,d,List.length_cons];omega
def CE(a b:Nat)(o:O):O:=if o.id=a then { o with li:=o.li.filter (λp=>p.1 != b) } else o
def Za(os:List O)(a b:Nat):List O:=os.map (CE a b)
def kZ(a b:Nat)(o:O):(CE a b o).id=o.id:=by unfold CE;split<;>rfl
def Ez(a b c:Nat):∀os:List O,(os.map (CE a b)).find? (λo=>o.id==c)=(os.find? (λo=>o.id==c)).map (CE a b)
 |[]=>rfl
 |o::os=>by
  simp only[Xv,List.find?,kZ]
  cases h:o.id==c with
  |true=>rfl
  |false=>exact Ez a b c os
def lK(os:List O)(a b c e:Nat):zq (Za os a b) c e=if c=a/\e=b then none else zq os c e:=by
 unfold zq Za;rw[Ez]
 cases h:os.find? (λo=>o.id==c) with
 |none=>simp
 |some o=>
  have i:o.id=c:=by simpa using List.find?_some h
  simp only[xag,xk,CE];by_cases f:o.id=a
  ·rw[xh f];simp only[jT];have d:c=a:=by omega
   by_cases g:e=b<;>simp[d,g]
  rw[xg f];have d:¬c=a:=by omega
  simp[d]
def PM(os:List O)(a b n:Nat):(Za os a b).any (λo=>o.id==n)=os.any (λo=>o.id==n):=by
 unfold Za;rw[List.any_map];congr 1;funext o;simp[kZ]
def uO(a b:Nat):∀os:List O,(os.map O.id).Nodup->(∀o∈os,(o.li.map Prod.fst).Nodup)->Zc (Za os a b)+(if (zq os a b).isSome then 1 else 0)=Zc os
 |[],_,_=>by simp[Zc,Za,zq]
 |o::os,hn,hk=>by
  simp only[Xv,yj]at hn;have f:=uO a b os hn.2 (λj h=>hk j (by simp[h]));have g:=hk o (by simp);by_cases e:o.id=a
  ·have d:os.find? (λo=>o.id==a)=none:=by
    rw[YC];intro j i l;have:j.id=a:=by simpa using l
    exact hn.1 (by rw[e,<-this];exact Xu i)
   have m:zq os a b=none:=by unfold zq;rw[d];rfl
   rw[m]at f;have c:zq (o::os) a b=o.li.lookup b:=by unfold zq;simp[List.find?,e]
   have n:=tX b o.li g;rw[c];simp only[Zc,Za,Xv,XZ,CE,xh e]at f ⊢;simp only[Option.isSome_none,XV,YF]at f;omega
  have c:zq (o::os) a b=zq os a b:=by
   have k:(o.id==a)=false:=by simpa using e
   unfold zq;simp[List.find?,k]
  rw[c];simp only[Zc,Za,Xv,XZ,CE,xg e]at f ⊢;omega
def SX(n:Nat):WideAt.IsKeyLit (dT n):=trivial
def SW(a b:Nat):WideAt.IsKeyLit (cG a b):=trivial
def HD.del{os:List O}{D:DataW Unit}(h:HD os D)(r:Maps.Tidy D){a b:Nat}(m:a<=2147483647)(n:b<=2147483647)(q:(os.map O.id).Nodup)(p:∀o∈os,(o.li.map Prod.fst).Nodup):HD (Za os a b) (D.del (cG a b)):=by
 have j:∀c d:Nat,c<=2147483647->d<=2147483647->¬(c=a/\d=b)->cG c d≠cG a b:=λc d f g l e=>l (gO f g m n e)
 refine⟨?_,λc d f g=>?_,λc d f g=>?_⟩
 ·have s:=Maps.size_del (k:=cG a b) r;have t:=uO a b os q p;rw[h.has a b m n,h.size]at s;omega
 ·rw[lK];by_cases i:c=a/\d=b
  ·obtain⟨rfl,rfl⟩:=i;rw[xh ⟨rfl,rfl⟩,xaI];rfl
  rw[xg i,xaD (j c d f g i)];exact h.has c d f g
 rw[lK];by_cases i:c=a/\d=b
 ·obtain⟨rfl,rfl⟩:=i;rw[xh ⟨rfl,rfl⟩,Maps.atKey_del_same];rfl
 rw[xg i,Maps.atKey_del_other (j c d f g i)];exact h.val c d f g
def pZ(os:List O)(o:O)(h:∀b∈os,b.id≠o.id)(a:Nat):(os++[o]).find? (λo=>o.id==a)=if a=o.id then some o else os.find? (λo=>o.id==a):=by
 rw[xbW];by_cases c:a=o.id
 ·subst c;have:os.find? (λb=>b.id==o.id)=none:=by
   rw[YC];intro b d f;exact h b d (by simpa using f)
  rw[this];simp
 rw[xg c];have:(o.id==a)=false:=by simp;exact λe=>c e.symm
 simp[List.find?,this]
def HD.put{os:List O}{D:DataW Unit}{id g:Nat}{i:List (Nat×Nat)}(h:HD (os++[⟨id,g,i⟩]) D)(t:Maps.Tidy D)(q:id<=2147483647)(v:∀w∈os,w.id≠id){b n:Nat}(u:b<=2147483647)(f:i.lookup b=none):HD (os++[⟨id,g,i++[(b,n)]⟩]) (D.put (cG id b) (.lit (.int .i64 n))):=by
 have r:∀a c:Nat,a<=2147483647->c<=2147483647->¬(a=id/\c=b)->cG a c≠cG id b:=λa c j k s e=>s (gO j k q u e)
 have lo:∀(i:List (Nat×Nat)) (a c:Nat),zq (os++[⟨id,g,i⟩]) a c=if a=id then i.lookup c else zq os a c:=λi a c=>by
  unfold zq;rw[pZ os ⟨id,g,i⟩ v a];by_cases d:a=id
  ·simp[d]
  simp[d]
 have p:Maps.has D (cG id b)=false:=by rw[h.has id b q u,lo,xh rfl,f];rfl
 refine⟨?_,λa c j k=>?_,λa c j k=>?_⟩
 ·rw[Maps.size_put t,p,h.size];simp[Zc];omega
 ·rw[lo];by_cases m:a=id/\c=b
  ·obtain⟨rfl,rfl⟩:=m;rw[xh rfl,xbn t.isMap (SW _ _),dA,f];simp
  rw[xao (r a c j k m),h.has a c j k,lo];by_cases d:a=id
  ·have l:¬c=b:=λe=>m ⟨d,e⟩
   rw[xh d,xh d,dA];simp[l]
  rw[xg d,xg d]
 rw[lo];by_cases m:a=id/\c=b
 ·obtain⟨rfl,rfl⟩:=m;rw[xh rfl,Maps.atKey_put_same t.isMap (SW _ _),dA,f];simp
 rw[Maps.atKey_put_other (r a c j k m),h.val a c j k,lo];by_cases d:a=id
 ·have l:¬c=b:=λe=>m ⟨d,e⟩
  rw[xh d,xh d,dA];simp[l]
 rw[xg d,xg d]
def OD.put{os:List O}{D:DataW Unit}{id g:Nat}(h:OD os D)(f:Maps.Tidy D)(b:id<=2147483647)(j:os.any (λo=>o.id==id)=false):OD (os++[⟨id,g,[]⟩]) (D.put (dT id) (.lit (.int .i64 g))):=by
 have m:os.find? (λo=>o.id==id)=none:=YC.2 (λo a=>by simpa using Yn.1 j o a)
 refine⟨?_,λn c=>?_,λn c=>?_,λk i=>?_⟩
 ·rw[Maps.size_put f,h.has id b,j,h.size];simp
 ·by_cases e:n=id
  ·subst e;rw[xbn f.isMap (SX _)];simp
  rw[xao (λq=>e (gP q)),h.has n c];have:(id==n)=false:=by simp;exact λq=>e q.symm
  simp[this]
 ·by_cases e:n=id
  ·subst e;rw[Maps.atKey_put_same f.isMap (SX _)];unfold Zu;rw[xbW,m];simp
  rw[Maps.atKey_put_other (λq=>e (gP q)),h.val n c];have:(id==n)=false:=by simp;exact λq=>e q.symm
  unfold Zu;rw[xbW];have l:[(⟨id,g,[]⟩:O)].find? (λo=>o.id==n)=none:=by simp[this]
  rw[l,Option.or_none]
 by_cases a:k=dT id
 ·exact⟨⟨id,g,[]⟩,by simp,a⟩
 rw[xao a]at i;obtain⟨o,d,e⟩:=h.keys k i;exact⟨o,by simp[d],e⟩
def OD.congr{os':List O}(h:OD os D)(e:os'.map (λo=>(o.id,o.gd))=os.map (λo=>(o.id,o.gd))):OD os' D:=by
 have a:∀(l:List O) (n:Nat),l.any (λo=>o.id==n)=(l.map (λo=>(o.id,o.gd))).any (λq=>q.1==n):=λl n=>by rw[List.any_map];rfl
 have b:∀(l:List O) (n:Nat),Zu l n=(((l.map (λo=>(o.id,o.gd))).find? (λq=>q.1==n)).map Prod.snd).getD 0:=λl n=>by
  unfold Zu;rw[List.find?_map];have:((λq:Nat×Nat=>q.1==n)∘λo:O=>(o.id,o.gd))=λo=>o.id==n:=rfl
  rw[this]
  cases l.find? (λo=>o.id==n)<;>rfl
 refine⟨?_,λn c=>?_,λn c=>?_,λm i=>?_⟩
 ·have:=YK List.length e
  simp at this;rw[h.size,this]
 ·rw[h.has n c,a,a,e]
 ·rw[h.val n c,b,b,e]
 obtain⟨o,k,f⟩:=h.keys m i;have j:(o.id,o.gd)∈os'.map (λo=>(o.id,o.gd)):=by rw[e];exact Xu k
 obtain⟨p,d,g⟩:=Xz.1 j;exact⟨p,d,by rw[f,<-(Prod.mk.inj g).1]⟩
def HD.snoc(h:HD os D)(n:os.any (λo=>o.id==id)=false):HD (os++[⟨id,g,[]⟩]) D:=by
 have c:∀d∈os,d.id≠id:=λd k e=>by
  have:=Yn.1 n d k
  simp[e]at this
 have lo:∀a b:Nat,zq (os++[⟨id,g,[]⟩]) a b=zq os a b:=λa b=>by
  unfold zq;rw[pZ os ⟨id,g,[]⟩ c a];by_cases f:a=id
  ·have m:os.find? (λo=>o.id==a)=none:=by
    rw[YC];intro d k l;exact c d k (by rw[<-f];simpa using l)
   simp[f,List.lookup];rw[<-f,m];rfl
  simp[f]
 exact⟨by rw[h.size];simp[Zc],λa b i j=>by rw[lo];exact h.has a b i j,λa b i j=>by rw[lo];exact h.val a b i j⟩
def qM(l:L)(n:Nat):L:={ l with free:=l.free-n,hd:=l.hd+n }
def Zv(ls:List L):List (Nat×Nat)->List L
 |p::r=>Zv (ls.set p.1 (qM (ls.getD p.1 L0) p.2)) r
 |[]=>ls
def zr(ls:List L)(l:List (Nat×Nat)):List (Nat×Nat):=l.map λp=>((ls.getD p.1 L0).id,p.2)
def EK{l:L}(h:L.Ok l){n:Nat}(a:n<=l.free):L.Ok (qM l n):=⟨h.id,h.gd,h.ex,h.place,(by have:=h.sum;show l.free-n+(l.hd+n)+l.sh+l.sc+l.gv<=2147483647;omega),h.got,h.par⟩
def lH(p:Nat×Nat):∀(l:List (Nat×Nat)) (ls:List L),Zv ls (l++[p])=(Zv ls l).set p.1 (qM ((Zv ls l).getD p.1 L0) p.2)
 |[],ls=>rfl
 |q::r,ls=>by simp only[XS,Zv];exact lH p r _
def dX:∀(l:List (Nat×Nat)) (ls:List L),(Zv ls l).length=ls.length
 |[],ls=>rfl
 |q::r,ls=>by simp only[Zv];rw[dX r];simp
def fU{i:Nat}:∀(l:List (Nat×Nat)) (ls:List L),i ∉ l.map Prod.fst->(Zv ls l).getD i L0=ls.getD i L0
 |[],ls,_=>rfl
 |q::r,ls,h=>by
  simp only[Xv,xz,not_or]at h;simp only[Zv];rw[fU r _ h.2,ZJ h.1]
def EL{i n:Nat}:∀(l:List (Nat×Nat)) (ls:List L),(l.map Prod.fst).Nodup->(i,n)∈l->i<ls.length->(Zv ls l).getD i L0=qM (ls.getD i L0) n
 |[],ls,_,h,_=>by simp at h
 |q::r,ls,hn,h,hi=>by
  simp only[Xv,yj]at hn;simp only[Zv];rcases xz.1 h with h|h
  ·subst h;rw[fU r _ hn.1,aY hi]
  have a:i≠q.1:=λe=>hn.1 (by rw[<-e];exact Xu h)
  rw[EL r _ hn.2 h (by simpa using hi),ZJ a]
def dS{ls:List L}(a:∀i j,i<ls.length->j<ls.length->(ls.getD i L0).id=(ls.getD j L0).id->i=j):∀(l:List (Nat×Nat)),(∀p∈l,p.1<ls.length)->∀i,i<ls.length->(zr ls l).lookup (ls.getD i L0).id=l.lookup i
 |[],_,i,_=>rfl
 |q::r,h,i,hi=>by
  have b:=dS a r (λp f=>h p (by simp[f])) i hi;have g:=h q (by simp);simp only[zr,Xv,List.lookup]at b ⊢;by_cases e:i=q.1
  ·subst e;simp
  have c:(i==q.1)=false:=by simpa using e
  have d:((ls.getD i L0).id==(ls.getD q.1 L0).id)=false:=by
   rw[xr];exact λh=>e (a i q.1 hi g h)
  rw[c,d];exact b
def PV.mapsTo{w':World}{os':List O}(h:PV os rj w S M v td bs pvs ls)(n:∀k,k<w.heap.size->k≠M.o->k≠M.h->w'.heap[k]?=w.heap[k]?)(m:Mp os' rj w' M):PV os' rj w' S M v td bs pvs ls:=by
 obtain⟨_,_,mo⟩:=h.maps.mo;obtain⟨_,_,mh⟩:=h.maps.mh;have c:∀(k:Nat) (b:Array Value) (t:TypeId),w.heap[k]?=some (.cells b t (0,0))->w'.heap[k]?=w.heap[k]?:=λk b t e=>n k (zc e) (zX e mo) (zX e mh)
 exact {
  store:=(c _ _ _ h.store).trans h.store
  maps:=m
  row:=zd h.row (λg l=>by obtain⟨b,d⟩:=zh h.row l;exact c _ _ _ d)
  len:=h.len
  plen:=h.plen
  lot:=λi a=>(c _ _ _ (h.lot i a)).trans (h.lot i a)
  par:=λi a=>(h.par i a).congr (λq f=>by
   obtain⟨b,j⟩:=(h.par i a).blk f;exact c _ _ _ j)
  nodup:=h.nodup
  today:=h.today
  ok:=h.ok
  room:=h.room }
def jM{Z:Nat->Prop}{w':World}(h:w.grownBy w' (some b))(d:Z b):Kp Z w w':=⟨h.os,h.tape,h.output,h.size,λk a c=>h.block k a (λe=>c (by cases e;exact d))⟩
def VS(w:World)(b:Nat)(x y:Int):World:=((w.setCell ⟨b,6,none⟩ (.int .i64 x)).setCell ⟨b,7,none⟩ (.int .i64 y)).drew.drew
def MY{l:L}{pv:Value}(d:w.heap[b]?=some (.cells (zm l pv) 231 (0,0))){x y:Int}{f h:Nat}(e:x=(f:Int))(g:y=(h:Int)):(VS w b x y).heap[b]?=some (.cells (zm { l with free:=f,hd:=h } pv) 231 (0,0)):=by
 subst e g;have a:=xu w b 6 _ 231 (.int .i64 f) d;have c:=xu (w.setCell ⟨b,6,none⟩ (.int .i64 f)) b 7 _ 231 (.int .i64 h) a;exact c
def pX{k:Nat}{x y:Int}(a:k≠b):(VS w b x y).heap[k]?=w.heap[k]?:=by
 show((w.setCell ⟨b,6,none⟩ (.int .i64 x)).setCell ⟨b,7,none⟩ (.int .i64 y)).heap[k]?=_;rw[xd _ _ _ _ a,xd _ _ _ _ a]
def SH{Z:Nat->Prop}{x y:Int}(a:Z b):Kp Z w (VS w b x y):=by
 unfold VS;exact(((Kp.refl _ w).setCell (p:=⟨b,6,none⟩) (Or.inl a) _).setCell (p:=⟨b,7,none⟩) (Or.inl a) _).after ((xm _ _).drew.drew)
def EM(h:PV (os++[⟨id,g,[]⟩]) rj w S M v td bs pvs ls)(a4:∀i j,i<ls.length->j<ls.length->(ls.getD i L0).id=(ls.getD j L0).id->i=j)(i2:Zc os<=300)(e1:id<=2147483647)(a8:∀o'∈os,o'.id≠id)
  (l:List (Nat×Nat)) (hl:l.length<=30) (f0:(l.map Prod.fst).Nodup) (e3:∀p∈l,p.1<ls.length) (e0:∀p∈l,p.2<=(ls.getD p.1 L0).free) (a:Option Addr) (cap:Nat) (b:w.ownsRow 0 241 2 (.slice a l.length cap) l.length (zk bs l)) :
  Calls prog 153 #[.pointer (some ⟨S,0,none⟩),.int .i64 id,.slice a l.length cap] w λe w'=>e=.returned (.tuple #[])/\Kp (λk=>k=M.h\/k∈bs) w w'/\PV (os++[⟨id,g,zr ls l⟩]) rj w' S M v td bs pvs (Zv ls l):=by
 have c5:=zb a4;have g4:=zb f0;have c6:=zb e3;have f9:=zb e0;have t:=zb b;have c9:=zb a8;have d2:=zb h;clear h a4 f0 e3 e0 b a8;go_enter func153,ntmps153;go_wp2_with fail;go_loopw [7,10] (λ_ ii wr=>∃k:Nat,ii=.int .i64 k/\k<=l.length/\Kp (λk=>k=M.h\/k∈bs) w wr/\PV (os++[⟨id,g,zr ls (l.take k)⟩]) rj wr S M v td bs pvs (Zv ls (l.take k))/\wr.ownsRow 0 241 2 (.slice a l.length cap) l.length (zk bs l)) (λ_ ii _=>l.length-(intOf ii).toNat)
 case atStart=>exact⟨0,rfl,by omega,Kp.refl _ _,d2,t⟩
 clear d2 t;obtain⟨k,rfl,hk,X,T,b⟩:=hrel;by_cases K:k<l.length
 ·obtain⟨G,rfl,h7,g1,g2⟩:=ZW b k K;have b4:l.getD k (0,0)∈l:=by simp[Wc,K]
  have et:l.take (k+1)=l.take k++[l.getD k (0,0)]:=by
   rw[xn K];simp[Wc,K]
  have hc:=c6.o _ b4;have hn:=f9.o _ b4;have s:(l.getD k (0,0)).1 ∉ (l.take k).map Prod.fst:=by
   have:=g4.o
   have e2:l.map Prod.fst=((l.take k).map Prod.fst++[(l.getD k (0,0)).1])++(l.drop (k+1)).map Prod.fst:=by
    conv=>lhs;rw[<-yu (k+1) l,et]
    simp
   rw[e2]at this;have:=(XP.1 (XP.1 this).1).2.2;intro hm;exact this _ hm _ (by simp) rfl
  have Z:=dX (l.take k) ls;have C:=fU (l.take k) ls s;have u:=T.lot (l.getD k (0,0)).1 (by rw[Z];exact hc);rw[C]at u;have N:=T.ok _ (zf (k:=(l.getD k (0,0)).1) (by rw[Z];exact hc));rw[C]at N;have b8:=zb et;have a0:=zb C;have g5:=zb s;have c8:=zb Z;have HC:=zb hc;generalize h6:l.getD k (0,0)=p at *;obtain⟨c,n⟩:=p;simp only at *;clear h6 et C s b4 Z;have F:bs.getD c 0∈bs:=zH (by rw[T.len,c8.o];exact hc);have f5:=zb F;have hB:=VE wr (.cells #[.pointer (some ⟨bs.getD c 0,0,none⟩),.int .i64 n] 241);have B:=xp wr (.cells #[.pointer (some ⟨bs.getD c 0,0,none⟩),.int .i64 n] 241);have d9:=zc u;have d:=(hB.block _ d9).trans u;have b3:=T.below hB;have Q:=zg b hB;have a5:=X.after hB;have g9:=zb b3;have t:=zb Q;have g3:=zb a5;have b7:=zb d;have g6:=zb N;have b9:=zb hn;have f4:=N.sum;have a3:=N.id;have cS:=b3.c3;have i0:S≠bs.getD c 0:=zt T.store u (by decide);generalize e9:ls.getD c L0=lc at *;have c7:=zb e9;generalize f1:pvs.getD c default=pc at *;have g8:=zb f1;generalize d8:bs.getD c 0=bc at *;have b6:=zb d8;clear e9 f1 d8 F T b3 b Q X a5 N hc;go_wp2_with fail;have d0:(wr.alloc (.cells #[.pointer (some ⟨bc,0,none⟩),.int .i64 n] 241)).cell? ⟨wr.heap.size,0,none⟩=some (.pointer (some ⟨bc,0,none⟩)):=by rw[za B];rfl
  have d1:(wr.alloc (.cells #[.pointer (some ⟨bc,0,none⟩),.int .i64 n] 241)).cell? ⟨wr.heap.size,1,none⟩=some (.int .i64 n):=by rw[za B];rfl
  have d3:¬wr.heap.size=bc:=by omega
  have f8:=zb B;have h9:=zb hB;generalize (wr.alloc (.cells #[.pointer (some ⟨bc,0,none⟩),.int .i64 n] 241))=wb at *;have e6:wb.cell? ⟨bc,6,none⟩=some (.int .i64 lc.free):=by rw[za d];rfl
  have e7:wb.cell? ⟨bc,7,none⟩=some (.int .i64 lc.hd):=by rw[za d];rfl
  have f6:=ze d 6;have f7:=ze d 7;have h3:lc.free<=2147483647:=by omega
  have h4:lc.hd+n<=2147483647:=by omega
  generalize i1:wr.heap.size=bB at *;clear g1 g2 u d B hB f4;go_region;go_wp2_with fail;go_region;go_wp2_with fail;have J:((wb.setCell ⟨bc,6,none⟩ (.int .i64 ((lc.free:Int)-(n:Int)))).setCell ⟨bc,7,none⟩ (.int .i64 ((lc.hd:Int)+(n:Int)))).drew.drew=VS wb bc ((lc.free:Int)-(n:Int)) ((lc.hd:Int)+(n:Int)):=rfl;rw[J];have A:=MY b7 (x:=(lc.free:Int)-(n:Int)) (y:=(lc.hd:Int)+(n:Int)) (f:=lc.free-n) (h:=lc.hd+n) (by have:=b9.o;omega) (by omega);have D:PV (os++[⟨id,g,zr ls (l.take k)⟩]) rj (VS wb bc ((lc.free:Int)-(n:Int)) ((lc.hd:Int)+(n:Int))) S M v td bs pvs ((Zv ls (l.take k)).set c (qM lc n)) :=
   g9.lotset (i:=c) (l':=qM lc n) (by rw[c8.o];exact HC) (EK g6 b9) (by rw[a0.o];rfl) (by rw[b6.o,g8.o];exact A) (λq _ hq=>pX (by rw[<-b6.o];exact hq))
  have e5:Kp (λk=>k=M.h\/k∈bs) w (VS wb bc ((lc.free:Int)-(n:Int)) ((lc.hd:Int)+(n:Int))):=g3.trans (SH (Or.inl (Or.inr f5)));have b5:(VS wb bc ((lc.free:Int)-(n:Int)) ((lc.hd:Int)+(n:Int))).ownsRow 0 241 2 (.slice (some ⟨G,0,none⟩) l.length cap) l.length (zk bs l):=zd t (λq hq=>pX (by
   obtain⟨cs,W⟩:=zh t hq;exact zt W b7 (by decide)))
  have k3:=D.c3;have k0:(VS wb bc ((lc.free:Int)-(n:Int)) ((lc.hd:Int)+(n:Int))).cell? ⟨bc,0,none⟩=some (.int .i64 lc.id):=by rw[za A];rfl
  have z:=(pX (w:=wb) (x:=(lc.free:Int)-(n:Int)) (y:=(lc.hd:Int)+(n:Int)) d3).trans f8;have b0:(VS wb bc ((lc.free:Int)-(n:Int)) ((lc.hd:Int)+(n:Int))).cell? ⟨bB,0,none⟩=some (.pointer (some ⟨bc,0,none⟩)):=by rw[za z];rfl
  have b1:(VS wb bc ((lc.free:Int)-(n:Int)) ((lc.hd:Int)+(n:Int))).cell? ⟨bB,1,none⟩=some (.int .i64 n):=by rw[za z];rfl
  obtain⟨Do,b2,a2⟩:=D.maps.o;obtain⟨Dh,R,E⟩:=D.maps.h;have f3:Maps.size Dh<maxLen:=by
   rw[E.size];have:Zc (os++[⟨id,g,zr ls (l.take k)⟩])=Zc os+(l.take k).length:=by simp[Zc,zr]
   rw[this,XL];unfold maxLen;omega
  obtain⟨w4,h8,P,m⟩:=Yp (w:=(VS wb bc ((lc.free:Int)-(n:Int)) ((lc.hd:Int)+(n:Int))).drew) R wY TF f3 (Db e1 a3) (xaE (H:=Unit) WZ (RY (n:=n) (by omega)));have a9:Maps.Tidy Dh:=Yj R wY;have a6:(zr ls (l.take k)).lookup lc.id=none:=by
   rw[<-c7.o,dS c5.o _ (λp hp=>c6.o p (Yg hp)) c HC.o];exact Zw.2 g5
  have a1:=E.put a9 e1 c9 a3 (n:=n) a6;have e8:zr ls (l.take (k+1))=zr ls (l.take k)++[(lc.id,n)]:=by rw[b8.o];unfold zr;rw[Yq];simp only[Xv,xbd,c7.o]
  have d5:Mp (os++[⟨id,g,zr ls (l.take (k+1))⟩]) rj w4 M:=by
   have hm:=D.maps;obtain⟨Dr,d4,d7⟩:=hm.r;refine⟨⟨Dr,zu d4 (m.block M.r (XG d4) (λe=>hm.rh (xt e))),d7⟩,hm.rc,⟨Do,zu b2 (m.block M.o (XG b2) (λe=>hm.oh (xt e))),a2.congr (by simp)⟩,⟨_,Z7 P,?_⟩,hm.ro,hm.rh,hm.oh⟩
   ·rw[e8];exact a1
  have a7:Zv ls (l.take (k+1))=(Zv ls (l.take k)).set c (qM lc n):=by rw[b8.o,lH,a0.o]
  have d6:PV (os++[⟨id,g,zr ls (l.take (k+1))⟩]) rj w4 S M v td bs pvs (Zv ls (l.take (k+1))):=by
   rw[a7];exact D.mapsTo (λq hq h1 h2=>m.block q hq (λe=>h2 (xt e))) d5
  have e4:Kp (λk=>k=M.h\/k∈bs) w w4:=e5.trans (Kp.before ((xm _ _).drew) (jM m (Or.inl (Or.inl (Or.inl rfl)))));have f2:w4.ownsRow 0 241 2 (.slice (some ⟨G,0,none⟩) l.length cap) l.length (zk bs l):=zd b5 (λq hq=>by
   obtain⟨cs,W⟩:=zh b5 hq;refine m.block q (zc W) (λe=>?_)
   cases e;obtain⟨es,c2,h5⟩:=ZP R
   exact zX W h5 rfl)
  have g7:=zb d6;have g0:=zb e4;have h0:=zb f2;clear A D e5 b5 z b2 a2 R E f3 P m a9 a6 a1 e8 d5 a7 d6 e4 f2 e6 e7 f6 f7 d0 d1 cS;generalize VS wb bc ((lc.free:Int)-(n:Int)) ((lc.hd:Int)+(n:Int))=wf at *;clear J;go_region;go_wp2_with fail;go_roundw
  case rel=>exact⟨k+1,by go_num,by omega,g0,g7,h0⟩
  simp[intOf];omega
 obtain rfl:k=l.length:=by omega
 rw[Xs]at T;have HP:=zb T;have HK:=zb X;clear K T X b;go_wp2_with fail;go_end0;exact⟨rfl,HK,HP⟩
def EX:∀(l m:List Nat),l.Nodup->(∀x∈l,x∈m)->l.length<=m.length
 |[],m,_,_=>by simp
 |a::t,m,hn,hs=>by
  rw[yj]at hn;have b:=hs a (by simp);have:=EX t (m.erase a) hn.2 (λx c=>(xbD (λe=>hn.1 (by rw[<-e];exact c))).2 (hs x (by simp[c])));rw[xav b]at this;have:=List.length_pos_of_mem b;simp only[List.length_cons];omega
def Good.oLines(h:Good os ls){o:O}(a:o∈os):o.li.length<=ls.length:=by
 have:=EX (o.li.map Prod.fst) (ls.map L.id) (h.keys o a) (λx e=>by
  obtain⟨p,d,rfl⟩:=Xz.1 e;obtain⟨i,c,b⟩:=h.mem o a p d;rw[<-b];exact Xu (zf c))
 simpa using this
def Ki(os:List O)(n:Nat)(h:∀o∈os,o.li.length<=n):Zc os<=os.length*n:=by
 induction os with
 |nil=>simp[Zc]
 |cons o os ih=>
  have d:=h o (by simp);have b:=ih (λc a=>h c (by simp[a]));simp only[Zc,Xv,XZ,List.length_cons]at b ⊢;rw[Nat.succ_mul];omega
def Good.nl(h:Good os ls)(a:ls.length<=30):Zc os<=300:=by
 have:=Ki os 30 (λo b=>xj (h.oLines b) a)
 have:=h.olen
 have:os.length*30<=10*30:=xas _ (by omega)
 omega
def dG(rj:List (Nat×Nat))(os:List O)(td:Nat)(ls:List L)(id gd count gate way:Nat):Nat :=
 if os.any (λo=>o.id==id) then 5 else if 10<=os.length then 6 else
  if aU (zn rj td gd count gate way ls)=0\/(aU (zn rj td gd count gate way ls)<count/\Eg way=true) then 7 else 0
def aT(td gd a b c:Nat)(ls:List L)(g:ls.length<=30):(zn rj td gd a b c ls).length<=30/\((zn rj td gd a b c ls).map Prod.fst).Nodup/\(∀p∈zn rj td gd a b c ls,p.1<ls.length)/\(∀p∈zn rj td gd a b c ls,p.2<=(ls.getD p.1 L0).free)/\aU (zn rj td gd a b c ls)<=a:=by
 have d:=AI ls (cQ rj (mF c) td gd b ls) a;have f:=rI (rj:=rj) (mF c) td gd b ls;refine⟨?_,f.sublist d,λp e=>?_,EG ls _ a,AJ ls _ a⟩
 ·have:=d.length_le
  rw[List.length_map,(eC (rj:=rj) (mF c) td gd b ls).length_eq]at this;have:=dP (rj:=rj) td gd b ls ls.length;unfold zn;omega
 have:=d.mem (Xu e)
 exact(dC.1 this).1
def Dy(h:PV os rj w S M v td bs pvs ls)(id gd a c d:Nat)(q:id<=2147483647)(m:os.any (λo=>o.id==id)=true\/10<=os.length):Calls prog 101 #[.pointer (some ⟨S,0,none⟩),.agg #[.int .i64 id,.int .i64 gd,.int .i64 a,.int .i64 c,.int .i64 d]] w λe w'=>e=.returned (.tuple #[.slice none 0 0,.int .i64 (dG rj os td ls id gd a c d:Int)])/\Below w.heap.size w w':=by
 have l:=VE w (Obj.cells #[.int .i64 id,.int .i64 gd,.int .i64 a,.int .i64 c,.int .i64 d] 155);have f:=h.below l;have i:=zb (bT f id q);have r:=zb f;have c2:=f.c2;obtain⟨D,p,hd⟩:=f.maps.o;have g:=xaf p Ii;rw[hd.size]at g
 cases b:os.any (λo=>o.id==id) with
 |true=>
  have j:Ha (dG rj os td ls id gd a c d=5):=by unfold Ha dG;rw[b];rfl
  rw[b]at i;clear f h p hd b m;go_enter func101,ntmps101;go_wp2_with (go_at_call 150;with_reducible refine(i.o).mono ?_;rintro e w1 ⟨rfl,rfl⟩);go_ret2;exact⟨by rw[j.o];rfl,l⟩
 |false=>
  have k:10<=os.length:=m.resolve_left (by rw[b];simp);have j:Ha (dG rj os td ls id gd a c d=6):=by unfold Ha dG;rw[b,xg (by simp),xh k]
  rw[b]at i;generalize os.length=n at *;clear f h hd b m;go_enter func101,ntmps101;go_wp2_with (go_at_call 150;with_reducible refine(i.o).mono ?_;rintro e w1 ⟨rfl,rfl⟩);go_ret2;exact⟨by rw[j.o];rfl,l⟩
def Dz(h:PV os rj w S M v td bs pvs ls)(u:Good os ls)(id gd b c d:Nat)(X:id<=2147483647)(h2:gd<=2147483647)(E:b<=2147483647)(h4:c<=2147483647)(K:d<=3)
  (k:os.any (λo=>o.id==id)=false) (Z:¬10<=os.length) (s:aU (zn rj td gd b c d ls)=0\/(aU (zn rj td gd b c d ls)<b/\Eg d=true)) :
  Calls prog 101 #[.pointer (some ⟨S,0,none⟩),.agg #[.int .i64 id,.int .i64 gd,.int .i64 b,.int .i64 c,.int .i64 d]] w λe w'=>e=.returned (.tuple #[.slice none 0 0,.int .i64 7])/\Below w.heap.size w w':=by
 have F:=VE w (Obj.cells #[.int .i64 id,.int .i64 gd,.int .i64 b,.int .i64 c,.int .i64 d] 155);have m:=xp w (Obj.cells #[.int .i64 id,.int .i64 gd,.int .i64 b,.int .i64 c,.int .i64 d] 155);have t:=h.below F;have r:=h.room;have A:=zb (aT (rj:=rj) td gd b c d ls r);have J:=zb (bT t id X);rw[k]at J;have B:=zb (mN t u id gd b c d h2 E h4 K);have c2:=t.c2;obtain⟨D,N,hd⟩:=t.maps.o;have l:=xaf N Ii;rw[hd.size]at l;have C:=UD K;generalize os.length=n at *;generalize hq:zn rj td gd b c d ls=q at *;clear t h N hd k hq u;have Q:n<10:=by omega
 go_enter func101,ntmps101;go_wp2_with (first|(go_at_call 150;with_reducible refine(J.o).mono ?_;rintro e w1 ⟨rfl,rfl⟩)|fail)
 with_reducible refine(B.o).mono ?_
 rintro e w2 ⟨i,v2,rfl,p⟩;obtain⟨a,cap,hv⟩:=zj p;subst hv;have H:=zb (pT (aK p) A.1 (xj A.2.2.2.2 E));have T:w2.cell? ⟨w.heap.size,2,none⟩=some (.int .i64 b):=(i.cell (by simp)).trans (by rw[za m];rfl);have W:w2.cell? ⟨w.heap.size,4,none⟩=some (.int .i64 d):=(i.cell (by simp)).trans (by rw[za m];rfl);have j:=zb (F.trans (i.mono F.size));have g:w.heap.size<w2.heap.size:=xl (by simp) i.size;have a1:aU q<=2147483647:=xj A.2.2.2.2 E;generalize aU q=z at *;clear p i l m c2;by_cases y:z=0
 ·have G:((z:Int)==0)=true:=by rw[y];rfl
  clear s y;go_wp2_with (first|(go_at_call 152;with_reducible refine(H.o).mono ?_;rintro e x ⟨rfl,f⟩;have m2:x.cell? ⟨w.heap.size,2,none⟩=some (.int .i64 b):=(f.cell (by exact g)).trans T;have m4:x.cell? ⟨w.heap.size,4,none⟩=some (.int .i64 d):=(f.cell (by exact g)).trans W)|fail);go_ret2;exact⟨rfl,j.trans (f.mono j.size)⟩
 have G:((z:Int)==0)=false:=by rw[xr];omega
 obtain⟨a0,R⟩:=s.resolve_left y;rw[R]at C;have P:decide ((z:Int)<(b:Int))=true:=by simp;omega
 clear s y R;go_wp2_with (first|(go_at_call 152;with_reducible refine(H.o).mono ?_;rintro e x ⟨rfl,f⟩;have m2:x.cell? ⟨w.heap.size,2,none⟩=some (.int .i64 b):=(f.cell (by exact g)).trans T;have m4:x.cell? ⟨w.heap.size,4,none⟩=some (.int .i64 d):=(f.cell (by exact g)).trans W)|fail);go_ret2;exact⟨rfl,j.trans (f.mono j.size)⟩
def cN(ls:List L)(l:List (Nat×Nat)):∀i,((Zv ls l).getD i L0).id=(ls.getD i L0).id:=by
 induction l generalizing ls with
 |nil=>intro i;rfl
 |cons p r ih=>
  intro i;simp only[Zv];rw[ih];by_cases h:i=p.1
  ·subst h;by_cases a:p.1<ls.length
   ·rw[aY a];rfl
   simp[xad (show ls.length<=p.1 by omega)]
  rw[ZJ h]
def mB(ls:List L)(m:List (Nat×Nat)):∀l,aF (Zv ls m) l=aF ls l
 |[]=>rfl
 |p::r=>by simp only[aF,cN,mB ls m r]
def NQ(h:PV os rj w S M v td bs pvs ls)(b7:Good os ls)(id gd d f l:Nat)(h1:id<=2147483647)(h2:gd<=2147483647)(h3:d<=2147483647)(h4:f<=2147483647)(h5:l<=3)
  (a1:os.any (λo=>o.id==id)=false) (e6:¬10<=os.length) (d3:¬(aU (zn rj td gd d f l ls)=0\/(aU (zn rj td gd d f l ls)<d/\Eg l=true))) :
  Calls prog 101 #[.pointer (some ⟨S,0,none⟩),.agg #[.int .i64 id,.int .i64 gd,.int .i64 d,.int .i64 f,.int .i64 l]] w λe w'=>Kp (λk=>k=M.o\/k=M.h\/k∈bs) w w'/\PV (os++[⟨id,gd,zr ls (zn rj td gd d f l ls)⟩]) rj w' S M v td bs pvs (Zv ls (zn rj td gd d f l ls)) /\
   ∃g c,e=.returned (.tuple #[.slice (some ⟨g,0,none⟩) (zA ls (zn rj td gd d f l ls)).length c,.int .i64 0])/\w'.ownsRow 0 2 1 (.slice (some ⟨g,0,none⟩) (zA ls (zn rj td gd d f l ls)).length c) (zA ls (zn rj td gd d f l ls)).length (I (zA ls (zn rj td gd d f l ls))):=by
 have ha:=VE w (Obj.cells #[.int .i64 id,.int .i64 gd,.int .i64 d,.int .i64 f,.int .i64 l] 155);have d8:=xp w (Obj.cells #[.int .i64 id,.int .i64 gd,.int .i64 d,.int .i64 f,.int .i64 l] 155);have hP:=h.below ha;have b3:=h.room;have e1:=b7.nl b3;have c6:=b7.ids;have c7:∀o'∈os,o'.id≠id:=λo' K e=>by
  have:=Yn.1 a1 o' K
  simp[e]at this
 have F:=zb (aT (rj:=rj) td gd d f l ls b3);have HH:=zb (bT hP id h1);have a0:=zb a1;rw[a1]at HH;have e3:=zb (mN hP b7 id gd d f l h2 h3 h4 h5);have c2:=hP.c2;obtain⟨D,hD,hd⟩:=hP.maps.o;have a9:=xaf hD Ii;rw[hd.size]at a9;have e7:=UD h5;have HP:=zb hP;have b9:=zb c6;have c5:=zb c7;have d5:=zb e1;have e0:os.length<10:=by omega
 obtain⟨n,HN⟩:=Ww os.length;rw[<-HN.o]at a9 e0;generalize hq:zn rj td gd d f l ls=q at *;clear hP h hD hd a1 hq b7 c6 c7 e1 e6;go_enter func101,ntmps101;go_wp2_with (first|(go_at_call 150;with_reducible refine(HH.o).mono ?_;rintro e w1 ⟨rfl,rfl⟩)|fail)
 with_reducible refine(e3.o).mono ?_
 rintro e w2 ⟨b6,v2,rfl,b8⟩;obtain⟨a,cap,hv⟩:=zj b8;subst hv;have HC:=zb (pT (aK b8) F.1 (xj F.2.2.2.2 h3));have G:=(b6.block w.heap.size (by simp)).trans d8;have d7:=zb (HP.below b6);have d6:=zb (aK b8);have k2:w2.cell? ⟨w.heap.size,2,none⟩=some (.int .i64 d):=by rw[za G];rfl
 have k4:w2.cell? ⟨w.heap.size,4,none⟩=some (.int .i64 l):=by rw[za G];rfl
 have d4:=zb G;have b5:=zb (ha.trans (b6.mono ha.size));have B:w.heap.size<w2.heap.size:=zc G;have e8:aU q<=2147483647:=xj F.2.2.2.2 h3;have e9:((aU q:Int)==0)=false:=by rw[xr];omega
 obtain⟨sq,e4⟩:=Ww (aU q);rw[<-e4.o]at e9 d3 HC e8;clear b8 b6 a9 d8 G c2;have W:¬(sq<d)\/Eg l=false:=by
  by_cases hl:sq<d
  ·right;cases hw:Eg l with
   |false=>rfl
   |true=>exact absurd (Or.inr ⟨hl,hw⟩) d3
  exact Or.inl hl
 clear d3;by_cases hl:sq<d
 ·have hw:=W.resolve_left (by omega);rw[hw]at e7;have d9:decide ((sq:Int)<(d:Int))=true:=by simp;omega
  clear W hw;go_wp2_with (first|(go_at_call 152;with_reducible refine(HC.o).mono ?_;rintro e w3 ⟨rfl,s⟩;have m2:w3.cell? ⟨w.heap.size,2,none⟩=some (.int .i64 d):=(s.cell (by exact B)).trans k2;have m4:w3.cell? ⟨w.heap.size,4,none⟩=some (.int .i64 l):=(s.cell (by exact B)).trans k4)|fail);have x:=d7.below s;have m:=(s.block w.heap.size B).trans d4;have n0:w3.cell? ⟨w.heap.size,0,none⟩=some (.int .i64 id):=by rw[za m];rfl
  have n1:w3.cell? ⟨w.heap.size,1,none⟩=some (.int .i64 gd):=by rw[za m];rfl
  have s2:=x.c2;obtain⟨Do,C,R⟩:=x.maps.o;obtain⟨Dh,Q,a5⟩:=x.maps.h;have b4:Maps.size Do<maxLen:=by rw[R.size,<-HN.o];unfold maxLen;omega
  obtain⟨w4,e2,z,j⟩:=Yp (w:=w3.drew) C AV Ii b4 (qS h1) (xaE (H:=Unit) WZ (RY h2));have N:Maps.Tidy Do:=Yj C AV;have a6:Mp (os++[⟨id,gd,[]⟩]) rj w4 M:=by
   have K:=x.maps;obtain⟨Dr,a4,a7⟩:=K.r;exact⟨⟨Dr,zu a4 (j.block M.r (XG a4) (λe=>K.ro (xt e))),a7⟩,K.rc,⟨_,Z7 z,R.put N h1 a0⟩,⟨Dh,zu Q (j.block M.h (XG Q) (λe=>K.oh (xt e).symm)),a5.snoc a0⟩,K.ro,K.rh,K.oh⟩
  have T:PV (os++[⟨id,gd,[]⟩]) rj w4 S M v td bs pvs ls:=x.mapsTo (λq hq h1 h2=>j.block q hq (λe=>h1 (xt e))) a6;obtain⟨e5,c0,Z⟩:=ZP C;have t:=zg d6 s;have u:w4.ownsRow 0 241 2 (.slice a q.length cap) q.length (zk bs q):=zd t (λb hb=>by
   obtain⟨cs,y⟩:=zh t hb;exact j.block b (zc y) (λe=>zX y Z (xt e)))
  have J:=(j.block w.heap.size (zc m) (λe=>zX m Z (xt e))).trans m;have m0:w4.cell? ⟨w.heap.size,0,none⟩=some (.int .i64 id):=by rw[za J];rfl
  have c8:=zb (EM T b9 d5 h1 c5 q F.1 F.2.1 F.2.2.1 F.2.2.2.1 a cap u);have a2:=zb u;have c9:Ha (Kp (λk=>k=M.o\/k=M.h\/k∈bs) w w4):=(Wo (b5.trans (s.mono b5.size))).trans (Kp.before ((xm _ _).drew) (jM j (Or.inl (Or.inl (Or.inl rfl)))));have P:=zb T;clear x m C R Q a5 b4 z j N a6 T Z t u J s m2 m4 k2 k4;go_region;go_wp2_with fail
  with_reducible refine(c8.o).mono ?_
  rintro e w5 ⟨rfl,X,E⟩;have A:w5.ownsRow 0 241 2 (.slice a q.length cap) q.length (zk bs q):=zd a2 (λb hb=>by
   obtain⟨cs,y⟩:=zh a2 hb;refine X.block b (zc y) (λhz=>?_);rcases hz with hz|hz
   ·obtain⟨es,cc,b1⟩:=P.maps.mh;rw[<-hz]at b1;exact zX y b1 rfl
   obtain⟨i,hi,rfl⟩:=xw hz;have b0:=P.lot i (by rw[<-P.o.len];exact hi);rw[Wc,xi hi]at b0;exact zt y b0 (by decide) rfl)
  have HT:=zb (FE (ls:=Zv ls q) A F.1 (xj F.2.2.2.2 h3) E.lots E.ok (λp hp=>by rw[dX];exact F.2.2.1 p hp));have a3:Ha (zA (Zv ls q) q=zA ls q):=by unfold Ha zA;rw[mB]
  rw[a3.o]at HT;have d2:=zb E;have d0:=zb X;clear A E X a3;go_wp2_with fail
  with_reducible refine(HT.o).mono ?_
  rintro e w6 ⟨a8,g,c,rfl,b2⟩;have d1:=zb b2;clear b2;go_wp2_with fail;go_ret2;refine⟨?_,d2.below a8,g,c,rfl,aK d1⟩;exact(c9.trans (d0.mono (λk hk=>Or.inl (Or.inr hk)))).after a8
 have d9:decide ((sq:Int)<(d:Int))=false:=by simp;omega
 clear W;go_wp2_with (first|(go_at_call 152;with_reducible refine(HC.o).mono ?_;rintro e w3 ⟨rfl,s⟩;have m2:w3.cell? ⟨w.heap.size,2,none⟩=some (.int .i64 d):=(s.cell (by exact B)).trans k2;have m4:w3.cell? ⟨w.heap.size,4,none⟩=some (.int .i64 l):=(s.cell (by exact B)).trans k4)|fail);have x:=d7.below s;have m:=(s.block w.heap.size B).trans d4;have n0:w3.cell? ⟨w.heap.size,0,none⟩=some (.int .i64 id):=by rw[za m];rfl
 have n1:w3.cell? ⟨w.heap.size,1,none⟩=some (.int .i64 gd):=by rw[za m];rfl
 have s2:=x.c2;obtain⟨Do,C,R⟩:=x.maps.o;obtain⟨Dh,Q,a5⟩:=x.maps.h;have b4:Maps.size Do<maxLen:=by rw[R.size,<-HN.o];unfold maxLen;omega
 obtain⟨w4,e2,z,j⟩:=Yp (w:=w3.drew) C AV Ii b4 (qS h1) (xaE (H:=Unit) WZ (RY h2));have N:Maps.Tidy Do:=Yj C AV;have a6:Mp (os++[⟨id,gd,[]⟩]) rj w4 M:=by
  have K:=x.maps;obtain⟨Dr,a4,a7⟩:=K.r;exact⟨⟨Dr,zu a4 (j.block M.r (XG a4) (λe=>K.ro (xt e))),a7⟩,K.rc,⟨_,Z7 z,R.put N h1 a0⟩,⟨Dh,zu Q (j.block M.h (XG Q) (λe=>K.oh (xt e).symm)),a5.snoc a0⟩,K.ro,K.rh,K.oh⟩
 have T:PV (os++[⟨id,gd,[]⟩]) rj w4 S M v td bs pvs ls:=x.mapsTo (λq hq h1 h2=>j.block q hq (λe=>h1 (xt e))) a6;obtain⟨e5,c0,Z⟩:=ZP C;have t:=zg d6 s;have u:w4.ownsRow 0 241 2 (.slice a q.length cap) q.length (zk bs q):=zd t (λb hb=>by
  obtain⟨cs,y⟩:=zh t hb;exact j.block b (zc y) (λe=>zX y Z (xt e)))
 have J:=(j.block w.heap.size (zc m) (λe=>zX m Z (xt e))).trans m;have m0:w4.cell? ⟨w.heap.size,0,none⟩=some (.int .i64 id):=by rw[za J];rfl
 have c8:=zb (EM T b9 d5 h1 c5 q F.1 F.2.1 F.2.2.1 F.2.2.2.1 a cap u);have a2:=zb u;have c9:Ha (Kp (λk=>k=M.o\/k=M.h\/k∈bs) w w4):=(Wo (b5.trans (s.mono b5.size))).trans (Kp.before ((xm _ _).drew) (jM j (Or.inl (Or.inl (Or.inl rfl)))));have P:=zb T;clear x m C R Q a5 b4 z j N a6 T Z t u J s m2 m4 k2 k4;go_region;go_wp2_with fail
 with_reducible refine(c8.o).mono ?_
 rintro e w5 ⟨rfl,X,E⟩;have A:w5.ownsRow 0 241 2 (.slice a q.length cap) q.length (zk bs q):=zd a2 (λb hb=>by
  obtain⟨cs,y⟩:=zh a2 hb;refine X.block b (zc y) (λhz=>?_);rcases hz with hz|hz
  ·obtain⟨es,cc,b1⟩:=P.maps.mh;rw[<-hz]at b1;exact zX y b1 rfl
  obtain⟨i,hi,rfl⟩:=xw hz;have b0:=P.lot i (by rw[<-P.o.len];exact hi);rw[Wc,xi hi]at b0;exact zt y b0 (by decide) rfl)
 have HT:=zb (FE (ls:=Zv ls q) A F.1 (xj F.2.2.2.2 h3) E.lots E.ok (λp hp=>by rw[dX];exact F.2.2.1 p hp));have a3:Ha (zA (Zv ls q) q=zA ls q):=by unfold Ha zA;rw[mB]
 rw[a3.o]at HT;have d2:=zb E;have d0:=zb X;clear A E X a3;go_wp2_with fail
 with_reducible refine(HT.o).mono ?_
 rintro e w6 ⟨a8,g,c,rfl,b2⟩;have d1:=zb b2;clear b2;go_wp2_with fail;go_ret2;refine⟨?_,d2.below a8,g,c,rfl,aK d1⟩;exact(c9.trans (d0.mono (λk hk=>Or.inl (Or.inr hk)))).after a8
