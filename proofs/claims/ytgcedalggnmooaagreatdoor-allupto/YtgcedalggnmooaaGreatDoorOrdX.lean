import Derived.Test.YtgcedalggnmooaaGreatDoorR0X
import Derived.Handy
set_option linter.all false
set_option maxRecDepth 100000
set_option maxHeartbeats 3200000
namespace Go.Proofs.YtgcedalggnmooaaGreatDoor
open Tryz
def VJ(first:Bool)(a b:L):Bool:=if first then decide (a.place<b.place) else (decide (a.ex<b.ex)||(decide (a.ex=b.ex)&&decide (a.id<b.id)))
def bI(first:Bool)(ls:List L)(i j:Nat):Bool:=VJ first (ls.getD i L0) (ls.getD j L0)
variable {f t:Bool}
def pP{a b c:L}(d:VJ f b a=false)(e:VJ f c b=false):VJ f c a=false:=by
 cases f
 ·simp[VJ]at d e ⊢;omega
 simp[VJ]at d e ⊢;omega
def pO{a b:L}(h:VJ f a b=true):VJ f b a=false:=by
 cases f
 ·simp[VJ]at h ⊢;omega
 simp[VJ]at h ⊢;omega
def kX(f:Bool)(a:L):VJ f a a=false:=by
 cases f<;>simp[VJ]
variable {ls:List L}{os:List O}
def Iw(h:Good os ls){f:Bool}{i j:Nat}(d:i<ls.length)(e:j<ls.length)(a:bI f ls i j=false)(b:bI f ls j i=false):i=j:=by
 cases f
 ·simp only[bI,VJ,XV,YF,xat,yn,Bool.and_eq_false_imp,XI]at a b;apply h.ids i j d e;have c:(ls.getD i L0).ex=(ls.getD j L0).ex:=by omega
  have:=a.2 c
  have:=b.2 c.symm
  omega
 simp only[bI,VJ,Yo,yn]at a b;have:=h.place i d;have:=h.place j e;omega
def Mj(lt:Nat->Nat->Bool)(x:Nat):List Nat->List Nat
 |[]=>[x]
 |y::r=>if lt y x then y::Mj lt x r else x::y::r
def yS(lt:Nat->Nat->Bool):List Nat->List Nat
 |[]=>[]
 |x::r=>Mj lt x (yS lt r)
def jQ(lt:Nat->Nat->Bool)(x:Nat):∀l:List Nat,(Mj lt x l).Perm (x::l)
 |[]=>YP _
 |y::r=>by
  unfold Mj;split
  ·exact((jQ lt x r).cons y).trans (List.Perm.swap x y r)
  exact YP _
def dD(lt:Nat->Nat->Bool):∀l:List Nat,(yS lt l).Perm l
 |[]=>YP _
 |x::r=>(jQ lt x _).trans ((dD lt r).cons x)
def Vx(lt:Nat->Nat->Bool)(l:List Nat):Prop:=l.Pairwise λa b=>lt b a=false
def EN(f:Bool)(ls:List L)(x:Nat):∀l:List Nat,Vx (bI f ls) l->Vx (bI f ls) (Mj (bI f ls) x l)
 |[],_=>by simp[Mj,Vx]
 |y::r,h=>by
  have e:=XE.1 h;unfold Mj;split
  ·rename_i c;refine XE.2 ⟨λb a=>?_,EN f ls x r e.2⟩;rcases xz.1 ((jQ _ x r).mem_iff.1 a) with rfl|a
   ·exact pO c
   exact e.1 b a
  rename_i c;have d:bI f ls y x=false:=by simpa using c
  refine XE.2 ⟨λb a=>?_,h⟩;rcases xz.1 a with rfl|a
  ·exact d
  exact pP d (e.1 b a)
def yB(f:Bool)(ls:List L):∀l:List Nat,Vx (bI f ls) (yS (bI f ls) l)
 |[]=>List.Pairwise.nil
 |x::r=>EN f ls x _ (yB f ls r)
def cQ(rj:List (Nat×Nat))(f:Bool)(td gd gate:Nat)(ls:List L):List Nat:=yS (bI f ls) (dE rj td gd gate ls ls.length)
variable {rj:List (Nat×Nat)}
def eC(f:Bool)(td gd a:Nat)(ls:List L):(cQ rj f td gd a ls).Perm (dE rj td gd a ls ls.length):=dD _ _
def KN(f:Bool)(td gd a:Nat)(ls:List L):Vx (bI f ls) (cQ rj f td gd a ls):=yB f ls _
def Hm(td gd a:Nat)(ls:List L)(k:Nat):(dE rj td gd a ls k).Nodup:=(xaR).filter _
def rI(f:Bool)(td gd a:Nat)(ls:List L):(cQ rj f td gd a ls).Nodup:=(eC f td gd a ls).nodup_iff.2 (Hm _ _ _ _ _)
variable {Q base e i j n size:Nat}
def dC{td gd a:Nat}:i∈cQ rj f td gd a ls↔i<ls.length/\WN (cI rj ls) td gd a (ls.getD i L0)=true:=by
 rw[(eC f td gd a ls).mem_iff];simp[dE]
def uF(h:Good os ls){f:Bool}{c m:Nat}{r:List Nat}(g:Vx (bI f ls) (c::r))(a:∀i∈c::r,i<ls.length)(d:m∈c::r)(b:∀i∈c::r,bI f ls i m=false):m=c:=by
 rcases xz.1 d with rfl|e
 ·rfl
 exact Iw h (a m d) (a c (by simp)) ((XE.1 g).1 m e) (b c (by simp))
def aB(ls:List L):List Nat->Nat->List (Nat×Nat)
 |[],_=>[]
 |c::r,want=>if want=0 then [] else (c,min (ls.getD c L0).free want)::aB ls r (want-min (ls.getD c L0).free want)
def aU(l:List (Nat×Nat)):Nat:=(l.map Prod.snd).sum
def uB(ls:List L)(q:List Nat):aB ls q 0=[]:=by cases q<;>simp[aB]
def AJ(ls:List L):∀(q:List Nat) (a:Nat),aU (aB ls q a)<=a
 |[],a=>by simp[aB,aU]
 |c::r,a=>by
  unfold aB;by_cases h:a=0
  ·simp[h,aU]
  have:=AJ ls r (a-min (ls.getD c L0).free a)
  simp only[xg h,aU,Xv,XZ]at this ⊢;omega
def AI(ls:List L):∀(q:List Nat) (a:Nat),((aB ls q a).map Prod.fst).Sublist q
 |[],a=>by simp[aB]
 |c::r,a=>by
  unfold aB;by_cases h:a=0
  ·simp[h]
  simp only[xg h,Xv];exact(AI ls r _).cons_cons c
def EG(ls:List L):∀(q:List Nat) (a:Nat),∀p∈aB ls q a,p.2<=(ls.getD p.1 L0).free
 |[],a=>by simp[aB]
 |c::r,a=>by
  unfold aB;by_cases h:a=0
  ·simp[h]
  simp only[xg h,xz];rintro p (rfl|hp)
  ·exact Nat.min_le_left _ _
  exact EG ls r _ p hp
open Go.RowKit
def pU(w:World)(x:Ex)(n:Nat):(ext w x).drewN n=ext w ⟨x.n+n,x.os⟩:=by
 simp[ext,World.drewN,xcA]
def WV(l:List Nat)(i j:Nat):List Nat:=(l.set i (l.getD j 0)).set j (l.getD i 0)
def yC(l:List Nat)(i j:Nat):(WV l i j).length=l.length:=by simp[WV]
variable {bs hs l:List Nat}
def yD(a:i<l.length)(b:j<l.length):(WV l i j).Perm l:=by
 have:=List.set_set_perm a b
 simp only[WV,Wc,xi a,xi b,XQ];exact this
def AH(a:i<l.length)(x:Nat):(l.set i x).getD i 0=x:=by simp[Wc,XB,a]
def jK(a:j≠i)(x:Nat):(l.set i x).getD j 0=l.getD j 0:=by simp[Wc,XB,Yl a]
def DY(b:i<l.length)(a:i≠j):(WV l i j).getD i 0=l.getD j 0:=by
 unfold WV;rw[jK a,AH b]
def RJ(a:j<l.length):(WV l i j).getD j 0=l.getD i 0:=by
 unfold WV;rw[AH (by simpa using a)]
def Cd{k:Nat}(a:k≠i)(b:k≠j):(WV l i j).getD k 0=l.getD k 0:=by
 unfold WV;rw[jK b,jK a]
structure TT(lt:Nat->Nat->Bool):Prop where
 trans:∀{a b c},lt b a=false->lt c b=false->lt c a=false
 asymm:∀{a b},lt a b=true->lt b a=false
 irrefl:∀a,lt a a=false
def fK(f:Bool)(ls:List L):TT (bI f ls):=⟨λb c=>pP b c,λh=>pO h,λa=>kX f _⟩
def Hp(lt:Nat->Nat->Bool)(l:List Nat):Prop:=∀j,0<j->j<l.length->lt (l.getD j 0) (l.getD ((j-1) / 2) 0)=false
structure RiseI(lt:Nat->Nat->Bool)(l:List Nat)(i:Nat):Prop where
 up:∀j,0<j->j<l.length->j≠i->lt (l.getD j 0) (l.getD ((j-1) / 2) 0)=false
 dn:0<i->∀j,0<j->j<l.length->(j-1) / 2=i->lt (l.getD j 0) (l.getD ((i-1) / 2) 0)=false
structure SinkI(lt:Nat->Nat->Bool)(l:List Nat)(i:Nat):Prop where
 up:∀j,0<j->j<l.length->(j-1) / 2≠i->lt (l.getD j 0) (l.getD ((j-1) / 2) 0)=false
 dn:0<i->∀j,0<j->j<l.length->(j-1) / 2=i->lt (l.getD j 0) (l.getD ((i-1) / 2) 0)=false
variable {lt:Nat->Nat->Bool}
def RiseI.top(h:RiseI lt l 0):Hp lt l:=λj a b=>h.up j a b (by omega)
def RiseI.done(h:RiseI lt l i)(hd:lt (l.getD i 0) (l.getD ((i-1) / 2) 0)=false):Hp lt l:=λj a b=>by
 by_cases e:j=i
 ·subst e;exact hd
 exact h.up j a b e
def RiseI.step(O:TT lt){l:List Nat}{i:Nat}(h:RiseI lt l i)(w:0<i)(q:i<l.length)(f:lt (l.getD i 0) (l.getD ((i-1) / 2) 0)=true):RiseI lt (WV l i ((i-1) / 2)) ((i-1) / 2):=by
 have x:(i-1) / 2<i:=by omega
 have d:(i-1) / 2<l.length:=by omega
 generalize k:(i-1) / 2=p at *;have a:i≠p:=by omega
 refine⟨λj e c r=>?_,λs j e c g=>?_⟩
 ·rw[yC]at c;by_cases b:j=i
  ·subst b;rw[DY q a,k,RJ d];exact O.asymm f
  rw[Cd b r];by_cases u:(j-1) / 2=i
  ·rw[u,DY q a];have:=h.dn w j e c u;rw[k]at this;exact this
  by_cases v:(j-1) / 2=p
  ·rw[v,RJ d];have:=h.up j e c b;rw[v]at this;exact O.trans (O.asymm f) this
  rw[Cd u v];exact h.up j e c b
 rw[yC]at c;have t:(p-1) / 2≠i:=by omega
 have m:(p-1) / 2≠p:=by omega
 rw[Cd t m];have n:=h.up p s d (Yl a);by_cases b:j=i
 ·subst b;rw[DY q a];exact n
 rw[Cd b (by omega)];have:=h.up j e c b;rw[g]at this;exact O.trans n this
def SinkI.done(h:SinkI lt l i)(hd:∀j,0<j->j<l.length->(j-1) / 2=i->lt (l.getD j 0) (l.getD i 0)=false):Hp lt l:=λj a b=>by
 by_cases e:(j-1) / 2=i
 ·rw[e];exact hd j a b e
 exact h.up j a b e
def SinkI.step(O:TT lt){l:List Nat}{i m:Nat}(h:SinkI lt l i)(q:0<m)(f:m<l.length)(c:(m-1) / 2=i)(hd:∀j,0<j->j<l.length->(j-1) / 2=i->lt (l.getD j 0) (l.getD m 0)=false)(p:lt (l.getD m 0) (l.getD i 0)=true):SinkI lt (WV l i m) m:=by
 have a:i<l.length:=by omega
 have b:i≠m:=by omega
 refine⟨λj e d r=>?_,λ_ j e d g=>?_⟩
 ·rw[yC]at d;by_cases s:j=m
  ·subst s;rw[RJ f,c,DY a b];exact O.asymm p
  by_cases n:(j-1) / 2=i
  ·rw[Cd (by omega) s,n,DY a b];exact hd j e d n
  rw[Cd (k:=(j-1) / 2) n r];by_cases t:j=i
  ·subst t;rw[DY a b];exact h.dn e m q f c
  rw[Cd t s];exact h.up j e d n
 rw[yC]at d;rw[c,DY a b,Cd (by omega) (by omega)];have:=h.up j e d (by omega);rw[g]at this;exact this
def Hp.root{lt:Nat->Nat->Bool}(O:TT lt){l:List Nat}(h:Hp lt l):∀(n j:Nat),j<=n->j<l.length->lt (l.getD j 0) (l.getD 0 0)=false
 |0,j,hj,hl=>by
  obtain rfl:j=0:=by omega
  exact O.irrefl _
 |n+1,j,hj,hl=>by
  by_cases a:j=0
  ·subst a;exact O.irrefl _
  exact O.trans (Hp.root O h n ((j-1) / 2) (by omega) (by omega)) (h j (by omega) hl)
def uA(l:List Nat)(x i:Nat)(h:i<l.length):(l++[x]).getD i 0=l.getD i 0:=by
 simp[Wc,XH h]
def Hp.push(h:Hp lt l)(x:Nat):RiseI lt (l++[x]) l.length:=by
 refine⟨λj b a d=>?_,λ_ j b a c=>?_⟩
 ·rw[xc,Xw]at a;rw[uA l x j (by omega),uA l x _ (by omega)];exact h j b (by omega)
 rw[xc,Xw]at a;omega
def BA(l:List Nat):List Nat:=(l.set 0 (l.getD (l.length-1) 0)).take (l.length-1)
def Fh(l:List Nat):(BA l).length=l.length-1:=by simp[BA]
def Fg(a:0<j)(h:j<l.length-1):(BA l).getD j 0=l.getD j 0:=by
 unfold BA;rw[Wc,xbN,xh h,<-Wc,jK (by omega)]
def Hp.pop(h:Hp lt l):SinkI lt (BA l) 0:=by
 refine⟨λj a b d=>?_,λc=>absurd c (by omega)⟩;rw[Fh]at b;rw[Fg a b,Fg (by omega) (by omega)];exact h j a (by omega)
def BB(h:0<l.length):l.Perm (l.getD 0 0::BA l):=by
 cases l with
 |nil=>simp at h
 |cons a t=>
  rcases List.eq_nil_or_concat t with rfl|⟨c,b,rfl⟩
  ·simp[BA]
  have d:(a::(c++[b])).length-1=c.length+1:=by simp
  have e:(a::(c++[b])).getD (c.length+1) 0=b:=by simp[Wc]
  have f:BA (a::(c++[b]))=b::c:=by
   unfold BA;rw[d,e];simp
  rw[List.concat_eq_append,f];simp only[xay];exact(List.perm_append_comm (l₁:=c) (l₂:=[b])).cons a
def gE(a:i<hs.length):(sb bs hs).getD i 0=bs.getD (hs.getD i 0) 0:=by
 simp[sb,Wc,a]
def Zi(b a:List Nat):(sb b a).length=a.length:=by simp[sb]
def Lh(a:i<hs.length)(b:j<hs.length):WV (sb bs hs) i j=sb bs (WV hs i j):=by
 unfold WV;rw[gE a,gE b];simp[sb,Yu]
def LotsOK(w:World)(bs:List Nat)(ls:List L):Prop:=∀i,i<ls.length->∃pv,w.heap[bs.getD i 0]?=some (.cells (zm (ls.getD i L0) pv) 231 (0,0))
variable {v:Value}{w w':World}
def PV.lots{S:Nat}{M:Mx}{td:Nat}{a:List Value}(h:PV os rj w S M v td bs a ls):LotsOK w bs ls:=λi b=>⟨_,h.lot i b⟩
def LotsOK.kp(h:LotsOK w bs ls){Z:Nat->Prop}(c:Kp Z w w')(d:∀i,i<ls.length->¬Z (bs.getD i 0)):LotsOK w' bs ls:=λi a=>by
 obtain⟨pv,b⟩:=h i a;exact⟨pv,(c.block _ (zc b) (d i a)).trans b⟩
def LotsOK.below(h:LotsOK w bs ls)(c:Below w.heap.size w w'):LotsOK w' bs ls:=λi b=>by
 obtain⟨pv,a⟩:=h i b;exact⟨pv,(c.block _ (zc a)).trans a⟩
def vS{B:Nat}{Z:Nat->Prop}{a b c:World}(h:Below B a b)(e:B<=b.heap.size)(k:Kp Z b c)(f:∀i,Z i->B<=i):Below B a c :=
 h.trans ⟨k.os,k.tape,k.output,k.size,λi d=>k.block i (xl d e) (λq=>absurd (f i q) (by omega))⟩
def zk(bs:List Nat):List (Nat×Nat)->List Value
 |p::r=>.pointer (some ⟨bs.getD p.1 0,0,none⟩)::.int .i64 p.2::zk bs r
 |[]=>[]
def aH(a:List Nat)(p:Nat×Nat):∀l,zk a (l++[p])=zk a l++[.pointer (some ⟨a.getD p.1 0,0,none⟩),.int .i64 p.2]
 |[]=>rfl
 |q::r=>by simp only[XS,zk,aH a p r]
variable {xs:List Value}
def aK(h:w.ownsRow base e size v n xs):w.ownsRow 0 e size v n xs:=by
 refine⟨h.1,?_⟩;rcases h.2 with b|⟨g,cap,a,b,d,c⟩
 ·exact Or.inl b
 exact Or.inr ⟨g,cap,a,b,Nat.zero_le _,c⟩
def zj(h:w.ownsRow base e size v n xs):∃a cap,v=.slice a n cap:=by
 rcases h.2 with ⟨b,d⟩|⟨g,cap,c,b,_⟩
 ·exact⟨none,0,by rw[b,d]⟩
 exact⟨_,cap,b⟩
def zL(h:w.ownsRow base e size v n xs)(f:0<n):∃g cap,v=.slice (some ⟨g,0,none⟩) n cap/\base<=g/\g<w.heap.size:=by
 rcases h.2 with ⟨a,i⟩|⟨g,cap,b,a,c,d,_⟩
 ·omega
 exact⟨g,cap,a,c,(xan.1 d).1⟩
def wU:(prog.info? 241).map (λi=>(i.zero,i.size,i.bytes))=some (some (.agg #[.pointer none,.int .i64 0]),2,16):=by kernel_rfl
def yF:prog.underlying 197=some (.slice 241):=by kernel_rfl
def Mq(d f:Nat)(li a:L)(pi n:Value)(w:World)(k:w.heap[d]?=some (.cells (zm li pi) 231 (0,0)))(l:w.heap[f]?=some (.cells (zm a n) 231 (0,0)))(i:L.Ok li)(j:L.Ok a)(x:Ex):Calls prog 294 #[.agg #[],.pointer (some ⟨d,0,none⟩),.pointer (some ⟨f,0,none⟩)] (ext w x) λe w'=>e=.returned (.bool (VJ true li a))/\∃t,w'=ext w t:=by
 have g:=zc k;have h:=zc l;have b:((ext w x).alloc (.cells #[] 267)).heap[d]?=some (.cells (zm li pi) 231 (0,0)):=((VE _ _).block d (xl g (zp w x).size)).trans (((zp w x).block d g).trans k);have c:((ext w x).alloc (.cells #[] 267)).heap[f]?=some (.cells (zm a n) 231 (0,0)):=((VE _ _).block f (xl h (zp w x).size)).trans (((zp w x).block f h).trans l);have u:((ext w x).alloc (.cells #[] 267)).cell? ⟨d,3,none⟩=some (.int .i64 li.place):=by rw[za b];rfl
 have v:((ext w x).alloc (.cells #[] 267)).cell? ⟨f,3,none⟩=some (.int .i64 a.place):=by rw[za c];rfl
 have p:((ext w x).alloc (.cells #[] 267)).cell? ⟨d,2,none⟩=some (.int .i64 li.ex):=by rw[za b];rfl
 have q:((ext w x).alloc (.cells #[] 267)).cell? ⟨f,2,none⟩=some (.int .i64 a.ex):=by rw[za c];rfl
 have r:((ext w x).alloc (.cells #[] 267)).cell? ⟨d,0,none⟩=some (.int .i64 li.id):=by rw[za b];rfl
 have s:((ext w x).alloc (.cells #[] 267)).cell? ⟨f,0,none⟩=some (.int .i64 a.id):=by rw[za c];rfl
 have y:=i.place;have z:=j.place;have A:=i.ex;have B:=j.ex;have C:=i.id;have D:=j.id;have m:Ha (VJ true li a=decide (li.place<a.place)):=by unfold Ha VJ;rfl
 generalize VJ true li a=bb at m ⊢;generalize li.place=a1 at *;generalize a.place=a2 at *;clear k l b c i j p q r s;go_enter func294,ntmps294;go_wp2_with fail;go_quiet (fail);go_wp2_with fail;go_ret;exact⟨by rw[m.o];rfl,_,by rw[ZE,pU]⟩
def Mr(d f:Nat)(li a:L)(pi s:Value)(w:World)(m:w.heap[d]?=some (.cells (zm li pi) 231 (0,0)))(n:w.heap[f]?=some (.cells (zm a s) 231 (0,0)))(k:L.Ok li)(l:L.Ok a)(x:Ex):Calls prog 295 #[.agg #[],.pointer (some ⟨d,0,none⟩),.pointer (some ⟨f,0,none⟩)] (ext w x) λe w'=>e=.returned (.bool (VJ false li a))/\∃t,w'=ext w t:=by
 have i:=zc m;have j:=zc n;have b:((ext w x).alloc (.cells #[] 268)).heap[d]?=some (.cells (zm li pi) 231 (0,0)):=((VE _ _).block d (xl i (zp w x).size)).trans (((zp w x).block d i).trans m);have c:((ext w x).alloc (.cells #[] 268)).heap[f]?=some (.cells (zm a s) 231 (0,0)):=((VE _ _).block f (xl j (zp w x).size)).trans (((zp w x).block f j).trans n);have q:((ext w x).alloc (.cells #[] 268)).cell? ⟨d,3,none⟩=some (.int .i64 li.place):=by rw[za b];rfl
 have r:((ext w x).alloc (.cells #[] 268)).cell? ⟨f,3,none⟩=some (.int .i64 a.place):=by rw[za c];rfl
 have u:((ext w x).alloc (.cells #[] 268)).cell? ⟨d,2,none⟩=some (.int .i64 li.ex):=by rw[za b];rfl
 have v:((ext w x).alloc (.cells #[] 268)).cell? ⟨f,2,none⟩=some (.int .i64 a.ex):=by rw[za c];rfl
 have y:((ext w x).alloc (.cells #[] 268)).cell? ⟨d,0,none⟩=some (.int .i64 li.id):=by rw[za b];rfl
 have z:((ext w x).alloc (.cells #[] 268)).cell? ⟨f,0,none⟩=some (.int .i64 a.id):=by rw[za c];rfl
 have A:=k.place;have B:=l.place;have C:=k.ex;have D:=l.ex;have E:=k.id;have F:=l.id;by_cases h:li.ex=a.ex
 ·have g:Ha (VJ false li a=decide (li.id<a.id)):=by unfold Ha VJ;simp[h]
  have p:((li.ex:Int) != (a.ex:Int))=false:=by rw[h];simp
  generalize VJ false li a=bb at g ⊢;generalize li.id=a1 at *;generalize a.id=a2 at *;generalize li.ex=a3 at *;generalize a.ex=a4 at *;clear m n b c k l q r h;go_enter func295,ntmps295;go_wp2_with fail;go_quiet (fail);go_wp2_with fail;go_quiet (fail);go_wp2_with fail;go_ret;exact⟨by rw[g.o];rfl,_,by simp only[ZE,pU];rfl⟩
 have g:Ha (VJ false li a=decide (li.ex<a.ex)):=by unfold Ha VJ;simp[h]
 have p:((li.ex:Int) != (a.ex:Int))=true:=by simp;omega
 generalize VJ false li a=bb at g ⊢;generalize li.id=a1 at *;generalize a.id=a2 at *;generalize li.ex=a3 at *;generalize a.ex=a4 at *;clear m n b c k l q r h;go_enter func295,ntmps295;go_wp2_with fail;go_quiet (fail);go_wp2_with fail;go_quiet (fail);go_wp2_with fail;go_ret;exact⟨by rw[g.o];rfl,_,by simp only[ZE,pU];rfl⟩
def Ms(z t:Bool)(j:t=z)(b c:Nat)(li a:L)(pi d:Value)(w:World)(f:w.heap[b]?=some (.cells (zm li pi) 231 (0,0)))(g:w.heap[c]?=some (.cells (zm a d) 231 (0,0)))(h:L.Ok li)(i:L.Ok a)(x:Ex):Calls prog (cond z 294 295) #[.agg #[],.pointer (some ⟨b,0,none⟩),.pointer (some ⟨c,0,none⟩)] (ext w x) λe w'=>e=.returned (.bool (VJ t li a))/\∃k,w'=ext w k:=by
 subst j
 cases t
 ·exact Mr b c li a pi d w f g h i x
 exact Mq b c li a pi d w f g h i x
def Th(v : Value)(w : World): (method 459 267 v "Before").run prog w = .ok (294, v) w := by kernel_rfl
def Ti(v : Value)(w : World): (method 459 268 v "Before").run prog w = .ok (295, v) w := by kernel_rfl
structure HVz(t:Bool)(w:World)(Q:Nat)(v:Value)(xs:List Nat):Prop where
 cell:w.heap[Q]?=some (.cells #[v] (cond t 285 289) (0,0))
 row:w.ownsRow 0 191 1 v xs.length (aV xs)
def HVz.shape{xs:List Nat}(h:HVz t w Q v xs):∃a cap,v=.slice a xs.length cap/\(0<xs.length->∃G,a=some ⟨G,0,none⟩/\G<w.heap.size/\∀i,i<xs.length->w.cell? ⟨G,i,none⟩=some (.pointer (some ⟨xs.getD i 0,0,none⟩))):=by
 obtain⟨a,cap,d⟩:=zK h.row;refine⟨a,cap,d,λk=>?_⟩;obtain⟨g,e,b,_,c⟩:=zG h.row k;rw[d]at b
 cases b;refine⟨g,rfl,c,λi j=>?_⟩
 have f:=h.row;rw[d]at f;rw[f.cellAt i (by omega)];simp[aV,Wc,j]
def Ni:prog.cellsOf 285=1:=by kernel_rfl
def Nj:prog.cellsOf 289=1:=by kernel_rfl
def Qx:byteOfCell prog prog.depth 285 0=some 0:=by kernel_rfl
def Qy:byteOfCell prog prog.depth 289 0=some 0:=by kernel_rfl
def MD(h:w.heap[Q]?=some (.cells #[v] 285 (0,0))):(byteOf ⟨Q,0,none⟩).run prog w=.ok 0 w:=by
 have a:w.shape? Q=some (285,1):=by unfold World.shape?;rw[h];rfl
 simp[byteOf,noView,viewAt,shape,program,Sem.run,a,Ni,Qx]
def ME(h:w.heap[Q]?=some (.cells #[v] 289 (0,0))):(byteOf ⟨Q,0,none⟩).run prog w=.ok 0 w:=by
 have a:w.shape? Q=some (289,1):=by unfold World.shape?;rw[h];rfl
 simp[byteOf,noView,viewAt,shape,program,Sem.run,a,Nj,Qy]
def Re(h:w.heap[Q]?=some (.cells #[v] 285 (0,0))):(partAt ⟨Q,0,none⟩ 0 0).run prog w=.ok ⟨Q,0,none⟩ w:=by
 simp[partAt,MD h]
def Rf(h:w.heap[Q]?=some (.cells #[v] 289 (0,0))):(partAt ⟨Q,0,none⟩ 0 0).run prog w=.ok ⟨Q,0,none⟩ w:=by
 simp[partAt,ME h]
def Rh(h:w.heap[Q]?=some (.cells #[v] (cond t 285 289) (0,0))):(partAt ⟨Q,0,none⟩ 0 0).run prog w=.ok ⟨Q,0,none⟩ w:=by
 cases t
 ·exact Rf h
 exact Re h
def Em(z t:Bool)(y:t=z){w:World}{Q:Nat}{v:Value}{xs:List Nat}(h:HVz t w Q v xs)(i j:Nat)(H:i<xs.length)(J:j<xs.length)(S:xs.length<=30)(li k:L)(pi D:Value)(r:w.heap[xs.getD i 0]?=some (.cells (zm li pi) 231 (0,0)))(s:w.heap[xs.getD j 0]?=some (.cells (zm k D) 231 (0,0)))(B:L.Ok li)(C:L.Ok k):Calls prog (cond z 256 258) #[.pointer (some ⟨Q,0,none⟩),.int .i64 i,.int .i64 j] w λe w'=>e=.returned (.bool (VJ t li k))/\Below w.heap.size w w':=by
 have m:=zb y;clear y
 cases z
 all_goals
  simp only[Yv,Ye];obtain⟨a,cap,A,f⟩:=h.shape;obtain⟨G,F,c,b⟩:=f (by omega);subst F;have d:=zc h.cell;have c0:w.cell? ⟨Q,0,none⟩=some v:=by rw[za h.cell];rfl
  rw[A]at c0;have E:=b i H;have gj:=b j J;have l:=λx=>zb (Ms _ t m (xs.getD i 0) (xs.getD j 0) li k pi D w r s B C x)
  simp only[Yv,Ye]at l;have K:=Th;have u:=Ti;generalize xs.getD i 0=bi at *;generalize xs.getD j 0=bj at *;generalize VJ t li k=bb at *;generalize xs.length=n at *;have R:∀x,(partAt ⟨Q,0,none⟩ 0 0).run prog (ext w x)=.ok ⟨Q,0,none⟩ (ext w x):=λx=>Rh (((zp w x).block Q d).trans h.cell)
  have M:∀x,(ext w x).cell? ⟨Q,0,none⟩=some (.slice (some ⟨G,0,none⟩) n cap):=λx=>((zp w x).cell (by exact d)).trans c0
  have N:∀x,(ext w x).cell? ⟨G,i,none⟩=some (.pointer (some ⟨bi,0,none⟩)):=λx=>((zp w x).cell (by exact c)).trans E
  have P:∀x,(ext w x).cell? ⟨G,j,none⟩=some (.pointer (some ⟨bj,0,none⟩)):=λx=>((zp w x).cell (by exact c)).trans gj
  clear A b h r s B C f
  first
  |go_enter func256,ntmps256
  |go_enter func258,ntmps258
  go_wp2_with fail;haveI hinh:Inhabited Ex:=⟨⟨0,#[]⟩⟩
  refine Z8 (by kernel_rfl) (by kernel_rfl) ?_
  repeat (go_big_quiet_step (exact(l _)))
  refine yi ?_
  intro _ q;obtain⟨x,g⟩:=q;subst g;have p:=zp w x;generalize ext w x=wx at *;clear M N P R l;go_wp2_with fail;go_ret;exact⟨rfl,p⟩
def LF(z t:Bool)(D:t=z){w:World}{Q:Nat}{v:Value}{xs:List Nat}(h:HVz t w Q v xs)(i j:Nat)(B:i<xs.length)(C:j<xs.length)(M:i≠j)(P:xs.length<=30):Calls prog (cond z 257 259) #[.pointer (some ⟨Q,0,none⟩),.int .i64 i,.int .i64 j] w λe w'=>e=.returned (.tuple #[])/\HVz t w' Q v (WV xs i j)/\w'.heap.size=w.heap.size/\Kp (λk=>v.ownBlock=some k) w w':=by
 have J:=zb D;clear D
 cases z
 all_goals
  simp only[Yv,Ye];obtain⟨a,cap,u,d⟩:=h.shape;obtain⟨G,K,x,b⟩:=d (by omega);subst K;have y:=zc h.cell;have c0:w.cell? ⟨Q,0,none⟩=some v:=by rw[za h.cell];rfl
  have f:=h.row;rw[u]at c0 f;obtain⟨T,c⟩:=zh f rfl;have W:=ze c i;have X:=ze c j;have g:¬Q=G:=zt h.cell c (by cases t<;>decide);have Z:=b i B;have gj:=b j C;have F:=zb h;have s:=zb u;generalize l:xs.getD i 0=bi at *;generalize m:xs.getD j 0=bj at *;have q:=zb l;have r:=zb m;obtain⟨n,H⟩:=Ww xs.length;rw[<-H.o]at c0 B C P;clear u b h d f c l m
  first
  |go_enter func257,ntmps257
  |go_enter func259,ntmps259
  go_wp2_with fail;go_region
  go_wp2_with fail;go_end0
  have h:=F.o;have f:=h.row;rw[s.o]at f;have S:=(f.stored i (.pointer (some ⟨bj,0,none⟩))).1;have E:=(S.stored j (.pointer (some ⟨bi,0,none⟩))).1;have R:((aV xs).set i (.pointer (some ⟨bj,0,none⟩))).set j (.pointer (some ⟨bi,0,none⟩))=aV (WV xs i j):=by
   rw[<-q.o,<-r.o];simp[aV,WV,Yu]
  refine⟨rfl,⟨?_,?_⟩,by simp[World.drew,World.setCell],?_⟩
  ·show((w.setCell ⟨G,i,none⟩ _).setCell ⟨G,j,none⟩ _).heap[Q]?=_;rw[xd _ _ _ _ g,xd _ _ _ _ g];exact h.cell
  ·rw[R]at E;have N:(WV xs i j).length=xs.length:=by simp[WV]
   rw[N,s.o];exact E
  have A:v.ownBlock=some G:=by rw[s.o];rfl
  exact(((Kp.refl _ w).setCell (p:=⟨G,i,none⟩) (Or.inl A) _).setCell (p:=⟨G,j,none⟩) (Or.inl A) _).after ((xm _ _).drew)
def HVz.below{xs:List Nat}(h:HVz t w Q v xs)(a:Below w.heap.size w w'):HVz t w' Q v xs :=
 ⟨(a.block Q (zc h.cell)).trans h.cell,zg h.row a⟩
def HVz.lotne{xs:List Nat}(h:HVz t w Q v xs){a:List Nat}{ls:List L}(d:LotsOK w a ls)(i:Nat)(c:i<ls.length):¬v.ownBlock=some (a.getD i 0):=λe=>by
 obtain⟨g,b⟩:=zh h.row e;obtain⟨pv,f⟩:=d i c;exact zt f b (by cases t<;>decide) rfl
def Tu(z t:Bool)(ht:t=z){w:World}{Q:Nat}{v:Value}{D y:List Nat}{ls:List L}(h:HVz t w Q v (sb D y))(N:LotsOK w D ls)(K:∀l∈ls,L.Ok l)(G:∀c∈y,c<ls.length)(i:Nat)(Z:i<y.length)(hn:y.length<=30)(P:RiseI (bI t ls) y i):Calls prog (cond z 238 240) #[.pointer (some ⟨Q,0,none⟩),.int .i64 i] w λe w'=>e=.returned (.tuple #[])/\Kp (λk=>v.ownBlock=some k) w w'/\∃hs',hs'.Perm y/\Hp (bI t ls) hs'/\HVz t w' Q v (sb D hs'):=by
 have F:=zb ht;clear ht
 cases z
 all_goals
  simp only[Yv,Ye]
  first
  |go_enter func238,ntmps238
  |go_enter func240,ntmps240
  go_wp2_with fail;go_loopw [1,4] (λii _ wr=>∃(k:Nat) (hs':List Nat),ii=.int .i64 k/\k<y.length/\hs'.Perm y/\RiseI (bI t ls) hs' k/\HVz t wr Q v (sb D hs')/\LotsOK wr D ls/\Kp (λk=>v.ownBlock=some k) w wr) (λii _ _=>(intOf ii).toNat)
  case atStart=>exact⟨i,y,rfl,Z,YP _,P,h,N,Kp.refl _ _⟩
  obtain⟨k,hs',rfl,hk,x,j,a,b,g⟩:=hrel;have a4:=x.length_eq;by_cases a0:k=0
  ·subst a0;have E:=zb j.top;have B:=zb a;have m:=zb g;have n:=zb x;clear h N j a b g x P;go_wp2_with fail;go_end0;exact⟨rfl,m,hs',n,E,B⟩
  have q:(k-1) / 2<hs'.length:=by omega
  have f:k<hs'.length:=by omega
  have s:hs'.getD k 0<ls.length:=G _ (x.mem_iff.1 (zH f));have u:hs'.getD ((k-1) / 2) 0<ls.length:=G _ (x.mem_iff.1 (zH q));obtain⟨a2,R⟩:=b _ s;obtain⟨a3,S⟩:=b _ u;rw[<-gE f]at R;rw[<-gE q]at S;have C:=zb (Em _ t F a k ((k-1) / 2) (by rw[Zi];exact f) (by rw[Zi];exact q) (by rw[Zi];omega) _ _ a2 a3 R S (K _ (zf s)) (K _ (zf u)));simp only[Yv,Ye]at C;have X:Ha ((((k-1) / 2:Nat):Int)=((k:Int)-1) / 2):=by unfold Ha;omega
  have A:=λ(w1:World) (hb:Below wr.heap.size wr w1)=>zb (LF _ t F (a.below hb) k ((k-1) / 2) (by rw[Zi];exact f) (by rw[Zi];exact q) (by omega) (by rw[Zi];omega))
  simp only[Yv,Ye]at A;rw[X.o]at C
  cases d:VJ t (ls.getD (hs'.getD k 0) L0) (ls.getD (hs'.getD ((k-1) / 2) 0) L0) with
  |false=>
   rw[d]at C;have E:=zb (j.done d);have B:=zb a;have m:=zb g;have n:=zb x;clear R S h N A j a b g x P d s u;go_wp2_with ((first|go_at_call 256|go_at_call 258);with_reducible refine(C.o).mono ?_;rintro e w1 ⟨rfl,p⟩);go_returns;exact⟨rfl,m.after p,hs',n,E,B.below p⟩
  |true=>
   rw[d]at C;have E:=zb (j.step (fK _ ls) (by omega) f d);have J:∀i,i<ls.length->¬v.ownBlock=some (D.getD i 0):=λi Z=>a.lotne b i Z
   have W:=zb J;have T:=zb b;have m:=zb g;have n:=zb x;have r:Ha (k<hs'.length/\(k-1) / 2<hs'.length):=⟨f,q⟩
   clear R S h N j a b g x P d s u J;go_wp2_with ((first|go_at_call 256|go_at_call 258);with_reducible refine(C.o).mono ?_;rintro e w1 ⟨rfl,p⟩);have HS:=A w1 p;rw[X.o]at HS;clear A
   with_reducible refine(HS.o).mono ?_
   rintro e w2 ⟨rfl,M,_,a1⟩;go_wp2_with fail;go_roundw
   case rel=>
    rw[Lh r.o.1 r.o.2]at M;have H:Kp (λk=>v.ownBlock=some k) wr w2:=Kp.before p (a1.mono (λk h=>Or.inl h));exact⟨(k-1) / 2,WV hs' k ((k-1) / 2),by rw[X.o],by omega,(yD r.1 r.2).trans n,E,M,T.kp H W,m.trans (H.mono (λk h=>Or.inl h))⟩
   simp[intOf];omega
structure Fst_z(t:Bool)(ls:List L)(hs:List Nat)(i b m:Nat):Prop where
 at':m=i\/(2*i+1<=m/\m<b/\m<hs.length/\bI t ls (hs.getD m 0) (hs.getD i 0)=true)
 min:∀j,2*i+1<=j->j<b->j<hs.length->bI t ls (hs.getD j 0) (hs.getD m 0)=false
def Fst_z.yes{b m:Nat}(h:Fst_z t ls hs i b m)(k:b<hs.length)(a:2*i+1<=b)(c:bI t ls (hs.getD b 0) (hs.getD m 0)=true):Fst_z t ls hs i (b+1) b:=by
 have O:=fK t ls;refine⟨Or.inr ⟨a,by omega,k,?_⟩,λj e p f=>?_⟩
 ·rcases h.at' with rfl|⟨_,_,_,g⟩
  ·exact c
  cases l:bI t ls (hs.getD b 0) (hs.getD i 0) with
  |true=>rfl
  |false=>
   have d:=O.trans (O.asymm g) l;rw[c]at d;cases d
 by_cases n:j=b
 ·subst n;exact O.irrefl _
 exact O.trans (O.asymm c) (h.min j e (by omega) f)
def Fst_z.no{b m:Nat}(h:Fst_z t ls hs i b m)(e:bI t ls (hs.getD b 0) (hs.getD m 0)=false):Fst_z t ls hs i (b+1) m:=by
 refine⟨?_,λj a n c=>?_⟩
 ·rcases h.at' with d|⟨g,p,k,l⟩
  ·exact Or.inl d
  exact Or.inr ⟨g,by omega,k,l⟩
 by_cases f:j=b
 ·subst f;exact e
 exact h.min j a (by omega) c
def Tx(z t:Bool)(ht:t=z){w:World}{Q:Nat}{v:Value}{W M:List Nat}{ls:List L}(h:HVz t w Q v (sb W M))(hl:LotsOK w W ls)(a4:∀l∈ls,L.Ok l)(a1:∀c∈M,c<ls.length)(hn:M.length<=30)(hr:SinkI (bI t ls) M 0):Calls prog (cond z 239 241) #[.pointer (some ⟨Q,0,none⟩),.int .i64 0] w λe w'=>e=.returned (.tuple #[])/\Kp (λk=>v.ownBlock=some k) w w'/\∃hs',hs'.Perm M/\Hp (bI t ls) hs'/\HVz t w' Q v (sb W hs'):=by
 have T:=zb ht;clear ht
 cases z
 all_goals
  simp only[Yv,Ye]
  first
  |go_enter func239,ntmps239
  |go_enter func241,ntmps241
  go_wp2_with fail;go_loopw [1,4,5] (λii _ _ wr=>∃(k:Nat) (hs':List Nat),ii=.int .i64 k/\(k<M.length\/k=0)/\hs'.Perm M/\SinkI (bI t ls) hs' k/\HVz t wr Q v (sb W hs')/\LotsOK wr W ls/\Kp (λk=>v.ownBlock=some k) w wr) (λii _ _ _=>M.length-(intOf ii).toNat)
  case atStart=>exact⟨0,M,rfl,Or.inr rfl,YP _,hr,h,hl,Kp.refl _ _⟩
  obtain⟨k,hs',rfl,hk,hp,a5,a7,a3,a2⟩:=hrel;have b4:=hp.length_eq;have b3:k<=30:=by omega
  have G:=zb a5;have F:=zb a2;have B:=zb hp;clear h hl hr a5 a2 hp;rename World=>wo
  go_wp2_with fail;go_loopw [4,5] (λmm bb w2=>∃(m b:Nat),mm=.int .i64 m/\bb=.int .i64 b/\2*k+1<=b/\b<=2*k+3/\m<=100/\Fst_z t ls hs' k b m/\HVz t w2 Q v (sb W hs')/\LotsOK w2 W ls/\Below wo.heap.size wo w2) (λ_ bb _=>2*k+3-(intOf bb).toNat)
  case atStart=>exact⟨k,2*k+1,rfl,by go_num,by omega,by omega,by omega,⟨Or.inl rfl,λj h1 N _=>by omega⟩,a7,a3,xm _ _⟩
  clear a7 a3;obtain⟨m,b,rfl,rfl,a8,b6,a9,D,f,p,s⟩:=hrel;obtain⟨a,cap,a0,a6⟩:=f.shape;have c0:wr.cell? ⟨Q,0,none⟩=some v:=by rw[za f.cell];rfl
  rw[a0,Zi]at c0;have b5:=zb a0;clear a0 a6;by_cases b7:b<=2*k+2
  ·by_cases H:b<hs'.length
   ·have d:m<hs'.length:=by
     rcases D.at' with h|⟨_,_,h,_⟩
     ·omega
     exact h
    have J:hs'.getD b 0<ls.length:=a1 _ (B.mem_iff.1 (zH H));have K:hs'.getD m 0<ls.length:=a1 _ (B.mem_iff.1 (zH d));obtain⟨b1,q1⟩:=p _ J;obtain⟨b2,q2⟩:=p _ K;rw[<-gE H]at q1;rw[<-gE d]at q2;have HB:=zb (Em _ t T f b m (by rw[Zi];exact H) (by rw[Zi];exact d) (by rw[Zi];omega) _ _ b1 b2 q1 q2 (a4 _ (zf J)) (a4 _ (zf K)));simp only[Yv,Ye]at HB;have C:=zb f;have A:=zb p
    cases r:VJ t (ls.getD (hs'.getD b 0) L0) (ls.getD (hs'.getD m 0) L0) with
    |true=>
     rw[r]at HB;have HF:=zb (D.yes H a8 r);clear q1 q2 f p D J K r;generalize hs'.length=n at *;go_wp2_with ((first|go_at_call 256|go_at_call 258);with_reducible refine(HB.o).mono ?_;rintro e w1 ⟨rfl,x⟩);go_roundw
     case rel=>exact⟨b,b+1,rfl,by go_num,by omega,by omega,by omega,HF,C.below x,A.below x,s.trans (x.mono s.size)⟩
     simp[intOf];omega
    |false=>
     rw[r]at HB;have HF:=zb (D.no r);clear q1 q2 f p D J K r;generalize hs'.length=n at *;go_wp2_with ((first|go_at_call 256|go_at_call 258);with_reducible refine(HB.o).mono ?_;rintro e w1 ⟨rfl,x⟩);go_roundw
     case rel=>exact⟨m,b+1,rfl,by go_num,by omega,by omega,by omega,HF,C.below x,A.below x,s.trans (x.mono s.size)⟩
     simp[intOf];omega
   have g:∀j,0<j->j<hs'.length->(j-1) / 2=k->bI t ls (hs'.getD j 0) (hs'.getD m 0)=false:=λj h1 N h3=>D.min j (by omega) (by omega) N
   by_cases q:m=k
   ·have X:=aR q;have P:Ha (Hp (bI t ls) hs'):=G.done (by rw[<-q];exact λj h1 N h3=>g j h1 N (by omega));have C:=zb f;clear D g p f q;generalize hs'.length=n at *;go_wp2_with fail;go_returns;exact⟨rfl,F.after s,hs',B,P,C⟩
   have X:=ZT q;have d:2*k+1<=m/\m<b/\m<hs'.length/\bI t ls (hs'.getD m 0) (hs'.getD k 0)=true:=D.at'.resolve_left q;have y:k<hs'.length:=by omega
   have P:=zb (G.step (fK _ ls) (m:=m) (by omega) d.2.2.1 (by omega) g d.2.2.2);have u:=zb (LF _ t T f k m (by rw[Zi];omega) (by rw[Zi];exact d.2.2.1) (by omega) (by rw[Zi];omega));simp only[Yv,Ye]at u;rw[Lh y d.2.2.1]at u;have R:=zb (λi hi=>f.lotne p i hi);have A:=zb p;have S:=zb ((yD y d.2.2.1).trans B);have b0:k<m/\m<hs'.length:=⟨by omega,d.2.2.1⟩
   clear D g p f q d y;go_wp2_with ((first|go_at_call 257|go_at_call 259);with_reducible refine(u.o).mono ?_;rintro e w2 ⟨rfl,Z,_,E⟩);go_roundw
   case rel=>exact⟨m,WV hs' k m,rfl,Or.inl (by omega),S,P,Z,A.kp E R,(F.after s).trans (E.mono (λk h=>Or.inl h))⟩
   simp[intOf];omega
  have g:∀j,0<j->j<hs'.length->(j-1) / 2=k->bI t ls (hs'.getD j 0) (hs'.getD m 0)=false:=λj h1 N h3=>D.min j (by omega) (by omega) N
  by_cases q:m=k
  ·have X:=aR q;have P:Ha (Hp (bI t ls) hs'):=G.done (by rw[<-q];exact λj h1 N h3=>g j h1 N (by omega));have C:=zb f;clear D g p f q;generalize hs'.length=n at *;go_wp2_with fail;go_returns;exact⟨rfl,F.after s,hs',B,P,C⟩
  have X:=ZT q;have d:2*k+1<=m/\m<b/\m<hs'.length/\bI t ls (hs'.getD m 0) (hs'.getD k 0)=true:=D.at'.resolve_left q;have y:k<hs'.length:=by omega
  have P:=zb (G.step (fK _ ls) (m:=m) (by omega) d.2.2.1 (by omega) g d.2.2.2);have u:=zb (LF _ t T f k m (by rw[Zi];omega) (by rw[Zi];exact d.2.2.1) (by omega) (by rw[Zi];omega));simp only[Yv,Ye]at u;rw[Lh y d.2.2.1]at u;have R:=zb (λi hi=>f.lotne p i hi);have A:=zb p;have S:=zb ((yD y d.2.2.1).trans B);have b0:k<m/\m<hs'.length:=⟨by omega,d.2.2.1⟩
  clear D g p f q d y;go_wp2_with ((first|go_at_call 257|go_at_call 259);with_reducible refine(u.o).mono ?_;rintro e w2 ⟨rfl,Z,_,E⟩);go_roundw
  case rel=>exact⟨m,WV hs' k m,rfl,Or.inl (by omega),S,P,Z,A.kp E R,(F.after s).trans (E.mono (λk h=>Or.inl h))⟩
  simp[intOf];omega
def Tr(z t:Bool)(ht:t=z){w:World}{Q:Nat}{v:Value}{r j:List Nat}{ls:List L}(h:HVz t w Q v (sb r j))(hl:LotsOK w r ls)(N:∀l∈ls,L.Ok l)(K:∀c∈j,c<ls.length)(hn:j.length<30)(hr:Hp (bI t ls) j)(c:Nat)(hc:c<ls.length):Calls prog (cond z 198 200) #[.pointer (some ⟨Q,0,none⟩),.pointer (some ⟨r.getD c 0,0,none⟩)] w λe w'=>e=.returned (.tuple #[])/\Kp (λk=>k=Q\/v.ownBlock=some k) w w'/\∃v' hs',hs'.Perm (j++[c])/\Hp (bI t ls) hs'/\HVz t w' Q v' (sb r hs')/\(∀g,v'.ownBlock=some g->v.ownBlock=some g\/w.heap.size<=g):=by
 have a1:=zb ht;clear ht
 cases z
 all_goals
  simp only[Yv,Ye];obtain⟨i0,G,a8,a9,b0⟩:=XT CW;obtain⟨a,cap,W,_⟩:=h.shape;have hQ:=zc h.cell;have c1:w.cell? ⟨Q,0,none⟩=some v:=by rw[za h.cell];rfl
  have f1:=ze h.cell 0;have f:=h.row;rw[Zi]at f;rw[W,Zi]at c1;rw[W,Zi]at f;have HP:=zb h;have HV:=zb W;have HL:=zb hl;have a0:=zb (λi G=>h.lotne hl i G);obtain⟨n,T⟩:=Ww j.length;rw[<-T.o]at c1 f hn;generalize J:r.getD c 0=bc at *;have Z:=zb J;clear h W hl J
  first
  |go_enter func198,ntmps198
  |go_enter func200,ntmps200
  go_wp2_with (at_builtin;refine wpList_append_own_at _ rfl _ _ 115 rfl 0 191 i0 (.pointer none) 1 8 Uy G a8 a9 b0 rfl (by decide) _ n (aV (sb r j)) rfl ?ho ⟨w.heap.size,0,none⟩ 1 1 [.pointer (some ⟨bc,0,none⟩)] rfl rfl ?c1 ?c2 ?c3 ?c4 ?c5 ?_)
  case ho=>exact f.alloc _
  case c1=>exact Zy _ _ _
  case c2=>intro u hu;simp at hu;subst hu;rfl
  case c3=>unfold maxLen;omega
  case c4=>omega
  case c5=>exact Nat.zero_le _
  intro v' w2 d p a5 H;have h:=HP.o;have F:v.ownBlock=(Value.slice a n cap).ownBlock:=by rw[HV.o,Zi,<-T.o]
  have b:(w.alloc (.cells #[.pointer (some ⟨bc,0,none⟩)] 191)).grownBy w2 v.ownBlock:=by rw[F];exact p
  have R:v.ownBlock≠some Q:=λe=>by
   obtain⟨cs,C⟩:=zh h.row e;exact zt h.cell C (by cases t<;>decide) rfl
  have old:∀k,k<w.heap.size->v.ownBlock≠some k->w2.heap[k]?=w.heap[k]?:=λk D a4=>(b.block k (by simp;omega) (λe=>a4 e.symm)).trans (yl _ _ _ D)
  have m:w2.heap[Q]?=some (.cells #[v] (cond t 285 289) (0,0)):=(old Q hQ R).trans h.cell;have b2:w2.cell? ⟨Q,0,none⟩=some v:=by rw[za m];rfl
  have b3:=ze m 0;have P:(j++[c]).length=n+1:=by rw[xc,Xw,T.o]
  have B:HVz t (w2.setCell ⟨Q,0,none⟩ v') Q v' (sb r (j++[c])):=by
   have e:aV (sb r (j++[c]))=aV (sb r j)++[.pointer (some ⟨bc,0,none⟩)]:=by simp[aV,sb,<-Z.o]
   refine⟨?_,?_⟩
   ·have:=xu w2 Q 0 _ (cond t 285 289) v' m
    simpa using this
   have D:=d.kept (zM w2 ⟨Q,0,none⟩ v') (Or.inr (λe=>by
    obtain⟨cs,C⟩:=zh d (g:=Q) e;exact zt m C (by cases t<;>decide) rfl))
   rw[e,Zi,P];exact D
  have q:LotsOK (w2.setCell ⟨Q,0,none⟩ v') r ls:=λi G=>by
   obtain⟨pv,hp⟩:=HL.o i G;refine⟨pv,?_⟩;rw[xd _ _ _ _ (zt hp h.cell (by cases t<;>decide)),old _ (zc hp) (a0.o i G)];exact hp
  have A:∀x∈j++[c],x<ls.length:=λx S=>by
   rcases xx.1 S with S|S
   ·exact K x S
   simp at S;omega
  have s:=zb (Tu _ t a1 B q N A j.length (by simp) (by rw[P];omega) (hr.push c));simp only[Yv,Ye]at s;have M:Kp (λk=>k=Q\/v.ownBlock=some k) w (w2.setCell ⟨Q,0,none⟩ v'):=by
   refine Kp.setCell ?_ (Or.inl (Or.inl rfl)) _
   exact Kp.grown (Wo (VE w _)) b (λk D=>Or.inl (Or.inr D))
  have y:∀g,v'.ownBlock=some g->v.ownBlock=some g\/w.heap.size<=g:=λg hg=>by
   rcases H with h|h
   ·left;rw[F];exact h.symm.trans hg
   right;rw[h]at hg;simp at hg;omega
  have HK:=zb M;have X:=zb y;rw[<-T.o]at s;obtain⟨g,b1,E,_,_⟩:=zG d (by omega);rw[E]at s HK X;rw[E];clear d p b B q M y H a5 E old m R h f c1 f1 F hr K N A;go_wp2_with ((first|go_at_call 238|go_at_call 240);with_reducible refine(s.o).mono ?_;rintro e w3 ⟨rfl,a3,hs',a6,a2,a7⟩);go_end0;refine⟨rfl,HK.trans (a3.mono (λk D=>?_)),_,hs',a6,a2,a7,X⟩;rcases X k D with h|h
  ·exact Or.inl (Or.inr h)
  exact Or.inr h
def GW(z t:Bool)(b:t=z){w:World}{Q:Nat}{v:Value}(h:HVz t w Q v []):Calls prog (cond z 199 201) #[.pointer (some ⟨Q,0,none⟩)] w λe w'=>e=.returned (.tuple #[.pointer none,.bool false])/\w'=w:=by
 have d:=zb b;clear b
 cases z
 all_goals
  simp only[Yv,Ye];obtain⟨a,cap,c,_⟩:=h.shape;have c1:w.cell? ⟨Q,0,none⟩=some v:=by rw[za h.cell];rfl
  rw[c]at c1;simp only[XO]at c1;clear h c
  first
  |go_enter func199,ntmps199
  |go_enter func201,ntmps201
  go_wp2_with fail;go_ret2
  exact⟨rfl,rfl⟩
def Us(z t:Bool)(ht:t=z){w:World}{Q:Nat}{v:Value}{g b:List Nat}{ls:List L}(h:HVz t w Q v (sb g b))(hl:LotsOK w g ls)(a3:∀l∈ls,L.Ok l)(a0:∀c∈b,c<ls.length)(hn:b.length<=30)(m:0<b.length)(hr:Hp (bI t ls) b):Calls prog (cond z 199 201) #[.pointer (some ⟨Q,0,none⟩)] w λe w'=>e=.returned (.tuple #[.pointer (some ⟨g.getD (b.getD 0 0) 0,0,none⟩),.bool true])/\Kp (λk=>k=Q\/v.ownBlock=some k) w w'/\∃v' hs',hs'.Perm (BA b)/\Hp (bI t ls) hs'/\HVz t w' Q v' (sb g hs')/\v'.ownBlock=v.ownBlock:=by
 have W:=zb ht;clear ht
 cases z
 all_goals
  simp only[Yv,Ye];obtain⟨a,cap,R,r⟩:=h.shape;obtain⟨G,hG,a7,f⟩:=r (by rw[Zi];exact m);subst hG;have hQ:=zc h.cell;have c1:w.cell? ⟨Q,0,none⟩=some v:=by rw[za h.cell];rfl
  have f1:=ze h.cell 0;have d:=h.row;rw[R,Zi]at c1;rw[R,Zi]at d;obtain⟨cs,y⟩:=zh d rfl;have fG:=ze y 0;have F:¬Q=G:=zt h.cell y (by cases t<;>decide);have g0:=f 0 (by rw[Zi];exact m);have gl:=f (b.length-1) (by rw[Zi];omega);rw[gE m]at g0;rw[gE (by omega)]at gl;have HP:=zb h;have HV:=zb R;have HL:=zb hl;have T:=zb (λi P=>h.lotne hl i P);obtain⟨n,HN⟩:∃n,Ha (n+1=b.length):=⟨b.length-1,by unfold Ha;omega⟩
  have A:b.length-1=n:=by have:=HN.o;omega
  rw[A]at gl;rw[<-HN.o]at c1 d hn;generalize H:g.getD (b.getD 0 0) 0=b0 at *;generalize J:g.getD (b.getD n 0) 0=bl at *;have a9:=zb H;have S:=zb J;have C:=zb A;have a8:n+1<=cap:=by
   rcases d.2 with ⟨X,_⟩|⟨g',a6,b1,X,_,_,a2,_⟩
   ·cases X
   cases X;exact a2
  clear h R hl H J f r y A
  first
  |go_enter func199,ntmps199
  |go_enter func201,ntmps201
  go_wp2_with fail;go_region
  go_wp2_with fail;have h:=HP.o
  have r1:=(d.stored 0 (.pointer (some ⟨bl,0,none⟩))).1;have e1:(aV (sb g b)).set 0 (.pointer (some ⟨bl,0,none⟩))=aV (sb g (BA b))++((aV (sb g b)).set 0 (.pointer (some ⟨bl,0,none⟩))).drop n:=by
   have:aV (sb g (BA b))=((aV (sb g b)).set 0 (.pointer (some ⟨bl,0,none⟩))).take n:=by
    unfold BA;rw[C.o,<-S.o];simp[aV,sb,Yu,List.map_take]
   rw[this,yu]
  rw[e1]at r1;have B:(BA b).length=n:=by rw[Fh,C.o]
  have r2:=ownsRow_pop (by simp[aV,sb,B]) r1;have j:(w.setCell ⟨G,0,none⟩ (.pointer (some ⟨bl,0,none⟩))).heap[Q]?=some (.cells #[v] (cond t 285 289) (0,0)):=by rw[xd _ _ _ _ F];exact h.cell
  have s:v.ownBlock=some G:=by rw[HV.o];rfl
  have u:HVz t ((w.setCell ⟨G,0,none⟩ (.pointer (some ⟨bl,0,none⟩))).setCell ⟨Q,0,none⟩ (.slice (some ⟨G,0,none⟩) n cap)).drew Q (.slice (some ⟨G,0,none⟩) n cap) (sb g (BA b)):=by
   refine⟨?_,?_⟩
   ·show((w.setCell ⟨G,0,none⟩ (.pointer (some ⟨bl,0,none⟩))).setCell ⟨Q,0,none⟩ (.slice (some ⟨G,0,none⟩) n cap)).heap[Q]?=_;have:=xu _ Q 0 _ (cond t 285 289) (.slice (some ⟨G,0,none⟩) n cap) j;simpa using this
   have hk:=r2.kept (zM _ ⟨Q,0,none⟩ (.slice (some ⟨G,0,none⟩) n cap)) (Or.inr (λe=>by
    have e':G=Q:=by simpa [Value.ownBlock] using e
    exact F e'.symm))
   rw[Zi,B];exact hk
  have q:LotsOK ((w.setCell ⟨G,0,none⟩ (.pointer (some ⟨bl,0,none⟩))).setCell ⟨Q,0,none⟩ (.slice (some ⟨G,0,none⟩) n cap)).drew g ls:=λi P=>by
   obtain⟨pv,hp⟩:=HL.o i P;refine⟨pv,?_⟩;show((w.setCell ⟨G,0,none⟩ (.pointer (some ⟨bl,0,none⟩))).setCell ⟨Q,0,none⟩ (.slice (some ⟨G,0,none⟩) n cap)).heap[g.getD i 0]?=_;have N:=T.o i P;rw[s]at N;rw[xd _ _ _ _ (zt hp h.cell (by cases t<;>decide)),xd _ _ _ _ (λe=>N (by rw[e]))];exact hp
  have K:∀x∈BA b,x<ls.length:=λx hx=>a0 x ((BB m).mem_iff.2 (xae _ hx))
  have D:=zb (Tx _ t W u q a3 K (by rw[B];omega) hr.pop);simp only[Yv,Ye]at D;have M:Kp (λk=>k=Q\/v.ownBlock=some k) w ((w.setCell ⟨G,0,none⟩ (.pointer (some ⟨bl,0,none⟩))).setCell ⟨Q,0,none⟩ (.slice (some ⟨G,0,none⟩) n cap)).drew :=
   (((Kp.refl _ w).setCell (p:=⟨G,0,none⟩) (Or.inl (Or.inr s)) _).setCell (p:=⟨Q,0,none⟩) (Or.inl (Or.inl rfl)) _).after ((xm _ _).drew)
  have HK:=zb M;have E:=zb s;generalize ((w.setCell ⟨G,0,none⟩ (.pointer (some ⟨bl,0,none⟩))).setCell ⟨Q,0,none⟩ (.slice (some ⟨G,0,none⟩) n cap)).drew=w4 at *;clear r1 r2 e1 j u q M s h d c1 f1 fG g0 gl
  with_reducible refine(D.o).mono ?_
  rintro e w3 ⟨rfl,a1,hs',a4,Z,a5⟩;go_wp2_with fail;go_ret2;refine⟨rfl,HK.trans (a1.mono (λk hk=>Or.inl (Or.inr (by rw[E.o];exact hk)))),_,hs',a4,Z,a5,by rw[E.o];rfl⟩
def Iu(z t:Bool)(ht:t=z){w:World}{v:List Nat}{ls:List L}{os:List O}(hl:LotsOK w v ls)(h7:∀l∈ls,L.Ok l)(h0:Good os ls)(f:List Nat)(h3:∀c∈f,c<ls.length)(g8:∀c∈f,0<(ls.getD c L0).free)(h5:f.length<=30)(a:Option Addr)(cap:Nat)(c6:w.ownsRow 0 191 1 (.slice a f.length cap) f.length (aV (sb v f)))(A:Nat)(hw:A<=2147483647):Calls prog (cond z 181 182) #[.slice a f.length cap,.int .i64 A] w λe w'=>Below w.heap.size w w'/\∃v',e=.returned v'/\w'.ownsRow w.heap.size 241 2 v' (aB ls (yS (bI t ls) f) A).length (zk v (aB ls (yS (bI t ls) f) A)):=by
 have b1:=zb ht;clear ht
 cases z
 all_goals
  simp only[Yv,Ye];obtain⟨i0,hi,i2,i3,i4⟩:=XT wU;have a1:∀k,k<f.length->∃G,a=some ⟨G,0,none⟩/\G<w.heap.size/\w.cell? ⟨G,k,none⟩=some (.pointer (some ⟨v.getD (f.getD k 0) 0,0,none⟩)):=λk hk=>by
   obtain⟨g,j9,a5,_,m⟩:=zG c6 (by omega)
   cases a5;refine⟨g,rfl,m,?_⟩
   rw[c6.cellAt k (by omega)];simp[aV,sb,Wc,hk]
  first
  |(have f1:Ha (HVz t (w.alloc (.cells #[.slice none 0 0] 285)) w.heap.size (.slice none 0 0) (sb v [])):=⟨by rw[b1.o];exact xp w _,Xx _ _ _ _⟩)
  |(have f1:Ha (HVz t (w.alloc (.cells #[.slice none 0 0] 289)) w.heap.size (.slice none 0 0) (sb v [])):=⟨by rw[b1.o];exact xp w _,Xx _ _ _ _⟩)
  have f9:=zb a1;have e6:=zb hl;have e9:=zb h7;have a6:=zb h3;have i5:=zb g8;have i6:=zb h0;clear c6 a1 hl h7 h3 h0 g8
  first
  |go_enter func181,ntmps181
  |go_enter func182,ntmps182
  go_wp2_with fail;go_loopw [7,14] (λ_ ii wr=>∃(k:Nat) (hs:List Nat) (v':Value),ii=.int .i64 k/\k<=f.length/\hs.Perm (f.take k)/\Hp (bI t ls) hs/\HVz t wr w.heap.size v' (sb v hs)/\Below w.heap.size w wr/\w.heap.size<wr.heap.size/\(∀g,v'.ownBlock=some g->w.heap.size<=g)) (λ_ ii _=>f.length-(intOf ii).toNat)
  case atStart=>exact⟨0,[],_,rfl,by omega,by simp,λj h1 h2=>absurd h2 (by simp),f1,VE w _,by simp,λg n=>by cases n⟩
  obtain⟨k,hs,v',rfl,hk,N,hh,a5,X,a4,K⟩:=hrel;by_cases m:k<f.length
  ·obtain⟨G,hG,g5,g6⟩:=f9.o k m;subst hG;have k0:wr.cell? ⟨G,k,none⟩=some (.pointer (some ⟨v.getD (f.getD k 0) 0,0,none⟩)):=(X.cell (by exact g5)).trans g6;have hc:f.getD k 0<ls.length:=a6.o _ (zH m);have d5:∀c∈hs,c<ls.length:=λc j0=>a6 c (Yg (N.mem_iff.1 j0))
   have k3:hs.length=k:=by have:=N.length_eq;rw[XL]at this;omega
   have g3:=zb (Tr _ t b1 a5 (e6.below X) e9 d5 (by omega) hh (f.getD k 0) hc);simp only[Yv,Ye]at g3;have i8:Ha ((hs++[f.getD k 0]).Perm (f.take (k+1))):=by
    have e:f.take (k+1)=f.take k++[f.getD k 0]:=by
     rw[xn m];simp[Wc,m]
    unfold Ha;rw[e];exact N.append_right _
   have HB:=zb X;have J:=zb K;generalize v.getD (f.getD k 0) 0=bk at *;generalize f.getD k 0=ck at *;clear g6 a5 hh N X K hc d5;go_wp2_with ((first|go_at_call 198|go_at_call 200);with_reducible refine(g3.o).mono ?_;rintro e w1 ⟨rfl,p,v1,j7,j5,j3,j8,i9⟩);go_roundw
   case rel=>
    refine⟨k+1,j7,v1,by go_num,by omega,j5.trans i8,j3,j8,vS HB HB.size p (λi hi=>?_),xl a4 p.size,λg n=>?_⟩
    ·rcases hi with h|h
     ·omega
     exact J i h
    rcases i9 g n with h|h
    ·exact J g h
    omega
   simp[intOf];omega
  obtain rfl:k=f.length:=by omega
  rw[Xs]at N;have d9:=yB t ls f;have h8:hs.Perm (yS (bI t ls) f):=N.trans (dD _ f).symm;have d7:∀c∈yS (bI t ls) f,c∈f:=λc hc=>(dD _ f).mem_iff.1 hc
  have b7:(yS (bI t ls) f).length<=30:=by rw[(dD _ f).length_eq];exact h5
  generalize hq:yS (bI t ls) f=q at *;have HQ:=zb hq;have g1:=zb h8;have a9:=zb d9;have a7:=zb d7;have HH:=zb hh;have g4:=zb a5;have HB:=zb X;have J:=zb K;clear hq h8 d9 d7 hh a5 X K N f1 f9 m hk;rename World=>wo
  go_wp2_with fail;go_loopw [1,8,9,10,11] (λww lv _ _ _ w2=>∃(b:Nat) (H hs2:List Nat) (done:List (Nat×Nat)) (v2:Value),ww=.int .i64 b/\b<=A/\hs2.Perm H/\H.length+done.length<=30/\Vx (bI t ls) H/\(∀c∈H,c∈f)/\aB ls q A=done++aB ls H b/\w2.ownsRow w.heap.size 241 2 lv done.length (zk v done)/\Hp (bI t ls) hs2/\HVz t w2 w.heap.size v2 (sb v hs2)/\Below w.heap.size w w2/\w.heap.size<w2.heap.size/\(∀g,v2.ownBlock=some g->w.heap.size<=g)) (λww _ _ _ _ _=>(intOf ww).toNat)
  case atStart=>exact⟨A,q,hs,[],v',rfl,by omega,g1,by simpa using b7,a9,a7,by simp,Xx _ _ _ _,HH,g4,HB,a4,J⟩
  clear g1 a9 a7 HH g4 HB J a4 b7;obtain⟨b,H,hs2,done,v2,rfl,k4,N,h6,c8,m,M,y,hh,a0,X,a4,K⟩:=hrel;obtain⟨la,s,j4⟩:=zj y;subst j4;by_cases i1:b=0
  ·subst i1;rw[uB,yo]at M;have HO:=zb y;have HB:=zb X;have P:=zb M;clear y X M a0 hh N c8 m K;go_wp2_with fail;go_ret;exact⟨HB,_,rfl,by rw[HQ.o,P.o];exact HO⟩
  cases b9:H with
  |nil=>
   subst b9;have j6:hs2=[]:=List.Perm.eq_nil N;subst j6;rw[aB,yo]at M;have g0:=zb (GW _ t b1 a0);simp only[Yv,Ye]at g0;have HO:=zb y;have HB:=zb X;have P:=zb M;clear y X M a0 hh N c8 m K;go_wp2_with ((first|go_at_call 199|go_at_call 201);with_reducible refine(g0.o).mono ?_;rintro e w1 ⟨rfl,rfl⟩);go_ret;exact⟨HB,_,rfl,by rw[HQ.o,P.o];exact HO⟩
  |cons c r=>
   subst b9;have d6:∀x∈hs2,x<ls.length:=λx hx=>a6 x (m x (N.mem_iff.1 hx))
   have a3:0<hs2.length:=by rw[N.length_eq];simp
   have h4:hs2.length<=30:=by rw[N.length_eq];omega
   have hm:hs2.getD 0 0=c:=by
    refine uF i6 c8 (λx hx=>a6 x (m x hx)) (N.mem_iff.1 (zH a3)) (λx hx=>?_);obtain⟨j,hj,rfl⟩:=xw (N.mem_iff.2 hx);have:=Hp.root (fK t ls) hh j j (xe _) hj;rw[Wc,xi hj]at this;simpa using this
   have S:=zb (Us _ t b1 a0 (e6.below X) e9 d6 h4 a3 hh);simp only[Yv,Ye]at S;rw[hm]at S;have h9:(BA hs2).Perm r:=by
    have:=(BB a3).symm.trans N
    rw[hm]at this;exact this.cons_inv
   have hc:c<ls.length:=a6.o c (m c (by simp));have d8:=e9.o _ (zf hc);obtain⟨pv,f4⟩:=e6.o c hc;have b4:=zc f4;have a2:wr.heap[v.getD c 0]?=some (.cells (zm (ls.getD c L0) pv) 231 (0,0)):=(X.block _ b4).trans f4;have g2:=zb h9;have HO:=zb y;have HB:=zb X;have J:=zb K;have a9:Ha (Vx (bI t ls) r):=(XE.1 c8).2;have a7:Ha (∀x∈r,x∈f):=λx hx=>m x (by simp[hx])
   have e5:Ha (r.length+(done.length+1)<=30):=by
    have:r.length+1+done.length<=30:=by simpa using h6
    unfold Ha;omega
   have j1:done.length<30:=by have:=e5.o;omega
   have e7:Ha (∀k,(k=w.heap.size\/v2.ownBlock=some k)->k≠v.getD c 0):=λk hk e=>by
    rcases hk with h|h
    ·omega
    have:=K k h;omega
   have R:Ha (∀k,(k=w.heap.size\/v2.ownBlock=some k)->(Value.slice la done.length s).ownBlock≠some k):=λk hk e=>by
    obtain⟨cs,f5⟩:=zh y e;rcases hk with h|h
    ·rw[h]at f5;exact zt a0.cell f5 (by cases t<;>decide) rfl
    obtain⟨k2,g7⟩:=zh a0.row h;exact zt g7 f5 (by decide) rfl
   have j2:(ls.getD c L0).free<=2147483647:=by have:=d8.sum;omega
   obtain⟨W,e3⟩:=Ww ((ls.getD c L0).free);have g9:0<(ls.getD c L0).free:=i5.o c (m c (by simp));rw[<-e3.o]at j2 g9;have P:Ha (aB ls q A=(done++[(c,min W b)])++aB ls r (b-min W b)):=by
    rw[aB,xg i1,<-e3.o]at M;unfold Ha;rw[M];simp
   obtain⟨bc,e2⟩:=Ww (v.getD c 0);rw[<-e2.o]at S a2 e7;have d2:Ha (wr.cell? ⟨bc,6,none⟩=some (.int .i64 W)):=by rw[e3.o];unfold Ha;rw[za a2];rfl
   have d4:bc<wr.heap.size:=zc a2;obtain⟨dl,d3⟩:=Ww done.length;rw[<-d3.o]at HO R j1;clear y X K c8 m N hm h9 a3 h4 d6 M f4 a2 d8 a0 hh hc b4 h6;rw[show(Value.slice la done.length s)=Value.slice la dl s by rw[d3.o]];by_cases k1:W<=b
   ·have f6:min W b=W:=by omega
    rw[f6]at P;go_wp2_with fail
    with_reducible refine(S.o).mono ?_
    rintro e w1 ⟨rfl,p,v3,c7,b8,b6,c9,F⟩;have b5:w1.cell? ⟨bc,6,none⟩=some (.int .i64 W):=(xo (a:=⟨bc,6,none⟩) (p.block bc d4 (λhz=>e7 bc hz rfl))).trans d2;have Z:w1.ownsRow w.heap.size 241 2 (.slice la dl s) dl (zk v done):=zd HO (λg n=>p.block g (HO.lt g n).2 (λhz=>R g hz n));have b2:Below w.heap.size w w1:=vS HB HB.size p (λi hq=>Or.elim hq (λh=>by omega) (J i));have E:w.heap.size<w1.heap.size:=xl a4 p.size;have e0:=zb b2;have b0:Ha (∀g,v3.ownBlock=some g->w.heap.size<=g):=λg n=>J g (by rw[<-F];exact n)
    have T:=zb c9;have e4:=zb b6;have f0:=zb (b8.trans g2);have a8:Ha (∀g,(Value.slice la dl s).ownBlock=some g->v3.ownBlock≠some g/\g≠w.heap.size):=λg n=>⟨λe=>R g (Or.inr (by rw[<-F];exact e)) n,λe=>R g (Or.inl e) n⟩
    clear p b2 c9 b6 b8 F S HO d2;go_wp2_with (at_builtin;refine Xr _ rfl _ _ 197 rfl (w.heap.size) 241 i0 (.agg #[.pointer none,.int .i64 0]) 2 16 yF hi i2 i3 i4 rfl (by decide) _ dl (zk v done) rfl (Z.alloc _) ⟨w1.heap.size,0,none⟩ 1 1 [.pointer (some ⟨bc,0,none⟩),.int .i64 W] rfl rfl ?c1 ?c2 ?c3 ?c4 ?c5 ?_)
    case c1=>exact Yt _ _ _ _
    case c2=>intro u hu;simp at hu;rcases hu with rfl|rfl<;>rfl
    case c3=>unfold maxLen;omega
    case c4=>omega
    case c5=>simp;omega
    intro d1 w2 C d f8;have D:w2.ownsRow w.heap.size 241 2 d1 (done++[(c,W)]).length (zk v (done++[(c,W)])):=by
     rw[aH,xc,Xw,<-d3.o];show w2.ownsRow w.heap.size 241 2 d1 (dl+1) (zk v done++[.pointer (some ⟨v.getD c 0,0,none⟩),.int .i64 W]);rw[<-e2.o];exact C
    have B:∀g,g<w1.heap.size->(Value.slice la dl s).ownBlock≠some g->w2.heap[g]?=w1.heap[g]?:=λg n f7=>(d.block g (by simp;omega) (λe=>f7 e.symm)).trans (yl _ _ _ n)
    have d0:HVz t w2 w.heap.size v3 (sb v c7):=⟨(B _ E (λe=>(a8 _ e).2 rfl)).trans T.cell,zd T.row (λg n=>B g (T.row.lt g n).2 (λe=>(a8 g e).1 n))⟩
    have b3:Below w.heap.size w w2:=(e0.alloc (xcm E) _).grown d (by simp;omega) (λk hk=>(Z.lt k hk).1);have Q:w.heap.size<w2.heap.size:=xl E (xj (by simp) d.size);have e8:=zb D;have f3:=zb d0;have e1:=zb b3;have f2:=zb Q;have i7:=zb d.size;clear C D d0 b3 Q d f8 B Z b5;go_wp2_with fail;go_roundw
    case rel=>exact⟨b-W,r,c7,done++[(c,W)],v3,by congr 1;omega,by omega,f0,by have:=e5.o;simp;omega,a9,a7,P,e8,e4,f3,e1,f2,b0⟩
    simp[intOf];omega
   have f6:min W b=b:=by omega
   rw[f6]at P;go_wp2_with fail
   with_reducible refine(S.o).mono ?_
   rintro e w1 ⟨rfl,p,v3,c7,b8,b6,c9,F⟩;have b5:w1.cell? ⟨bc,6,none⟩=some (.int .i64 W):=(xo (a:=⟨bc,6,none⟩) (p.block bc d4 (λhz=>e7 bc hz rfl))).trans d2;have Z:w1.ownsRow w.heap.size 241 2 (.slice la dl s) dl (zk v done):=zd HO (λg n=>p.block g (HO.lt g n).2 (λhz=>R g hz n));have b2:Below w.heap.size w w1:=vS HB HB.size p (λi hq=>Or.elim hq (λh=>by omega) (J i));have E:w.heap.size<w1.heap.size:=xl a4 p.size;have e0:=zb b2;have b0:Ha (∀g,v3.ownBlock=some g->w.heap.size<=g):=λg n=>J g (by rw[<-F];exact n)
   have T:=zb c9;have e4:=zb b6;have f0:=zb (b8.trans g2);have a8:Ha (∀g,(Value.slice la dl s).ownBlock=some g->v3.ownBlock≠some g/\g≠w.heap.size):=λg n=>⟨λe=>R g (Or.inr (by rw[<-F];exact e)) n,λe=>R g (Or.inl e) n⟩
   clear p b2 c9 b6 b8 F S HO d2;go_wp2_with (at_builtin;refine Xr _ rfl _ _ 197 rfl (w.heap.size) 241 i0 (.agg #[.pointer none,.int .i64 0]) 2 16 yF hi i2 i3 i4 rfl (by decide) _ dl (zk v done) rfl (Z.alloc _) ⟨w1.heap.size,0,none⟩ 1 1 [.pointer (some ⟨bc,0,none⟩),.int .i64 b] rfl rfl ?c1 ?c2 ?c3 ?c4 ?c5 ?_)
   case c1=>exact Yt _ _ _ _
   case c2=>intro u hu;simp at hu;rcases hu with rfl|rfl<;>rfl
   case c3=>unfold maxLen;omega
   case c4=>omega
   case c5=>simp;omega
   intro d1 w2 C d f8;have D:w2.ownsRow w.heap.size 241 2 d1 (done++[(c,b)]).length (zk v (done++[(c,b)])):=by
    rw[aH,xc,Xw,<-d3.o];show w2.ownsRow w.heap.size 241 2 d1 (dl+1) (zk v done++[.pointer (some ⟨v.getD c 0,0,none⟩),.int .i64 b]);rw[<-e2.o];exact C
   have B:∀g,g<w1.heap.size->(Value.slice la dl s).ownBlock≠some g->w2.heap[g]?=w1.heap[g]?:=λg n f7=>(d.block g (by simp;omega) (λe=>f7 e.symm)).trans (yl _ _ _ n)
   have d0:HVz t w2 w.heap.size v3 (sb v c7):=⟨(B _ E (λe=>(a8 _ e).2 rfl)).trans T.cell,zd T.row (λg n=>B g (T.row.lt g n).2 (λe=>(a8 g e).1 n))⟩
   have b3:Below w.heap.size w w2:=(e0.alloc (xcm E) _).grown d (by simp;omega) (λk hk=>(Z.lt k hk).1);have Q:w.heap.size<w2.heap.size:=xl E (xj (by simp) d.size);have e8:=zb D;have f3:=zb d0;have e1:=zb b3;have f2:=zb Q;have i7:=zb d.size;clear C D d0 b3 Q d f8 B Z b5;go_wp2_with fail;go_roundw
   case rel=>exact⟨b-b,r,c7,done++[(c,b)],v3,by congr 1;omega,by omega,f0,by have:=e5.o;simp;omega,a9,a7,P,e8,e4,f3,e1,f2,b0⟩
   simp[intOf];omega
def PJ(m:LotsOK w bs ls)(k:∀l∈ls,L.Ok l)(i:Good os ls)(d:List Nat)(j:∀c∈d,c<ls.length)(h:∀c∈d,0<(ls.getD c L0).free)(f:d.length<=30)(a:Option Addr)(cap:Nat)(g:w.ownsRow 0 191 1 (.slice a d.length cap) d.length (aV (sb bs d)))(b:Nat)(n:b<=2147483647):Calls prog 181 #[.slice a d.length cap,.int .i64 b] w λe w'=>Below w.heap.size w w'/\∃v',e=.returned v'/\w'.ownsRow w.heap.size 241 2 v' (aB ls (yS (bI true ls) d) b).length (zk bs (aB ls (yS (bI true ls) d) b)) :=
 Iu true true rfl m k i d j h f a cap g b n
def PK(m:LotsOK w bs ls)(k:∀l∈ls,L.Ok l)(i:Good os ls)(d:List Nat)(j:∀c∈d,c<ls.length)(h:∀c∈d,0<(ls.getD c L0).free)(f:d.length<=30)(a:Option Addr)(cap:Nat)(g:w.ownsRow 0 191 1 (.slice a d.length cap) d.length (aV (sb bs d)))(b:Nat)(n:b<=2147483647):Calls prog 182 #[.slice a d.length cap,.int .i64 b] w λe w'=>Below w.heap.size w w'/\∃v',e=.returned v'/\w'.ownsRow w.heap.size 241 2 v' (aB ls (yS (bI false ls) d) b).length (zk bs (aB ls (yS (bI false ls) d) b)) :=
 Iu false false rfl m k i d j h f a cap g b n
