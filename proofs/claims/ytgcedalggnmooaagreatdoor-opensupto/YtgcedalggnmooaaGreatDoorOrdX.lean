import Derived.Test.YtgcedalggnmooaaGreatDoorExtX
set_option linter.all false
set_option maxRecDepth 100000
namespace Go.Proofs.YtgcedalggnmooaaGreatDoor
def TV(first:Bool)(a b:L):Bool:=if first then decide (a.place<b.place) else (decide (a.ex<b.ex)||(decide (a.ex=b.ex)&&decide (a.id<b.id)))
def bE(first:Bool)(ls:List L)(i j:Nat):Bool:=TV first (ls.getD i L0) (ls.getD j L0)
variable {f:Bool}
theorem oZ{a b c:L}(d:TV f b a=false)(e:TV f c b=false):TV f c a=false:=by
 cases f
 ·simp[TV]at d e ⊢;omega
 simp[TV]at d e ⊢;omega
theorem oY{a b:L}(h:TV f a b=true):TV f b a=false:=by
 cases f
 ·simp[TV]at h ⊢;omega
 simp[TV]at h ⊢;omega
theorem kL(f:Bool)(a:L):TV f a a=false:=by
 cases f<;>simp[TV]
variable {ls:List L}{os:List O}
theorem GV(h:Good os ls){f:Bool}{i j:Nat}(d:i<ls.length)(e:j<ls.length)(a:bE f ls i j=false)(b:bE f ls j i=false):i=j:=by
 cases f
 ·simp only[bE,TV,XA,Yc,xaW,yq,Bool.and_eq_false_imp,Xu]at a b;apply h.ids i j d e;have c:(ls.getD i L0).ex=(ls.getD j L0).ex:=by omega
  have:=a.2 c
  have:=b.2 c.symm
  omega
 simp only[bE,TV,YC,yq]at a b;have:=h.place i d;have:=h.place j e;omega
def KW(lt:Nat->Nat->Bool)(x:Nat):List Nat->List Nat
 |[]=>[x]
 |y::r=>if lt y x then y::KW lt x r else x::y::r
def yF(lt:Nat->Nat->Bool):List Nat->List Nat
 |[]=>[]
 |x::r=>KW lt x (yF lt r)
theorem jG(lt:Nat->Nat->Bool)(x:Nat):∀l:List Nat,(KW lt x l).Perm (x::l)
 |[]=>YT _
 |y::r=>by
  unfold KW;split
  ·exact((jG lt x r).cons y).trans (List.Perm.swap x y r)
  exact YT _
theorem dB(lt:Nat->Nat->Bool):∀l:List Nat,(yF lt l).Perm l
 |[]=>YT _
 |x::r=>(jG lt x _).trans ((dB lt r).cons x)
def TL(lt:Nat->Nat->Bool)(l:List Nat):Prop:=l.Pairwise λa b=>lt b a=false
theorem Ei(f:Bool)(ls:List L)(x:Nat):∀l:List Nat,TL (bE f ls) l->TL (bE f ls) (KW (bE f ls) x l)
 |[],_=>by simp[KW,TL]
 |y::r,h=>by
  have e:=Xq.1 h;unfold KW;split
  ·rename_i c;refine Xq.2 ⟨λb a=>?_,Ei f ls x r e.2⟩;rcases xx.1 ((jG _ x r).mem_iff.1 a) with rfl|a
   ·exact oY c
   exact e.1 b a
  rename_i c;have d:bE f ls y x=false:=by simpa using c
  refine Xq.2 ⟨λb a=>?_,h⟩;rcases xx.1 a with rfl|a
  ·exact d
  exact oZ d (e.1 b a)
theorem xN(f:Bool)(ls:List L):∀l:List Nat,TL (bE f ls) (yF (bE f ls) l)
 |[]=>List.Pairwise.nil
 |x::r=>Ei f ls x _ (xN f ls r)
def bY(rcs:List (Nat×Nat))(f:Bool)(td goods gate:Nat)(ls:List L):List Nat:=yF (bE f ls) (dC rcs td goods gate ls ls.length)
variable {rcs:List (Nat×Nat)}
theorem dW(f:Bool)(td goods a:Nat)(ls:List L):(bY rcs f td goods a ls).Perm (dC rcs td goods a ls ls.length):=dB _ _
theorem Jx(f:Bool)(td goods a:Nat)(ls:List L):TL (bE f ls) (bY rcs f td goods a ls):=xN f ls _
theorem Gt(td goods a:Nat)(ls:List L)(k:Nat):(dC rcs td goods a ls k).Nodup:=(xan).filter _
theorem qS(f:Bool)(td goods a:Nat)(ls:List L):(bY rcs f td goods a ls).Nodup:=(dW f td goods a ls).nodup_iff.2 (Gt _ _ _ _ _)
variable {base e i j n size:Nat}
theorem aX{td goods a:Nat}:i∈bY rcs f td goods a ls↔i<ls.length/\UR (cG rcs ls) td goods a (ls.getD i L0)=true:=by
 rw[(dW f td goods a ls).mem_iff];simp[dC]
theorem tQ(h:Good os ls){f:Bool}{c m:Nat}{r:List Nat}(g:TL (bE f ls) (c::r))(a:∀i∈c::r,i<ls.length)(d:m∈c::r)(b:∀i∈c::r,bE f ls i m=false):m=c:=by
 rcases xx.1 d with rfl|e
 ·rfl
 exact GV h (a m d) (a c (by simp)) ((Xq.1 g).1 m e) (b c (by simp))
def ZT(ls:List L):List Nat->Nat->List (Nat×Nat)
 |[],_=>[]
 |c::r,want=>if want=0 then [] else (c,min (ls.getD c L0).free want)::ZT ls r (want-min (ls.getD c L0).free want)
def aO(l:List (Nat×Nat)):Nat:=(l.map Prod.snd).sum
theorem tO(ls:List L)(q:List Nat):ZT ls q 0=[]:=by cases q<;>simp[ZT]
theorem An(ls:List L):∀(q:List Nat) (a:Nat),aO (ZT ls q a)<=a
 |[],a=>by simp[ZT,aO]
 |c::r,a=>by
  unfold ZT;by_cases h:a=0
  ·simp[h,aO]
  have:=An ls r (a-min (ls.getD c L0).free a)
  simp only[xe h,aO,List.map_cons,List.sum_cons]at this ⊢;omega
theorem pO(ls:List L):∀(q:List Nat) (a:Nat),((ZT ls q a).map Prod.fst).Sublist q
 |[],a=>by simp[ZT]
 |c::r,a=>by
  unfold ZT;by_cases h:a=0
  ·simp[h]
  simp only[xe h,List.map_cons];exact(pO ls r _).cons_cons c
theorem DZ(ls:List L):∀(q:List Nat) (a:Nat),∀p∈ZT ls q a,p.2<=(ls.getD p.1 L0).free
 |[],a=>by simp[ZT]
 |c::r,a=>by
  unfold ZT;by_cases h:a=0
  ·simp[h]
  simp only[xe h,xx];rintro p (rfl|hp)
  ·exact Nat.min_le_left _ _
  exact DZ ls r _ p hp
open Go.RowKit
theorem pD(w:World)(x:Ex)(n:Nat):(ext w x).drewN n=ext w ⟨x.n+n,x.os⟩:=by
 simp[ext,World.drewN,xbR]
def UW(l:List Nat)(i j:Nat):List Nat:=(l.set i (l.getD j 0)).set j (l.getD i 0)
theorem xO(l:List Nat)(i j:Nat):(UW l i j).length=l.length:=by simp[UW]
variable {bs l:List Nat}
theorem xP(a:i<l.length)(b:j<l.length):(UW l i j).Perm l:=by
 have:=List.set_set_perm a b
 simp only[UW,Ul,xh a,xh b,Xw];exact this
theorem Am(a:i<l.length)(x:Nat):(l.set i x).getD i 0=x:=by simp[Ul,Xe,a]
theorem iZ(a:j≠i)(x:Nat):(l.set i x).getD j 0=l.getD j 0:=by simp[Ul,Xe,yk a]
theorem Dv(b:i<l.length)(a:i≠j):(UW l i j).getD i 0=l.getD j 0:=by
 unfold UW;rw[iZ a,Am b]
theorem Qh(a:j<l.length):(UW l i j).getD j 0=l.getD i 0:=by
 unfold UW;rw[Am (by simpa using a)]
theorem Bx{k:Nat}(a:k≠i)(b:k≠j):(UW l i j).getD k 0=l.getD k 0:=by
 unfold UW;rw[iZ b,iZ a]
structure Sj(lt:Nat->Nat->Bool):Prop where
 trans:∀{a b c},lt b a=false->lt c b=false->lt c a=false
 asymm:∀{a b},lt a b=true->lt b a=false
 irrefl:∀a,lt a a=false
theorem fB(f:Bool)(ls:List L):Sj (bE f ls):=⟨λb c=>oZ b c,λh=>oY h,λa=>kL f _⟩
def Hp(lt:Nat->Nat->Bool)(l:List Nat):Prop:=∀j,0<j->j<l.length->lt (l.getD j 0) (l.getD ((j-1) / 2) 0)=false
structure RiseI(lt:Nat->Nat->Bool)(l:List Nat)(i:Nat):Prop where
 up:∀j,0<j->j<l.length->j≠i->lt (l.getD j 0) (l.getD ((j-1) / 2) 0)=false
 dn:0<i->∀j,0<j->j<l.length->(j-1) / 2=i->lt (l.getD j 0) (l.getD ((i-1) / 2) 0)=false
structure SinkI(lt:Nat->Nat->Bool)(l:List Nat)(i:Nat):Prop where
 up:∀j,0<j->j<l.length->(j-1) / 2≠i->lt (l.getD j 0) (l.getD ((j-1) / 2) 0)=false
 dn:0<i->∀j,0<j->j<l.length->(j-1) / 2=i->lt (l.getD j 0) (l.getD ((i-1) / 2) 0)=false
variable {lt:Nat->Nat->Bool}
theorem RiseI.top(h:RiseI lt l 0):Hp lt l:=λj a b=>h.up j a b (by omega)
theorem RiseI.done(h:RiseI lt l i)(hd:lt (l.getD i 0) (l.getD ((i-1) / 2) 0)=false):Hp lt l:=λj a b=>by
 by_cases e:j=i
 ·subst e;exact hd
 exact h.up j a b e
theorem RiseI.step(O:Sj lt){l:List Nat}{i:Nat}(h:RiseI lt l i)(w:0<i)(q:i<l.length)(f:lt (l.getD i 0) (l.getD ((i-1) / 2) 0)=true):RiseI lt (UW l i ((i-1) / 2)) ((i-1) / 2):=by
 have x:(i-1) / 2<i:=by omega
 have d:(i-1) / 2<l.length:=by omega
 generalize k:(i-1) / 2=p at *;have a:i≠p:=by omega
 refine⟨λj e c r=>?_,λs j e c g=>?_⟩
 ·rw[xO]at c;by_cases b:j=i
  ·subst b;rw[Dv q a,k,Qh d];exact O.asymm f
  rw[Bx b r];by_cases u:(j-1) / 2=i
  ·rw[u,Dv q a];have:=h.dn w j e c u;rw[k]at this;exact this
  by_cases v:(j-1) / 2=p
  ·rw[v,Qh d];have:=h.up j e c b;rw[v]at this;exact O.trans (O.asymm f) this
  rw[Bx u v];exact h.up j e c b
 rw[xO]at c;have t:(p-1) / 2≠i:=by omega
 have m:(p-1) / 2≠p:=by omega
 rw[Bx t m];have n:=h.up p s d (yk a);by_cases b:j=i
 ·subst b;rw[Dv q a];exact n
 rw[Bx b (by omega)];have:=h.up j e c b;rw[g]at this;exact O.trans n this
theorem SinkI.done(h:SinkI lt l i)(hd:∀j,0<j->j<l.length->(j-1) / 2=i->lt (l.getD j 0) (l.getD i 0)=false):Hp lt l:=λj a b=>by
 by_cases e:(j-1) / 2=i
 ·rw[e];exact hd j a b e
 exact h.up j a b e
theorem SinkI.step(O:Sj lt){l:List Nat}{i m:Nat}(h:SinkI lt l i)(q:0<m)(f:m<l.length)(c:(m-1) / 2=i)(hd:∀j,0<j->j<l.length->(j-1) / 2=i->lt (l.getD j 0) (l.getD m 0)=false)(p:lt (l.getD m 0) (l.getD i 0)=true):SinkI lt (UW l i m) m:=by
 have a:i<l.length:=by omega
 have b:i≠m:=by omega
 refine⟨λj e d r=>?_,λ_ j e d g=>?_⟩
 ·rw[xO]at d;by_cases s:j=m
  ·subst s;rw[Qh f,c,Dv a b];exact O.asymm p
  by_cases n:(j-1) / 2=i
  ·rw[Bx (by omega) s,n,Dv a b];exact hd j e d n
  rw[Bx (k:=(j-1) / 2) n r];by_cases t:j=i
  ·subst t;rw[Dv a b];exact h.dn e m q f c
  rw[Bx t s];exact h.up j e d n
 rw[xO]at d;rw[c,Dv a b,Bx (by omega) (by omega)];have:=h.up j e d (by omega);rw[g]at this;exact this
theorem Hp.root{lt:Nat->Nat->Bool}(O:Sj lt){l:List Nat}(h:Hp lt l):∀(n j:Nat),j<=n->j<l.length->lt (l.getD j 0) (l.getD 0 0)=false
 |0,j,hj,hl=>by
  obtain rfl:j=0:=by omega
  exact O.irrefl _
 |n+1,j,hj,hl=>by
  by_cases a:j=0
  ·subst a;exact O.irrefl _
  exact O.trans (Hp.root O h n ((j-1) / 2) (by omega) (by omega)) (h j (by omega) hl)
theorem tM(l:List Nat)(x i:Nat)(h:i<l.length):(l++[x]).getD i 0=l.getD i 0:=by
 simp[Ul,Xk h]
theorem Hp.push(h:Hp lt l)(x:Nat):RiseI lt (l++[x]) l.length:=by
 refine⟨λj b a d=>?_,λ_ j b a c=>?_⟩
 ·rw[xb,Xc]at a;rw[tM l x j (by omega),tM l x _ (by omega)];exact h j b (by omega)
 rw[xb,Xc]at a;omega
def AS(l:List Nat):List Nat:=(l.set 0 (l.getD (l.length-1) 0)).take (l.length-1)
theorem EG(l:List Nat):(AS l).length=l.length-1:=by simp[AS]
theorem EF(a:0<j)(h:j<l.length-1):(AS l).getD j 0=l.getD j 0:=by
 unfold AS;rw[Ul,xbf,xd h,<-Ul,iZ (by omega)]
theorem Hp.pop(h:Hp lt l):SinkI lt (AS l) 0:=by
 refine⟨λj a b d=>?_,λc=>absurd c (by omega)⟩;rw[EG]at b;rw[EF a b,EF (by omega) (by omega)];exact h j a (by omega)
theorem AT(h:0<l.length):l.Perm (l.getD 0 0::AS l):=by
 cases l with
 |nil=>simp at h
 |cons a t=>
  rcases List.eq_nil_or_concat t with rfl|⟨c,b,rfl⟩
  ·simp[AS]
  have d:(a::(c++[b])).length-1=c.length+1:=by simp
  have e:(a::(c++[b])).getD (c.length+1) 0=b:=by simp[Ul]
  have f:AS (a::(c++[b]))=b::c:=by
   unfold AS;rw[d,e];simp
  rw[List.concat_eq_append,f];simp only[YP];exact(List.perm_append_comm (l₁:=c) (l₂:=[b])).cons a
theorem fX{a:List Nat}(b:i<a.length):(sb bs a).getD i 0=bs.getD (a.getD i 0) 0:=by
 simp[sb,Ul,b]
theorem Zu(b a:List Nat):(sb b a).length=a.length:=by simp[sb]
theorem JN{a:List Nat}(b:i<a.length)(c:j<a.length):UW (sb bs a) i j=sb bs (UW a i j):=by
 unfold UW;rw[fX b,fX c];simp[sb,yu]
def LotsOK(w:World)(bs:List Nat)(ls:List L):Prop:=∀i,i<ls.length->∃pv,w.heap[bs.getD i 0]?=some (.cells (zo (ls.getD i L0) pv) 231 (0,0))
variable {v:Value}{w:World}
theorem PV.lots{S:Nat}{M:Mx}{td:Nat}{a:List Value}(h:PV os rcs w S M v td bs a ls):LotsOK w bs ls:=λi b=>⟨_,h.lot i b⟩
theorem LotsOK.kp{w':World}(h:LotsOK w bs ls){Z:Nat->Prop}(c:Kp Z w w')(d:∀i,i<ls.length->¬Z (bs.getD i 0)):LotsOK w' bs ls:=λi a=>by
 obtain⟨pv,b⟩:=h i a;exact⟨pv,(c.block _ (zc b) (d i a)).trans b⟩
theorem LotsOK.below{w':World}(h:LotsOK w bs ls)(c:Below w.heap.size w w'):LotsOK w' bs ls:=λi b=>by
 obtain⟨pv,a⟩:=h i b;exact⟨pv,(c.block _ (zc a)).trans a⟩
theorem vC{B:Nat}{Z:Nat->Prop}{a b c:World}(h:Below B a b)(e:B<=b.heap.size)(k:Kp Z b c)(f:∀i,Z i->B<=i):Below B a c :=
 h.trans ⟨k.os,k.tape,k.output,k.size,λi d=>k.block i (xn d e) (λq=>absurd (f i q) (by omega))⟩
def zl(bs:List Nat):List (Nat×Nat)->List Value
 |p::r=>.pointer (some ⟨bs.getD p.1 0,0,none⟩)::.int .i64 p.2::zl bs r
 |[]=>[]
theorem aE(a:List Nat)(p:Nat×Nat):∀l,zl a (l++[p])=zl a l++[.pointer (some ⟨a.getD p.1 0,0,none⟩),.int .i64 p.2]
 |[]=>rfl
 |q::r=>by simp only[XF,zl,aE a p r]
variable {xs:List Value}
theorem aI(h:w.ownsRow base e size v n xs):w.ownsRow 0 e size v n xs:=by
 refine⟨h.1,?_⟩;rcases h.2 with b|⟨g,cap,a,b,d,c⟩
 ·exact Or.inl b
 exact Or.inr ⟨g,cap,a,b,Nat.zero_le _,c⟩
theorem zm(h:w.ownsRow base e size v n xs):∃a cap,v=.slice a n cap:=by
 rcases h.2 with ⟨b,d⟩|⟨g,cap,c,b,_⟩
 ·exact⟨none,0,by rw[b,d]⟩
 exact⟨_,cap,b⟩
theorem ZD(h:w.ownsRow base e size v n xs)(f:0<n):∃g cap,v=.slice (some ⟨g,0,none⟩) n cap/\base<=g/\g<w.heap.size:=by
 rcases h.2 with ⟨a,i⟩|⟨g,cap,b,a,c,d,_⟩
 ·omega
 exact⟨g,cap,a,c,(YI.1 d).1⟩
theorem wH:(Tryz.prog.info? 241).map (λi=>(i.zero,i.size,i.bytes))=some (some (.agg #[.pointer none,.int .i64 0]),2,16):=by kernel_rfl
theorem xT:Tryz.prog.underlying 197=some (.slice 241):=by kernel_rfl
