import Derived.Test.YtgcedalggnmooaaGreatDoorHlX
set_option linter.all false
set_option maxRecDepth 100000
set_option maxHeartbeats 3200000
namespace Go.Proofs.YtgcedalggnmooaaGreatDoor
open Go.RowKit
open Tryz
def gL(os:List O)(a:Nat)(l:L):L:={ l with hd:=l.hd-(zq os a l.id).getD 0 }
def cD(g:L->Nat->L)(ls:List L):List (Nat×Nat)->List L
 |p::r=>cD g (ls.set p.1 (g (ls.getD p.1 L0) p.2)) r
 |[]=>ls
def eE(g:L->Nat->L)(p:Nat×Nat):∀(l:List (Nat×Nat)) (ls:List L),cD g ls (l++[p])=(cD g ls l).set p.1 (g ((cD g ls l).getD p.1 L0) p.2)
 |[],ls=>rfl
 |q::r,ls=>by simp only[XS,cD];exact eE g p r _
def aN(g:L->Nat->L):∀(l:List (Nat×Nat)) (ls:List L),(cD g ls l).length=ls.length
 |[],ls=>rfl
 |q::r,ls=>by simp only[cD];rw[aN g r];simp
def bN(g:L->Nat->L){i:Nat}:∀(l:List (Nat×Nat)) (ls:List L),i ∉ l.map Prod.fst->(cD g ls l).getD i L0=ls.getD i L0
 |[],ls,_=>rfl
 |q::r,ls,h=>by
  simp only[Xv,xz,not_or]at h;simp only[cD];rw[bN g r _ h.2,ZJ h.1]
def yL(g:L->Nat->L){i n:Nat}:∀(l:List (Nat×Nat)) (ls:List L),(l.map Prod.fst).Nodup->(i,n)∈l->i<ls.length->(cD g ls l).getD i L0=g (ls.getD i L0) n
 |[],ls,_,h,_=>by simp at h
 |q::r,ls,hn,h,hi=>by
  simp only[Xv,yj]at hn;simp only[cD];rcases xz.1 h with h|h
  ·subst h;rw[bN g r _ hn.1,aY hi]
  have a:i≠q.1:=λe=>hn.1 (by rw[<-e];exact Xu h)
  rw[yL g r _ hn.2 h (by simpa using hi),ZJ a]
def wG{a b:List L}(e:a.length=b.length)(h:∀i,i<a.length->a.getD i L0=b.getD i L0):a=b:=by
 apply YZ e
 intro i c d;have:=h i c;simpa [Wc,c,d] using this
variable {S a b i n td:Nat}{ls:List L}
def aJ{f:L->L}(a:i<ls.length):(ls.map f).getD i L0=f (ls.getD i L0):=by simp[Wc,a]
def bH(os:List O)(a:Nat)(ls:List L)(i:Nat):List (Nat×Nat):=((VO ls).take i).filterMap λj=>(zq os a (ls.getD j L0).id).map λn=>(j,n)
def Es{k:Nat}(a:k<ls.length):(VO ls).take (k+1)=(VO ls).take k++[(VO ls).getD k 0]:=by
 have h:k<(VO ls).length:=by rw[bX];exact a
 rw[xn h];simp[Wc,h]
variable {os:List O}
def MV(b:i<ls.length)(h:zq os a (ls.getD ((VO ls).getD i 0) L0).id=some n):bH os a ls (i+1)=bH os a ls i++[((VO ls).getD i 0,n)]:=by
 unfold bH;rw[Es b,List.filterMap_append];have e:List.filterMap (λj=>(zq os a (ls.getD j L0).id).map λn=>(j,n)) [(VO ls).getD i 0]=[((VO ls).getD i 0,n)]:=by simp only[List.filterMap,h,xag]
 rw[e]
def IN(b:i<ls.length)(h:zq os a (ls.getD ((VO ls).getD i 0) L0).id=none):bH os a ls (i+1)=bH os a ls i:=by
 unfold bH;rw[Es b,List.filterMap_append];have e:List.filterMap (λj=>(zq os a (ls.getD j L0).id).map λn=>(j,n)) [(VO ls).getD i 0]=[]:=by simp only[List.filterMap,h,Option.map_none]
 rw[e,yo]
def jI(os:List O)(a:Nat)(ls:List L)(i:Nat):(bH os a ls i).length<=i:=by
 have:=List.length_filterMap_le (λj=>(zq os a (ls.getD j L0).id).map λn=>(j,n)) ((VO ls).take i)
 have b:=Yw i (VO ls);exact xj this b
def dM{p:Nat×Nat}(h:p∈bH os a ls i):p.1<ls.length/\zq os a (ls.getD p.1 L0).id=some p.2:=by
 unfold bH at h;obtain⟨j,e,b⟩:=List.mem_filterMap.1 h;have c:=eH.1 (Yg e)
 cases d:zq os a (ls.getD j L0).id with
 |none=>rw[d]at b;cases b
 |some n=>rw[d]at b;cases b;exact⟨c,d⟩
def Pc{f:Nat->Option Nat}:∀l:List Nat,(l.filterMap λj=>(f j).map λn=>(j,n)).map Prod.fst=l.filter (λj=>(f j).isSome)
 |[]=>rfl
 |j::l=>by
  have a:=Pc (f:=f) l
  cases h:f j with
  |none=>rw[List.filterMap_cons_none (by rw[h];rfl),List.filter_cons_of_neg (by rw[h];simp)];exact a
  |some n=>rw[List.filterMap_cons_some (b:=(j,n)) (by rw[h];rfl),List.filter_cons_of_pos (by rw[h];rfl),Xv,a]
def jH(os:List O)(a:Nat)(ls:List L)(i:Nat):((bH os a ls i).map Prod.fst).Nodup:=by
 unfold bH;rw[Pc (f:=λj=>zq os a (ls.getD j L0).id)];exact((Af ls).sublist (xaq _ _)).filter _
def nW(h:zq os a (ls.getD i L0).id=some n)(b:i<ls.length):(i,n)∈bH os a ls ls.length:=by
 unfold bH;refine List.mem_filterMap.2 ⟨i,?_,by rw[h];rfl⟩;rw[Xy (by rw[bX];exact xe _)];exact eH.2 b
def dH(os:List O)(a:Nat)(ls:List L)(l:List (Nat×Nat)):List O:=l.foldl (λos p=>Za os a (ls.getD p.1 L0).id) os
def Ev(l:L)(n:Nat):L:={ l with hd:=l.hd-n }
def FW(os:List O)(a:Nat)(ls:List L)(l:List (Nat×Nat))(p:Nat×Nat):dH os a ls (l++[p])=Za (dH os a ls l) a (ls.getD p.1 L0).id:=by
 unfold dH;rw[xbl];rfl
def Qi(os:List O)(a:Nat)(ls:List L):cD Ev ls (bH os a ls ls.length)=ls.map (gL os a):=by
 apply wG
 ·rw[aN];simp
 intro i b;rw[aN]at b;rw[aJ b]
 cases h:zq os a (ls.getD i L0).id with
 |some n=>
  rw[yL Ev _ _ (jH os a ls _) (nW h b) b];unfold Ev gL;rw[h];rfl
 |none=>
  rw[bN]
  ·unfold gL;rw[h];rfl
  intro c;obtain⟨p,d,rfl⟩:=Xz.1 c;have:=(dM d).2;rw[h]at this;cases this
def CD(os:List O)(a b:Nat):(Za os a b).map O.id=os.map O.id:=by
 unfold Za;rw[xac];congr 1;funext o;exact kZ a b o
def Aw(h:∀o∈os,(o.li.map Prod.fst).Nodup):∀o∈Za os a b,(o.li.map Prod.fst).Nodup:=by
 intro o e;obtain⟨d,c,rfl⟩:=Xz.1 e;unfold CE;split
 ·exact(h d c).sublist ((xbF (l:=d.li)).map _)
 exact h d c
structure Vd(os:List O)(a:Nat)(ls:List L)(l:List (Nat×Nat)):Prop where
 ids:((dH os a ls l).map O.id)=os.map O.id
 keys:∀o∈dH os a ls l,(o.li.map Prod.fst).Nodup
 line:∀a' b',zq (dH os a ls l) a' b'=if a'=a/\(∃p∈l,(ls.getD p.1 L0).id=b') then none else zq os a' b'
def Ws{ls:List L}(a:Nat):∀(l:List (Nat×Nat)) {os:List O},(∀o∈os,(o.li.map Prod.fst).Nodup)->Vd os a ls l
 |[],os,hk=>⟨rfl,hk,λh i=>by simp[dH]⟩
 |q::l,os,hk=>by
  have k:=Ws (ls:=ls) a l (Aw (a:=a) (b:=(ls.getD q.1 L0).id) hk);have e:dH os a ls (q::l)=dH (Za os a (ls.getD q.1 L0).id) a ls l:=rfl;refine⟨by rw[e,k.ids,CD],by rw[e];exact k.keys,λh i=>?_⟩;rw[e,k.line,lK];by_cases j:h=a/\∃p∈l,(ls.getD p.1 L0).id=i
  ·obtain⟨f,p,c,g⟩:=j;rw[xh ⟨f,p,c,g⟩,xh ⟨f,p,xae _ c,g⟩]
  rw[xg j];by_cases d:h=a/\i=(ls.getD q.1 L0).id
  ·rw[xh d,xh ⟨d.1,q,by simp,d.2.symm⟩]
  rw[xg d,xg];rintro⟨f,p,c,g⟩;rcases xz.1 c with rfl|c
  ·exact d ⟨f,g.symm⟩
  exact j ⟨f,p,c,g⟩
def jJ(a:(os.map O.id).Nodup){o:O}(c:o∈os):os.find? (λd=>d.id==o.id)=some o:=by
 induction os with
 |nil=>simp at c
 |cons x os ih=>
  simp only[Xv,yj]at a;rcases xz.1 c with rfl|h
  ·simp
  have b:(x.id==o.id)=false:=by
   rw[xr];intro e;exact a.1 (by rw[e];exact Xu h)
  simp only[List.find?,b];exact ih a.2 h
def IQ(m:Good os ls)(a:Nat):∀o∈dH os a ls (bH os a ls ls.length),o.id=a->o.li=[]:=by
 intro o A s;have x:=Ws (ls:=ls) a (bH os a ls ls.length) m.keys;have z:((dH os a ls (bH os a ls ls.length)).map O.id).Nodup:=by rw[x.ids];exact m.oids
 have w:=jJ z A;have f:∀b,o.li.lookup b=none:=λb=>by
  have k:=x.line a b;have e:zq (dH os a ls (bH os a ls ls.length)) a b=o.li.lookup b:=by unfold zq;rw[s]at w;rw[w];rfl
  rw[e]at k;rw[k];by_cases l:∃p∈bH os a ls ls.length,(ls.getD p.1 L0).id=b
  ·rw[xh ⟨rfl,l⟩]
  rw[xg (λq=>l q.2)]
  cases c:zq os a b with
  |none=>rfl
  |some n=>
   exfalso
   have h:=c;unfold zq at c
   cases d:os.find? (λo=>o.id==a) with
   |none=>rw[d]at c;cases c
   |some o' =>
    rw[d]at c;simp only[xk]at c;have i:b∈o'.li.map Prod.fst:=yx λu=>by rw[Zw.2 u]at c;cases c
    obtain⟨p,B,v⟩:=Xz.1 i;obtain⟨j,y,t⟩:=m.mem o' (xaS d) p B;have g:(ls.getD j L0).id=b:=by rw[t,v]
    exact l ⟨(j,n),nW (by rw[g];exact h) y,g⟩
 cases k:o.li with
 |nil=>rfl
 |cons p r=>
  have:=f p.1
  rw[k]at this;simp[List.lookup]at this
def tE(os:List O)(a b:Nat):(Za os a b).filter (λo=>o.id != a)=os.filter (λo=>o.id != a):=by
 induction os with
 |nil=>rfl
 |cons o os ih=>
  have c:(os.map (CE a b)).filter (λo=>o.id != a)=os.filter (λo=>o.id != a):=ih;simp only[Za,Xv,List.filter,kZ];by_cases h:o.id=a
  ·simp[h,c]
  have d:(o.id != a)=true:=by simp[h]
  have hd:CE a b o=o:=by unfold CE;rw[xg h]
  simp[d,c,hd]
def fO(a:Nat)(ls:List L):∀(l:List (Nat×Nat)) (os:List O),(dH os a ls l).filter (λo=>o.id != a)=os.filter (λo=>o.id != a)
 |[],os=>rfl
 |p::l,os=>by
  show(dH (Za os a (ls.getD p.1 L0).id) a ls l).filter (λo=>o.id != a)=_;rw[fO a ls l,tE]
def eJ{a b:Nat}(d:¬b=a):∀os:List O,(os.filter (λo=>o.id != a)).find? (λo=>o.id==b)=os.find? (λo=>o.id==b)
 |[]=>rfl
 |o::os=>by
  by_cases e:o.id=a
  ·have f:(o.id != a)=false:=by simp[e]
   have c:(o.id==b)=false:=by simp;omega
   simp only[List.filter,List.find?,f,c];exact eJ d os
  have c:(o.id != a)=true:=by simp[e]
  simp only[List.filter,c,List.find?]
  cases g:o.id==b with
  |true=>rfl
  |false=>exact eJ d os
def kM{a n:Nat}(b:¬n=a):∀os:List O,os.any (λo=>o.id==n)=(os.filter (λo=>o.id != a)).any (λo=>o.id==n)
 |[]=>rfl
 |o::os=>by
  by_cases c:o.id=a
  ·have d:(o.id != a)=false:=by simp[c]
   have f:(o.id==n)=false:=by simp;omega
   simp only[xaF,f,xbY,List.filter,d];exact kM b os
  have e:(o.id != a)=true:=by simp[c]
  simp only[xaF,List.filter,e];rw[kM b os]
variable {D:DataW Unit}
def HD.final(h:HD os D){a:Nat}(i:∀o∈os,o.id=a->o.li=[]):HD (os.filter (λo=>o.id != a)) D:=by
 have j:∀b c,zq (os.filter (λo=>o.id != a)) b c=zq os b c:=λb c=>by
  unfold zq;by_cases k:b=a
  ·subst k;have e:(os.filter (λo=>o.id != b)).find? (λo=>o.id==b)=none:=by
    rw[YC];intro o g m;have:=Yk.1 g;simp at this m;exact this.2 m
   rw[e]
   cases l:os.find? (λo=>o.id==b) with
   |none=>rfl
   |some o=>
    have:=i o (xaS l) (by simpa using List.find?_some l)
    simp[this,List.lookup]
  rw[eJ k]
 have p:Zc (os.filter (λo=>o.id != a))=Zc os:=by
  clear h j;induction os with
  |nil=>rfl
  |cons o os ih=>
   have d:=ih (λq n=>i q (by simp[n]));by_cases g:o.id=a
   ·have:=i o (by simp) g
    simp only[List.filter,g,xbm];rw[d];simp[Zc,this]
   have f:(o.id != a)=true:=by simp[g]
   simp only[List.filter,f,Zc,Xv,XZ]at d ⊢;rw[d]
 exact⟨by rw[h.size,p],λb c e f=>by rw[j];exact h.has b c e f,λb c e f=>by rw[j];exact h.val b c e f⟩
def OD.del{os:List O}{D:DataW Unit}(h:OD os D)(w:Maps.Tidy D)(j:(os.map O.id).Nodup){a:Nat}(v:a<=2147483647)(g:os.any (λo=>o.id==a)=true):OD (os.filter (λo=>o.id != a)) (D.del (dT a)):=by
 have i:∀(os:List O),(os.map O.id).Nodup->(os.filter (λo=>o.id != a)).length+(if os.any (λo=>o.id==a) then 1 else 0)=os.length:=by
  intro os;induction os with
  |nil=>intro _;rfl
  |cons o os ih=>
   intro j;simp only[Xv,yj]at j;have d:=ih j.2;by_cases b:o.id=a
   ·have m:os.any (λo=>o.id==a)=false:=by
     rw[Yn];intro x y c;exact j.1 (by rw[b];have:x.id=a:=(by simpa using c);rw[<-this];exact Xu y)
    rw[m]at d;simp only[List.filter,b,xbm,xaF,xch,Bool.true_or,Yo,List.length_cons];simp at d;simpa using d
   have t:(o.id != a)=true:=by simp[b]
   have u:(o.id==a)=false:=by simp[b]
   simp only[List.filter,t,xaF,u,xbY,List.length_cons];omega
 refine⟨?_,λn c=>?_,λn c=>?_,λp l=>?_⟩
 ·have r:=Maps.size_del (k:=dT a) w;rw[h.has a v,g,h.size]at r;have s:=i os j;rw[g]at s;simp only[Yo]at r s;omega
 ·by_cases e:n=a
  ·subst e;rw[xaI,eq_comm,Yn];intro o b f;have:=(Yk.1 b).2;simp at this f;exact this f
  rw[xaD (λq=>e (gP q)),h.has n c];exact kM e os
 ·by_cases e:n=a
  ·subst e;rw[Maps.atKey_del_same];unfold Zu;have:(os.filter (λo=>o.id != n)).find? (λo=>o.id==n)=none:=by
    rw[YC];intro o b f;have:=(Yk.1 b).2;simp at this f;exact this f
   rw[this];rfl
  rw[Maps.atKey_del_other (λq=>e (gP q)),h.val n c];unfold Zu;rw[eJ e]
 by_cases c:p=dT a
 ·subst c;rw[xaI]at l;cases l
 rw[xaD c]at l;obtain⟨o,b,e⟩:=h.keys p l;refine⟨o,Yk.2 ⟨b,?_⟩,e⟩;have:o.id≠a:=λx=>c (by rw[e,x])
 simpa using this
def OD.line(h:OD os D)(a b:Nat):OD (Za os a b) D:=by
 have d:∀n,Zu (Za os a b) n=Zu os n:=λn=>by
  unfold Zu Za;rw[List.find?_map];have e:((λo:O=>o.id==n)∘CE a b)=λo=>o.id==n:=by funext o;simp[kZ]
  rw[e]
  cases os.find? (λo=>o.id==n) with
  |none=>rfl
  |some o=>simp only[xag];unfold CE;split<;>rfl
 refine⟨by rw[h.size];simp[Za],λn c=>by rw[h.has n c,PM],λn c=>by rw[d];exact h.val n c,λi f=>?_⟩;obtain⟨o,g,e⟩:=h.keys i f;exact⟨CE a b o,Xu g,by rw[kZ];exact e⟩
def wM{o:O}(a:o∈os)(b:Nat):ZV o b<=zD os b:=by
 induction os with
 |nil=>simp at a
 |cons x os ih=>
  simp only[zD,Xv,XZ]at ih ⊢;rcases xz.1 a with rfl|h
  ·omega
  have:=ih h;omega
def lL(h:zq os a b=some n):n<=zD os b:=by
 unfold zq at h
 cases c:os.find? (λo=>o.id==a) with
 |none=>rw[c]at h;cases h
 |some o=>
  rw[c]at h;simp only[xk]at h;have:=wM (xaS c) b;unfold ZV at this;rw[h]at this;simpa using this
variable {w:World}
def sB{Z:Nat->Prop}{w':World}(h:w.mapTurned w' b)(a:Z b):Kp Z w w':=jM h.grown a
variable {l:L}
def SB(h:L.Ok l)(n:Nat):L.Ok (Ev l n):=⟨h.id,h.gd,h.ex,h.place,(by have:=h.sum;show l.free+(l.hd-n)+l.sh+l.sc+l.gv<=2147483647;omega),h.got,h.par⟩
def VQ(w:World):Below w.heap.size w w.drew:=(xm _ _).drew
variable {v:Value}
def oH{B b:Nat}{e:TypeId}{size:Nat}{xs:List Value}(h:w.ownsRow B e size v n xs)(i:b<=B):w.ownsRow b e size v n xs:=by
 refine⟨h.1,?_⟩;rcases h.2 with h|⟨g,cap,a,c,d,f⟩
 ·exact Or.inl h
 exact Or.inr ⟨g,cap,a,c,xj i d,f⟩
variable {M:Mx}{bs:List Nat}{pvs:List Value}{rj:List (Nat×Nat)}
def qW(h:PV os rj w S M v td bs pvs ls)(t:∀i j,i<ls.length->j<ls.length->(ls.getD i L0).id=(ls.getD j L0).id->i=j)(a:Nat)(ha:a<=2147483647):Calls prog 128 #[.pointer (some ⟨S,0,none⟩),.int .i64 a] w λe w'=>Below w.heap.size w w'/\∃lv,e=.returned lv/\w'.ownsRow w.heap.size 241 2 lv (bH os a ls ls.length).length (zk bs (bH os a ls ls.length)):=by
 obtain⟨i0,hi,a7,a8,a9⟩:=XT wU;have a6:=h.room;have K:=zb (fL h t);have a0:=zb h;clear h t;go_enter func128,ntmps128;go_wp2_with (go_at_call 123;refine K.mono ?_;rintro e w1 ⟨P,pa,b2,rfl,N⟩);have f:=zb P;have T:=zb N;clear P N K;go_wp2_with fail;go_loopw [5,7,8,9,13] (λlv _ _ _ ii wr=>∃k:Nat,ii=.int .i64 k/\k<=ls.length/\Below w1.heap.size w1 wr/\wr.ownsRow w1.heap.size 241 2 lv (bH os a ls k).length (zk bs (bH os a ls k))) (λ_ _ _ _ ii _=>ls.length-(intOf ii).toNat)
 case atStart=>exact⟨0,rfl,by omega,xm _ _,Xx _ _ _ _⟩
 obtain⟨k,rfl,hk,B,b⟩:=hrel;obtain⟨la,x,a3⟩:=zj b;subst a3;have a5:=jI os a ls k;by_cases p:k<ls.length
 ·have C:Below w.heap.size w wr:=f.trans (B.mono f.size);have d:=a0.below C;obtain⟨G,rfl,_,b1,a1⟩:=(T.below B) k (by rw[bX];exact p);have hj:=vU p;have g:=zb (λn=>MV (os:=os) (a:=a) (n:=n) p);have c:=zb (IN (os:=os) (a:=a) p);generalize (VO ls).getD k 0=j at *;have m:=d.lot j hj;have E:=d.ok _ (zf hj);have a2:=E.id;have b3:=d.c3;obtain⟨Dh,s,A⟩:=d.maps.h;have D:=Tf (w:=wr.drew) (zu s ((VQ wr).block M.h (XG s))) A a (ls.getD j L0).id ha a2;have c0:wr.cell? ⟨bs.getD j 0,0,none⟩=some (.int .i64 ((ls.getD j L0).id:Int)):=by rw[za m];rfl
  have y:=zb B;have F:=zb b
  cases H:zq os a (ls.getD j L0).id with
  |none=>
   rw[H]at D;have X:=zb (c H);generalize (ls.getD j L0).id=idk at *;generalize bs.getD j 0=bk at *;clear m E s A H d b B C g c;go_wp2_with fail;go_region;go_wp2_with fail;go_roundw
   case rel=>exact⟨k+1,by go_num,by omega,y.trans ((VQ wr).mono y.size),by rw[X.o];exact zg F (VQ wr)⟩
   simp[intOf];omega
  |some n=>
   rw[H]at D;have X:=zb (g n H);generalize (ls.getD j L0).id=idk at *;obtain⟨bk,J⟩:=Ww (bs.getD j 0);rw[<-J.o]at a1 c0;obtain⟨ql,z⟩:=Ww ((bH os a ls k).length);rw[<-z.o]at F a5;rw[show(Value.slice la (bH os a ls k).length x)=Value.slice la ql x by rw[z.o]];clear m E s A H d b B C g c;go_wp2_with fail;go_region;clear D;have b4:w1.heap.size<=wr.heap.size:=y.size;go_wp2_with (at_builtin;refine Xr _ rfl _ _ 197 rfl w1.heap.size 241 i0 (.agg #[.pointer none,.int .i64 0]) 2 16 yF hi a7 a8 a9 rfl (by decide) _ ql (zk bs (bH os a ls k)) rfl ((zg F (VQ wr)).alloc _) ⟨wr.heap.size,0,none⟩ 1 1 [.pointer (some ⟨bk,0,none⟩),.int .i64 n] rfl rfl ?c1 ?c2 ?c3 ?c4 ?c5 ?_)
   case c1=>intro q u R;have:=Yt wr (.pointer (some ⟨bk,0,none⟩)) (.int .i64 n) 241 q u R;simpa using this
   case c2=>intro u R;simp at R;rcases R with rfl|rfl<;>rfl
   case c3=>unfold maxLen;omega
   case c4=>omega
   case c5=>simp;omega
   intro b0 w6 r l a4;have q1:Below w1.heap.size w1 wr.drew:=y.trans ((VQ wr).mono y.size);have Q:Below w1.heap.size w1 w6:=(q1.alloc q1.size _).grown l (by have:=q1.size;simp at *;omega) (λq hq=>(F.lt q hq).1);have Z:Ha (w6.ownsRow w1.heap.size 241 2 b0 (bH os a ls (k+1)).length (zk bs (bH os a ls (k+1)))):=by
    unfold Ha;rw[X.o,aH,xc,Xw,<-z.o,<-J.o];exact r
   have W:=zb Q;clear r l a4 Q;go_wp2_with fail;go_roundw
   case rel=>exact⟨k+1,by go_num,by omega,W,Z⟩
   simp[intOf];omega
 obtain rfl:k=ls.length:=by omega
 have y:=zb (f.trans (B.mono f.size));have F:=zb b;clear B b p;go_wp2_with fail;go_ret;exact⟨y,_,rfl,oH F f.size⟩
def IP(h:PV os rj w S M v td bs pvs ls)(b8:Good os ls)(a:Nat)(ha:a<=2147483647)(b3:os.any (λo=>o.id==a)=true):Calls prog 154 #[.pointer (some ⟨S,0,none⟩),.int .i64 a] w λe w'=>Kp (λk=>k=M.o\/k=M.h\/k∈bs) w w'/\PV (os.filter (λo=>o.id != a)) rj w' S M v td bs pvs (ls.map (gL os a))/\∃lv,e=.returned lv/\w'.ownsRow 0 241 2 lv (bH os a ls ls.length).length (zk bs (bH os a ls ls.length)):=by
 have c5:=h.room;have c9:=zb (qW h b8.ids a ha);have d2:=zb h;have Q:=zb b8;have c6:=zb b3;clear h b8 b3;go_enter func154,ntmps154;go_wp2_with (go_at_call 128;refine c9.mono ?_;rintro e w1 ⟨b6,lv,rfl,b2⟩;obtain⟨la,a8,g4⟩:=zj b2;subst g4);have d6:Ha (∀p∈bH os a ls ls.length,p.1<ls.length/\zq os a (ls.getD p.1 L0).id=some p.2):=λp hp=>dM hp
 have d7:Ha (((bH os a ls ls.length).map Prod.fst).Nodup):=jH os a ls _;have b9:(bH os a ls ls.length).length<=30:=xj (jI os a ls _) c5;obtain⟨l,HL⟩:=Ww (bH os a ls ls.length);rw[<-HL.o]at d6 d7 b2 b9;rw[<-HL.o];have d3:=zb (d2.below b6);have c8:Ha (Kp (λk=>k=M.o\/k=M.h\/k∈bs) w w1):=Wo b6;have d1:=zb (aK b2);clear b6 b2 c9 d2;go_wp2_with fail;go_loopw [7,13] (λ_ ii wr=>∃k:Nat,ii=.int .i64 k/\k<=l.length/\Kp (λk=>k=M.o\/k=M.h\/k∈bs) w wr/\PV (dH os a ls (l.take k)) rj wr S M v td bs pvs (cD Ev ls (l.take k))/\wr.ownsRow 0 241 2 (.slice la l.length a8) l.length (zk bs l)) (λ_ ii _=>l.length-(intOf ii).toNat)
 case atStart=>exact⟨0,rfl,by omega,c8,d3,d1⟩
 clear d3 d1 c8;obtain⟨k,rfl,hk,b1,F,s⟩:=hrel;by_cases a4:k<l.length
 ·obtain⟨G,rfl,g7,g1,g2⟩:=ZW s k a4;have f2:l.getD k (0,0)∈l:=by simp[Wc,a4]
  have et:l.take (k+1)=l.take k++[l.getD k (0,0)]:=by
   rw[xn a4];simp[Wc,a4]
  obtain⟨hc,e6⟩:=d6.o _ f2;have P:(l.getD k (0,0)).1 ∉ (l.take k).map Prod.fst:=by
   have:=d7.o
   have e2:l.map Prod.fst=((l.take k).map Prod.fst++[(l.getD k (0,0)).1])++(l.drop (k+1)).map Prod.fst:=by
    conv=>lhs;rw[<-yu (k+1) l,et]
    simp
   rw[e2]at this;have:=(XP.1 (XP.1 this).1).2.2;intro z;exact this _ z _ (by simp) rfl
  generalize g5:l.getD k (0,0)=p at *;obtain⟨c,n⟩:=p;simp only at *;clear g5 f2;have W:(cD Ev ls (l.take k)).length=ls.length:=aN _ _ _;have y:(cD Ev ls (l.take k)).getD c L0=ls.getD c L0:=bN Ev _ _ P;have N:=F.lot c (by rw[W];exact hc);rw[y]at N;have a6:=F.ok _ (zf (k:=c) (by rw[W];exact hc));rw[y]at a6;have e3:=a6.id;have f4:=a6.sum;have a3:bs.getD c 0∈bs:=zH (by rw[F.len,W];exact hc);have j:=Ws (ls:=ls) a (l.take k) Q.keys;have hn:n<=(ls.getD c L0).hd:=by rw[Q.o.hd c hc];exact lL e6
  have hB:=VE wr (.cells #[.pointer (some ⟨bs.getD c 0,0,none⟩),.int .i64 n] 241);have A:=xp wr (.cells #[.pointer (some ⟨bs.getD c 0,0,none⟩),.int .i64 n] 241);have e1:=zc N;have b4:=(hB.block _ e1).trans N;have d9:=F.c3;have z:=F.maps;obtain⟨Dh,D,a9⟩:=F.maps.h;have K:Mu (wr.alloc (.cells #[.pointer (some ⟨bs.getD c 0,0,none⟩),.int .i64 n] 241)).drew M.h (Maps.size Dh) Dh:=zu D (hB.block M.h (XG D));obtain⟨C,f3,t,f⟩:=xbO K wY TF (Db ha e3) 0;have d:=f.grown;have B:Maps.Tidy Dh:=Yj D wY;have u:=a9.del B ha e3 (by rw[j.ids];exact Q.oids) j.keys;have b7:dH os a ls (l.take (k+1))=Za (dH os a ls (l.take k)) a (ls.getD c L0).id:=by rw[et,FW]
  rw[<-b7]at u;have b5:=F.below hB.drew;have Z:Mp (dH os a ls (l.take (k+1))) rj C M:=by
   have e8:=b5.maps;obtain⟨Dr,X,a1⟩:=e8.r;obtain⟨Do,E,b0⟩:=e8.o;exact⟨⟨Dr,zu X (d.block M.r (XG X) (λe=>z.rh (xt e))),a1⟩,z.rc,⟨Do,zu E (d.block M.o (XG E) (λe=>z.oh (xt e))),by rw[b7];exact b0.line a _⟩,⟨_,Z7 t,u⟩,z.ro,z.rh,z.oh⟩
  have R:PV (dH os a ls (l.take (k+1))) rj C S M v td bs pvs (cD Ev ls (l.take k)):=b5.mapsTo (λq hq h1 h2=>d.block q hq (λe=>h2 (xt e))) Z;have g:=R.lot c (by rw[W];exact hc);rw[y]at g;have a7:(C.setCell ⟨bs.getD c 0,7,none⟩ (.int .i64 (((ls.getD c L0).hd:Int)-(n:Int)))).heap[bs.getD c 0]?=some (.cells (zm (Ev (ls.getD c L0) n) (pvs.getD c default)) 231 (0,0)):=by
   have e:(((ls.getD c L0).hd:Int)-(n:Int))=(((ls.getD c L0).hd-n:Nat):Int):=by omega
   rw[e];exact xu C (bs.getD c 0) 7 _ 231 (.int .i64 (((ls.getD c L0).hd-n:Nat):Int)) g
  have e7:cD Ev ls (l.take (k+1))=(cD Ev ls (l.take k)).set c (Ev (ls.getD c L0) n):=by rw[et,eE,y]
  have d8:PV (dH os a ls (l.take (k+1))) rj (C.setCell ⟨bs.getD c 0,7,none⟩ (.int .i64 (((ls.getD c L0).hd:Int)-(n:Int)))) S M v td bs pvs (cD Ev ls (l.take (k+1))):=by
   rw[e7];exact R.lotset (i:=c) (by rw[W];exact hc) (SB a6 n) (by rw[y];rfl) a7 (λq _ hq=>xd _ _ _ _ hq)
  have e5:Kp (λk=>k=M.o\/k=M.h\/k∈bs) w (C.setCell ⟨bs.getD c 0,7,none⟩ (.int .i64 (((ls.getD c L0).hd:Int)-(n:Int)))) :=
   (b1.trans (Kp.before hB.drew (sB f (Or.inl (Or.inl (Or.inr (Or.inl rfl))))))).setCell (p:=⟨bs.getD c 0,7,none⟩) (Or.inl (Or.inr (Or.inr a3))) _
  have J:=zg s hB.drew;have f1:(C.setCell ⟨bs.getD c 0,7,none⟩ (.int .i64 (((ls.getD c L0).hd:Int)-(n:Int)))).ownsRow 0 241 2 (.slice (some ⟨G,0,none⟩) l.length a8) l.length (zk bs l):=zd J (λb hb=>by
   obtain⟨cs,T⟩:=zh J hb;obtain⟨es,c2,a5⟩:=ZP K;have q1:=d.block b (zc T) (λe=>zX T a5 (xt e));rw[xd _ _ _ _ (zt (q1.trans T) g (by decide)),q1])
  have H:C.heap[wr.heap.size]?=some (.cells #[.pointer (some ⟨bs.getD c 0,0,none⟩),.int .i64 n] 241):=by
   obtain⟨es,c2,a5⟩:=ZP K;exact(d.block wr.heap.size (by have:=zc A;exact this) (λe=>zX A a5 (xt e))).trans A
  have d0:(wr.alloc (.cells #[.pointer (some ⟨bs.getD c 0,0,none⟩),.int .i64 n] 241)).cell? ⟨wr.heap.size,0,none⟩=some (.pointer (some ⟨bs.getD c 0,0,none⟩)):=by rw[za A];rfl
  have d4:C.cell? ⟨wr.heap.size,0,none⟩=some (.pointer (some ⟨bs.getD c 0,0,none⟩)):=by rw[za H];rfl
  have d5:C.cell? ⟨wr.heap.size,1,none⟩=some (.int .i64 n):=by rw[za H];rfl
  have e0:(wr.alloc (.cells #[.pointer (some ⟨bs.getD c 0,0,none⟩),.int .i64 n] 241)).cell? ⟨bs.getD c 0,0,none⟩=some (.int .i64 ((ls.getD c L0).id:Int)):=by rw[za b4];rfl
  have xS:(wr.alloc (.cells #[.pointer (some ⟨bs.getD c 0,0,none⟩),.int .i64 n] 241)).cell? ⟨S,3,none⟩=some (.map (some M.h)):=(hB.cell (by exact zc F.store)).trans d9;have c7:C.cell? ⟨bs.getD c 0,7,none⟩=some (.int .i64 ((ls.getD c L0).hd:Int)):=by rw[za g];rfl
  have f7:=ze g 7;have g3:=zb d8;have f6:=zb e5;have f9:=zb f1;have g8:(ls.getD c L0).hd<=2147483647:=by omega
  generalize (ls.getD c L0).id=idk at *;generalize (ls.getD c L0).hd=hdk at *;generalize bs.getD c 0=bc at *;clear j N a6 f4 a3 e6 P W y D a9 F s b1 z K t f d B u b7 b5 Z R g a7 e7 d8 e5 J f1 b4 d9 et hc H;have g6:¬wr.heap.size=bc:=by omega
  go_wp2_with fail;generalize (wr.alloc (.cells #[.pointer (some ⟨bc,0,none⟩),.int .i64 n] 241))=wb at *
  clear A hB;go_region;go_wp2_with fail;go_region;go_wp2_with fail;go_roundw
  case rel=>exact⟨k+1,by go_num,by omega,f6.after ((xm _ _).drew),g3.below ((xm _ _).drew),zg f9 ((xm _ _).drew)⟩
  simp[intOf];omega
 obtain rfl:k=l.length:=by omega
 rw[Xs,HL.o,Qi]at F;rw[HL.o]at s ⊢;obtain⟨Do,E,b0⟩:=F.maps.o;obtain⟨C,f3,t,f⟩:=xbO E AV Ii (qS ha) 0;have d:=f.grown;have B:Maps.Tidy Do:=Yj E AV;have j:=Ws (ls:=ls) a (bH os a ls ls.length) Q.keys;have e9:((dH os a ls (bH os a ls ls.length)).map O.id).Nodup:=by rw[j.ids];exact Q.oids
 have a2:(dH os a ls (bH os a ls ls.length)).any (λo=>o.id==a)=true:=by
  have e:∀(l m:List O),l.map O.id=m.map O.id->l.any (λo=>o.id==a)=m.any (λo=>o.id==a):=λl m he=>by
   have:∀x:List O,x.any (λo=>o.id==a)=(x.map O.id).any (λn=>n==a):=λx=>by rw[List.any_map];rfl
   rw[this,this,he]
  rw[e _ _ j.ids];exact c6
 have a0:=b0.del B e9 ha a2;rw[fO a ls (bH os a ls ls.length) os]at a0;have Z:Mp (os.filter (λo=>o.id != a)) rj C M:=by
  have z:=F.maps;obtain⟨Dr,X,a1⟩:=z.r;obtain⟨Dh,D,a9⟩:=z.h;have u:=a9.final (IQ Q a);rw[fO a ls (bH os a ls ls.length) os]at u;exact⟨⟨Dr,zu X (d.block M.r (XG X) (λe=>z.ro (xt e))),a1⟩,z.rc,⟨_,Z7 t,a0⟩,⟨Dh,zu D (d.block M.h (XG D) (λe=>z.oh (xt e).symm)),u⟩,z.ro,z.rh,z.oh⟩
 have R:PV (os.filter (λo=>o.id != a)) rj C S M v td bs pvs (ls.map (gL os a)):=F.mapsTo (λq hq h1 h2=>d.block q hq (λe=>h1 (xt e))) Z;have f0:C.ownsRow 0 241 2 (.slice la (bH os a ls ls.length).length a8) (bH os a ls ls.length).length (zk bs (bH os a ls ls.length)):=aK (zd s (λb hb=>by
  obtain⟨cs,T⟩:=zh s hb;obtain⟨es,c2,a5⟩:=ZP E;exact d.block b (zc T) (λe=>zX T a5 (xt e))))
 have e4:Kp (λk=>k=M.o\/k=M.h\/k∈bs) w C:=b1.trans (sB f (Or.inl (Or.inl rfl)));have s2:=F.c2;have g0:=zb R;have f8:=zb f0;have f5:=zb e4;clear a4 F E b0 t f d B j e9 a2 a0 Z R f0 e4 s b1;go_wp2_with fail;go_ret;exact⟨f5,g0,_,rfl,f8⟩
def Zk(l:L)(n:Nat):L:={ l with free:=l.free+n }
def Zl(l:L)(n:Nat):L:={ l with sh:=l.sh+n }
def fF(g:L->Nat->L)(os:List O)(a:Nat)(l:L):L :=
 match zq os a l.id with
 |some n=>g { l with hd:=l.hd-n } n
 |none=>l
def Mb(g:L->Nat->L)(os:List O)(a:Nat)(ls:List L):cD g (ls.map (gL os a)) (bH os a ls ls.length)=ls.map (fF g os a):=by
 apply wG
 ·rw[aN];simp
 intro i b;rw[aN,List.length_map]at b;rw[aJ b]
 cases h:zq os a (ls.getD i L0).id with
 |some n=>
  rw[yL g _ _ (jH os a ls _) (nW h b) (by simpa using b),aJ b];unfold fF gL;rw[h];rfl
 |none=>
  rw[bN,aJ b]
  ·unfold fF gL;rw[h];rfl
  intro c;obtain⟨p,d,rfl⟩:=Xz.1 c;have:=(dM d).2;rw[h]at this;cases this
def nZ(h:os.any (λo=>o.id==a)=false)(g:L->Nat->L)(ls:List L):ls.map (fF g os a)=ls/\os.filter (λo=>o.id != a)=os:=by
 have d:os.find? (λo=>o.id==a)=none:=by
  rw[YC];intro o c;exact Yn.1 h o c
 have e:∀b,zq os a b=none:=λb=>by unfold zq;rw[d];rfl
 constructor
 ·conv=>rhs;rw[<-xba ls]
  apply ye
  intro l _;unfold fF;rw[e];rfl
 rw[xbG];intro o c;have:=Yn.1 h o c;simpa using this
def fE(os:List O)(a:Nat):Nat:=if os.any (λo=>o.id==a) then 0 else 9
def Jg(h:L.Ok l){os:List O}{a n:Nat}(b:zq os a l.id=some n)(c:n<=l.hd):L.Ok (Zk (gL os a l) n):=⟨h.id,h.gd,h.ex,h.place,(by have:=h.sum;show l.free+n+(l.hd-(zq os a l.id).getD 0)+l.sh+l.sc+l.gv<=2147483647;rw[b];show l.free+n+(l.hd-n)+l.sh+l.sc+l.gv<=2147483647;omega),h.got,h.par⟩
def Lj(h:L.Ok l){os:List O}{a n:Nat}(b:zq os a l.id=some n)(c:n<=l.hd):L.Ok (Zl (gL os a l) n):=⟨h.id,h.gd,h.ex,h.place,(by have:=h.sum;show l.free+(l.hd-(zq os a l.id).getD 0)+(l.sh+n)+l.sc+l.gv<=2147483647;rw[b];show l.free+(l.hd-n)+(l.sh+n)+l.sc+l.gv<=2147483647;omega),h.got,h.par⟩
def FR(h:PV os rj w S M v td bs pvs ls)(A:Good os ls)(a:Nat)(ha:a<=2147483647):Calls prog 102 #[.pointer (some ⟨S,0,none⟩),.agg #[.int .i64 a]] w λe w'=>Kp (λk=>k=M.o\/k=M.h\/k∈bs) w w'/\e=.returned (.int .i64 (fE os a:Int))/\PV (os.filter (λo=>o.id != a)) rj w' S M v td bs pvs (ls.map (fF Zk os a)):=by
 have F:=VE w (Obj.cells #[.int .i64 a] 158);have a2:=xp w (Obj.cells #[.int .i64 a] 158);have s:=h.below F;have P:=zb (bT s a ha)
 cases b:os.any (λo=>o.id==a) with
 |false=>
  have HC:Ha (fE os a=9):=by unfold Ha fE;rw[b];rfl
  have HN:=zb (nZ b Zk ls);rw[b]at P;have HP:=zb s;clear s h b A;go_enter func102,ntmps102;go_wp2_with (go_at_call 150;with_reducible refine(P.o).mono ?_;rintro e w1 ⟨rfl,rfl⟩);go_ret;exact⟨Wo F,by rw[HC.o];rfl,by rw[HN.o.1,HN.o.2];exact HP⟩
 |true=>
  have HC:Ha (fE os a=0):=by unfold Ha fE;rw[b];rfl
  have HE:=zb (IP s A a ha b);rw[b]at P;have b1:=zb A;have b3:=zb h.ok;have N:=h.room;have k0:(w.alloc (Obj.cells #[.int .i64 a] 158)).cell? ⟨w.heap.size,0,none⟩=some (.int .i64 a):=by rw[za a2];rfl
  have b0:=zb F;clear s h b A a2;go_enter func102,ntmps102;go_wp2_with (first|(go_at_call 150;with_reducible refine(P.o).mono ?_;rintro e w1 ⟨rfl,rfl⟩)|fail)
  with_reducible refine(HE.o).mono ?_
  rintro e w2 ⟨a3,Z,lv,rfl,K⟩;obtain⟨la,E,c5⟩:=zj K;subst c5;have c7:(bH os a ls ls.length).length<=30:=xj (jI os a ls _) N;have Q:Ha (Kp (λk=>k=M.o\/k=M.h\/k∈bs) w w2):=Kp.before b0 (a3.mono (λk hk=>Or.inl hk));have b5:Ha (∀p∈bH os a ls ls.length,p.1<ls.length/\zq os a (ls.getD p.1 L0).id=some p.2):=λp hp=>dM hp
  have b6:Ha (((bH os a ls ls.length).map Prod.fst).Nodup):=jH os a ls _;have b8:=zb (Mb Zk os a ls);generalize bH os a ls ls.length=l at *;have T:=zb Z;have R:=zb K;clear a3 Z K HE P k0;go_wp2_with fail;go_loopw [6,17] (λ_ ii wr=>∃k:Nat,ii=.int .i64 k/\k<=l.length/\Kp (λk=>k=M.o\/k=M.h\/k∈bs) w wr/\PV (os.filter (λo=>o.id != a)) rj wr S M v td bs pvs (cD Zk (ls.map (gL os a)) (l.take k))/\wr.ownsRow 0 241 2 (.slice la l.length E) l.length (zk bs l)) (λ_ ii _=>l.length-(intOf ii).toNat)
  case atStart=>exact⟨0,rfl,by omega,Q,T,R⟩
  clear T R Q;obtain⟨k,rfl,hk,B,s,r⟩:=hrel;by_cases x:k<l.length
  ·obtain⟨G,rfl,c9,g1,g2⟩:=ZW r k x;have a7:l.getD k (0,0)∈l:=by simp[Wc,x]
   have et:l.take (k+1)=l.take k++[l.getD k (0,0)]:=by
    rw[xn x];simp[Wc,x]
   obtain⟨H,J⟩:=b5.o _ a7;have j:(l.getD k (0,0)).1 ∉ (l.take k).map Prod.fst:=by
    have:=b6.o
    have e2:l.map Prod.fst=((l.take k).map Prod.fst++[(l.getD k (0,0)).1])++(l.drop (k+1)).map Prod.fst:=by
     conv=>lhs;rw[<-yu (k+1) l,et]
     simp
    rw[e2]at this;have:=(XP.1 (XP.1 this).1).2.2;intro hm;exact this _ hm _ (by simp) rfl
   generalize c6:l.getD k (0,0)=p at *;obtain⟨c,n⟩:=p;simp only at *;clear c6 a7;have C:(cD Zk (ls.map (gL os a)) (l.take k)).length=ls.length:=by rw[aN];simp
   have m:(cD Zk (ls.map (gL os a)) (l.take k)).getD c L0=gL os a (ls.getD c L0):=by rw[bN Zk _ _ j,aJ H]
   have g:=s.lot c (by rw[C];exact H);rw[m]at g;have y:=b3.o _ (zf H);have a6:n<=(ls.getD c L0).hd:=by rw[b1.o.hd c H];exact lL J
   have D:L.Ok (Zk (gL os a (ls.getD c L0)) n):=Jg y J a6;have a5:cD Zk (ls.map (gL os a)) (l.take (k+1))=(cD Zk (ls.map (gL os a)) (l.take k)).set c (Zk (gL os a (ls.getD c L0)) n):=by rw[et,eE,m]
   have t:bs.getD c 0∈bs:=zH (by rw[s.len,C];exact H);have W:=VE wr (.cells #[.pointer (some ⟨bs.getD c 0,0,none⟩),.int .i64 n] 241);have u:=xp wr (.cells #[.pointer (some ⟨bs.getD c 0,0,none⟩),.int .i64 n] 241);have a1:=zc g;have d:=(W.block _ a1).trans g;have X:=s.below W;have f:=zg r W;have a9:=y.sum;have d0:(wr.alloc (.cells #[.pointer (some ⟨bs.getD c 0,0,none⟩),.int .i64 n] 241)).cell? ⟨wr.heap.size,0,none⟩=some (.pointer (some ⟨bs.getD c 0,0,none⟩)):=by rw[za u];rfl
   have d1:(wr.alloc (.cells #[.pointer (some ⟨bs.getD c 0,0,none⟩),.int .i64 n] 241)).cell? ⟨wr.heap.size,1,none⟩=some (.int .i64 n):=by rw[za u];rfl
   have e6:(wr.alloc (.cells #[.pointer (some ⟨bs.getD c 0,0,none⟩),.int .i64 n] 241)).cell? ⟨bs.getD c 0,6,none⟩=some (.int .i64 ((ls.getD c L0).free:Int)):=by rw[za d];rfl
   have f6:=ze d 6;have z:((wr.alloc (.cells #[.pointer (some ⟨bs.getD c 0,0,none⟩),.int .i64 n] 241)).setCell ⟨bs.getD c 0,6,none⟩ (.int .i64 (((ls.getD c L0).free:Int)+(n:Int)))).heap[bs.getD c 0]?=some (.cells (zm (Zk (gL os a (ls.getD c L0)) n) (pvs.getD c default)) 231 (0,0)):=by
    have:=xu _ (bs.getD c 0) 6 _ 231 (.int .i64 (((ls.getD c L0).free:Int)+(n:Int))) d
    exact this
   have a0:PV (os.filter (λo=>o.id != a)) rj ((wr.alloc (.cells #[.pointer (some ⟨bs.getD c 0,0,none⟩),.int .i64 n] 241)).setCell ⟨bs.getD c 0,6,none⟩ (.int .i64 (((ls.getD c L0).free:Int)+(n:Int)))) S M v td bs pvs (cD Zk (ls.map (gL os a)) (l.take (k+1))):=by
    rw[a5];exact X.lotset (i:=c) (by rw[C];exact H) D (by rw[m];rfl) z (λq _ hq=>xd _ _ _ _ hq)
   have a8:((wr.alloc (.cells #[.pointer (some ⟨bs.getD c 0,0,none⟩),.int .i64 n] 241)).setCell ⟨bs.getD c 0,6,none⟩ (.int .i64 (((ls.getD c L0).free:Int)+(n:Int)))).ownsRow 0 241 2 (.slice (some ⟨G,0,none⟩) l.length E) l.length (zk bs l):=zd f (λq hq=>by
    obtain⟨cs,b9⟩:=zh f hq;exact xd _ _ _ _ (zt b9 d (by decide)))
   have a4:Kp (λk=>k=M.o\/k=M.h\/k∈bs) w ((wr.alloc (.cells #[.pointer (some ⟨bs.getD c 0,0,none⟩),.int .i64 n] 241)).setCell ⟨bs.getD c 0,6,none⟩ (.int .i64 (((ls.getD c L0).free:Int)+(n:Int)))):=(B.after W).setCell (p:=⟨bs.getD c 0,6,none⟩) (Or.inl (Or.inr (Or.inr t))) _;have b4:=zb a0;have b7:=zb a8;have b2:=zb a4;have d2:(ls.getD c L0).free+n<=2147483647:=by omega
   generalize (ls.getD c L0).free=fr at *;generalize bs.getD c 0=bc at *;clear et H J j C m g y a6 D a5 t d X f a9 z a0 a8 a4 s r B;have c8:¬wr.heap.size=bc:=by omega
   go_wp2_with fail;generalize (wr.alloc (.cells #[.pointer (some ⟨bc,0,none⟩),.int .i64 n] 241))=wb at *
   clear u W;go_region;go_wp2_with fail;go_roundw
   case rel=>exact⟨k+1,by go_num,by omega,b2.after ((xm _ _).drew),b4.below ((xm _ _).drew),zg b7 ((xm _ _).drew)⟩
   simp[intOf];omega
  obtain rfl:k=l.length:=by omega
  rw[Xs,b8.o]at s;have HP:=zb s;have HK:=zb B;clear x s B r;go_wp2_with fail;go_ret;exact⟨HK,by rw[HC.o];rfl,HP⟩
def Ot(h:PV os rj w S M v td bs pvs ls)(A:Good os ls)(a:Nat)(ha:a<=2147483647):Calls prog 103 #[.pointer (some ⟨S,0,none⟩),.agg #[.int .i64 a]] w λe w'=>Kp (λk=>k=M.o\/k=M.h\/k∈bs) w w'/\e=.returned (.int .i64 (fE os a:Int))/\PV (os.filter (λo=>o.id != a)) rj w' S M v td bs pvs (ls.map (fF Zl os a)):=by
 have F:=VE w (Obj.cells #[.int .i64 a] 160);have a2:=xp w (Obj.cells #[.int .i64 a] 160);have s:=h.below F;have P:=zb (bT s a ha)
 cases b:os.any (λo=>o.id==a) with
 |false=>
  have HC:Ha (fE os a=9):=by unfold Ha fE;rw[b];rfl
  have HN:=zb (nZ b Zl ls);rw[b]at P;have HP:=zb s;clear s h b A;go_enter func103,ntmps103;go_wp2_with (go_at_call 150;with_reducible refine(P.o).mono ?_;rintro e w1 ⟨rfl,rfl⟩);go_ret;exact⟨Wo F,by rw[HC.o];rfl,by rw[HN.o.1,HN.o.2];exact HP⟩
 |true=>
  have HC:Ha (fE os a=0):=by unfold Ha fE;rw[b];rfl
  have HE:=zb (IP s A a ha b);rw[b]at P;have b1:=zb A;have b3:=zb h.ok;have N:=h.room;have k0:(w.alloc (Obj.cells #[.int .i64 a] 160)).cell? ⟨w.heap.size,0,none⟩=some (.int .i64 a):=by rw[za a2];rfl
  have b0:=zb F;clear s h b A a2;go_enter func103,ntmps103;go_wp2_with (first|(go_at_call 150;with_reducible refine(P.o).mono ?_;rintro e w1 ⟨rfl,rfl⟩)|fail)
  with_reducible refine(HE.o).mono ?_
  rintro e w2 ⟨a3,Z,lv,rfl,K⟩;obtain⟨la,E,c5⟩:=zj K;subst c5;have c7:(bH os a ls ls.length).length<=30:=xj (jI os a ls _) N;have Q:Ha (Kp (λk=>k=M.o\/k=M.h\/k∈bs) w w2):=Kp.before b0 (a3.mono (λk hk=>Or.inl hk));have b5:Ha (∀p∈bH os a ls ls.length,p.1<ls.length/\zq os a (ls.getD p.1 L0).id=some p.2):=λp hp=>dM hp
  have b6:Ha (((bH os a ls ls.length).map Prod.fst).Nodup):=jH os a ls _;have b8:=zb (Mb Zl os a ls);generalize bH os a ls ls.length=l at *;have T:=zb Z;have R:=zb K;clear a3 Z K HE P k0;go_wp2_with fail;go_loopw [6,17] (λ_ ii wr=>∃k:Nat,ii=.int .i64 k/\k<=l.length/\Kp (λk=>k=M.o\/k=M.h\/k∈bs) w wr/\PV (os.filter (λo=>o.id != a)) rj wr S M v td bs pvs (cD Zl (ls.map (gL os a)) (l.take k))/\wr.ownsRow 0 241 2 (.slice la l.length E) l.length (zk bs l)) (λ_ ii _=>l.length-(intOf ii).toNat)
  case atStart=>exact⟨0,rfl,by omega,Q,T,R⟩
  clear T R Q;obtain⟨k,rfl,hk,B,s,r⟩:=hrel;by_cases x:k<l.length
  ·obtain⟨G,rfl,c9,g1,g2⟩:=ZW r k x;have a7:l.getD k (0,0)∈l:=by simp[Wc,x]
   have et:l.take (k+1)=l.take k++[l.getD k (0,0)]:=by
    rw[xn x];simp[Wc,x]
   obtain⟨H,J⟩:=b5.o _ a7;have j:(l.getD k (0,0)).1 ∉ (l.take k).map Prod.fst:=by
    have:=b6.o
    have e2:l.map Prod.fst=((l.take k).map Prod.fst++[(l.getD k (0,0)).1])++(l.drop (k+1)).map Prod.fst:=by
     conv=>lhs;rw[<-yu (k+1) l,et]
     simp
    rw[e2]at this;have:=(XP.1 (XP.1 this).1).2.2;intro hm;exact this _ hm _ (by simp) rfl
   generalize c6:l.getD k (0,0)=p at *;obtain⟨c,n⟩:=p;simp only at *;clear c6 a7;have C:(cD Zl (ls.map (gL os a)) (l.take k)).length=ls.length:=by rw[aN];simp
   have m:(cD Zl (ls.map (gL os a)) (l.take k)).getD c L0=gL os a (ls.getD c L0):=by rw[bN Zl _ _ j,aJ H]
   have g:=s.lot c (by rw[C];exact H);rw[m]at g;have y:=b3.o _ (zf H);have a6:n<=(ls.getD c L0).hd:=by rw[b1.o.hd c H];exact lL J
   have D:L.Ok (Zl (gL os a (ls.getD c L0)) n):=Lj y J a6;have a5:cD Zl (ls.map (gL os a)) (l.take (k+1))=(cD Zl (ls.map (gL os a)) (l.take k)).set c (Zl (gL os a (ls.getD c L0)) n):=by rw[et,eE,m]
   have t:bs.getD c 0∈bs:=zH (by rw[s.len,C];exact H);have W:=VE wr (.cells #[.pointer (some ⟨bs.getD c 0,0,none⟩),.int .i64 n] 241);have u:=xp wr (.cells #[.pointer (some ⟨bs.getD c 0,0,none⟩),.int .i64 n] 241);have a1:=zc g;have d:=(W.block _ a1).trans g;have X:=s.below W;have f:=zg r W;have a9:=y.sum;have d0:(wr.alloc (.cells #[.pointer (some ⟨bs.getD c 0,0,none⟩),.int .i64 n] 241)).cell? ⟨wr.heap.size,0,none⟩=some (.pointer (some ⟨bs.getD c 0,0,none⟩)):=by rw[za u];rfl
   have d1:(wr.alloc (.cells #[.pointer (some ⟨bs.getD c 0,0,none⟩),.int .i64 n] 241)).cell? ⟨wr.heap.size,1,none⟩=some (.int .i64 n):=by rw[za u];rfl
   have e6:(wr.alloc (.cells #[.pointer (some ⟨bs.getD c 0,0,none⟩),.int .i64 n] 241)).cell? ⟨bs.getD c 0,8,none⟩=some (.int .i64 ((ls.getD c L0).sh:Int)):=by rw[za d];rfl
   have f6:=ze d 8;have z:((wr.alloc (.cells #[.pointer (some ⟨bs.getD c 0,0,none⟩),.int .i64 n] 241)).setCell ⟨bs.getD c 0,8,none⟩ (.int .i64 (((ls.getD c L0).sh:Int)+(n:Int)))).heap[bs.getD c 0]?=some (.cells (zm (Zl (gL os a (ls.getD c L0)) n) (pvs.getD c default)) 231 (0,0)):=by
    have:=xu _ (bs.getD c 0) 8 _ 231 (.int .i64 (((ls.getD c L0).sh:Int)+(n:Int))) d
    exact this
   have a0:PV (os.filter (λo=>o.id != a)) rj ((wr.alloc (.cells #[.pointer (some ⟨bs.getD c 0,0,none⟩),.int .i64 n] 241)).setCell ⟨bs.getD c 0,8,none⟩ (.int .i64 (((ls.getD c L0).sh:Int)+(n:Int)))) S M v td bs pvs (cD Zl (ls.map (gL os a)) (l.take (k+1))):=by
    rw[a5];exact X.lotset (i:=c) (by rw[C];exact H) D (by rw[m];rfl) z (λq _ hq=>xd _ _ _ _ hq)
   have a8:((wr.alloc (.cells #[.pointer (some ⟨bs.getD c 0,0,none⟩),.int .i64 n] 241)).setCell ⟨bs.getD c 0,8,none⟩ (.int .i64 (((ls.getD c L0).sh:Int)+(n:Int)))).ownsRow 0 241 2 (.slice (some ⟨G,0,none⟩) l.length E) l.length (zk bs l):=zd f (λq hq=>by
    obtain⟨cs,b9⟩:=zh f hq;exact xd _ _ _ _ (zt b9 d (by decide)))
   have a4:Kp (λk=>k=M.o\/k=M.h\/k∈bs) w ((wr.alloc (.cells #[.pointer (some ⟨bs.getD c 0,0,none⟩),.int .i64 n] 241)).setCell ⟨bs.getD c 0,8,none⟩ (.int .i64 (((ls.getD c L0).sh:Int)+(n:Int)))):=(B.after W).setCell (p:=⟨bs.getD c 0,8,none⟩) (Or.inl (Or.inr (Or.inr t))) _;have b4:=zb a0;have b7:=zb a8;have b2:=zb a4;have d2:(ls.getD c L0).sh+n<=2147483647:=by omega
   generalize (ls.getD c L0).sh=fr at *;generalize bs.getD c 0=bc at *;clear et H J j C m g y a6 D a5 t d X f a9 z a0 a8 a4 s r B;have c8:¬wr.heap.size=bc:=by omega
   go_wp2_with fail;generalize (wr.alloc (.cells #[.pointer (some ⟨bc,0,none⟩),.int .i64 n] 241))=wb at *
   clear u W;go_region;go_wp2_with fail;go_roundw
   case rel=>exact⟨k+1,by go_num,by omega,b2.after ((xm _ _).drew),b4.below ((xm _ _).drew),zg b7 ((xm _ _).drew)⟩
   simp[intOf];omega
  obtain rfl:k=l.length:=by omega
  rw[Xs,b8.o]at s;have HP:=zb s;have HK:=zb B;clear x s B r;go_wp2_with fail;go_ret;exact⟨HK,by rw[HC.o];rfl,HP⟩
