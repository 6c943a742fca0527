import Derived.Test.YtgcedalggnmooaaGreatDoorOd4X
import Derived.Test.YtgcedalggnmooaaGreatDoorHlX
set_option linter.all false
set_option maxRecDepth 100000
set_option maxHeartbeats 3200000
namespace Go.Proofs.YtgcedalggnmooaaGreatDoor
open Go.RowKit
open Value renaming int->Y,slice->vd,pointer->ve
open IntKind renaming i64->V
open Option renaming none->U,some->vb
open Obj renaming cells->vf
open Ending renaming returned->vg
open Tryz
def gO(os:List O)(a:Nat)(l:L):L:={ l with hd:=l.hd-(zn os a l.id).getD 0 }
def cH(g:L->Nat->L)(ls:List L):List (Nat×Nat)->List L
 |p::r=>cH g (ls.set p.1 (g (ls.getD p.1 L0) p.2)) r
 |[]=>ls
def eG(g:L->Nat->L)(p:Nat×Nat):∀(l:List (Nat×Nat)) (ls:List L),cH g ls (l++[p])=(cH g ls l).set p.1 (g ((cH g ls l).getD p.1 L0) p.2)
 |[],ls=>rfl
 |q::r,ls=>by simp only[Yb,cH];exact eG g p r _
def aS(g:L->Nat->L):∀(l:List (Nat×Nat)) (ls:List L),(cH g ls l).length=ls.length
 |[],ls=>rfl
 |q::r,ls=>by simp only[cH];rw[aS g r];simp
def bR(g:L->Nat->L){i:Nat}:∀(l:List (Nat×Nat)) (ls:List L),i ∉ l.map Prod.fst->(cH g ls l).getD i L0=ls.getD i L0
 |[],ls,_=>rfl
 |q::r,ls,h=>by
  simp only[XY,xz,not_or]at h;simp only[cH];rw[bR g r _ h.2,zZ h.1]
def yX(g:L->Nat->L){i n:Nat}:∀(l:List (Nat×Nat)) (ls:List L),(l.map Prod.fst).Nodup->(i,n)∈l->i<ls.length->(cH g ls l).getD i L0=g (ls.getD i L0) n
 |[],ls,_,h,_=>by simp at h
 |q::r,ls,hn,h,hi=>by
  simp only[XY,Yq]at hn;simp only[cH];rcases xz.1 h with h|h
  ·subst h;rw[bR g r _ hn.1,ZJ hi]
  have a:i≠q.1:=λe=>hn.1 (by rw[<-e];exact yb h)
  rw[yX g r _ hn.2 h (by simpa using hi),zZ a]
def wN{a b:List L}(e:a.length=b.length)(h:∀i,i<a.length->a.getD i L0=b.getD i L0):a=b:=by
 apply YT e
 intro i c d;have:=h i c;simpa [WI,c,d] using this
variable {S a b i n td:Nat}{ls:List L}
def aN{f:L->L}(a:i<ls.length):(ls.map f).getD i L0=f (ls.getD i L0):=by simp[WI,a]
def bJ(os:List O)(a:Nat)(ls:List L)(i:Nat):List (Nat×Nat):=((Wu ls).take i).filterMap λj=>(zn os a (ls.getD j L0).id).map λn=>(j,n)
def EI{k:Nat}(a:k<ls.length):(Wu ls).take (k+1)=(Wu ls).take k++[(Wu ls).getD k 0]:=by
 have h:k<(Wu ls).length:=by rw[cC];exact a
 rw[xn h];simp[WI,h]
variable {os:List O}
def Ny(b:i<ls.length)(h:zn os a (ls.getD ((Wu ls).getD i 0) L0).id=vb n):bJ os a ls (i+1)=bJ os a ls i++[((Wu ls).getD i 0,n)]:=by
 unfold bJ;rw[EI b,List.filterMap_append];have e:List.filterMap (λj=>(zn os a (ls.getD j L0).id).map λn=>(j,n)) [(Wu ls).getD i 0]=[((Wu ls).getD i 0,n)]:=by simp only[List.filterMap,h,xaM]
 rw[e]
def Jk(b:i<ls.length)(h:zn os a (ls.getD ((Wu ls).getD i 0) L0).id=U):bJ os a ls (i+1)=bJ os a ls i:=by
 unfold bJ;rw[EI b,List.filterMap_append];have e:List.filterMap (λj=>(zn os a (ls.getD j L0).id).map λn=>(j,n)) [(Wu ls).getD i 0]=[]:=by simp only[List.filterMap,h,Option.map_none]
 rw[e,Yw]
def jL(os:List O)(a:Nat)(ls:List L)(i:Nat):(bJ os a ls i).length<=i:=by
 have:=List.length_filterMap_le (λj=>(zn os a (ls.getD j L0).id).map λn=>(j,n)) ((Wu ls).take i)
 have b:=xae i (Wu ls);exact xi this b
def dO{p:Nat×Nat}(h:p∈bJ os a ls i):p.1<ls.length/\zn os a (ls.getD p.1 L0).id=vb p.2:=by
 unfold bJ at h;obtain⟨j,e,b⟩:=List.mem_filterMap.1 h;have c:=eJ.1 (YN e)
 cases d:zn os a (ls.getD j L0).id with
 |none=>rw[d]at b;cases b
 |some n=>rw[d]at b;cases b;exact⟨c,d⟩
def PH{f:Nat->Option Nat}:∀l:List Nat,(l.filterMap λj=>(f j).map λn=>(j,n)).map Prod.fst=l.filter (λj=>(f j).isSome)
 |[]=>rfl
 |j::l=>by
  have a:=PH (f:=f) l
  cases h:f j with
  |none=>rw[List.filterMap_cons_none (by rw[h];rfl),List.filter_cons_of_neg (by rw[h];simp)];exact a
  |some n=>rw[List.filterMap_cons_some (b:=(j,n)) (by rw[h];rfl),List.filter_cons_of_pos (by rw[h];rfl),XY,a]
def jK(os:List O)(a:Nat)(ls:List L)(i:Nat):((bJ os a ls i).map Prod.fst).Nodup:=by
 unfold bJ;rw[PH (f:=λj=>zn os a (ls.getD j L0).id)];exact((Au ls).sublist (xaU _ _)).filter _
def nZ(h:zn os a (ls.getD i L0).id=vb n)(b:i<ls.length):(i,n)∈bJ os a ls ls.length:=by
 unfold bJ;refine List.mem_filterMap.2 ⟨i,?_,by rw[h];rfl⟩;rw[ye (by rw[cC];exact xe _)];exact eJ.2 b
def dI(os:List O)(a:Nat)(ls:List L)(l:List (Nat×Nat)):List O:=l.foldl (λos p=>Zd os a (ls.getD p.1 L0).id) os
def EL(l:L)(n:Nat):L:={ l with hd:=l.hd-n }
def Gs(os:List O)(a:Nat)(ls:List L)(l:List (Nat×Nat))(p:Nat×Nat):dI os a ls (l++[p])=Zd (dI os a ls l) a (ls.getD p.1 L0).id:=by
 unfold dI;rw[xbQ];rfl
def QN(os:List O)(a:Nat)(ls:List L):cH EL ls (bJ os a ls ls.length)=ls.map (gO os a):=by
 apply wN
 ·rw[aS];simp
 intro i b;rw[aS]at b;rw[aN b]
 cases h:zn os a (ls.getD i L0).id with
 |some n=>
  rw[yX EL _ _ (jK os a ls _) (nZ h b) b];unfold EL gO;rw[h];rfl
 |none=>
  rw[bR]
  ·unfold gO;rw[h];rfl
  intro c;obtain⟨p,d,rfl⟩:=yc.1 c;have:=(dO d).2;rw[h]at this;cases this
def CP(os:List O)(a b:Nat):(Zd os a b).map O.id=os.map O.id:=by
 unfold Zd;rw[xai];congr 1;funext o;exact lC a b o
def AJ(h:∀o∈os,(o.li.map Prod.fst).Nodup):∀o∈Zd os a b,(o.li.map Prod.fst).Nodup:=by
 intro o e;obtain⟨d,c,rfl⟩:=yc.1 e;unfold CQ;split
 ·exact(h d c).sublist ((xck (l:=d.li)).map _)
 exact h d c
structure VK(os:List O)(a:Nat)(ls:List L)(l:List (Nat×Nat)):Prop where
 ids:((dI os a ls l).map O.id)=os.map O.id
 keys:∀o∈dI os a ls l,(o.li.map Prod.fst).Nodup
 line:∀a' b',zn (dI os a ls l) a' b'=if a'=a/\(∃p∈l,(ls.getD p.1 L0).id=b') then U else zn os a' b'
def WY{ls:List L}(a:Nat):∀(l:List (Nat×Nat)) {os:List O},(∀o∈os,(o.li.map Prod.fst).Nodup)->VK os a ls l
 |[],os,hk=>⟨rfl,hk,λh i=>by simp[dI]⟩
 |q::l,os,hk=>by
  have k:=WY (ls:=ls) a l (AJ (a:=a) (b:=(ls.getD q.1 L0).id) hk);have e:dI os a ls (q::l)=dI (Zd os a (ls.getD q.1 L0).id) a ls l:=rfl;refine⟨by rw[e,k.ids,CP],by rw[e];exact k.keys,λh i=>?_⟩;rw[e,k.line,lN];by_cases j:h=a/\∃p∈l,(ls.getD p.1 L0).id=i
  ·obtain⟨f,p,c,g⟩:=j;rw[xh ⟨f,p,c,g⟩,xh ⟨f,p,xaK _ c,g⟩]
  rw[xg j];by_cases d:h=a/\i=(ls.getD q.1 L0).id
  ·rw[xh d,xh ⟨d.1,q,by simp,d.2.symm⟩]
  rw[xg d,xg];rintro⟨f,p,c,g⟩;rcases xz.1 c with rfl|c
  ·exact d ⟨f,g.symm⟩
  exact j ⟨f,p,c,g⟩
def fT(a:(os.map O.id).Nodup){o:O}(c:o∈os):os.find? (λd=>d.id==o.id)=vb o:=by
 induction os with
 |nil=>simp at c
 |cons x os ih=>
  simp only[XY,Yq]at a;rcases xz.1 c with rfl|h
  ·simp
  have b:(x.id==o.id)=false:=by
   rw[xr];intro e;exact a.1 (by rw[e];exact yb h)
  simp only[List.find?,b];exact ih a.2 h
def Jm(m:Good os ls)(a:Nat):∀o∈dI os a ls (bJ os a ls ls.length),o.id=a->o.li=[]:=by
 intro o A s;have x:=WY (ls:=ls) a (bJ os a ls ls.length) m.keys;have z:((dI os a ls (bJ os a ls ls.length)).map O.id).Nodup:=by rw[x.ids];exact m.oids
 have w:=fT z A;have f:∀b,o.li.lookup b=U:=λb=>by
  have k:=x.line a b;have e:zn (dI os a ls (bJ os a ls ls.length)) a b=o.li.lookup b:=by unfold zn;rw[s]at w;rw[w];rfl
  rw[e]at k;rw[k];by_cases l:∃p∈bJ os a ls ls.length,(ls.getD p.1 L0).id=b
  ·rw[xh ⟨rfl,l⟩]
  rw[xg (λq=>l q.2)]
  cases c:zn os a b with
  |none=>rfl
  |some n=>
   exfalso
   have h:=c;unfold zn at c
   cases d:os.find? (λo=>o.id==a) with
   |none=>rw[d]at c;cases c
   |some o' =>
    rw[d]at c;simp only[xk]at c;have i:b∈o'.li.map Prod.fst:=YB λu=>by rw[ZB.2 u]at c;cases c
    obtain⟨p,B,v⟩:=yc.1 i;obtain⟨j,y,t⟩:=m.mem o' (xaE d) p B;have g:(ls.getD j L0).id=b:=by rw[t,v]
    exact l ⟨(j,n),nZ (by rw[g];exact h) y,g⟩
 cases k:o.li with
 |nil=>rfl
 |cons p r=>
  have:=f p.1
  rw[k]at this;simp[List.lookup]at this
def tH(os:List O)(a b:Nat):(Zd os a b).filter (λo=>o.id != a)=os.filter (λo=>o.id != a):=by
 induction os with
 |nil=>rfl
 |cons o os ih=>
  have c:(os.map (CQ a b)).filter (λo=>o.id != a)=os.filter (λo=>o.id != a):=ih;simp only[Zd,XY,List.filter,lC];by_cases h:o.id=a
  ·simp[h,c]
  have d:(o.id != a)=true:=by simp[h]
  have hd:CQ a b o=o:=by unfold CQ;rw[xg h]
  simp[d,c,hd]
def fR(a:Nat)(ls:List L):∀(l:List (Nat×Nat)) (os:List O),(dI os a ls l).filter (λo=>o.id != a)=os.filter (λo=>o.id != a)
 |[],os=>rfl
 |p::l,os=>by
  show(dI (Zd os a (ls.getD p.1 L0).id) a ls l).filter (λo=>o.id != a)=_;rw[fR a ls l,tH]
def eL{a b:Nat}(d:¬b=a):∀os:List O,(os.filter (λo=>o.id != a)).find? (λo=>o.id==b)=os.find? (λo=>o.id==b)
 |[]=>rfl
 |o::os=>by
  by_cases e:o.id=a
  ·have f:(o.id != a)=false:=by simp[e]
   have c:(o.id==b)=false:=by simp;omega
   simp only[List.filter,List.find?,f,c];exact eL d os
  have c:(o.id != a)=true:=by simp[e]
  simp only[List.filter,c,List.find?]
  cases g:o.id==b with
  |true=>rfl
  |false=>exact eL d os
def kP{a n:Nat}(b:¬n=a):∀os:List O,os.any (λo=>o.id==n)=(os.filter (λo=>o.id != a)).any (λo=>o.id==n)
 |[]=>rfl
 |o::os=>by
  by_cases c:o.id=a
  ·have d:(o.id != a)=false:=by simp[c]
   have f:(o.id==n)=false:=by simp;omega
   simp only[xbj,f,xcC,List.filter,d];exact kP b os
  have e:(o.id != a)=true:=by simp[c]
  simp only[xbj,List.filter,e];rw[kP b os]
variable {D:DataW Unit}
def HD.final(h:HD os D){a:Nat}(i:∀o∈os,o.id=a->o.li=[]):HD (os.filter (λo=>o.id != a)) D:=by
 have j:∀b c,zn (os.filter (λo=>o.id != a)) b c=zn os b c:=λb c=>by
  unfold zn;by_cases k:b=a
  ·subst k;have e:(os.filter (λo=>o.id != b)).find? (λo=>o.id==b)=U:=by
    rw[YO];intro o g m;have:=YC.1 g;simp at this m;exact this.2 m
   rw[e]
   cases l:os.find? (λo=>o.id==b) with
   |none=>rfl
   |some o=>
    have:=i o (xaE l) (by simpa using xcU l)
    simp[this,List.lookup]
  rw[eL k]
 have p:Zb (os.filter (λo=>o.id != a))=Zb os:=by
  clear h j;induction os with
  |nil=>rfl
  |cons o os ih=>
   have d:=ih (λq n=>i q (by simp[n]));by_cases g:o.id=a
   ·have:=i o (by simp) g
    simp only[List.filter,g,xbR];rw[d];simp[Zb,this]
   have f:(o.id != a)=true:=by simp[g]
   simp only[List.filter,f,Zb,XY,Yf]at d ⊢;rw[d]
 exact⟨by rw[h.size,p],λb c e f=>by rw[j];exact h.has b c e f,λb c e f=>by rw[j];exact h.val b c e f⟩
def OD.del{os:List O}{D:DataW Unit}(h:OD os D)(w:Maps.Tidy D)(j:(os.map O.id).Nodup){a:Nat}(v:a<=2147483647)(g:os.any (λo=>o.id==a)=true):OD (os.filter (λo=>o.id != a)) (D.del (dV a)):=by
 have i:∀(os:List O),(os.map O.id).Nodup->(os.filter (λo=>o.id != a)).length+(if os.any (λo=>o.id==a) then 1 else 0)=os.length:=by
  intro os;induction os with
  |nil=>intro _;rfl
  |cons o os ih=>
   intro j;simp only[XY,Yq]at j;have d:=ih j.2;by_cases b:o.id=a
   ·have m:os.any (λo=>o.id==a)=false:=by
     rw[YW];intro x y c;exact j.1 (by rw[b];have:x.id=a:=(by simpa using c);rw[<-this];exact yb y)
    rw[m]at d;simp only[List.filter,b,xbR,xbj,xcL,Bool.true_or,YX,List.length_cons];simp at d;simpa using d
   have t:(o.id != a)=true:=by simp[b]
   have u:(o.id==a)=false:=by simp[b]
   simp only[List.filter,t,xbj,u,xcC,List.length_cons];omega
 refine⟨?_,λn c=>?_,λn c=>?_,λp l=>?_⟩
 ·have r:=Maps.size_del (k:=dV a) w;rw[h.has a v,g,h.size]at r;have s:=i os j;rw[g]at s;simp only[YX]at r s;omega
 ·by_cases e:n=a
  ·subst e;rw[xbl,eq_comm,YW];intro o b f;have:=(YC.1 b).2;simp at this f;exact this f
  rw[xbh (λq=>e (gT q)),h.has n c];exact kP e os
 ·by_cases e:n=a
  ·subst e;rw[Maps.atKey_del_same];unfold Ze;have:(os.filter (λo=>o.id != n)).find? (λo=>o.id==n)=U:=by
    rw[YO];intro o b f;have:=(YC.1 b).2;simp at this f;exact this f
   rw[this];rfl
  rw[Maps.atKey_del_other (λq=>e (gT q)),h.val n c];unfold Ze;rw[eL e]
 by_cases c:p=dV a
 ·subst c;rw[xbl]at l;cases l
 rw[xbh c]at l;obtain⟨o,b,e⟩:=h.keys p l;refine⟨o,YC.2 ⟨b,?_⟩,e⟩;have:o.id≠a:=λx=>c (by rw[e,x])
 simpa using this
def OD.line(h:OD os D)(a b:Nat):OD (Zd os a b) D:=by
 have d:∀n,Ze (Zd os a b) n=Ze os n:=λn=>by
  unfold Ze Zd;rw[List.find?_map];have e:((λo:O=>o.id==n)∘CQ a b)=λo=>o.id==n:=by funext o;simp[lC]
  rw[e]
  cases os.find? (λo=>o.id==n) with
  |none=>rfl
  |some o=>simp only[xaM];unfold CQ;split<;>rfl
 refine⟨by rw[h.size];simp[Zd],λn c=>by rw[h.has n c,Qv],λn c=>by rw[d];exact h.val n c,λi f=>?_⟩;obtain⟨o,g,e⟩:=h.keys i f;exact⟨CQ a b o,yb g,by rw[lC];exact e⟩
def wW{o:O}(a:o∈os)(b:Nat):ZZ o b<=zD os b:=by
 induction os with
 |nil=>simp at a
 |cons x os ih=>
  simp only[zD,XY,Yf]at ih ⊢;rcases xz.1 a with rfl|h
  ·omega
  have:=ih h;omega
def fZ(h:zn os a b=vb n):n<=zD os b:=by
 unfold zn at h
 cases c:os.find? (λo=>o.id==a) with
 |none=>rw[c]at h;cases h
 |some o=>
  rw[c]at h;simp only[xk]at h;have:=wW (xaE c) b;unfold ZZ at this;rw[h]at this;simpa using this
variable {w:World}
def sE{Z:Nat->Prop}{w':World}(h:w.mapTurned w' b)(a:Z b):Kp Z w w':=jO h.grown a
variable {l:L}
def Tj(h:L.Ok l)(n:Nat):L.Ok (EL l n):=⟨h.id,h.gd,h.ex,h.place,(by have:=h.sum;show l.free+(l.hd-n)+l.sh+l.sc+l.gv<=2147483647;omega),h.got,h.par⟩
def Ww(w:World):Below w.heap.size w w.drew:=(xm _ _).drew
variable {v:Value}
def oK{B b:Nat}{e:TypeId}{size:Nat}{xs:List Value}(h:w.ownsRow B e size v n xs)(i:b<=B):w.ownsRow b e size v n xs:=by
 refine⟨h.1,?_⟩;rcases h.2 with h|⟨g,cap,a,c,d,f⟩
 ·exact Or.inl h
 exact Or.inr ⟨g,cap,a,c,xi i d,f⟩
variable {M:Mx}{bs:List Nat}{pvs:List Value}{rj:List (Nat×Nat)}
def qZ(h:PV os rj w S M v td bs pvs ls)(t:∀i j,i<ls.length->j<ls.length->(ls.getD i L0).id=(ls.getD j L0).id->i=j)(a:Nat)(ha:a<=2147483647):Calls prog 128 #[ve (vb ⟨S,0,U⟩),Y V a] w λe w'=>Below w.heap.size w w'/\∃lv,e=vg lv/\w'.ownsRow w.heap.size 241 2 lv (bJ os a ls ls.length).length (zk bs (bJ os a ls ls.length)):=by
 obtain⟨i0,hi,a7,a8,a9⟩:=Yc xG;have a6:=h.room;have K:=zb (fO h t);have a0:=zb h;clear h t;go_enter func128,ntmps128;go_wp2_with (go_at_call 123;refine K.mono ?_;rintro e w1 ⟨P,pa,b2,rfl,N⟩);have f:=zb P;have T:=zb N;clear P N K;go_wp2_with fail;go_loopw [5,7,8,9,13] (λlv _ _ _ ii wr=>∃k:Nat,ii=Y V k/\k<=ls.length/\Below w1.heap.size w1 wr/\wr.ownsRow w1.heap.size 241 2 lv (bJ os a ls k).length (zk bs (bJ os a ls k))) (λ_ _ _ _ ii _=>ls.length-(intOf ii).toNat)
 case atStart=>exact⟨0,rfl,by omega,xm _ _,yd _ _ _ _⟩
 obtain⟨k,rfl,hk,B,b⟩:=hrel;obtain⟨la,x,a3⟩:=zj b;subst a3;have a5:=jL os a ls k;by_cases p:k<ls.length
 ·have C:Below w.heap.size w wr:=f.trans (B.mono f.size);have d:=a0.below C;obtain⟨G,rfl,_,b1,a1⟩:=(T.below B) k (by rw[cC];exact p);have hj:=wC p;have g:=zb (λn=>Ny (os:=os) (a:=a) (n:=n) p);have c:=zb (Jk (os:=os) (a:=a) p);generalize (Wu ls).getD k 0=j at *;have m:=d.lot j hj;have E:=d.ok _ (zf hj);have a2:=E.id;have b3:=d.c3;obtain⟨Dh,s,A⟩:=d.maps.h;have D:=TO (w:=wr.drew) (zu s ((Ww wr).block M.h (yq s))) A a (ls.getD j L0).id ha a2;have c0:wr.cell? ⟨bs.getD j 0,0,U⟩=vb (Y V ((ls.getD j L0).id:Int)):=by rw[za m];rfl
  have y:=zb B;have F:=zb b
  cases H:zn os a (ls.getD j L0).id with
  |none=>
   rw[H]at D;have X:=zb (c H);generalize (ls.getD j L0).id=idk at *;generalize bs.getD j 0=bk at *;clear m E s A H d b B C g c;go_wp2_with fail;go_region;go_wp2_with fail;go_roundw
   case rel=>exact⟨k+1,by go_num,by omega,y.trans ((Ww wr).mono y.size),by rw[X.o];exact zh F (Ww wr)⟩
   simp[intOf];omega
  |some n=>
   rw[H]at D;have X:=zb (g n H);generalize (ls.getD j L0).id=idk at *;obtain⟨bk,J⟩:=Xc (bs.getD j 0);rw[<-J.o]at a1 c0;obtain⟨ql,z⟩:=Xc ((bJ os a ls k).length);rw[<-z.o]at F a5;rw[show(Value.slice la (bJ os a ls k).length x)=Value.slice la ql x by rw[z.o]];clear m E s A H d b B C g c;go_wp2_with fail;go_region;clear D;have b4:w1.heap.size<=wr.heap.size:=y.size;go_wp2_with (at_builtin;refine XW _ rfl _ _ 197 rfl w1.heap.size 241 i0 (.agg #[ve U,Y V 0]) 2 16 yR hi a7 a8 a9 rfl (by decide) _ ql (zk bs (bJ os a ls k)) rfl ((zh F (Ww wr)).alloc _) ⟨wr.heap.size,0,U⟩ 1 1 [ve (vb ⟨bk,0,U⟩),Y V n] rfl rfl ?c1 ?c2 ?c3 ?c4 ?c5 ?_)
   case c1=>intro q u R;have:=xab wr (ve (vb ⟨bk,0,U⟩)) (Y V n) 241 q u R;simpa using this
   case c2=>intro u R;simp at R;rcases R with rfl|rfl<;>rfl
   case c3=>unfold maxLen;omega
   case c4=>omega
   case c5=>simp;omega
   intro b0 w6 r l a4;have q1:Below w1.heap.size w1 wr.drew:=y.trans ((Ww wr).mono y.size);have Q:Below w1.heap.size w1 w6:=(q1.alloc q1.size _).grown l (by have:=q1.size;simp at *;omega) (λq hq=>(F.lt q hq).1);have Z:Ha (w6.ownsRow w1.heap.size 241 2 b0 (bJ os a ls (k+1)).length (zk bs (bJ os a ls (k+1)))):=by
    unfold Ha;rw[X.o,aL,xc,XX,<-z.o,<-J.o];exact r
   have W:=zb Q;clear r l a4 Q;go_wp2_with fail;go_roundw
   case rel=>exact⟨k+1,by go_num,by omega,W,Z⟩
   simp[intOf];omega
 obtain rfl:k=ls.length:=by omega
 have y:=zb (f.trans (B.mono f.size));have F:=zb b;clear B b p;go_wp2_with fail;go_ret;exact⟨y,_,rfl,oK F f.size⟩
def Jl(h:PV os rj w S M v td bs pvs ls)(b8:Good os ls)(a:Nat)(ha:a<=2147483647)(b3:os.any (λo=>o.id==a)=true):Calls prog 154 #[ve (vb ⟨S,0,U⟩),Y V a] w λe w'=>Kp (λk=>k=M.o\/k=M.h\/k∈bs) w w'/\PV (os.filter (λo=>o.id != a)) rj w' S M v td bs pvs (ls.map (gO os a))/\∃lv,e=vg lv/\w'.ownsRow 0 241 2 lv (bJ os a ls ls.length).length (zk bs (bJ os a ls ls.length)):=by
 have c5:=h.room;have c9:=zb (qZ h b8.ids a ha);have d2:=zb h;have Q:=zb b8;have c6:=zb b3;clear h b8 b3;go_enter func154,ntmps154;go_wp2_with (go_at_call 128;refine c9.mono ?_;rintro e w1 ⟨b6,lv,rfl,b2⟩;obtain⟨la,a8,g4⟩:=zj b2;subst g4);have d6:Ha (∀p∈bJ os a ls ls.length,p.1<ls.length/\zn os a (ls.getD p.1 L0).id=vb p.2):=λp hp=>dO hp
 have d7:Ha (((bJ os a ls ls.length).map Prod.fst).Nodup):=jK os a ls _;have b9:(bJ os a ls ls.length).length<=30:=xi (jL os a ls _) c5;obtain⟨l,HL⟩:=Xc (bJ os a ls ls.length);rw[<-HL.o]at d6 d7 b2 b9;rw[<-HL.o];have d3:=zb (d2.below b6);have c8:Ha (Kp (λk=>k=M.o\/k=M.h\/k∈bs) w w1):=WT b6;have d1:=zb (aO b2);clear b6 b2 c9 d2;go_wp2_with fail;go_loopw [7,13] (λ_ ii wr=>∃k:Nat,ii=Y V k/\k<=l.length/\Kp (λk=>k=M.o\/k=M.h\/k∈bs) w wr/\PV (dI os a ls (l.take k)) rj wr S M v td bs pvs (cH EL ls (l.take k))/\wr.ownsRow 0 241 2 (vd la l.length a8) l.length (zk bs l)) (λ_ ii _=>l.length-(intOf ii).toNat)
 case atStart=>exact⟨0,rfl,by omega,c8,d3,d1⟩
 clear d3 d1 c8;obtain⟨k,rfl,hk,b1,F,s⟩:=hrel;by_cases a4:k<l.length
 ·obtain⟨G,rfl,g7,g1,g2⟩:=Z6 s k a4;have f2:l.getD k (0,0)∈l:=by simp[WI,a4]
  have et:l.take (k+1)=l.take k++[l.getD k (0,0)]:=by
   rw[xn a4];simp[WI,a4]
  obtain⟨hc,e6⟩:=d6.o _ f2;have P:(l.getD k (0,0)).1 ∉ (l.take k).map Prod.fst:=by
   have:=d7.o
   have e2:l.map Prod.fst=((l.take k).map Prod.fst++[(l.getD k (0,0)).1])++(l.drop (k+1)).map Prod.fst:=by
    conv=>lhs;rw[<-Yz (k+1) l,et]
    simp
   rw[e2]at this;have:=(yy.1 (yy.1 this).1).2.2;intro z;exact this _ z _ (by simp) rfl
  generalize g5:l.getD k (0,0)=p at *;obtain⟨c,n⟩:=p;simp only at *;clear g5 f2;have W:(cH EL ls (l.take k)).length=ls.length:=aS _ _ _;have y:(cH EL ls (l.take k)).getD c L0=ls.getD c L0:=bR EL _ _ P;have N:=F.lot c (by rw[W];exact hc);rw[y]at N;have a6:=F.ok _ (zf (k:=c) (by rw[W];exact hc));rw[y]at a6;have e3:=a6.id;have f4:=a6.sum;have a3:bs.getD c 0∈bs:=zH (by rw[F.len,W];exact hc);have j:=WY (ls:=ls) a (l.take k) Q.keys;have hn:n<=(ls.getD c L0).hd:=by rw[Q.o.hd c hc];exact fZ e6
  have hB:=Wm wr (vf #[ve (vb ⟨bs.getD c 0,0,U⟩),Y V n] 241);have A:=xq wr (vf #[ve (vb ⟨bs.getD c 0,0,U⟩),Y V n] 241);have e1:=zc N;have b4:=(hB.block _ e1).trans N;have d9:=F.c3;have z:=F.maps;obtain⟨Dh,D,a9⟩:=F.maps.h;have K:MV (wr.alloc (vf #[ve (vb ⟨bs.getD c 0,0,U⟩),Y V n] 241)).drew M.h (Maps.size Dh) Dh:=zu D (hB.block M.h (yq D));obtain⟨C,f3,t,f⟩:=xcu K xK Ul (Du ha e3) 0;have d:=f.grown;have B:Maps.Tidy Dh:=YR D xK;have u:=a9.del B ha e3 (by rw[j.ids];exact Q.oids) j.keys;have b7:dI os a ls (l.take (k+1))=Zd (dI os a ls (l.take k)) a (ls.getD c L0).id:=by rw[et,Gs]
  rw[<-b7]at u;have b5:=F.below hB.drew;have Z:Mp (dI os a ls (l.take (k+1))) rj C M:=by
   have e8:=b5.maps;obtain⟨Dr,X,a1⟩:=e8.r;obtain⟨Do,E,b0⟩:=e8.o;exact⟨⟨Dr,zu X (d.block M.r (yq X) (λe=>z.rh (xt e))),a1⟩,z.rc,⟨Do,zu E (d.block M.o (yq E) (λe=>z.oh (xt e))),by rw[b7];exact b0.line a _⟩,⟨_,aB t,u⟩,z.ro,z.rh,z.oh⟩
  have R:PV (dI os a ls (l.take (k+1))) rj C S M v td bs pvs (cH EL ls (l.take k)):=b5.mapsTo (λq hq h1 h2=>d.block q hq (λe=>h2 (xt e))) Z;have g:=R.lot c (by rw[W];exact hc);rw[y]at g;have a7:(C.setCell ⟨bs.getD c 0,7,U⟩ (Y V (((ls.getD c L0).hd:Int)-(n:Int)))).heap[bs.getD c 0]?=vb (vf (zm (EL (ls.getD c L0) n) (pvs.getD c default)) 231 (0,0)):=by
   have e:(((ls.getD c L0).hd:Int)-(n:Int))=(((ls.getD c L0).hd-n:Nat):Int):=by omega
   rw[e];exact xu C (bs.getD c 0) 7 _ 231 (Y V (((ls.getD c L0).hd-n:Nat):Int)) g
  have e7:cH EL ls (l.take (k+1))=(cH EL ls (l.take k)).set c (EL (ls.getD c L0) n):=by rw[et,eG,y]
  have d8:PV (dI os a ls (l.take (k+1))) rj (C.setCell ⟨bs.getD c 0,7,U⟩ (Y V (((ls.getD c L0).hd:Int)-(n:Int)))) S M v td bs pvs (cH EL ls (l.take (k+1))):=by
   rw[e7];exact R.lotset (i:=c) (by rw[W];exact hc) (Tj a6 n) (by rw[y];rfl) a7 (λq _ hq=>xd _ _ _ _ hq)
  have e5:Kp (λk=>k=M.o\/k=M.h\/k∈bs) w (C.setCell ⟨bs.getD c 0,7,U⟩ (Y V (((ls.getD c L0).hd:Int)-(n:Int)))) :=
   (b1.trans (Kp.before hB.drew (sE f (Or.inl (Or.inl (Or.inr (Or.inl rfl))))))).setCell (p:=⟨bs.getD c 0,7,U⟩) (Or.inl (Or.inr (Or.inr a3))) _
  have J:=zh s hB.drew;have f1:(C.setCell ⟨bs.getD c 0,7,U⟩ (Y V (((ls.getD c L0).hd:Int)-(n:Int)))).ownsRow 0 241 2 (vd (vb ⟨G,0,U⟩) l.length a8) l.length (zk bs l):=zd J (λb hb=>by
   obtain⟨cs,T⟩:=zi J hb;obtain⟨es,c2,a5⟩:=ZU K;have q1:=d.block b (zc T) (λe=>Za T a5 (xt e));rw[xd _ _ _ _ (zt (q1.trans T) g (by decide)),q1])
  have H:C.heap[wr.heap.size]?=vb (vf #[ve (vb ⟨bs.getD c 0,0,U⟩),Y V n] 241):=by
   obtain⟨es,c2,a5⟩:=ZU K;exact(d.block wr.heap.size (by have:=zc A;exact this) (λe=>Za A a5 (xt e))).trans A
  have d0:(wr.alloc (vf #[ve (vb ⟨bs.getD c 0,0,U⟩),Y V n] 241)).cell? ⟨wr.heap.size,0,U⟩=vb (ve (vb ⟨bs.getD c 0,0,U⟩)):=by rw[za A];rfl
  have d4:C.cell? ⟨wr.heap.size,0,U⟩=vb (ve (vb ⟨bs.getD c 0,0,U⟩)):=by rw[za H];rfl
  have d5:C.cell? ⟨wr.heap.size,1,U⟩=vb (Y V n):=by rw[za H];rfl
  have e0:(wr.alloc (vf #[ve (vb ⟨bs.getD c 0,0,U⟩),Y V n] 241)).cell? ⟨bs.getD c 0,0,U⟩=vb (Y V ((ls.getD c L0).id:Int)):=by rw[za b4];rfl
  have xS:(wr.alloc (vf #[ve (vb ⟨bs.getD c 0,0,U⟩),Y V n] 241)).cell? ⟨S,3,U⟩=vb (.map (vb M.h)):=(hB.cell (by exact zc F.store)).trans d9;have c7:C.cell? ⟨bs.getD c 0,7,U⟩=vb (Y V ((ls.getD c L0).hd:Int)):=by rw[za g];rfl
  have f7:=ze g 7;have g3:=zb d8;have f6:=zb e5;have f9:=zb f1;have g8:(ls.getD c L0).hd<=2147483647:=by omega
  generalize (ls.getD c L0).id=idk at *;generalize (ls.getD c L0).hd=hdk at *;generalize bs.getD c 0=bc at *;clear j N a6 f4 a3 e6 P W y D a9 F s b1 z K t f d B u b7 b5 Z R g a7 e7 d8 e5 J f1 b4 d9 et hc H;have g6:¬wr.heap.size=bc:=by omega
  go_wp2_with fail;generalize (wr.alloc (vf #[ve (vb ⟨bc,0,U⟩),Y V n] 241))=wb at *
  clear A hB;go_region;go_wp2_with fail;go_region;go_wp2_with fail;go_roundw
  case rel=>exact⟨k+1,by go_num,by omega,f6.after ((xm _ _).drew),g3.below ((xm _ _).drew),zh f9 ((xm _ _).drew)⟩
  simp[intOf];omega
 obtain rfl:k=l.length:=by omega
 rw[XZ,HL.o,QN]at F;rw[HL.o]at s ⊢;obtain⟨Do,E,b0⟩:=F.maps.o;obtain⟨C,f3,t,f⟩:=xcu E Bj IF (qV ha) 0;have d:=f.grown;have B:Maps.Tidy Do:=YR E Bj;have j:=WY (ls:=ls) a (bJ os a ls ls.length) Q.keys;have e9:((dI os a ls (bJ os a ls ls.length)).map O.id).Nodup:=by rw[j.ids];exact Q.oids
 have a2:(dI os a ls (bJ os a ls ls.length)).any (λo=>o.id==a)=true:=by
  have e:∀(l m:List O),l.map O.id=m.map O.id->l.any (λo=>o.id==a)=m.any (λo=>o.id==a):=λl m he=>by
   have:∀x:List O,x.any (λo=>o.id==a)=(x.map O.id).any (λn=>n==a):=λx=>by rw[List.any_map];rfl
   rw[this,this,he]
  rw[e _ _ j.ids];exact c6
 have a0:=b0.del B e9 ha a2;rw[fR a ls (bJ os a ls ls.length) os]at a0;have Z:Mp (os.filter (λo=>o.id != a)) rj C M:=by
  have z:=F.maps;obtain⟨Dr,X,a1⟩:=z.r;obtain⟨Dh,D,a9⟩:=z.h;have u:=a9.final (Jm Q a);rw[fR a ls (bJ os a ls ls.length) os]at u;exact⟨⟨Dr,zu X (d.block M.r (yq X) (λe=>z.ro (xt e))),a1⟩,z.rc,⟨_,aB t,a0⟩,⟨Dh,zu D (d.block M.h (yq D) (λe=>z.oh (xt e).symm)),u⟩,z.ro,z.rh,z.oh⟩
 have R:PV (os.filter (λo=>o.id != a)) rj C S M v td bs pvs (ls.map (gO os a)):=F.mapsTo (λq hq h1 h2=>d.block q hq (λe=>h1 (xt e))) Z;have f0:C.ownsRow 0 241 2 (vd la (bJ os a ls ls.length).length a8) (bJ os a ls ls.length).length (zk bs (bJ os a ls ls.length)):=aO (zd s (λb hb=>by
  obtain⟨cs,T⟩:=zi s hb;obtain⟨es,c2,a5⟩:=ZU E;exact d.block b (zc T) (λe=>Za T a5 (xt e))))
 have e4:Kp (λk=>k=M.o\/k=M.h\/k∈bs) w C:=b1.trans (sE f (Or.inl (Or.inl rfl)));have s2:=F.c2;have g0:=zb R;have f8:=zb f0;have f5:=zb e4;clear a4 F E b0 t f d B j e9 a2 a0 Z R f0 e4 s b1;go_wp2_with fail;go_ret;exact⟨f5,g0,_,rfl,f8⟩
def Zl(l:L)(n:Nat):L:={ l with free:=l.free+n }
def Zv(l:L)(n:Nat):L:={ l with sh:=l.sh+n }
def dJ(g:L->Nat->L)(os:List O)(a:Nat)(l:L):L :=
 match zn os a l.id with
 |some n=>g { l with hd:=l.hd-n } n
 |none=>l
def ME(g:L->Nat->L)(os:List O)(a:Nat)(ls:List L):cH g (ls.map (gO os a)) (bJ os a ls ls.length)=ls.map (dJ g os a):=by
 apply wN
 ·rw[aS];simp
 intro i b;rw[aS,List.length_map]at b;rw[aN b]
 cases h:zn os a (ls.getD i L0).id with
 |some n=>
  rw[yX g _ _ (jK os a ls _) (nZ h b) (by simpa using b),aN b];unfold dJ gO;rw[h];rfl
 |none=>
  rw[bR,aN b]
  ·unfold dJ gO;rw[h];rfl
  intro c;obtain⟨p,d,rfl⟩:=yc.1 c;have:=(dO d).2;rw[h]at this;cases this
def oC(h:os.any (λo=>o.id==a)=false)(g:L->Nat->L)(ls:List L):ls.map (dJ g os a)=ls/\os.filter (λo=>o.id != a)=os:=by
 have d:os.find? (λo=>o.id==a)=U:=by
  rw[YO];intro o c;exact YW.1 h o c
 have e:∀b,zn os a b=U:=λb=>by unfold zn;rw[d];rfl
 constructor
 ·conv=>rhs;rw[<-xbE ls]
  apply Yj
  intro l _;unfold dJ;rw[e];rfl
 rw[xcl];intro o c;have:=YW.1 h o c;simpa using this
def fJ(os:List O)(a:Nat):Nat:=if os.any (λo=>o.id==a) then 0 else 9
def JC(h:L.Ok l){os:List O}{a n:Nat}(b:zn os a l.id=vb n)(c:n<=l.hd):L.Ok (Zl (gO os a l) n):=⟨h.id,h.gd,h.ex,h.place,(by have:=h.sum;show l.free+n+(l.hd-(zn os a l.id).getD 0)+l.sh+l.sc+l.gv<=2147483647;rw[b];show l.free+n+(l.hd-n)+l.sh+l.sc+l.gv<=2147483647;omega),h.got,h.par⟩
def LM(h:L.Ok l){os:List O}{a n:Nat}(b:zn os a l.id=vb n)(c:n<=l.hd):L.Ok (Zv (gO os a l) n):=⟨h.id,h.gd,h.ex,h.place,(by have:=h.sum;show l.free+(l.hd-(zn os a l.id).getD 0)+(l.sh+n)+l.sc+l.gv<=2147483647;rw[b];show l.free+(l.hd-n)+(l.sh+n)+l.sc+l.gv<=2147483647;omega),h.got,h.par⟩
def Gm(h:PV os rj w S M v td bs pvs ls)(A:Good os ls)(a:Nat)(ha:a<=2147483647):Calls prog 102 #[ve (vb ⟨S,0,U⟩),.agg #[Y V a]] w λe w'=>Kp (λk=>k=M.o\/k=M.h\/k∈bs) w w'/\e=vg (Y V (fJ os a:Int))/\PV (os.filter (λo=>o.id != a)) rj w' S M v td bs pvs (ls.map (dJ Zl os a)):=by
 have F:=Wm w (Obj.cells #[Y V a] 158);have a2:=xq w (Obj.cells #[Y V a] 158);have s:=h.below F;have P:=zb (bX s a ha)
 cases b:os.any (λo=>o.id==a) with
 |false=>
  have HC:Ha (fJ os a=9):=by unfold Ha fJ;rw[b];rfl
  have HN:=zb (oC b Zl ls);rw[b]at P;have HP:=zb s;clear s h b A;go_enter func102,ntmps102;go_wp2_with (go_at_call 150;with_reducible refine(P.o).mono ?_;rintro e w1 ⟨rfl,rfl⟩);go_ret;exact⟨WT F,by rw[HC.o];rfl,by rw[HN.o.1,HN.o.2];exact HP⟩
 |true=>
  have HC:Ha (fJ os a=0):=by unfold Ha fJ;rw[b];rfl
  have HE:=zb (Jl s A a ha b);rw[b]at P;have b1:=zb A;have b3:=zb h.ok;have N:=h.room;have k0:(w.alloc (Obj.cells #[Y V a] 158)).cell? ⟨w.heap.size,0,U⟩=vb (Y V a):=by rw[za a2];rfl
  have b0:=zb F;clear s h b A a2;go_enter func102,ntmps102;go_wp2_with (first|(go_at_call 150;with_reducible refine(P.o).mono ?_;rintro e w1 ⟨rfl,rfl⟩)|fail)
  with_reducible refine(HE.o).mono ?_
  rintro e w2 ⟨a3,Z,lv,rfl,K⟩;obtain⟨la,E,c5⟩:=zj K;subst c5;have c7:(bJ os a ls ls.length).length<=30:=xi (jL os a ls _) N;have Q:Ha (Kp (λk=>k=M.o\/k=M.h\/k∈bs) w w2):=Kp.before b0 (a3.mono (λk hk=>Or.inl hk));have b5:Ha (∀p∈bJ os a ls ls.length,p.1<ls.length/\zn os a (ls.getD p.1 L0).id=vb p.2):=λp hp=>dO hp
  have b6:Ha (((bJ os a ls ls.length).map Prod.fst).Nodup):=jK os a ls _;have b8:=zb (ME Zl os a ls);generalize bJ os a ls ls.length=l at *;have T:=zb Z;have R:=zb K;clear a3 Z K HE P k0;go_wp2_with fail;go_loopw [6,17] (λ_ ii wr=>∃k:Nat,ii=Y V k/\k<=l.length/\Kp (λk=>k=M.o\/k=M.h\/k∈bs) w wr/\PV (os.filter (λo=>o.id != a)) rj wr S M v td bs pvs (cH Zl (ls.map (gO os a)) (l.take k))/\wr.ownsRow 0 241 2 (vd la l.length E) l.length (zk bs l)) (λ_ ii _=>l.length-(intOf ii).toNat)
  case atStart=>exact⟨0,rfl,by omega,Q,T,R⟩
  clear T R Q;obtain⟨k,rfl,hk,B,s,r⟩:=hrel;by_cases x:k<l.length
  ·obtain⟨G,rfl,c9,g1,g2⟩:=Z6 r k x;have a7:l.getD k (0,0)∈l:=by simp[WI,x]
   have et:l.take (k+1)=l.take k++[l.getD k (0,0)]:=by
    rw[xn x];simp[WI,x]
   obtain⟨H,J⟩:=b5.o _ a7;have j:(l.getD k (0,0)).1 ∉ (l.take k).map Prod.fst:=by
    have:=b6.o
    have e2:l.map Prod.fst=((l.take k).map Prod.fst++[(l.getD k (0,0)).1])++(l.drop (k+1)).map Prod.fst:=by
     conv=>lhs;rw[<-Yz (k+1) l,et]
     simp
    rw[e2]at this;have:=(yy.1 (yy.1 this).1).2.2;intro hm;exact this _ hm _ (by simp) rfl
   generalize c6:l.getD k (0,0)=p at *;obtain⟨c,n⟩:=p;simp only at *;clear c6 a7;have C:(cH Zl (ls.map (gO os a)) (l.take k)).length=ls.length:=by rw[aS];simp
   have m:(cH Zl (ls.map (gO os a)) (l.take k)).getD c L0=gO os a (ls.getD c L0):=by rw[bR Zl _ _ j,aN H]
   have g:=s.lot c (by rw[C];exact H);rw[m]at g;have y:=b3.o _ (zf H);have a6:n<=(ls.getD c L0).hd:=by rw[b1.o.hd c H];exact fZ J
   have D:L.Ok (Zl (gO os a (ls.getD c L0)) n):=JC y J a6;have a5:cH Zl (ls.map (gO os a)) (l.take (k+1))=(cH Zl (ls.map (gO os a)) (l.take k)).set c (Zl (gO os a (ls.getD c L0)) n):=by rw[et,eG,m]
   have t:bs.getD c 0∈bs:=zH (by rw[s.len,C];exact H);have W:=Wm wr (vf #[ve (vb ⟨bs.getD c 0,0,U⟩),Y V n] 241);have u:=xq wr (vf #[ve (vb ⟨bs.getD c 0,0,U⟩),Y V n] 241);have a1:=zc g;have d:=(W.block _ a1).trans g;have X:=s.below W;have f:=zh r W;have a9:=y.sum;have d0:(wr.alloc (vf #[ve (vb ⟨bs.getD c 0,0,U⟩),Y V n] 241)).cell? ⟨wr.heap.size,0,U⟩=vb (ve (vb ⟨bs.getD c 0,0,U⟩)):=by rw[za u];rfl
   have d1:(wr.alloc (vf #[ve (vb ⟨bs.getD c 0,0,U⟩),Y V n] 241)).cell? ⟨wr.heap.size,1,U⟩=vb (Y V n):=by rw[za u];rfl
   have e6:(wr.alloc (vf #[ve (vb ⟨bs.getD c 0,0,U⟩),Y V n] 241)).cell? ⟨bs.getD c 0,6,U⟩=vb (Y V ((ls.getD c L0).free:Int)):=by rw[za d];rfl
   have f6:=ze d 6;have z:((wr.alloc (vf #[ve (vb ⟨bs.getD c 0,0,U⟩),Y V n] 241)).setCell ⟨bs.getD c 0,6,U⟩ (Y V (((ls.getD c L0).free:Int)+(n:Int)))).heap[bs.getD c 0]?=vb (vf (zm (Zl (gO os a (ls.getD c L0)) n) (pvs.getD c default)) 231 (0,0)):=by
    have:=xu _ (bs.getD c 0) 6 _ 231 (Y V (((ls.getD c L0).free:Int)+(n:Int))) d
    exact this
   have a0:PV (os.filter (λo=>o.id != a)) rj ((wr.alloc (vf #[ve (vb ⟨bs.getD c 0,0,U⟩),Y V n] 241)).setCell ⟨bs.getD c 0,6,U⟩ (Y V (((ls.getD c L0).free:Int)+(n:Int)))) S M v td bs pvs (cH Zl (ls.map (gO os a)) (l.take (k+1))):=by
    rw[a5];exact X.lotset (i:=c) (by rw[C];exact H) D (by rw[m];rfl) z (λq _ hq=>xd _ _ _ _ hq)
   have a8:((wr.alloc (vf #[ve (vb ⟨bs.getD c 0,0,U⟩),Y V n] 241)).setCell ⟨bs.getD c 0,6,U⟩ (Y V (((ls.getD c L0).free:Int)+(n:Int)))).ownsRow 0 241 2 (vd (vb ⟨G,0,U⟩) l.length E) l.length (zk bs l):=zd f (λq hq=>by
    obtain⟨cs,b9⟩:=zi f hq;exact xd _ _ _ _ (zt b9 d (by decide)))
   have a4:Kp (λk=>k=M.o\/k=M.h\/k∈bs) w ((wr.alloc (vf #[ve (vb ⟨bs.getD c 0,0,U⟩),Y V n] 241)).setCell ⟨bs.getD c 0,6,U⟩ (Y V (((ls.getD c L0).free:Int)+(n:Int)))):=(B.after W).setCell (p:=⟨bs.getD c 0,6,U⟩) (Or.inl (Or.inr (Or.inr t))) _;have b4:=zb a0;have b7:=zb a8;have b2:=zb a4;have d2:(ls.getD c L0).free+n<=2147483647:=by omega
   generalize (ls.getD c L0).free=fr at *;generalize bs.getD c 0=bc at *;clear et H J j C m g y a6 D a5 t d X f a9 z a0 a8 a4 s r B;have c8:¬wr.heap.size=bc:=by omega
   go_wp2_with fail;generalize (wr.alloc (vf #[ve (vb ⟨bc,0,U⟩),Y V n] 241))=wb at *
   clear u W;go_region;go_wp2_with fail;go_roundw
   case rel=>exact⟨k+1,by go_num,by omega,b2.after ((xm _ _).drew),b4.below ((xm _ _).drew),zh b7 ((xm _ _).drew)⟩
   simp[intOf];omega
  obtain rfl:k=l.length:=by omega
  rw[XZ,b8.o]at s;have HP:=zb s;have HK:=zb B;clear x s B r;go_wp2_with fail;go_ret;exact⟨HK,by rw[HC.o];rfl,HP⟩
def OZ(h:PV os rj w S M v td bs pvs ls)(A:Good os ls)(a:Nat)(ha:a<=2147483647):Calls prog 103 #[ve (vb ⟨S,0,U⟩),.agg #[Y V a]] w λe w'=>Kp (λk=>k=M.o\/k=M.h\/k∈bs) w w'/\e=vg (Y V (fJ os a:Int))/\PV (os.filter (λo=>o.id != a)) rj w' S M v td bs pvs (ls.map (dJ Zv os a)):=by
 have F:=Wm w (Obj.cells #[Y V a] 160);have a2:=xq w (Obj.cells #[Y V a] 160);have s:=h.below F;have P:=zb (bX s a ha)
 cases b:os.any (λo=>o.id==a) with
 |false=>
  have HC:Ha (fJ os a=9):=by unfold Ha fJ;rw[b];rfl
  have HN:=zb (oC b Zv ls);rw[b]at P;have HP:=zb s;clear s h b A;go_enter func103,ntmps103;go_wp2_with (go_at_call 150;with_reducible refine(P.o).mono ?_;rintro e w1 ⟨rfl,rfl⟩);go_ret;exact⟨WT F,by rw[HC.o];rfl,by rw[HN.o.1,HN.o.2];exact HP⟩
 |true=>
  have HC:Ha (fJ os a=0):=by unfold Ha fJ;rw[b];rfl
  have HE:=zb (Jl s A a ha b);rw[b]at P;have b1:=zb A;have b3:=zb h.ok;have N:=h.room;have k0:(w.alloc (Obj.cells #[Y V a] 160)).cell? ⟨w.heap.size,0,U⟩=vb (Y V a):=by rw[za a2];rfl
  have b0:=zb F;clear s h b A a2;go_enter func103,ntmps103;go_wp2_with (first|(go_at_call 150;with_reducible refine(P.o).mono ?_;rintro e w1 ⟨rfl,rfl⟩)|fail)
  with_reducible refine(HE.o).mono ?_
  rintro e w2 ⟨a3,Z,lv,rfl,K⟩;obtain⟨la,E,c5⟩:=zj K;subst c5;have c7:(bJ os a ls ls.length).length<=30:=xi (jL os a ls _) N;have Q:Ha (Kp (λk=>k=M.o\/k=M.h\/k∈bs) w w2):=Kp.before b0 (a3.mono (λk hk=>Or.inl hk));have b5:Ha (∀p∈bJ os a ls ls.length,p.1<ls.length/\zn os a (ls.getD p.1 L0).id=vb p.2):=λp hp=>dO hp
  have b6:Ha (((bJ os a ls ls.length).map Prod.fst).Nodup):=jK os a ls _;have b8:=zb (ME Zv os a ls);generalize bJ os a ls ls.length=l at *;have T:=zb Z;have R:=zb K;clear a3 Z K HE P k0;go_wp2_with fail;go_loopw [6,17] (λ_ ii wr=>∃k:Nat,ii=Y V k/\k<=l.length/\Kp (λk=>k=M.o\/k=M.h\/k∈bs) w wr/\PV (os.filter (λo=>o.id != a)) rj wr S M v td bs pvs (cH Zv (ls.map (gO os a)) (l.take k))/\wr.ownsRow 0 241 2 (vd la l.length E) l.length (zk bs l)) (λ_ ii _=>l.length-(intOf ii).toNat)
  case atStart=>exact⟨0,rfl,by omega,Q,T,R⟩
  clear T R Q;obtain⟨k,rfl,hk,B,s,r⟩:=hrel;by_cases x:k<l.length
  ·obtain⟨G,rfl,c9,g1,g2⟩:=Z6 r k x;have a7:l.getD k (0,0)∈l:=by simp[WI,x]
   have et:l.take (k+1)=l.take k++[l.getD k (0,0)]:=by
    rw[xn x];simp[WI,x]
   obtain⟨H,J⟩:=b5.o _ a7;have j:(l.getD k (0,0)).1 ∉ (l.take k).map Prod.fst:=by
    have:=b6.o
    have e2:l.map Prod.fst=((l.take k).map Prod.fst++[(l.getD k (0,0)).1])++(l.drop (k+1)).map Prod.fst:=by
     conv=>lhs;rw[<-Yz (k+1) l,et]
     simp
    rw[e2]at this;have:=(yy.1 (yy.1 this).1).2.2;intro hm;exact this _ hm _ (by simp) rfl
   generalize c6:l.getD k (0,0)=p at *;obtain⟨c,n⟩:=p;simp only at *;clear c6 a7;have C:(cH Zv (ls.map (gO os a)) (l.take k)).length=ls.length:=by rw[aS];simp
   have m:(cH Zv (ls.map (gO os a)) (l.take k)).getD c L0=gO os a (ls.getD c L0):=by rw[bR Zv _ _ j,aN H]
   have g:=s.lot c (by rw[C];exact H);rw[m]at g;have y:=b3.o _ (zf H);have a6:n<=(ls.getD c L0).hd:=by rw[b1.o.hd c H];exact fZ J
   have D:L.Ok (Zv (gO os a (ls.getD c L0)) n):=LM y J a6;have a5:cH Zv (ls.map (gO os a)) (l.take (k+1))=(cH Zv (ls.map (gO os a)) (l.take k)).set c (Zv (gO os a (ls.getD c L0)) n):=by rw[et,eG,m]
   have t:bs.getD c 0∈bs:=zH (by rw[s.len,C];exact H);have W:=Wm wr (vf #[ve (vb ⟨bs.getD c 0,0,U⟩),Y V n] 241);have u:=xq wr (vf #[ve (vb ⟨bs.getD c 0,0,U⟩),Y V n] 241);have a1:=zc g;have d:=(W.block _ a1).trans g;have X:=s.below W;have f:=zh r W;have a9:=y.sum;have d0:(wr.alloc (vf #[ve (vb ⟨bs.getD c 0,0,U⟩),Y V n] 241)).cell? ⟨wr.heap.size,0,U⟩=vb (ve (vb ⟨bs.getD c 0,0,U⟩)):=by rw[za u];rfl
   have d1:(wr.alloc (vf #[ve (vb ⟨bs.getD c 0,0,U⟩),Y V n] 241)).cell? ⟨wr.heap.size,1,U⟩=vb (Y V n):=by rw[za u];rfl
   have e6:(wr.alloc (vf #[ve (vb ⟨bs.getD c 0,0,U⟩),Y V n] 241)).cell? ⟨bs.getD c 0,8,U⟩=vb (Y V ((ls.getD c L0).sh:Int)):=by rw[za d];rfl
   have f6:=ze d 8;have z:((wr.alloc (vf #[ve (vb ⟨bs.getD c 0,0,U⟩),Y V n] 241)).setCell ⟨bs.getD c 0,8,U⟩ (Y V (((ls.getD c L0).sh:Int)+(n:Int)))).heap[bs.getD c 0]?=vb (vf (zm (Zv (gO os a (ls.getD c L0)) n) (pvs.getD c default)) 231 (0,0)):=by
    have:=xu _ (bs.getD c 0) 8 _ 231 (Y V (((ls.getD c L0).sh:Int)+(n:Int))) d
    exact this
   have a0:PV (os.filter (λo=>o.id != a)) rj ((wr.alloc (vf #[ve (vb ⟨bs.getD c 0,0,U⟩),Y V n] 241)).setCell ⟨bs.getD c 0,8,U⟩ (Y V (((ls.getD c L0).sh:Int)+(n:Int)))) S M v td bs pvs (cH Zv (ls.map (gO os a)) (l.take (k+1))):=by
    rw[a5];exact X.lotset (i:=c) (by rw[C];exact H) D (by rw[m];rfl) z (λq _ hq=>xd _ _ _ _ hq)
   have a8:((wr.alloc (vf #[ve (vb ⟨bs.getD c 0,0,U⟩),Y V n] 241)).setCell ⟨bs.getD c 0,8,U⟩ (Y V (((ls.getD c L0).sh:Int)+(n:Int)))).ownsRow 0 241 2 (vd (vb ⟨G,0,U⟩) l.length E) l.length (zk bs l):=zd f (λq hq=>by
    obtain⟨cs,b9⟩:=zi f hq;exact xd _ _ _ _ (zt b9 d (by decide)))
   have a4:Kp (λk=>k=M.o\/k=M.h\/k∈bs) w ((wr.alloc (vf #[ve (vb ⟨bs.getD c 0,0,U⟩),Y V n] 241)).setCell ⟨bs.getD c 0,8,U⟩ (Y V (((ls.getD c L0).sh:Int)+(n:Int)))):=(B.after W).setCell (p:=⟨bs.getD c 0,8,U⟩) (Or.inl (Or.inr (Or.inr t))) _;have b4:=zb a0;have b7:=zb a8;have b2:=zb a4;have d2:(ls.getD c L0).sh+n<=2147483647:=by omega
   generalize (ls.getD c L0).sh=fr at *;generalize bs.getD c 0=bc at *;clear et H J j C m g y a6 D a5 t d X f a9 z a0 a8 a4 s r B;have c8:¬wr.heap.size=bc:=by omega
   go_wp2_with fail;generalize (wr.alloc (vf #[ve (vb ⟨bc,0,U⟩),Y V n] 241))=wb at *
   clear u W;go_region;go_wp2_with fail;go_roundw
   case rel=>exact⟨k+1,by go_num,by omega,b2.after ((xm _ _).drew),b4.below ((xm _ _).drew),zh b7 ((xm _ _).drew)⟩
   simp[intOf];omega
  obtain rfl:k=l.length:=by omega
  rw[XZ,b8.o]at s;have HP:=zb s;have HK:=zb B;clear x s B r;go_wp2_with fail;go_ret;exact⟨HK,by rw[HC.o];rfl,HP⟩
