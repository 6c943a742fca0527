import Derived.Test.YtgcedalggnmooaaGreatDoorOd4X
import Derived.Test.YtgcedalggnmooaaGreatDoorHlX
set_option linter.all false
set_option maxRecDepth 100000
set_option maxHeartbeats 3200000
namespace Go.Proofs.YtgcedalggnmooaaGreatDoor
open Go.RowKit
open Tryz
def gC(os:List O)(a:Nat)(l:L):L:={ l with hd:=l.hd-(zr os a l.id).getD 0 }
def cD(g:L->Nat->L)(ls:List L):List (Nat×Nat)->List L
 |p::r=>cD g (ls.set p.1 (g (ls.getD p.1 L0) p.2)) r
 |[]=>ls
theorem eD(g:L->Nat->L)(p:Nat×Nat):∀(l:List (Nat×Nat)) (ls:List L),cD g ls (l++[p])=(cD g ls l).set p.1 (g ((cD g ls l).getD p.1 L0) p.2)
 |[],ls=>rfl
 |q::r,ls=>by simp only[XF,cD];exact eD g p r _
theorem aL(g:L->Nat->L):∀(l:List (Nat×Nat)) (ls:List L),(cD g ls l).length=ls.length
 |[],ls=>rfl
 |q::r,ls=>by simp only[cD];rw[aL g r];simp
theorem bM(g:L->Nat->L){i:Nat}:∀(l:List (Nat×Nat)) (ls:List L),i ∉ l.map Prod.fst->(cD g ls l).getD i L0=ls.getD i L0
 |[],ls,_=>rfl
 |q::r,ls,h=>by
  simp only[List.map_cons,xx,not_or]at h;simp only[cD];rw[bM g r _ h.2,zQ h.1]
theorem xW(g:L->Nat->L){i n:Nat}:∀(l:List (Nat×Nat)) (ls:List L),(l.map Prod.fst).Nodup->(i,n)∈l->i<ls.length->(cD g ls l).getD i L0=g (ls.getD i L0) n
 |[],ls,_,h,_=>by simp at h
 |q::r,ls,hn,h,hi=>by
  simp only[List.map_cons,XP]at hn;simp only[cD];rcases xx.1 h with h|h
  ·subst h;rw[bM g r _ hn.1,Za hi]
  have a:i≠q.1:=λe=>hn.1 (by rw[<-e];exact Xe h)
  rw[xW g r _ hn.2 h (by simpa using hi),zQ a]
theorem vM{a b:List L}(e:a.length=b.length)(h:∀i,i<a.length->a.getD i L0=b.getD i L0):a=b:=by
 apply yn e
 intro i c d;have:=h i c;simpa [Uv,c,d] using this
variable {S a b i n td:Nat}{ls:List L}
theorem aJ{f:L->L}(a:i<ls.length):(ls.map f).getD i L0=f (ls.getD i L0):=by simp[Uv,a]
def bX(os:List O)(a:Nat)(ls:List L)(i:Nat):List (Nat×Nat):=((Uh ls).take i).filterMap λj=>(zr os a (ls.getD j L0).id).map λn=>(j,n)
theorem DK{k:Nat}(a:k<ls.length):(Uh ls).take (k+1)=(Uh ls).take k++[(Uh ls).getD k 0]:=by
 have h:k<(Uh ls).length:=by rw[fE];exact a
 rw[xl h];simp[Uv,h]
variable {os:List O}
theorem LN(b:i<ls.length)(h:zr os a (ls.getD ((Uh ls).getD i 0) L0).id=some n):bX os a ls (i+1)=bX os a ls i++[((Uh ls).getD i 0,n)]:=by
 unfold bX;rw[DK b,List.filterMap_append];have e:List.filterMap (λj=>(zr os a (ls.getD j L0).id).map λn=>(j,n)) [(Uh ls).getD i 0]=[((Uh ls).getD i 0,n)]:=by simp only[List.filterMap,h,XK]
 rw[e]
theorem Hr(b:i<ls.length)(h:zr os a (ls.getD ((Uh ls).getD i 0) L0).id=none):bX os a ls (i+1)=bX os a ls i:=by
 unfold bX;rw[DK b,List.filterMap_append];have e:List.filterMap (λj=>(zr os a (ls.getD j L0).id).map λn=>(j,n)) [(Uh ls).getD i 0]=[]:=by simp only[List.filterMap,h,Option.map_none]
 rw[e,XR]
theorem nI(os:List O)(a:Nat)(ls:List L)(i:Nat):(bX os a ls i).length<=i:=by
 have:=List.length_filterMap_le (λj=>(zr os a (ls.getD j L0).id).map λn=>(j,n)) ((Uh ls).take i)
 have b:=Ym i (Uh ls);exact xj this b
theorem jA{p:Nat×Nat}(h:p∈bX os a ls i):p.1<ls.length/\zr os a (ls.getD p.1 L0).id=some p.2:=by
 unfold bX at h;obtain⟨j,e,b⟩:=List.mem_filterMap.1 h;have c:=BR.1 (yt e)
 cases d:zr os a (ls.getD j L0).id with
 |none=>rw[d]at b;cases b
 |some n=>rw[d]at b;cases b;exact⟨c,d⟩
theorem NM{f:Nat->Option Nat}:∀l:List Nat,(l.filterMap λj=>(f j).map λn=>(j,n)).map Prod.fst=l.filter (λj=>(f j).isSome)
 |[]=>rfl
 |j::l=>by
  have a:=NM (f:=f) l
  cases h:f j with
  |none=>rw[List.filterMap_cons_none (by rw[h];rfl),List.filter_cons_of_neg (by rw[h];simp)];exact a
  |some n=>rw[List.filterMap_cons_some (b:=(j,n)) (by rw[h];rfl),List.filter_cons_of_pos (by rw[h];rfl),List.map_cons,a]
theorem iZ(os:List O)(a:Nat)(ls:List L)(i:Nat):((bX os a ls i).map Prod.fst).Nodup:=by
 unfold bX;rw[NM (f:=λj=>zr os a (ls.getD j L0).id)];exact((GZ ls).sublist (xad _ _)).filter _
theorem vK(h:zr os a (ls.getD i L0).id=some n)(b:i<ls.length):(i,n)∈bX os a ls ls.length:=by
 unfold bX;refine List.mem_filterMap.2 ⟨i,?_,by rw[h];rfl⟩;rw[Xh (by rw[fE];exact xc _)];exact BR.2 b
def dG(os:List O)(a:Nat)(ls:List L)(l:List (Nat×Nat)):List O:=l.foldl (λos p=>Zf os a (ls.getD p.1 L0).id) os
def DM(l:L)(n:Nat):L:={ l with hd:=l.hd-n }
theorem Fj(os:List O)(a:Nat)(ls:List L)(l:List (Nat×Nat))(p:Nat×Nat):dG os a ls (l++[p])=Zf (dG os a ls l) a (ls.getD p.1 L0).id:=by
 unfold dG;rw[xbm];rfl
theorem OR(os:List O)(a:Nat)(ls:List L):cD DM ls (bX os a ls ls.length)=ls.map (gC os a):=by
 apply vM
 ·rw[aL];simp
 intro i b;rw[aL]at b;rw[aJ b]
 cases h:zr os a (ls.getD i L0).id with
 |some n=>
  rw[xW DM _ _ (iZ os a ls _) (vK h b) b];unfold DM gC;rw[h];rfl
 |none=>
  rw[bM]
  ·unfold gC;rw[h];rfl
  intro c;obtain⟨p,d,rfl⟩:=Xg.1 c;have:=(jA d).2;rw[h]at this;cases this
theorem BZ(os:List O)(a b:Nat):(Zf os a b).map O.id=os.map O.id:=by
 unfold Zf;rw[Ya];congr 1;funext o;exact kN a b o
theorem yY(h:∀o∈os,(o.li.map Prod.fst).Nodup):∀o∈Zf os a b,(o.li.map Prod.fst).Nodup:=by
 intro o e;obtain⟨d,c,rfl⟩:=Xg.1 e;unfold Ca;split
 ·exact(h d c).sublist ((xaY (l:=d.li)).map _)
 exact h d c
structure TA(os:List O)(a:Nat)(ls:List L)(l:List (Nat×Nat)):Prop where
 ids:((dG os a ls l).map O.id)=os.map O.id
 keys:∀o∈dG os a ls l,(o.li.map Prod.fst).Nodup
 line:∀a' b',zr (dG os a ls l) a' b'=if a'=a/\(∃p∈l,(ls.getD p.1 L0).id=b') then none else zr os a' b'
theorem UI{ls:List L}(a:Nat):∀(l:List (Nat×Nat)) {os:List O},(∀o∈os,(o.li.map Prod.fst).Nodup)->TA os a ls l
 |[],os,hk=>⟨rfl,hk,λh i=>by simp[dG]⟩
 |q::l,os,hk=>by
  have k:=UI (ls:=ls) a l (yY (a:=a) (b:=(ls.getD q.1 L0).id) hk);have e:dG os a ls (q::l)=dG (Zf os a (ls.getD q.1 L0).id) a ls l:=rfl;refine⟨by rw[e,k.ids,BZ],by rw[e];exact k.keys,λh i=>?_⟩;rw[e,k.line,kV];by_cases j:h=a/\∃p∈l,(ls.getD p.1 L0).id=i
  ·obtain⟨f,p,c,g⟩:=j;rw[xe ⟨f,p,c,g⟩,xe ⟨f,p,Yx _ c,g⟩]
  rw[xg j];by_cases d:h=a/\i=(ls.getD q.1 L0).id
  ·rw[xe d,xe ⟨d.1,q,by simp,d.2.symm⟩]
  rw[xg d,xg];rintro⟨f,p,c,g⟩;rcases xx.1 c with rfl|c
  ·exact d ⟨f,g.symm⟩
  exact j ⟨f,p,c,g⟩
theorem pK(a:(os.map O.id).Nodup){o:O}(c:o∈os):os.find? (λd=>d.id==o.id)=some o:=by
 induction os with
 |nil=>simp at c
 |cons x os ih=>
  simp only[List.map_cons,XP]at a;rcases xx.1 c with rfl|h
  ·simp
  have b:(x.id==o.id)=false:=by
   rw[xp];intro e;exact a.1 (by rw[e];exact Xe h)
  simp only[List.find?,b];exact ih a.2 h
theorem Ht(m:Good os ls)(a:Nat):∀o∈dG os a ls (bX os a ls ls.length),o.id=a->o.li=[]:=by
 intro o A s;have x:=UI (ls:=ls) a (bX os a ls ls.length) m.keys;have z:((dG os a ls (bX os a ls ls.length)).map O.id).Nodup:=by rw[x.ids];exact m.oids
 have w:=pK z A;have f:∀b,o.li.lookup b=none:=λb=>by
  have k:=x.line a b;have e:zr (dG os a ls (bX os a ls ls.length)) a b=o.li.lookup b:=by unfold zr;rw[s]at w;rw[w];rfl
  rw[e]at k;rw[k];by_cases l:∃p∈bX os a ls ls.length,(ls.getD p.1 L0).id=b
  ·rw[xe ⟨rfl,l⟩]
  rw[xg (λq=>l q.2)]
  cases c:zr os a b with
  |none=>rfl
  |some n=>
   exfalso
   have h:=c;unfold zr at c
   cases d:os.find? (λo=>o.id==a) with
   |none=>rw[d]at c;cases c
   |some o' =>
    rw[d]at c;simp only[xk]at c;have i:b∈o'.li.map Prod.fst:=XV λu=>by rw[ZD.2 u]at c;cases c
    obtain⟨p,B,v⟩:=Xg.1 i;obtain⟨j,y,t⟩:=m.mem o' (Yr d) p B;have g:(ls.getD j L0).id=b:=by rw[t,v]
    exact l ⟨(j,n),vK (by rw[g];exact h) y,g⟩
 cases k:o.li with
 |nil=>rfl
 |cons p r=>
  have:=f p.1
  rw[k]at this;simp[List.lookup]at this
theorem sM(os:List O)(a b:Nat):(Zf os a b).filter (λo=>o.id != a)=os.filter (λo=>o.id != a):=by
 induction os with
 |nil=>rfl
 |cons o os ih=>
  have c:(os.map (Ca a b)).filter (λo=>o.id != a)=os.filter (λo=>o.id != a):=ih;simp only[Zf,List.map_cons,List.filter,kN];by_cases h:o.id=a
  ·simp[h,c]
  have d:(o.id != a)=true:=by simp[h]
  have hd:Ca a b o=o:=by unfold Ca;rw[xg h]
  simp[d,c,hd]
theorem fJ(a:Nat)(ls:List L):∀(l:List (Nat×Nat)) (os:List O),(dG os a ls l).filter (λo=>o.id != a)=os.filter (λo=>o.id != a)
 |[],os=>rfl
 |p::l,os=>by
  show(dG (Zf os a (ls.getD p.1 L0).id) a ls l).filter (λo=>o.id != a)=_;rw[fJ a ls l,sM]
theorem eG{a b:Nat}(d:¬b=a):∀os:List O,(os.filter (λo=>o.id != a)).find? (λo=>o.id==b)=os.find? (λo=>o.id==b)
 |[]=>rfl
 |o::os=>by
  by_cases e:o.id=a
  ·have f:(o.id != a)=false:=by simp[e]
   have c:(o.id==b)=false:=by simp;omega
   simp only[List.filter,List.find?,f,c];exact eG d os
  have c:(o.id != a)=true:=by simp[e]
  simp only[List.filter,c,List.find?]
  cases g:o.id==b with
  |true=>rfl
  |false=>exact eG d os
theorem kA{a n:Nat}(b:¬n=a):∀os:List O,os.any (λo=>o.id==n)=(os.filter (λo=>o.id != a)).any (λo=>o.id==n)
 |[]=>rfl
 |o::os=>by
  by_cases c:o.id=a
  ·have d:(o.id != a)=false:=by simp[c]
   have f:(o.id==n)=false:=by simp;omega
   simp only[xaa,f,xbq,List.filter,d];exact kA b os
  have e:(o.id != a)=true:=by simp[c]
  simp only[xaa,List.filter,e];rw[kA b os]
variable {D:DataW Unit}
theorem HD.final(h:HD os D){a:Nat}(i:∀o∈os,o.id=a->o.li=[]):HD (os.filter (λo=>o.id != a)) D:=by
 have j:∀b c,zr (os.filter (λo=>o.id != a)) b c=zr os b c:=λb c=>by
  unfold zr;by_cases k:b=a
  ·subst k;have e:(os.filter (λo=>o.id != b)).find? (λo=>o.id==b)=none:=by
    rw[yj];intro o g m;have:=XW.1 g;simp at this m;exact this.2 m
   rw[e]
   cases l:os.find? (λo=>o.id==b) with
   |none=>rfl
   |some o=>
    have:=i o (Yr l) (by simpa using xbH l)
    simp[this,List.lookup]
  rw[eG k]
 have p:Zc (os.filter (λo=>o.id != a))=Zc os:=by
  clear h j;induction os with
  |nil=>rfl
  |cons o os ih=>
   have d:=ih (λq n=>i q (by simp[n]));by_cases g:o.id=a
   ·have:=i o (by simp) g
    simp only[List.filter,g,xaF];rw[d];simp[Zc,this]
   have f:(o.id != a)=true:=by simp[g]
   simp only[List.filter,f,Zc,List.map_cons,List.sum_cons]at d ⊢;rw[d]
 exact⟨by rw[h.size,p],λb c e f=>by rw[j];exact h.has b c e f,λb c e f=>by rw[j];exact h.val b c e f⟩
theorem OD.del{os:List O}{D:DataW Unit}(h:OD os D)(w:Maps.Tidy D)(j:(os.map O.id).Nodup){a:Nat}(v:a<=2147483647)(g:os.any (λo=>o.id==a)=true):OD (os.filter (λo=>o.id != a)) (D.del (dX a)):=by
 have i:∀(os:List O),(os.map O.id).Nodup->(os.filter (λo=>o.id != a)).length+(if os.any (λo=>o.id==a) then 1 else 0)=os.length:=by
  intro os;induction os with
  |nil=>intro _;rfl
  |cons o os ih=>
   intro j;simp only[List.map_cons,XP]at j;have d:=ih j.2;by_cases b:o.id=a
   ·have m:os.any (λo=>o.id==a)=false:=by
     rw[yp];intro x y c;exact j.1 (by rw[b];have:x.id=a:=(by simpa using c);rw[<-this];exact Xe y)
    rw[m]at d;simp only[List.filter,b,xaF,xaa,xbx,Bool.true_or,YC,List.length_cons];simp at d;simpa using d
   have t:(o.id != a)=true:=by simp[b]
   have u:(o.id==a)=false:=by simp[b]
   simp only[List.filter,t,xaa,u,xbq,List.length_cons];omega
 refine⟨?_,λn c=>?_,λn c=>?_,λp l=>?_⟩
 ·have r:=Maps.size_del (k:=dX a) w;rw[h.has a v,g,h.size]at r;have s:=i os j;rw[g]at s;simp only[YC]at r s;omega
 ·by_cases e:n=a
  ·subst e;rw[xae,eq_comm,yp];intro o b f;have:=(XW.1 b).2;simp at this f;exact this f
  rw[YY (λq=>e (gH q)),h.has n c];exact kA e os
 ·by_cases e:n=a
  ·subst e;rw[Maps.atKey_del_same];unfold aC;have:(os.filter (λo=>o.id != n)).find? (λo=>o.id==n)=none:=by
    rw[yj];intro o b f;have:=(XW.1 b).2;simp at this f;exact this f
   rw[this];rfl
  rw[Maps.atKey_del_other (λq=>e (gH q)),h.val n c];unfold aC;rw[eG e]
 by_cases c:p=dX a
 ·subst c;rw[xae]at l;cases l
 rw[YY c]at l;obtain⟨o,b,e⟩:=h.keys p l;refine⟨o,XW.2 ⟨b,?_⟩,e⟩;have:o.id≠a:=λx=>c (by rw[e,x])
 simpa using this
theorem OD.line(h:OD os D)(a b:Nat):OD (Zf os a b) D:=by
 have d:∀n,aC (Zf os a b) n=aC os n:=λn=>by
  unfold aC Zf;rw[List.find?_map];have e:((λo:O=>o.id==n)∘Ca a b)=λo=>o.id==n:=by funext o;simp[kN]
  rw[e]
  cases os.find? (λo=>o.id==n) with
  |none=>rfl
  |some o=>simp only[XK];unfold Ca;split<;>rfl
 refine⟨by rw[h.size];simp[Zf],λn c=>by rw[h.has n c,Ow],λn c=>by rw[d];exact h.val n c,λi f=>?_⟩;obtain⟨o,g,e⟩:=h.keys i f;exact⟨Ca a b o,Xe g,by rw[kN];exact e⟩
theorem vW{o:O}(a:o∈os)(b:Nat):ZW o b<=zH os b:=by
 induction os with
 |nil=>simp at a
 |cons x os ih=>
  simp only[zH,List.map_cons,List.sum_cons]at ih ⊢;rcases xx.1 a with rfl|h
  ·omega
  have:=ih h;omega
theorem kW(h:zr os a b=some n):n<=zH os b:=by
 unfold zr at h
 cases c:os.find? (λo=>o.id==a) with
 |none=>rw[c]at h;cases h
 |some o=>
  rw[c]at h;simp only[xk]at h;have:=vW (Yr c) b;unfold ZW at this;rw[h]at this;simpa using this
variable {w:World}
theorem rJ{Z:Nat->Prop}{w':World}(h:w.mapTurned w' b)(a:Z b):Kp Z w w':=jD h.grown a
variable {l:L}
theorem QZ(h:L.Ok l)(n:Nat):L.Ok (DM l n):=⟨h.id,h.gd,h.ex,h.place,(by have:=h.sum;show l.free+(l.hd-n)+l.sh+l.sc+l.gv<=2147483647;omega),h.got,h.par⟩
theorem Uj(w:World):Below w.heap.size w w.drew:=(xh _ _).drew
variable {v:Value}
theorem MP{B b:Nat}{e:TypeId}{size:Nat}{xs:List Value}(h:w.ownsRow B e size v n xs)(i:b<=B):w.ownsRow b e size v n xs:=by
 refine⟨h.1,?_⟩;rcases h.2 with h|⟨g,cap,a,c,d,f⟩
 ·exact Or.inl h
 exact Or.inr ⟨g,cap,a,c,xj i d,f⟩
variable {M:Mx}{bs:List Nat}{pvs:List Value}{rj:List (Nat×Nat)}
theorem CA(h:PV os rj w S M v td bs pvs ls)(t:∀i j,i<ls.length->j<ls.length->(ls.getD i L0).id=(ls.getD j L0).id->i=j)(a:Nat)(ha:a<=2147483647):Calls prog 128 #[.pointer (some ⟨S,0,none⟩),.int .i64 a] w λe w'=>Below w.heap.size w w'/\∃lv,e=.returned lv/\w'.ownsRow w.heap.size 241 2 lv (bX os a ls ls.length).length (zl bs (bX os a ls ls.length)):=by
 obtain⟨i0,hi,a7,a8,a9⟩:=XH wG;have a6:=h.room;have K:=zb (lU h t);have a0:=zb h;clear h t;go_enter func128,ntmps128;go_wp2_with (go_at_call 123;refine K.mono ?_;rintro e w1 ⟨P,pa,b2,rfl,N⟩);have f:=zb P;have T:=zb N;clear P N K;go_wp2_with fail;go_loopw [5,7,8,9,13] (λlv _ _ _ ii wr=>∃k:Nat,ii=.int .i64 k/\k<=ls.length/\Below w1.heap.size w1 wr/\wr.ownsRow w1.heap.size 241 2 lv (bX os a ls k).length (zl bs (bX os a ls k))) (λ_ _ _ _ ii _=>ls.length-(intOf ii).toNat)
 case atStart=>exact⟨0,rfl,by omega,xh _ _,Xi _ _ _ _⟩
 obtain⟨k,rfl,hk,B,b⟩:=hrel;obtain⟨la,x,a3⟩:=zm b;subst a3;have a5:=nI os a ls k;by_cases p:k<ls.length
 ·have C:Below w.heap.size w wr:=f.trans (B.mono f.size);have d:=a0.below C;obtain⟨G,rfl,_,b1,a1⟩:=(T.below B) k (by rw[fE];exact p);have hj:=BQ p;have g:=zb (λn=>LN (os:=os) (a:=a) (n:=n) p);have c:=zb (Hr (os:=os) (a:=a) p);generalize (Uh ls).getD k 0=j at *;have m:=d.lot j hj;have E:=d.ok _ (zg hj);have a2:=E.id;have b3:=d.c3;obtain⟨Dh,s,A⟩:=d.maps.h;have D:=RF (w:=wr.drew) (zB s ((Uj wr).block M.h (Xr s))) A a (ls.getD j L0).id ha a2;have c0:wr.cell? ⟨bs.getD j 0,0,none⟩=some (.int .i64 ((ls.getD j L0).id:Int)):=by rw[za m];rfl
  have y:=zb B;have F:=zb b
  cases H:zr os a (ls.getD j L0).id with
  |none=>
   rw[H]at D;have X:=zb (c H);generalize (ls.getD j L0).id=idk at *;generalize bs.getD j 0=bk at *;clear m E s A H d b B C g c;go_wp2_with fail;go_region;go_wp2_with fail;go_roundw
   case rel=>exact⟨k+1,by go_num,by omega,y.trans ((Uj wr).mono y.size),by rw[X.o];exact zh F (Uj wr)⟩
   simp[intOf];omega
  |some n=>
   rw[H]at D;have X:=zb (g n H);generalize (ls.getD j L0).id=idk at *;obtain⟨bk,J⟩:=UM (bs.getD j 0);rw[<-J.o]at a1 c0;obtain⟨ql,z⟩:=UM ((bX os a ls k).length);rw[<-z.o]at F a5;rw[show(Value.slice la (bX os a ls k).length x)=Value.slice la ql x by rw[z.o]];clear m E s A H d b B C g c;go_wp2_with fail;go_region;clear D;have b4:w1.heap.size<=wr.heap.size:=y.size;go_wp2_with (at_builtin;refine Xb _ rfl _ _ 197 rfl w1.heap.size 241 i0 (.agg #[.pointer none,.int .i64 0]) 2 16 xO hi a7 a8 a9 rfl (by decide) _ ql (zl bs (bX os a ls k)) rfl ((zh F (Uj wr)).alloc _) ⟨wr.heap.size,0,none⟩ 1 1 [.pointer (some ⟨bk,0,none⟩),.int .i64 n] rfl rfl ?c1 ?c2 ?c3 ?c4 ?c5 ?_)
   case c1=>intro q u R;have:=Yb wr (.pointer (some ⟨bk,0,none⟩)) (.int .i64 n) 241 q u R;simpa using this
   case c2=>intro u R;simp at R;rcases R with rfl|rfl<;>rfl
   case c3=>unfold maxLen;omega
   case c4=>omega
   case c5=>simp;omega
   intro b0 w6 r l a4;have q1:Below w1.heap.size w1 wr.drew:=y.trans ((Uj wr).mono y.size);have Q:Below w1.heap.size w1 w6:=(q1.alloc q1.size _).grown l (by have:=q1.size;simp at *;omega) (λq hq=>(F.lt q hq).1);have Z:Ha (w6.ownsRow w1.heap.size 241 2 b0 (bX os a ls (k+1)).length (zl bs (bX os a ls (k+1)))):=by
    unfold Ha;rw[X.o,aG,xb,Xc,<-z.o,<-J.o];exact r
   have W:=zb Q;clear r l a4 Q;go_wp2_with fail;go_roundw
   case rel=>exact⟨k+1,by go_num,by omega,W,Z⟩
   simp[intOf];omega
 obtain rfl:k=ls.length:=by omega
 have y:=zb (f.trans (B.mono f.size));have F:=zb b;clear B b p;go_wp2_with fail;go_ret;exact⟨y,_,rfl,MP F f.size⟩
theorem Hs(h:PV os rj w S M v td bs pvs ls)(b8:Good os ls)(a:Nat)(ha:a<=2147483647)(b3:os.any (λo=>o.id==a)=true):Calls prog 154 #[.pointer (some ⟨S,0,none⟩),.int .i64 a] w λe w'=>Kp (λk=>k=M.o\/k=M.h\/k∈bs) w w'/\PV (os.filter (λo=>o.id != a)) rj w' S M v td bs pvs (ls.map (gC os a))/\∃lv,e=.returned lv/\w'.ownsRow 0 241 2 lv (bX os a ls ls.length).length (zl bs (bX os a ls ls.length)):=by
 have c5:=h.room;have c9:=zb (CA h b8.ids a ha);have d2:=zb h;have Q:=zb b8;have c6:=zb b3;clear h b8 b3;go_enter func154,ntmps154;go_wp2_with (go_at_call 128;refine c9.mono ?_;rintro e w1 ⟨b6,lv,rfl,b2⟩;obtain⟨la,a8,g4⟩:=zm b2;subst g4);have d6:Ha (∀p∈bX os a ls ls.length,p.1<ls.length/\zr os a (ls.getD p.1 L0).id=some p.2):=λp hp=>jA hp
 have d7:Ha (((bX os a ls ls.length).map Prod.fst).Nodup):=iZ os a ls _;have b9:(bX os a ls ls.length).length<=30:=xj (nI os a ls _) c5;obtain⟨l,HL⟩:=UM (bX os a ls ls.length);rw[<-HL.o]at d6 d7 b2 b9;rw[<-HL.o];have d3:=zb (d2.below b6);have c8:Ha (Kp (λk=>k=M.o\/k=M.h\/k∈bs) w w1):=UD b6;have d1:=zb (aK b2);clear b6 b2 c9 d2;go_wp2_with fail;go_loopw [7,13] (λ_ ii wr=>∃k:Nat,ii=.int .i64 k/\k<=l.length/\Kp (λk=>k=M.o\/k=M.h\/k∈bs) w wr/\PV (dG os a ls (l.take k)) rj wr S M v td bs pvs (cD DM ls (l.take k))/\wr.ownsRow 0 241 2 (.slice la l.length a8) l.length (zl bs l)) (λ_ ii _=>l.length-(intOf ii).toNat)
 case atStart=>exact⟨0,rfl,by omega,c8,d3,d1⟩
 clear d3 d1 c8;obtain⟨k,rfl,hk,b1,F,s⟩:=hrel;by_cases a4:k<l.length
 ·obtain⟨G,rfl,g7,g1,g2⟩:=aM s k a4;have f2:l.getD k (0,0)∈l:=by simp[Uv,a4]
  have et:l.take (k+1)=l.take k++[l.getD k (0,0)]:=by
   rw[xl a4];simp[Uv,a4]
  obtain⟨hc,e6⟩:=d6.o _ f2;have P:(l.getD k (0,0)).1 ∉ (l.take k).map Prod.fst:=by
   have:=d7.o
   have e2:l.map Prod.fst=((l.take k).map Prod.fst++[(l.getD k (0,0)).1])++(l.drop (k+1)).map Prod.fst:=by
    conv=>lhs;rw[<-XU (k+1) l,et]
    simp
   rw[e2]at this;have:=(Xx.1 (Xx.1 this).1).2.2;intro z;exact this _ z _ (by simp) rfl
  generalize g5:l.getD k (0,0)=p at *;obtain⟨c,n⟩:=p;simp only at *;clear g5 f2;have W:(cD DM ls (l.take k)).length=ls.length:=aL _ _ _;have y:(cD DM ls (l.take k)).getD c L0=ls.getD c L0:=bM DM _ _ P;have N:=F.lot c (by rw[W];exact hc);rw[y]at N;have a6:=F.ok _ (zg (k:=c) (by rw[W];exact hc));rw[y]at a6;have e3:=a6.id;have f4:=a6.sum;have a3:bs.getD c 0∈bs:=zL (by rw[F.len,W];exact hc);have j:=UI (ls:=ls) a (l.take k) Q.keys;have hn:n<=(ls.getD c L0).hd:=by rw[Q.o.hd c hc];exact kW e6
  have hB:=TZ wr (.cells #[.pointer (some ⟨bs.getD c 0,0,none⟩),.int .i64 n] 241);have A:=xo wr (.cells #[.pointer (some ⟨bs.getD c 0,0,none⟩),.int .i64 n] 241);have e1:=zc N;have b4:=(hB.block _ e1).trans N;have d9:=F.c3;have z:=F.maps;obtain⟨Dh,D,a9⟩:=F.maps.h;have K:Lm (wr.alloc (.cells #[.pointer (some ⟨bs.getD c 0,0,none⟩),.int .i64 n] 241)).drew M.h (Maps.size Dh) Dh:=zB D (hB.block M.h (Xr D));obtain⟨C,f3,t,f⟩:=xbg K wJ Sg (Cz ha e3) 0;have d:=f.grown;have B:Maps.Tidy Dh:=ym D wJ;have u:=a9.del B ha e3 (by rw[j.ids];exact Q.oids) j.keys;have b7:dG os a ls (l.take (k+1))=Zf (dG os a ls (l.take k)) a (ls.getD c L0).id:=by rw[et,Fj]
  rw[<-b7]at u;have b5:=F.below hB.drew;have Z:Mp (dG os a ls (l.take (k+1))) rj C M:=by
   have e8:=b5.maps;obtain⟨Dr,X,a1⟩:=e8.r;obtain⟨Do,E,b0⟩:=e8.o;exact⟨⟨Dr,zB X (d.block M.r (Xr X) (λe=>z.rh (xr e))),a1⟩,z.rc,⟨Do,zB E (d.block M.o (Xr E) (λe=>z.oh (xr e))),by rw[b7];exact b0.line a _⟩,⟨_,Z7 t,u⟩,z.ro,z.rh,z.oh⟩
  have R:PV (dG os a ls (l.take (k+1))) rj C S M v td bs pvs (cD DM ls (l.take k)):=b5.mapsTo (λq hq h1 h2=>d.block q hq (λe=>h2 (xr e))) Z;have g:=R.lot c (by rw[W];exact hc);rw[y]at g;have a7:(C.setCell ⟨bs.getD c 0,7,none⟩ (.int .i64 (((ls.getD c L0).hd:Int)-(n:Int)))).heap[bs.getD c 0]?=some (.cells (zn (DM (ls.getD c L0) n) (pvs.getD c default)) 231 (0,0)):=by
   have e:(((ls.getD c L0).hd:Int)-(n:Int))=(((ls.getD c L0).hd-n:Nat):Int):=by omega
   rw[e];exact xq C (bs.getD c 0) 7 _ 231 (.int .i64 (((ls.getD c L0).hd-n:Nat):Int)) g
  have e7:cD DM ls (l.take (k+1))=(cD DM ls (l.take k)).set c (DM (ls.getD c L0) n):=by rw[et,eD,y]
  have d8:PV (dG os a ls (l.take (k+1))) rj (C.setCell ⟨bs.getD c 0,7,none⟩ (.int .i64 (((ls.getD c L0).hd:Int)-(n:Int)))) S M v td bs pvs (cD DM ls (l.take (k+1))):=by
   rw[e7];exact R.lotset (i:=c) (by rw[W];exact hc) (QZ a6 n) (by rw[y];rfl) a7 (λq _ hq=>xa _ _ _ _ hq)
  have e5:Kp (λk=>k=M.o\/k=M.h\/k∈bs) w (C.setCell ⟨bs.getD c 0,7,none⟩ (.int .i64 (((ls.getD c L0).hd:Int)-(n:Int)))) :=
   (b1.trans (Kp.before hB.drew (rJ f (Or.inl (Or.inl (Or.inr (Or.inl rfl))))))).setCell (p:=⟨bs.getD c 0,7,none⟩) (Or.inl (Or.inr (Or.inr a3))) _
  have J:=zh s hB.drew;have f1:(C.setCell ⟨bs.getD c 0,7,none⟩ (.int .i64 (((ls.getD c L0).hd:Int)-(n:Int)))).ownsRow 0 241 2 (.slice (some ⟨G,0,none⟩) l.length a8) l.length (zl bs l):=ze J (λb hb=>by
   obtain⟨cs,T⟩:=zi J hb;obtain⟨es,c2,a5⟩:=ZS K;have q1:=d.block b (zc T) (λe=>Zb T a5 (xr e));rw[xa _ _ _ _ (zw (q1.trans T) g (by decide)),q1])
  have H:C.heap[wr.heap.size]?=some (.cells #[.pointer (some ⟨bs.getD c 0,0,none⟩),.int .i64 n] 241):=by
   obtain⟨es,c2,a5⟩:=ZS K;exact(d.block wr.heap.size (by have:=zc A;exact this) (λe=>Zb A a5 (xr e))).trans A
  have d0:(wr.alloc (.cells #[.pointer (some ⟨bs.getD c 0,0,none⟩),.int .i64 n] 241)).cell? ⟨wr.heap.size,0,none⟩=some (.pointer (some ⟨bs.getD c 0,0,none⟩)):=by rw[za A];rfl
  have d4:C.cell? ⟨wr.heap.size,0,none⟩=some (.pointer (some ⟨bs.getD c 0,0,none⟩)):=by rw[za H];rfl
  have d5:C.cell? ⟨wr.heap.size,1,none⟩=some (.int .i64 n):=by rw[za H];rfl
  have e0:(wr.alloc (.cells #[.pointer (some ⟨bs.getD c 0,0,none⟩),.int .i64 n] 241)).cell? ⟨bs.getD c 0,0,none⟩=some (.int .i64 ((ls.getD c L0).id:Int)):=by rw[za b4];rfl
  have xS:(wr.alloc (.cells #[.pointer (some ⟨bs.getD c 0,0,none⟩),.int .i64 n] 241)).cell? ⟨S,3,none⟩=some (.map (some M.h)):=(hB.cell (by exact zc F.store)).trans d9;have c7:C.cell? ⟨bs.getD c 0,7,none⟩=some (.int .i64 ((ls.getD c L0).hd:Int)):=by rw[za g];rfl
  have f7:=zf g 7;have g3:=zb d8;have f6:=zb e5;have f9:=zb f1;have g8:(ls.getD c L0).hd<=2147483647:=by omega
  generalize (ls.getD c L0).id=idk at *;generalize (ls.getD c L0).hd=hdk at *;generalize bs.getD c 0=bc at *;clear j N a6 f4 a3 e6 P W y D a9 F s b1 z K t f d B u b7 b5 Z R g a7 e7 d8 e5 J f1 b4 d9 et hc H;have g6:¬wr.heap.size=bc:=by omega
  go_wp2_with fail;generalize (wr.alloc (.cells #[.pointer (some ⟨bc,0,none⟩),.int .i64 n] 241))=wb at *
  clear A hB;go_region;go_wp2_with fail;go_region;go_wp2_with fail;go_roundw
  case rel=>exact⟨k+1,by go_num,by omega,f6.after ((xh _ _).drew),g3.below ((xh _ _).drew),zh f9 ((xh _ _).drew)⟩
  simp[intOf];omega
 obtain rfl:k=l.length:=by omega
 rw[Xa,HL.o,OR]at F;rw[HL.o]at s ⊢;obtain⟨Do,E,b0⟩:=F.maps.o;obtain⟨C,f3,t,f⟩:=xbg E BJ Lf (sS ha) 0;have d:=f.grown;have B:Maps.Tidy Do:=ym E BJ;have j:=UI (ls:=ls) a (bX os a ls ls.length) Q.keys;have e9:((dG os a ls (bX os a ls ls.length)).map O.id).Nodup:=by rw[j.ids];exact Q.oids
 have a2:(dG os a ls (bX os a ls ls.length)).any (λo=>o.id==a)=true:=by
  have e:∀(l m:List O),l.map O.id=m.map O.id->l.any (λo=>o.id==a)=m.any (λo=>o.id==a):=λl m he=>by
   have:∀x:List O,x.any (λo=>o.id==a)=(x.map O.id).any (λn=>n==a):=λx=>by rw[List.any_map];rfl
   rw[this,this,he]
  rw[e _ _ j.ids];exact c6
 have a0:=b0.del B e9 ha a2;rw[fJ a ls (bX os a ls ls.length) os]at a0;have Z:Mp (os.filter (λo=>o.id != a)) rj C M:=by
  have z:=F.maps;obtain⟨Dr,X,a1⟩:=z.r;obtain⟨Dh,D,a9⟩:=z.h;have u:=a9.final (Ht Q a);rw[fJ a ls (bX os a ls ls.length) os]at u;exact⟨⟨Dr,zB X (d.block M.r (Xr X) (λe=>z.ro (xr e))),a1⟩,z.rc,⟨_,Z7 t,a0⟩,⟨Dh,zB D (d.block M.h (Xr D) (λe=>z.oh (xr e).symm)),u⟩,z.ro,z.rh,z.oh⟩
 have R:PV (os.filter (λo=>o.id != a)) rj C S M v td bs pvs (ls.map (gC os a)):=F.mapsTo (λq hq h1 h2=>d.block q hq (λe=>h1 (xr e))) Z;have f0:C.ownsRow 0 241 2 (.slice la (bX os a ls ls.length).length a8) (bX os a ls ls.length).length (zl bs (bX os a ls ls.length)):=aK (ze s (λb hb=>by
  obtain⟨cs,T⟩:=zi s hb;obtain⟨es,c2,a5⟩:=ZS E;exact d.block b (zc T) (λe=>Zb T a5 (xr e))))
 have e4:Kp (λk=>k=M.o\/k=M.h\/k∈bs) w C:=b1.trans (rJ f (Or.inl (Or.inl rfl)));have s2:=F.c2;have g0:=zb R;have f8:=zb f0;have f5:=zb e4;clear a4 F E b0 t f d B j e9 a2 a0 Z R f0 e4 s b1;go_wp2_with fail;go_ret;exact⟨f5,g0,_,rfl,f8⟩
def Zj(l:L)(n:Nat):L:={ l with free:=l.free+n }
def Zt(l:L)(n:Nat):L:={ l with sh:=l.sh+n }
def dH(g:L->Nat->L)(os:List O)(a:Nat)(l:L):L :=
 match zr os a l.id with
 |some n=>g { l with hd:=l.hd-n } n
 |none=>l
theorem KU(g:L->Nat->L)(os:List O)(a:Nat)(ls:List L):cD g (ls.map (gC os a)) (bX os a ls ls.length)=ls.map (dH g os a):=by
 apply vM
 ·rw[aL];simp
 intro i b;rw[aL,Xl]at b;rw[aJ b]
 cases h:zr os a (ls.getD i L0).id with
 |some n=>
  rw[xW g _ _ (iZ os a ls _) (vK h b) (by simpa using b),aJ b];unfold dH gC;rw[h];rfl
 |none=>
  rw[bM,aJ b]
  ·unfold dH gC;rw[h];rfl
  intro c;obtain⟨p,d,rfl⟩:=Xg.1 c;have:=(jA d).2;rw[h]at this;cases this
theorem nL(h:os.any (λo=>o.id==a)=false)(g:L->Nat->L)(ls:List L):ls.map (dH g os a)=ls/\os.filter (λo=>o.id != a)=os:=by
 have d:os.find? (λo=>o.id==a)=none:=by
  rw[yj];intro o c;exact yp.1 h o c
 have e:∀b,zr os a b=none:=λb=>by unfold zr;rw[d];rfl
 constructor
 ·conv=>rhs;rw[<-xau ls]
  apply XE
  intro l _;unfold dH;rw[e];rfl
 rw[xaZ];intro o c;have:=yp.1 h o c;simpa using this
def eZ(os:List O)(a:Nat):Nat:=if os.any (λo=>o.id==a) then 0 else 9
theorem Ij(h:L.Ok l){os:List O}{a n:Nat}(b:zr os a l.id=some n)(c:n<=l.hd):L.Ok (Zj (gC os a l) n):=⟨h.id,h.gd,h.ex,h.place,(by have:=h.sum;show l.free+n+(l.hd-(zr os a l.id).getD 0)+l.sh+l.sc+l.gv<=2147483647;rw[b];show l.free+n+(l.hd-n)+l.sh+l.sc+l.gv<=2147483647;omega),h.got,h.par⟩
theorem JT(h:L.Ok l){os:List O}{a n:Nat}(b:zr os a l.id=some n)(c:n<=l.hd):L.Ok (Zt (gC os a l) n):=⟨h.id,h.gd,h.ex,h.place,(by have:=h.sum;show l.free+(l.hd-(zr os a l.id).getD 0)+(l.sh+n)+l.sc+l.gv<=2147483647;rw[b];show l.free+(l.hd-n)+(l.sh+n)+l.sc+l.gv<=2147483647;omega),h.got,h.par⟩
theorem Ff(h:PV os rj w S M v td bs pvs ls)(A:Good os ls)(a:Nat)(ha:a<=2147483647):Calls prog 102 #[.pointer (some ⟨S,0,none⟩),.agg #[.int .i64 a]] w λe w'=>Kp (λk=>k=M.o\/k=M.h\/k∈bs) w w'/\e=.returned (.int .i64 (eZ os a:Int))/\PV (os.filter (λo=>o.id != a)) rj w' S M v td bs pvs (ls.map (dH Zj os a)):=by
 have F:=TZ w (Obj.cells #[.int .i64 a] 158);have a2:=xo w (Obj.cells #[.int .i64 a] 158);have s:=h.below F;have P:=zb (bQ s a ha)
 cases b:os.any (λo=>o.id==a) with
 |false=>
  have HC:Ha (eZ os a=9):=by unfold Ha eZ;rw[b];rfl
  have HN:=zb (nL b Zj ls);rw[b]at P;have HP:=zb s;clear s h b A;go_enter func102,ntmps102;go_wp2_with (go_at_call 150;with_reducible refine(P.o).mono ?_;rintro e w1 ⟨rfl,rfl⟩);go_ret;exact⟨UD F,by rw[HC.o];rfl,by rw[HN.o.1,HN.o.2];exact HP⟩
 |true=>
  have HC:Ha (eZ os a=0):=by unfold Ha eZ;rw[b];rfl
  have HE:=zb (Hs s A a ha b);rw[b]at P;have b1:=zb A;have b3:=zb h.ok;have N:=h.room;have k0:(w.alloc (Obj.cells #[.int .i64 a] 158)).cell? ⟨w.heap.size,0,none⟩=some (.int .i64 a):=by rw[za a2];rfl
  have b0:=zb F;clear s h b A a2;go_enter func102,ntmps102;go_wp2_with (first|(go_at_call 150;with_reducible refine(P.o).mono ?_;rintro e w1 ⟨rfl,rfl⟩)|fail)
  with_reducible refine(HE.o).mono ?_
  rintro e w2 ⟨a3,Z,lv,rfl,K⟩;obtain⟨la,E,c5⟩:=zm K;subst c5;have c7:(bX os a ls ls.length).length<=30:=xj (nI os a ls _) N;have Q:Ha (Kp (λk=>k=M.o\/k=M.h\/k∈bs) w w2):=Kp.before b0 (a3.mono (λk hk=>Or.inl hk));have b5:Ha (∀p∈bX os a ls ls.length,p.1<ls.length/\zr os a (ls.getD p.1 L0).id=some p.2):=λp hp=>jA hp
  have b6:Ha (((bX os a ls ls.length).map Prod.fst).Nodup):=iZ os a ls _;have b8:=zb (KU Zj os a ls);generalize bX os a ls ls.length=l at *;have T:=zb Z;have R:=zb K;clear a3 Z K HE P k0;go_wp2_with fail;go_loopw [6,17] (λ_ ii wr=>∃k:Nat,ii=.int .i64 k/\k<=l.length/\Kp (λk=>k=M.o\/k=M.h\/k∈bs) w wr/\PV (os.filter (λo=>o.id != a)) rj wr S M v td bs pvs (cD Zj (ls.map (gC os a)) (l.take k))/\wr.ownsRow 0 241 2 (.slice la l.length E) l.length (zl bs l)) (λ_ ii _=>l.length-(intOf ii).toNat)
  case atStart=>exact⟨0,rfl,by omega,Q,T,R⟩
  clear T R Q;obtain⟨k,rfl,hk,B,s,r⟩:=hrel;by_cases x:k<l.length
  ·obtain⟨G,rfl,c9,g1,g2⟩:=aM r k x;have a7:l.getD k (0,0)∈l:=by simp[Uv,x]
   have et:l.take (k+1)=l.take k++[l.getD k (0,0)]:=by
    rw[xl x];simp[Uv,x]
   obtain⟨H,J⟩:=b5.o _ a7;have j:(l.getD k (0,0)).1 ∉ (l.take k).map Prod.fst:=by
    have:=b6.o
    have e2:l.map Prod.fst=((l.take k).map Prod.fst++[(l.getD k (0,0)).1])++(l.drop (k+1)).map Prod.fst:=by
     conv=>lhs;rw[<-XU (k+1) l,et]
     simp
    rw[e2]at this;have:=(Xx.1 (Xx.1 this).1).2.2;intro hm;exact this _ hm _ (by simp) rfl
   generalize c6:l.getD k (0,0)=p at *;obtain⟨c,n⟩:=p;simp only at *;clear c6 a7;have C:(cD Zj (ls.map (gC os a)) (l.take k)).length=ls.length:=by rw[aL];simp
   have m:(cD Zj (ls.map (gC os a)) (l.take k)).getD c L0=gC os a (ls.getD c L0):=by rw[bM Zj _ _ j,aJ H]
   have g:=s.lot c (by rw[C];exact H);rw[m]at g;have y:=b3.o _ (zg H);have a6:n<=(ls.getD c L0).hd:=by rw[b1.o.hd c H];exact kW J
   have D:L.Ok (Zj (gC os a (ls.getD c L0)) n):=Ij y J a6;have a5:cD Zj (ls.map (gC os a)) (l.take (k+1))=(cD Zj (ls.map (gC os a)) (l.take k)).set c (Zj (gC os a (ls.getD c L0)) n):=by rw[et,eD,m]
   have t:bs.getD c 0∈bs:=zL (by rw[s.len,C];exact H);have W:=TZ wr (.cells #[.pointer (some ⟨bs.getD c 0,0,none⟩),.int .i64 n] 241);have u:=xo wr (.cells #[.pointer (some ⟨bs.getD c 0,0,none⟩),.int .i64 n] 241);have a1:=zc g;have d:=(W.block _ a1).trans g;have X:=s.below W;have f:=zh r W;have a9:=y.sum;have d0:(wr.alloc (.cells #[.pointer (some ⟨bs.getD c 0,0,none⟩),.int .i64 n] 241)).cell? ⟨wr.heap.size,0,none⟩=some (.pointer (some ⟨bs.getD c 0,0,none⟩)):=by rw[za u];rfl
   have d1:(wr.alloc (.cells #[.pointer (some ⟨bs.getD c 0,0,none⟩),.int .i64 n] 241)).cell? ⟨wr.heap.size,1,none⟩=some (.int .i64 n):=by rw[za u];rfl
   have e6:(wr.alloc (.cells #[.pointer (some ⟨bs.getD c 0,0,none⟩),.int .i64 n] 241)).cell? ⟨bs.getD c 0,6,none⟩=some (.int .i64 ((ls.getD c L0).free:Int)):=by rw[za d];rfl
   have f6:=zf d 6;have z:((wr.alloc (.cells #[.pointer (some ⟨bs.getD c 0,0,none⟩),.int .i64 n] 241)).setCell ⟨bs.getD c 0,6,none⟩ (.int .i64 (((ls.getD c L0).free:Int)+(n:Int)))).heap[bs.getD c 0]?=some (.cells (zn (Zj (gC os a (ls.getD c L0)) n) (pvs.getD c default)) 231 (0,0)):=by
    have:=xq _ (bs.getD c 0) 6 _ 231 (.int .i64 (((ls.getD c L0).free:Int)+(n:Int))) d
    exact this
   have a0:PV (os.filter (λo=>o.id != a)) rj ((wr.alloc (.cells #[.pointer (some ⟨bs.getD c 0,0,none⟩),.int .i64 n] 241)).setCell ⟨bs.getD c 0,6,none⟩ (.int .i64 (((ls.getD c L0).free:Int)+(n:Int)))) S M v td bs pvs (cD Zj (ls.map (gC os a)) (l.take (k+1))):=by
    rw[a5];exact X.lotset (i:=c) (by rw[C];exact H) D (by rw[m];rfl) z (λq _ hq=>xa _ _ _ _ hq)
   have a8:((wr.alloc (.cells #[.pointer (some ⟨bs.getD c 0,0,none⟩),.int .i64 n] 241)).setCell ⟨bs.getD c 0,6,none⟩ (.int .i64 (((ls.getD c L0).free:Int)+(n:Int)))).ownsRow 0 241 2 (.slice (some ⟨G,0,none⟩) l.length E) l.length (zl bs l):=ze f (λq hq=>by
    obtain⟨cs,b9⟩:=zi f hq;exact xa _ _ _ _ (zw b9 d (by decide)))
   have a4:Kp (λk=>k=M.o\/k=M.h\/k∈bs) w ((wr.alloc (.cells #[.pointer (some ⟨bs.getD c 0,0,none⟩),.int .i64 n] 241)).setCell ⟨bs.getD c 0,6,none⟩ (.int .i64 (((ls.getD c L0).free:Int)+(n:Int)))):=(B.after W).setCell (p:=⟨bs.getD c 0,6,none⟩) (Or.inl (Or.inr (Or.inr t))) _;have b4:=zb a0;have b7:=zb a8;have b2:=zb a4;have d2:(ls.getD c L0).free+n<=2147483647:=by omega
   generalize (ls.getD c L0).free=fr at *;generalize bs.getD c 0=bc at *;clear et H J j C m g y a6 D a5 t d X f a9 z a0 a8 a4 s r B;have c8:¬wr.heap.size=bc:=by omega
   go_wp2_with fail;generalize (wr.alloc (.cells #[.pointer (some ⟨bc,0,none⟩),.int .i64 n] 241))=wb at *
   clear u W;go_region;go_wp2_with fail;go_roundw
   case rel=>exact⟨k+1,by go_num,by omega,b2.after ((xh _ _).drew),b4.below ((xh _ _).drew),zh b7 ((xh _ _).drew)⟩
   simp[intOf];omega
  obtain rfl:k=l.length:=by omega
  rw[Xa,b8.o]at s;have HP:=zb s;have HK:=zb B;clear x s B r;go_wp2_with fail;go_ret;exact⟨HK,by rw[HC.o];rfl,HP⟩
theorem Nh(h:PV os rj w S M v td bs pvs ls)(A:Good os ls)(a:Nat)(ha:a<=2147483647):Calls prog 103 #[.pointer (some ⟨S,0,none⟩),.agg #[.int .i64 a]] w λe w'=>Kp (λk=>k=M.o\/k=M.h\/k∈bs) w w'/\e=.returned (.int .i64 (eZ os a:Int))/\PV (os.filter (λo=>o.id != a)) rj w' S M v td bs pvs (ls.map (dH Zt os a)):=by
 have F:=TZ w (Obj.cells #[.int .i64 a] 160);have a2:=xo w (Obj.cells #[.int .i64 a] 160);have s:=h.below F;have P:=zb (bQ s a ha)
 cases b:os.any (λo=>o.id==a) with
 |false=>
  have HC:Ha (eZ os a=9):=by unfold Ha eZ;rw[b];rfl
  have HN:=zb (nL b Zt ls);rw[b]at P;have HP:=zb s;clear s h b A;go_enter func103,ntmps103;go_wp2_with (go_at_call 150;with_reducible refine(P.o).mono ?_;rintro e w1 ⟨rfl,rfl⟩);go_ret;exact⟨UD F,by rw[HC.o];rfl,by rw[HN.o.1,HN.o.2];exact HP⟩
 |true=>
  have HC:Ha (eZ os a=0):=by unfold Ha eZ;rw[b];rfl
  have HE:=zb (Hs s A a ha b);rw[b]at P;have b1:=zb A;have b3:=zb h.ok;have N:=h.room;have k0:(w.alloc (Obj.cells #[.int .i64 a] 160)).cell? ⟨w.heap.size,0,none⟩=some (.int .i64 a):=by rw[za a2];rfl
  have b0:=zb F;clear s h b A a2;go_enter func103,ntmps103;go_wp2_with (first|(go_at_call 150;with_reducible refine(P.o).mono ?_;rintro e w1 ⟨rfl,rfl⟩)|fail)
  with_reducible refine(HE.o).mono ?_
  rintro e w2 ⟨a3,Z,lv,rfl,K⟩;obtain⟨la,E,c5⟩:=zm K;subst c5;have c7:(bX os a ls ls.length).length<=30:=xj (nI os a ls _) N;have Q:Ha (Kp (λk=>k=M.o\/k=M.h\/k∈bs) w w2):=Kp.before b0 (a3.mono (λk hk=>Or.inl hk));have b5:Ha (∀p∈bX os a ls ls.length,p.1<ls.length/\zr os a (ls.getD p.1 L0).id=some p.2):=λp hp=>jA hp
  have b6:Ha (((bX os a ls ls.length).map Prod.fst).Nodup):=iZ os a ls _;have b8:=zb (KU Zt os a ls);generalize bX os a ls ls.length=l at *;have T:=zb Z;have R:=zb K;clear a3 Z K HE P k0;go_wp2_with fail;go_loopw [6,17] (λ_ ii wr=>∃k:Nat,ii=.int .i64 k/\k<=l.length/\Kp (λk=>k=M.o\/k=M.h\/k∈bs) w wr/\PV (os.filter (λo=>o.id != a)) rj wr S M v td bs pvs (cD Zt (ls.map (gC os a)) (l.take k))/\wr.ownsRow 0 241 2 (.slice la l.length E) l.length (zl bs l)) (λ_ ii _=>l.length-(intOf ii).toNat)
  case atStart=>exact⟨0,rfl,by omega,Q,T,R⟩
  clear T R Q;obtain⟨k,rfl,hk,B,s,r⟩:=hrel;by_cases x:k<l.length
  ·obtain⟨G,rfl,c9,g1,g2⟩:=aM r k x;have a7:l.getD k (0,0)∈l:=by simp[Uv,x]
   have et:l.take (k+1)=l.take k++[l.getD k (0,0)]:=by
    rw[xl x];simp[Uv,x]
   obtain⟨H,J⟩:=b5.o _ a7;have j:(l.getD k (0,0)).1 ∉ (l.take k).map Prod.fst:=by
    have:=b6.o
    have e2:l.map Prod.fst=((l.take k).map Prod.fst++[(l.getD k (0,0)).1])++(l.drop (k+1)).map Prod.fst:=by
     conv=>lhs;rw[<-XU (k+1) l,et]
     simp
    rw[e2]at this;have:=(Xx.1 (Xx.1 this).1).2.2;intro hm;exact this _ hm _ (by simp) rfl
   generalize c6:l.getD k (0,0)=p at *;obtain⟨c,n⟩:=p;simp only at *;clear c6 a7;have C:(cD Zt (ls.map (gC os a)) (l.take k)).length=ls.length:=by rw[aL];simp
   have m:(cD Zt (ls.map (gC os a)) (l.take k)).getD c L0=gC os a (ls.getD c L0):=by rw[bM Zt _ _ j,aJ H]
   have g:=s.lot c (by rw[C];exact H);rw[m]at g;have y:=b3.o _ (zg H);have a6:n<=(ls.getD c L0).hd:=by rw[b1.o.hd c H];exact kW J
   have D:L.Ok (Zt (gC os a (ls.getD c L0)) n):=JT y J a6;have a5:cD Zt (ls.map (gC os a)) (l.take (k+1))=(cD Zt (ls.map (gC os a)) (l.take k)).set c (Zt (gC os a (ls.getD c L0)) n):=by rw[et,eD,m]
   have t:bs.getD c 0∈bs:=zL (by rw[s.len,C];exact H);have W:=TZ wr (.cells #[.pointer (some ⟨bs.getD c 0,0,none⟩),.int .i64 n] 241);have u:=xo wr (.cells #[.pointer (some ⟨bs.getD c 0,0,none⟩),.int .i64 n] 241);have a1:=zc g;have d:=(W.block _ a1).trans g;have X:=s.below W;have f:=zh r W;have a9:=y.sum;have d0:(wr.alloc (.cells #[.pointer (some ⟨bs.getD c 0,0,none⟩),.int .i64 n] 241)).cell? ⟨wr.heap.size,0,none⟩=some (.pointer (some ⟨bs.getD c 0,0,none⟩)):=by rw[za u];rfl
   have d1:(wr.alloc (.cells #[.pointer (some ⟨bs.getD c 0,0,none⟩),.int .i64 n] 241)).cell? ⟨wr.heap.size,1,none⟩=some (.int .i64 n):=by rw[za u];rfl
   have e6:(wr.alloc (.cells #[.pointer (some ⟨bs.getD c 0,0,none⟩),.int .i64 n] 241)).cell? ⟨bs.getD c 0,8,none⟩=some (.int .i64 ((ls.getD c L0).sh:Int)):=by rw[za d];rfl
   have f6:=zf d 8;have z:((wr.alloc (.cells #[.pointer (some ⟨bs.getD c 0,0,none⟩),.int .i64 n] 241)).setCell ⟨bs.getD c 0,8,none⟩ (.int .i64 (((ls.getD c L0).sh:Int)+(n:Int)))).heap[bs.getD c 0]?=some (.cells (zn (Zt (gC os a (ls.getD c L0)) n) (pvs.getD c default)) 231 (0,0)):=by
    have:=xq _ (bs.getD c 0) 8 _ 231 (.int .i64 (((ls.getD c L0).sh:Int)+(n:Int))) d
    exact this
   have a0:PV (os.filter (λo=>o.id != a)) rj ((wr.alloc (.cells #[.pointer (some ⟨bs.getD c 0,0,none⟩),.int .i64 n] 241)).setCell ⟨bs.getD c 0,8,none⟩ (.int .i64 (((ls.getD c L0).sh:Int)+(n:Int)))) S M v td bs pvs (cD Zt (ls.map (gC os a)) (l.take (k+1))):=by
    rw[a5];exact X.lotset (i:=c) (by rw[C];exact H) D (by rw[m];rfl) z (λq _ hq=>xa _ _ _ _ hq)
   have a8:((wr.alloc (.cells #[.pointer (some ⟨bs.getD c 0,0,none⟩),.int .i64 n] 241)).setCell ⟨bs.getD c 0,8,none⟩ (.int .i64 (((ls.getD c L0).sh:Int)+(n:Int)))).ownsRow 0 241 2 (.slice (some ⟨G,0,none⟩) l.length E) l.length (zl bs l):=ze f (λq hq=>by
    obtain⟨cs,b9⟩:=zi f hq;exact xa _ _ _ _ (zw b9 d (by decide)))
   have a4:Kp (λk=>k=M.o\/k=M.h\/k∈bs) w ((wr.alloc (.cells #[.pointer (some ⟨bs.getD c 0,0,none⟩),.int .i64 n] 241)).setCell ⟨bs.getD c 0,8,none⟩ (.int .i64 (((ls.getD c L0).sh:Int)+(n:Int)))):=(B.after W).setCell (p:=⟨bs.getD c 0,8,none⟩) (Or.inl (Or.inr (Or.inr t))) _;have b4:=zb a0;have b7:=zb a8;have b2:=zb a4;have d2:(ls.getD c L0).sh+n<=2147483647:=by omega
   generalize (ls.getD c L0).sh=fr at *;generalize bs.getD c 0=bc at *;clear et H J j C m g y a6 D a5 t d X f a9 z a0 a8 a4 s r B;have c8:¬wr.heap.size=bc:=by omega
   go_wp2_with fail;generalize (wr.alloc (.cells #[.pointer (some ⟨bc,0,none⟩),.int .i64 n] 241))=wb at *
   clear u W;go_region;go_wp2_with fail;go_roundw
   case rel=>exact⟨k+1,by go_num,by omega,b2.after ((xh _ _).drew),b4.below ((xh _ _).drew),zh b7 ((xh _ _).drew)⟩
   simp[intOf];omega
  obtain rfl:k=l.length:=by omega
  rw[Xa,b8.o]at s;have HP:=zb s;have HK:=zb B;clear x s B r;go_wp2_with fail;go_ret;exact⟨HK,by rw[HC.o];rfl,HP⟩
