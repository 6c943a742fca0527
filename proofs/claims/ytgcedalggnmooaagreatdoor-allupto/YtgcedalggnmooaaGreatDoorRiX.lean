import Derived.Test.YtgcedalggnmooaaGreatDoorSp0X
import Derived.Test.YtgcedalggnmooaaGreatDoorSfX
set_option linter.all false
set_option maxRecDepth 100000
namespace Go.Proofs.YtgcedalggnmooaaGreatDoor
def uK:∀l:List UInt8,Pl.lead l<l.length->∃p b s,l=p++b::s/\p.length=Pl.lead l/\(∀c∈p,128<=c.toNat)/\b.toNat<128
 |[],h=>by simp at h
 |b::r,h=>by
  rw[Pl.lead_cons]at h ⊢;by_cases d:128<=b.toNat
  ·rw[xh d]at h ⊢;obtain⟨p,c,s,e,i,f,g⟩:=uK r (by simpa using h);refine⟨b::p,c,s,by rw[e];rfl,by simp;omega,λx a=>?_,g⟩;rcases xz.1 a with rfl|a
   ·exact d
   exact f x a
  rw[xg d];exact⟨[],b,r,rfl,rfl,(λx a=>by cases a),by omega⟩
variable {l r:List UInt8}{n:Nat}
def xQ(h:WF l=some (n,r)):l=Pl.num n++r:=by
 unfold WF at h;split at h
 ·cases h
 rename_i f;simp only[XC,XY]at h;obtain⟨rfl,rfl⟩:=h;have a:Pl.ok1 l=true:=by
  cases m:Pl.ok1 l with
  |true=>rfl
  |false=>unfold Pl.snd at f;rw[m]at f;exact absurd rfl f
 have g:Pl.snd l=Pl.lead l+1:=by unfold Pl.snd;rw[xh a]
 have e:Pl.fst l=Pl.val (l.take (Pl.lead l+1)):=by unfold Pl.fst;rw[xh a]
 unfold Pl.ok1 at a;simp only[XK,XI,xbk,YX,yn,xr]at a;obtain⟨p,b,s,c,d,i,j⟩:=uK l a.1.2;have t:l.take (Pl.lead l+1)=p++[b]:=by
  rw[<-d];conv=>lhs;rw[c]
  rw[List.take_append,Xy (by omega)];simp
 have hd:l.drop (Pl.lead l+1)=s:=by
  rw[<-d];conv=>lhs;rw[c]
  rw[List.drop_append];simp
 have k:l.getD (Pl.lead l) 1=b:=by
  rw[<-d];conv=>lhs;rw[c]
  simp[Wc]
 rw[e,g,t,hd,(Pl.num_val b j p i).2 (λ⟨k1,k2⟩=>?_),c]
 ·simp
 rcases a.2 with q|q
 ·omega
 rw[k]at q;exact q k2
def Ze{lo d:Nat}(h:WG lo d l=some (n,r)):l=Pl.toldB [n]++r/\lo<=n/\n<=d:=by
 unfold WG at h
 cases b:WF l with
 |none=>rw[b]at h;cases h
 |some a=>
  obtain⟨m,q⟩:=a;rw[b,xk]at h;split at h
  ·rename_i c;simp only[XC,XY]at h;obtain⟨rfl,rfl⟩:=h;exact⟨by rw[xQ b];simp[Pl.toldB],c.1,c.2⟩
  cases h
def bF(a b:List Nat)(r:List UInt8):Pl.toldB a++(Pl.toldB b++r)=Pl.toldB (a++b)++r:=by simp[Pl.toldB]
def zB{α β:Type}{o:Option α}{f:α->Option β}{y:β}(h:o.bind f=some y):∃a,o=some a/\f a=some y:=by
 cases o with
 |none=>cases h
 |some a=>exact⟨a,rfl,h⟩
def BH:∀{k p:Nat} {b ps:List (Nat×Nat)} {l r:List UInt8},fC k p b l=some (ps,r)->∃d,ps=b++d/\d.length=k/\l=Pl.toldB (d.flatMap (λp=>[p.1,p.2]))++r/\Ris d/\∀q∈d,p<q.1/\q.1<=2147483647/\q.2<=2147483647
 |0,p,b,ps,l,r,h=>by
  simp only[fC,XC,XY]at h;obtain⟨rfl,rfl⟩:=h;exact⟨[],by simp,rfl,by simp[Pl.toldB],by simp[Ris],λq c=>by cases c⟩
 |k+1,p,b,ps,l,r,h=>by
  rw[fC]at h;obtain⟨⟨a,y⟩,t,h⟩:=zB h;obtain⟨⟨g,z⟩,u,h⟩:=zB h;obtain⟨d,f,n,i,s,e⟩:=BH h;obtain⟨j,w,m⟩:=Ze t;obtain⟨c1,c2,c3⟩:=Ze u;dsimp only at c1 f i e;refine⟨(a,g)::d,by rw[f];simp,by simp[n],?_,?_,λq c=>?_⟩
  ·rw[j,c1,i,bF,bF];rfl
  ·unfold Ris;rw[Xv,XE];refine⟨λx v=>?_,s⟩;obtain⟨q,c,rfl⟩:=Xz.1 v;exact(e q c).1
  rcases xz.1 c with rfl|c
  ·exact⟨by show p<a;omega,m,c3⟩
  have:=e q c
  exact⟨by omega,this.2⟩
def Hb{ps:List (Nat×Nat)}(h:fA l=some (ps,r)):l=Pl.toldB (VW ps)++r/\ps.length<=2/\Ris ps/\∀q∈ps,1<=q.1/\q.1<=2147483647/\q.2<=2147483647:=by
 unfold fA at h;obtain⟨⟨k,q⟩,g,h⟩:=zB h;obtain⟨n,a,b,c,e,f⟩:=BH h;obtain⟨d,j,m⟩:=Ze g;dsimp only at b c;rw[List.nil_append]at a;subst a;refine⟨?_,by omega,e,λq i=>by have:=f q i;exact⟨by omega,this.2⟩⟩;rw[d,c,bF,<-b];rfl
def jG{l:List (Nat×Nat)}(h:Ris l):zT l=l:=by
 match l with
 |[]=>rfl
 |[a]=>rfl
 |[a,b] =>
  have:a.1<b.1:=by simpa [Ris] using h
  have d:¬b.1<a.1:=by omega
  simp[zT,d]
 |a::b::c::r=>rfl
structure Vl(com:Nat)(x:L):Prop where
 gd:1<=x.gd/\x.gd<=2147483647
 ex:x.ex<=2147483647
 place:1<=x.place/\x.place<=com
 got:1<=x.got/\x.got<=2147483647
 cnt:x.free<=2147483647/\x.hd<=2147483647/\x.sh<=2147483647/\x.sc<=2147483647
 plen:x.par.length<=2
 ris:Ris x.par
 par:∀q∈x.par,1<=q.1/\q.1<=2147483647/\q.2<=2147483647
 psum:x.par=[]\/x.got=(x.par.map Prod.snd).sum
def KO{num com:Nat}{x:L}(h:cT num com l=some (x,r)):l=Pl.toldB (bU x).tail++r/\x.id=num/\x.gv=0/\Vl com x:=by
 unfold cT at h;obtain⟨⟨s,r1⟩,S,h⟩:=zB h;obtain⟨⟨t,r2⟩,i,h⟩:=zB h;obtain⟨⟨u,r3⟩,j,h⟩:=zB h;obtain⟨⟨v,r4⟩,k,h⟩:=zB h;obtain⟨⟨w,r5⟩,m,h⟩:=zB h;obtain⟨⟨y,r6⟩,n,h⟩:=zB h;obtain⟨⟨z,r7⟩,p,h⟩:=zB h;obtain⟨⟨ps,T⟩,q,h⟩:=zB h;obtain⟨⟨c,W⟩,a,h⟩:=zB h;dsimp only at i j k m n p q a h;obtain⟨A,J,c1⟩:=Ze S;obtain⟨B,X,c2⟩:=Ze i;obtain⟨C,K,c3⟩:=Ze j;obtain⟨D,Z,c4⟩:=Ze k;obtain⟨E,b5,N⟩:=Ze m;obtain⟨F,b6,P⟩:=Ze n;obtain⟨G,b7,Q⟩:=Ze p;obtain⟨H,M,g,R⟩:=Hb q;split at h
 ·rename_i d;simp only[XC,XY]at h;obtain⟨rfl,rfl⟩:=h;have f:T=Pl.toldB (if ps.length=0 then [c] else [])++W:=by
   split at a
   ·rename_i b;rw[xh b,xQ a];simp[Pl.toldB]
   rename_i b;rw[xg b];simp only[XC,XY]at a;rw[a.2];rfl
  refine⟨?_,rfl,rfl,⟨⟨J,c1⟩,c2,⟨K,c3⟩,d,⟨c4,N,P,Q⟩,M,g,R,?_⟩⟩
  ·have e:(bU ⟨num,s,t,u,c,v,w,y,z,0,ps⟩).tail=[s]++([t]++([u]++([v]++([w]++([y]++([z]++(VW ps++(if ps.length=0 then [c] else [])))))))):=by
    unfold bU;dsimp only;rw[jG g];simp
   rw[e,A,B,C,D,E,F,G,H,f];simp only[bF,yc]
  split at a
  ·rename_i b;exact Or.inl (XD.1 b)
  simp only[XC,XY]at a;exact Or.inr a.1.symm
 cases h
def SA(sl:List (Option L)):Nat:=sl.countP Option.isSome
def Fp{c:Nat}:∀{k p:Nat} {g d:List (Option L)} {l r:List UInt8},g.length=c->xV c k p g l=some (d,r)->∃xs:List L,xs.length=k/\l=Pl.toldB (xs.flatMap bU)++r/\xs.Pairwise (λa b=>a.id<b.id) /\
  (∀x∈xs,p<x.id/\x.id<=2147483647/\x.gv=0/\Vl c x/\d[x.place-1]?=some (some x))/\(∀(i:Nat) (y:L),g[i]?=some (some y)->d[i]?=some (some y))/\(∀(i:Nat) (y:L),d[i]?=some (some y)->(y∈xs/\y.place=i+1)\/g[i]?=some (some y))/\d.length=c/\SA d=SA g+k
 |0,p,g,d,l,r,hc,h=>by
  simp only[xV,XC,XY]at h;obtain⟨rfl,rfl⟩:=h;exact⟨[],rfl,by simp[Pl.toldB],by simp,(λx N=>by cases N),(λ_ _ h=>h),(λ_ _ h=>Or.inr h),hc,rfl⟩
 |k+1,p,g,d,l,r,hc,h=>by
  rw[xV]at h;obtain⟨⟨a,T⟩,K,h⟩:=zB h;obtain⟨⟨x,W⟩,w,h⟩:=zB h;dsimp only at w h;obtain⟨A,R,S⟩:=Ze K;obtain⟨B,s,C,t⟩:=KO w;split at h
  ·rename_i z;have M:=t.place;have f:x.place-1<g.length:=by omega
   have j:g[x.place-1]?=some none:=by
    rw[Wc,xi f]at z;rw[xi f];exact YK some z
   obtain⟨xs,D,E,F,u,v,G,H,J⟩:=Fp (by rw[xq];exact hc) h;refine⟨x::xs,by simp[D],?_,?_,λy n=>?_,λi y m=>?_,λi y m=>?_,H,?_⟩
   ·rw[A,B,E,bF,bF];congr 2;rw[yb];have:bU x=x.id::(bU x).tail:=by unfold bU;rfl
    rw[this,s];simp
   ·rw[XE];exact⟨λy n=>by rw[s];exact(u y n).1,F⟩
   ·rcases xz.1 n with rfl|n
    ·refine⟨by omega,by omega,C,t,?_⟩;exact v _ _ (by rw[XB];simp[f])
    have:=u y n
    exact⟨by omega,this.2⟩
   ·apply v
    rw[XB];by_cases e:x.place-1=i
    ·rw[<-e,j]at m;cases m
    rw[xg e];exact m
   ·rcases G i y m with ⟨q,Q⟩|q
    ·exact Or.inl ⟨xae _ q,Q⟩
    rw[XB]at q;by_cases e:x.place-1=i
    ·rw[xh e,xh f]at q;injection q with q
     injection q with q
     subst q;exact Or.inl ⟨by simp,by omega⟩
    rw[xg e]at q;exact Or.inr q
   rw[J];unfold SA;rw[List.countP_set f];have P:g[x.place-1]=none:=by rw[xi f]at j;injection j
   rw[P];simp;omega
  cases h
section
variable {ls:List L}
def RO(c:∀i j,i<ls.length->j<ls.length->(ls.getD i L0).id=(ls.getD j L0).id->i=j)(l:L):∀(ps:List (Nat×Nat)) (e:Nat) (g:L->Nat) {H:List L} {d:Nat},Xc l ps e (wg ls g)=some (H,d) ->
  (∀p∈ps,Wj p.1 ls<ls.length/\(zi ls p.1).gd=l.gd/\(zi ls p.1).place<l.place)/\H=wg ls (λx=>g x+(ps.map λp=>if p.1=x.id then p.2 else 0).sum)/\d=ps.foldl (λe p=>min e (zi ls p.1).ex) e:=by
 intro ps;induction ps with
 |nil=>
  intro e g H d h;simp only[Xc,XC,XY]at h;exact⟨(λp m=>by cases m),by rw[<-h.1];simp,h.2.symm⟩
 |cons p ps ih=>
  intro e g H d h;have t:=h;rw[Xc]at h;split at h
  ·rename_i k;rw[kH,iB]at k;obtain⟨c1,c2,c3⟩:=k;rw[cL g c1]at c2 c3;have b:∀q∈[p],Wj q.1 ls<ls.length/\(zi ls q.1).gd=l.gd/\(zi ls q.1).place<l.place:=λq a=>by
    simp only[XN]at a;subst a;exact⟨c1,c2,c3⟩
   have f:((wg ls g).getD (Wj p.1 (wg ls g)) L0).ex=(zi ls p.1).ex:=by rw[kH,cL g c1];rfl
   rw[f,kH,PC c g c1]at h;obtain⟨n,r,s⟩:=ih _ _ h;refine⟨λq a=>?_,?_,?_⟩
   ·rcases xz.1 a with rfl|a
    ·exact b _ (by simp)
    exact n q a
   ·rw[r];congr 1;funext x;rw[Xv,XZ];omega
   rw[s];rfl
  cases h
structure Va(ls:List L)(i:Nat):Prop where
 fam:∀p∈(ls.getD i L0).par,Wj p.1 ls<ls.length/\(zi ls p.1).gd=(ls.getD i L0).gd/\(zi ls p.1).place<(ls.getD i L0).place
 exp:(ls.getD i L0).par≠[]->(ls.getD i L0).ex=Wv ls (ls.getD i L0).par
def RQ(c:∀i j,i<ls.length->j<ls.length->(ls.getD i L0).id=(ls.getD j L0).id->i=j){i:Nat}(b:i<ls.length){H:List L}(h:Xd (wg ls (λx=>Wh (ls.take i) x.id)) i=some H):H=wg ls (λx=>Wh (ls.take (i+1)) x.id)/\Va ls i:=by
 have a:∀n,Wh (ls.take (i+1)) n=Wh (ls.take i) n+We (ls.getD i L0) n:=λn=>by
  rw[ZY (d:=L0) b];simp[Wh]
 obtain⟨y,f⟩:∃y,y=(wg ls (λx=>Wh (ls.take i) x.id)).getD i L0:=⟨_,rfl⟩
 have u:y.par=zT (ls.getD i L0).par:=by rw[f,cL _ b];rfl
 have v:y.ex=(ls.getD i L0).ex:=by rw[f,cL _ b];rfl
 have w:y.gd=(ls.getD i L0).gd:=by rw[f,cL _ b];rfl
 have z:y.place=(ls.getD i L0).place:=by rw[f,cL _ b];rfl
 unfold Xd at h;rw[<-f,u,v]at h;split at h
 ·rename_i g;have e:(ls.getD i L0).par=[]:=by rw[ZN]at g;exact XD.1 g
  simp only[XC]at h;refine⟨?_,⟨λp k=>(by rw[e]at k;cases k),λq=>absurd e q⟩⟩;rw[<-h];congr 1;funext x;rw[a];unfold We;rw[e];rfl
 rename_i g;obtain⟨⟨A,B⟩,l,h⟩:=zB h;dsimp only at h;split at h
 ·rename_i m;simp only[XC]at h;subst h;obtain⟨r,s,t⟩:=RO c _ _ _ _ l;refine⟨?_,⟨λp e=>?_,λ_=>?_⟩⟩
  ·rw[s];congr 1;funext x;rw[a,AC];rfl
  ·have:=r p (gK.2 e)
   rw[w,z]at this;exact this
  rw[m,t];exact EW (ls:=ls) (ls.getD i L0).par
 cases h
def LP(a:∀i j,i<ls.length->j<ls.length->(ls.getD i L0).id=(ls.getD j L0).id->i=j):∀(k i:Nat) {H:List L},i+k=ls.length->Xb k i (wg ls (λx=>Wh (ls.take i) x.id))=some H->H=wg ls (λx=>Wh ls x.id)/\∀j,i<=j->j<ls.length->Va ls j
 |0,i,H,hk,h=>by
  simp only[Xb,XC]at h;rw[Xy (by omega)]at h;exact⟨h.symm,λj c p=>by omega⟩
 |k+1,i,H,hk,h=>by
  rw[Xb]at h;obtain⟨n,c,h⟩:=zB h;obtain⟨d,f⟩:=RQ a (by omega) c;rw[d]at h;obtain⟨g,l⟩:=LP a k (i+1) (by omega) h;refine⟨g,λj m b=>?_⟩;by_cases e:j=i
  ·subst e;exact f
  exact l j (by omega) b
end
structure Vn(ls:List L):Prop where
 room:ls.length<=30
 ids:∀i j,i<ls.length->j<ls.length->(ls.getD i L0).id=(ls.getD j L0).id->i=j
 place:∀i,i<ls.length->(ls.getD i L0).place=i+1
 id:∀i,i<ls.length->1<=(ls.getD i L0).id/\(ls.getD i L0).id<=2147483647
 one:∀i,i<ls.length->Vl ls.length (ls.getD i L0)
 fam:∀i,i<ls.length->Va ls i
 giv:∀i,i<ls.length->(ls.getD i L0).gv=Wh ls (ls.getD i L0).id
def GZ{ls:List L}(h:cH l=some (ls,r)):l=Pl.toldB (ls.length::ls.length::WR ls)++r/\Vn ls:=by
 unfold cH at h;obtain⟨⟨c,r1⟩,h1,h⟩:=zB h;obtain⟨⟨d,r2⟩,h2,h⟩:=zB h;dsimp only at h2 h;split at h
 ·rename_i a0;subst a0;obtain⟨⟨D,r3⟩,h3,h⟩:=zB h;obtain⟨f,W,h⟩:=zB h;dsimp only at W h;simp only[Option.some.injEq,Prod.mk.injEq]at h;obtain⟨rfl,rfl⟩:=h;obtain⟨a1,a2,a3⟩:=Ze h1;have b1:=xQ h2;obtain⟨xs,e1,e2,e3,H,e5,e6,e7,e8⟩:=Fp (by simp) h3;have hz:SA (List.replicate d none)=0:=by simp[SA]
  rw[hz,Yz]at e8;have M:∀o∈D,o.isSome=true:=by
   have:D.countP Option.isSome=D.length:=by rw[e7];exact e8
   exact List.countP_eq_length.1 this
  have a8:∀i,i<d->∃y,D[i]?=some (some y)/\y∈xs/\y.place=i+1:=λi s=>by
   have N:i<D.length:=by omega
   have:=M D[i] (yy N)
   cases hq:D[i] with
   |none=>rw[hq]at this;cases this
   |some y=>
    have hy:D[i]?=some (some y):=by rw[xi N,hq]
    rcases e6 i y hy with q|q
    ·exact⟨y,hy,q.1,q.2⟩
    rw[xaY]at q;split at q<;>cases q
  obtain⟨g,C⟩:∃g,g=D.map (λo=>o.getD L0):=⟨_,rfl⟩
  rw[<-C]at W;have F:g.length=d:=by rw[C,List.length_map];exact e7
  have m:∀i,i<d->g.getD i L0∈xs/\(g.getD i L0).place=i+1:=λi s=>by
   obtain⟨y,y1,y2,y3⟩:=a8 i s;have:g.getD i L0=y:=by rw[C,Wc,xaH,y1];rfl
   rw[this];exact⟨y2,y3⟩
  have Q:∀x∈xs,g.getD (x.place-1) L0=x/\x.place-1<d:=λx S=>by
   have:=H x S
   have J:=this.2.2.2.1.place;exact⟨by rw[C,Wc,xaH,this.2.2.2.2];rfl,by omega⟩
  have P:∀a∈xs,∀b∈xs,a.id=b.id->a=b:=λa ha b hb E=>by
   obtain⟨i,s,rfl⟩:=xw ha;obtain⟨j,B,rfl⟩:=xw hb;rcases Nat.lt_trichotomy i j with q|q|q
   ·have:=XX.1 e3 i j s B q;omega
   ·subst q;rfl
   have:=XX.1 e3 j i B s q;omega
  have w:∀i j,i<g.length->j<g.length->(g.getD i L0).id=(g.getD j L0).id->i=j:=λi j s B E=>by
   have p1:=m i (by omega);have p2:=m j (by omega);have:=P _ p1.1 _ p2.1 E;have e:=p1.2;rw[this,p2.2]at e;omega
  have A:∀i,i<d->kap (g.getD i L0)=g.getD i L0:=λi s=>by
   have:=(H _ (m i s).1).2.2.2.1.ris
   unfold kap;rw[jG this]
  have a9:wg g (λx=>Wh (g.take 0) x.id)=g:=by
   apply YQ
   intro i;by_cases s:i<d
   ·have X:(wg g (λx=>Wh (g.take 0) x.id))[i]?=some ((wg g (λx=>Wh (g.take 0) x.id)).getD i L0):=by
     rw[Wc,xi (by rw[iB];omega)];rfl
    have Z:g[i]?=some (g.getD i L0):=by rw[Wc,xi (by omega)];rfl
    rw[X,Z,cL _ (by omega),A i s];have hg:=(H _ (m i s).1).2.2.1;congr 1;generalize g.getD i L0=y at hg
    cases y;simp only at hg
    subst hg;rfl
   rw[XJ (by rw[iB];omega),XJ (by omega)]
  rw[<-a9]at W;obtain⟨T,f2⟩:=LP w d 0 (by omega) W;have t:f.length=d:=by rw[T,iB,F]
  have k:∀i,i<d->f.getD i L0={ g.getD i L0 with gv:=Wh g (g.getD i L0).id }:=λi s=>by
   rw[T,cL _ (by omega),A i s]
  have z:∀n,Wj n f=Wj n g:=λn=>by rw[T,kH]
  have v:∀n,(zi f n).gd=(zi g n).gd/\(zi f n).place=(zi g n).place/\(zi f n).ex=(zi g n).ex:=λn=>by
   unfold zi;rw[z];rcases xai (Wj n g) d with q|q
   ·rw[k _ q];exact⟨rfl,rfl,rfl⟩
   have z1:f.getD (Wj n g) L0=L0:=by rw[Wc,XJ (by omega)];rfl
   have z2:g.getD (Wj n g) L0=L0:=by rw[Wc,XJ (by omega)];rfl
   rw[z1,z2];exact⟨rfl,rfl,rfl⟩
  have a6:∀ps,Wv f ps=Wv g ps:=λps=>by
   unfold Wv;congr 1;funext e p;rw[(v p.1).2.2]
  have a4:∀n,Wh f n=Wh g n:=λn=>by
   rw[T];unfold Wh wg;rw[xac];congr 1;apply ye;intro x S;obtain⟨j,B,rfl⟩:=xw S;have e:g.getD j L0=g[j]:=by simp[Wc,B]
   have hk:=A j (by omega);rw[e]at hk;show We { kap g[j] with gv:=_ } n=We g[j] n;rw[hk];rfl
  have R:WR f=xs.flatMap bU:=by
   have G:∀i j,i<f.length->j<f.length->(f.getD i L0).id=(f.getD j L0).id->i=j:=λi j s B E=>by
    rw[k i (by omega),k j (by omega)]at E;exact w i j (by omega) (by omega) E
   obtain⟨q1,q2⟩:=Zf (x:=λi=>(f.getD i L0).id) G (f.length+1) 0 (by have:=bK (λi=>(f.getD i L0).id) 0 f.length;omega);unfold WR;have u:∀i,i∈Zb (λi=>(f.getD i L0).id) f.length (f.length+1) 0↔i<d:=λi=>by
    rw[q2,t];refine⟨λh=>h.1,λh=>⟨h,?_⟩⟩;show 0<(f.getD i L0).id;rw[k i h];have:=(H _ (m i h).1).1;exact this
   have a5:∀i∈Zb (λi=>(f.getD i L0).id) f.length (f.length+1) 0,bU (f.getD i L0)=bU (g.getD i L0):=λi s=>by
    rw[k i ((u i).1 s)];rfl
   have a7:(Zb (λi=>(f.getD i L0).id) f.length (f.length+1) 0).map (λi=>g.getD i L0)=xs:=by
    refine dO (lt:=λa b:L=>a.id<b.id) (λa=>Yr _) (λa b c=>xbL) ?_ e3 (λx=>?_)
    ·rw[yk];refine q1.imp_of_mem (λ{a b} ha hb hab=>?_);have:=hab;rw[k a ((u a).1 ha),k b ((u b).1 hb)]at this;exact this
    rw[Xz];constructor
    ·rintro⟨i,s,rfl⟩;exact(m i ((u i).1 s)).1
    intro S;obtain⟨z1,z2⟩:=Q x S;exact⟨x.place-1,(u _).2 z2,z1⟩
   rw[<-a7,xaQ];have:∀(K:List Nat),(∀i∈K,bU (f.getD i L0)=bU (g.getD i L0))->K.flatMap (λi=>bU (f.getD i L0))=K.flatMap (λi=>bU (g.getD i L0)):=λK=>by
    induction K with
    |nil=>intro _;rfl
    |cons i K ih=>
     intro hh;rw[yb,yb,hh i (by simp),ih (λj B=>hh j (by simp[B]))]
   exact this _ a5
  refine⟨?_,⟨by omega,λi j s B E=>?_,λi s=>?_,λi s=>?_,λi s=>?_,λi s=>?_,λi s=>?_⟩⟩
  ·rw[a1,b1,e2,R,t];simp[Pl.toldB]
  ·rw[k i (by omega),k j (by omega)]at E;exact w i j (by omega) (by omega) E
  ·rw[k i (by omega)];exact(m i (by omega)).2
  ·rw[k i (by omega)];have:=H _ (m i (by omega)).1;exact⟨this.1,this.2.1⟩
  ·rw[k i (by omega),t];have:=(H _ (m i (by omega)).1).2.2.2.1;exact⟨this.gd,this.ex,this.place,this.got,this.cnt,this.plen,this.ris,this.par,this.psum⟩
  ·have hf:=f2 i (by omega) (by omega);refine⟨λp J=>?_,λJ=>?_⟩
   ·rw[k i (by omega)]at J;have:=hf.fam p J;rw[z,(v p.1).1,(v p.1).2.1,k i (by omega),t];rw[F]at this;exact this
   rw[k i (by omega)]at J ⊢;rw[a6];exact hf.exp J
  rw[a4,k i (by omega)]
 cases h
variable {os:List O}
section
variable {ls:List L}
def Fm{g:Nat}:∀{k p:Nat} {b ps:List (Nat×Nat)} {l r:List UInt8},sG ls g k p b l=some (ps,r)->∃d,ps=b++d/\d.length=k/\l=Pl.toldB (d.flatMap (λp=>[p.1,p.2]))++r/\Ris d/\∀q∈d,p<q.1/\q.1<=2147483647/\1<=q.2/\q.2<=2147483647/\Wj q.1 ls<ls.length/\(zi ls q.1).gd=g
 |0,p,b,ps,l,r,h=>by
  simp only[sG,XC,XY]at h;obtain⟨rfl,rfl⟩:=h;exact⟨[],by simp,rfl,by simp[Pl.toldB],by simp[Ris],λq c=>by cases c⟩
 |k+1,p,b,ps,l,r,h=>by
  rw[sG]at h;obtain⟨⟨a,z⟩,u,h⟩:=zB h;dsimp only at h;split at h
  ·rename_i j;obtain⟨⟨g',A⟩,v,h⟩:=zB h;obtain⟨d,f,s,i,t,e⟩:=Fm h;obtain⟨m,y,n⟩:=Ze u;obtain⟨c1,c2,c3⟩:=Ze v;dsimp only at c1 f i e;refine⟨(a,g')::d,by rw[f];simp,by simp[s],?_,?_,λq c=>?_⟩
   ·rw[m,c1,i,bF,bF];rfl
   ·unfold Ris;rw[Xv,XE];refine⟨λx w=>?_,t⟩;obtain⟨q,c,rfl⟩:=Xz.1 w;exact(e q c).1
   rcases xz.1 c with rfl|c
   ·exact⟨by show p<a;omega,n,c2,c3,j.1,j.2⟩
   have:=e q c
   exact⟨by omega,this.2⟩
  cases h
def oL{l:List (Nat×Nat)}(h:Ris l):l.Pairwise (λa b=>aC a b=true):=by
 unfold Ris at h;rw[yk]at h;exact h.imp (λh=>by simp only[aC,YB,XI];exact Or.inl h)
def oK{l:List (Nat×Nat)}(h:Ris l):(l.map Prod.fst).Nodup:=h.imp (λh e=>by rw[e]at h;exact Yr _ h)
def iH{l:List (Nat×Nat)}(h:l.Pairwise (λa b=>aC a b=true)):cA l=l:=by
 have c:l.Nodup:=h.imp (λh e=>by rw[e]at h;exact dN _ h);obtain⟨d,f⟩:=zZ c;exact dO (lt:=λa b=>aC a b=true) dN rG d h f
structure UC(ls:List L)(o:O):Prop where
 id:o.id<=2147483647
 gd:1<=o.gd/\o.gd<=2147483647
 len:1<=o.li.length/\o.li.length<=30
 ris:Ris o.li
 line:∀q∈o.li,1<=q.1/\q.1<=2147483647/\1<=q.2/\q.2<=2147483647/\Wj q.1 ls<ls.length/\(zi ls q.1).gd=o.gd
def Fq:∀{k p:Nat} {c os:List O} {l r:List UInt8},yQ ls k p c l=some (os,r)->∃xs:List O,os=c++xs/\xs.length=k/\l=Pl.toldB (xs.flatMap bV)++r/\xs.Pairwise (λa b=>a.id<b.id)/\∀o∈xs,p<o.id/\UC ls o
 |0,p,c,os,l,r,h=>by
  simp only[yQ,XC,XY]at h;obtain⟨rfl,rfl⟩:=h;exact⟨[],by simp,rfl,by simp[Pl.toldB],by simp,λq m=>by cases m⟩
 |k+1,p,c,os,l,r,h=>by
  rw[yQ]at h;obtain⟨⟨a,N⟩,G,h⟩:=zB h;obtain⟨⟨g,P⟩,v,h⟩:=zB h;obtain⟨⟨i,Q⟩,f,h⟩:=zB h;dsimp only at v f h;unfold aD at f;obtain⟨⟨n,R⟩,H,f⟩:=zB f;dsimp only at f;obtain⟨xs,z,A,B,C,s⟩:=Fq h;obtain⟨S,t,D,E,u,F⟩:=Fm f;obtain⟨w,J,x⟩:=Ze G;obtain⟨c1,c2,c3⟩:=Ze v;obtain⟨y,K,M⟩:=Ze H;rw[List.nil_append]at t;subst t;have j:UC ls ⟨a,g,i⟩:=⟨x,⟨c2,c3⟩,⟨by show 1<=i.length;omega,by show i.length<=30;omega⟩,u,λq m=>by have:=F q m;exact⟨by omega,this.2⟩⟩
  refine⟨⟨a,g,i⟩::xs,by rw[z];simp,by simp[A],?_,?_,λo d=>?_⟩
  ·have e:bV ⟨a,g,i⟩=[a]++([g]++([n]++i.flatMap (λp=>[p.1,p.2]))):=by
    unfold bV VW;dsimp only;rw[iH (oL u),D];rfl
   rw[w,c1,y,E,B,yb,e];simp only[bF,yc]
  ·rw[XE];exact⟨λo j=>(s o j).1,C⟩
  rcases xz.1 d with rfl|d
  ·exact⟨by show p<a;omega,j⟩
  have:=s o d
  exact⟨by omega,this.2⟩
def Tn(l:os.Pairwise (λa b=>a.id<b.id))(m:∀o∈os,1<=o.id)(q:∀o∈os,Ris o.li):WA os=os/\WT os=os.flatMap bV:=by
 have n:(os.map O.id).Nodup:=by
  rw[yt,yk];exact l.imp (λh=>by omega)
 obtain⟨s,t⟩:=Zf (x:=λi=>(os.getD i O0).id) (eS n) (os.length+1) 0 (by have:=bK (λi=>(os.getD i O0).id) 0 os.length;omega);have d:∀i,i∈Zb (λi=>(os.getD i O0).id) os.length (os.length+1) 0↔i<os.length:=λi=>by
  rw[t];exact⟨λh=>h.1,λh=>⟨h,m _ (CO h)⟩⟩
 have k:(Zb (λi=>(os.getD i O0).id) os.length (os.length+1) 0).map (λi=>os.getD i O0)=os:=by
  refine dO (lt:=λa b:O=>a.id<b.id) (λa=>Yr _) (λa b c=>xbL) ?_ l (λx=>?_)
  ·rw[yk];exact s
  rw[Xz];constructor
  ·rintro⟨i,j,rfl⟩;exact CO ((d i).1 j)
  intro r;obtain⟨i,j,rfl⟩:=xw r;exact⟨i,(d i).2 j,by simp[Wc,j]⟩
 constructor
 ·unfold WA;have e:(Zb (λi=>(os.getD i O0).id) os.length (os.length+1) 0).map (λi=>WL (os.getD i O0))=((Zb (λi=>(os.getD i O0).id) os.length (os.length+1) 0).map (λi=>os.getD i O0)).map WL:=by rw[xac];rfl
  rw[e,k];have:os.map WL=os.map id:=ye (λo p=>by
   unfold WL;rw[iH (oL (q o p))];rfl)
  rw[this,xba]
 unfold WT;rw[<-xaQ (f:=λi=>os.getD i O0) (g:=bV),k]
def Fr:∀{k:Nat} {a:Nat×Nat} {c ps:List (Nat×Nat)} {l r:List UInt8},DH ls k a c l=some (ps,r)->∃e,ps=c++e/\e.length=k/\l=Pl.toldB (e.flatMap (λp=>[p.1,p.2]))++r/\(a::e).Pairwise (λa b=>aC a b=true)/\∀q∈e,1<=q.1/\q.1<=2147483647/\1<=q.2/\q.2<=2147483647/\Wj q.1 ls<ls.length
 |0,a,c,ps,l,r,h=>by
  simp only[DH,XC,XY]at h;obtain⟨rfl,rfl⟩:=h;exact⟨[],by simp,rfl,by simp[Pl.toldB],by simp,λq d=>by cases d⟩
 |k+1,a,c,ps,l,r,h=>by
  rw[DH]at h;obtain⟨⟨x,z⟩,w,h⟩:=zB h;obtain⟨⟨y,A⟩,i,h⟩:=zB h;dsimp only at i h;split at h
  ·rename_i f;obtain⟨e,s,t,u,g,v⟩:=Fr h;obtain⟨j,m,n⟩:=Ze w;obtain⟨c1,c2,c3⟩:=Ze i;refine⟨(x,y)::e,by rw[s];simp,by simp[t],?_,?_,λq d=>?_⟩
   ·rw[j,c1,u,bF,bF];rfl
   ·rw[XE];refine⟨λq d=>?_,g⟩;rcases xz.1 d with rfl|d
    ·exact f.1
    exact rG _ _ _ f.1 ((XE.1 g).1 q d)
   rcases xz.1 d with rfl|d
   ·exact⟨m,n,c2,c3,f.2⟩
   exact v q d
  cases h
end
structure Vf(td:Nat)(os:List O)(rj:List (Nat×Nat))(ls:List L):Prop where
 td:td<=2147483647
 ok:∀l∈ls,L.Ok l
 room:ls.length<=30
 good:Good os ls
 snd:Vu os rj ls
 rc:Rc rj
 sml:Vt os ls
 kap:ls.map kap=ls
 os:WA os=os
 rj:cA rj=rj
def lV{b:List UInt8}{td:Nat}{ls:List L}{rj:List (Nat×Nat)}(h:zE b=some (td,ls,os,rj)):Vf td os rj ls/\b=WO td os rj ls:=by
 cases b with
 |nil=>cases h
 |cons c r0=>
  unfold zE at h;dsimp only at h;split at h
  ·rename_i hc;subst hc;obtain⟨⟨a0,r1⟩,h1,h⟩:=zB h;obtain⟨⟨a,r2⟩,N,h⟩:=zB h;obtain⟨⟨os',r3⟩,x,h⟩:=zB h;obtain⟨⟨D,r4⟩,y,h⟩:=zB h;dsimp only at N x y h;split at h
   ·rename_i F;simp only[Option.some.injEq,Prod.mk.injEq]at h;obtain⟨rfl,rfl,rfl,rfl⟩:=h;obtain⟨T,a2,W⟩:=Ze h1;obtain⟨X,g⟩:=GZ N;unfold ZQ at x;obtain⟨⟨ko,r5⟩,h5,x⟩:=zB x;dsimp only at x;obtain⟨c1,c2,c3⟩:=Ze h5;obtain⟨xs,H,e2,e3,J,u⟩:=Fq x;rw[List.nil_append]at H;subst H;unfold eD at y;obtain⟨⟨kr,r6⟩,h6,y⟩:=zB y;dsimp only at y;obtain⟨Z,d2,d3⟩:=Ze h6;obtain⟨qs,K,M,f3,f4,E⟩:=Fr y;rw[List.nil_append]at K;subst K;obtain⟨G,z⟩:=F;subst G;have q:=(List.pairwise_cons.1 f4).2;obtain⟨o1,o2⟩:=Tn J (λo m=>by have:=(u o m).1;omega) (λo m=>(u o m).2.ris);have t:∀i,i<a.length->(a.getD i L0).got=(a.getD i L0).free+(a.getD i L0).hd+(a.getD i L0).sh+(a.getD i L0).sc+(a.getD i L0).gv/\(a.getD i L0).hd=zD os' (a.getD i L0).id:=λi s=>by
     have:=xak.1 z _ (zf s)
     unfold VD at this;rw[XK,XI,XI]at this;exact this
    have w:(os'.map O.id).Nodup:=by
     rw[yt,yk];exact J.imp (λh=>by omega)
    have A:∀n,Wj n a<a.length->(a.getD (Wj n a) L0).id=n:=λn hn=>aS hn
    have v:Good os' a:=⟨g.ids,g.place,w,λo m=>(u o m).2.id,by omega,λo m=>oK (u o m).2.ris,λo m p d=>⟨Wj p.1 a,((u o m).2.line p d).2.2.2.2.1,A _ ((u o m).2.line p d).2.2.2.2.1⟩,λi s=>(t i s).2⟩
    have P:∀j,j<a.length->Wj (a.getD j L0).id a=j:=λj r=>fV r (λk hk e=>by have:=g.ids k j (by omega) r e;omega) rfl
    have C:Vu os' D a:=by
     refine⟨λi s=>?_,λi s p d=>?_,λi s d=>(g.fam i s).exp d,g.giv,λo m=>?_,λp d=>?_⟩
     ·have f:=g.one i s;exact⟨(g.id i s).1,f.gd.1,f.got.1,(t i s).1,oK f.ris,λp d=>(f.par p d).2.2,f.psum⟩
     ·obtain⟨Q,R,S⟩:=(g.fam i s).fam p d;unfold zi at R S;refine⟨Wj p.1 a,?_,A _ Q,R⟩;rw[g.place _ Q,g.place i s]at S;omega
     ·have f:=(u o m).2;refine⟨f.gd.1,λe=>?_,λp d=>⟨(f.line p d).2.2.1,(f.line p d).2.2.2.2.2⟩⟩;have:=f.len.1;rw[e]at this;exact absurd this (by simp)
     have:=E p d
     exact⟨this.1,this.2.2.1,this.2.2.2.2⟩
    refine⟨⟨W,λl B=>?_,g.room,v,C,⟨q.imp (λh e=>by rw[e]at h;exact dN _ h),by omega,λp d=>⟨(E p d).2.1,(E p d).2.2.2.1⟩⟩,⟨λl B=>?_,λo m=>⟨by have:=(u o m).1;omega,(u o m).2.gd.2⟩⟩,?_,o1,iH q⟩,?_⟩
    ·obtain⟨j,r,rfl⟩:=xw B;have e:a.getD j L0=a[j]:=by simp[Wc,r]
     rw[<-e];have f:=g.one j r;have hs:=(t j r).1;have hr:=g.room;have:=f.place;have:=f.got;exact⟨(g.id j r).2,f.gd.2,f.ex,by omega,by omega,f.got.2,f.plen,λp d=>(f.par p d).2.1⟩
    ·obtain⟨j,r,rfl⟩:=xw B;have e:a.getD j L0=a[j]:=by simp[Wc,r]
     rw[<-e];exact⟨(g.id j r).1,λp d=>((g.one j r).par p d).2.2⟩
    ·have:a.map kap=a.map id:=ye (λl B=>by
      obtain⟨j,r,rfl⟩:=xw B;have e:a.getD j L0=a[j]:=by simp[Wc,r]
      rw[<-e];unfold kap;rw[jG (g.one j r).ris];rfl)
     rw[this,xba]
    unfold WO WS;rw[T,X,c1,e3,Z,f3,o2,<-e2,<-M,iH q];unfold VW;rw[M];congr 1;simp[Pl.toldB]
   cases h
  cases h
def yK{a:List Nat}(h:n<=a.length)(b:Bool):Xl (n::a,b)=(n,(a,b)):=by
 show(if a.length<n then _ else _)=_;rw[xg (by omega)];rfl
def FC(ps:List (Nat×Nat))(c:List Nat)(b:Bool):∀k,k<=ps.length->Xk (ps.flatMap (λp=>[p.1,p.2])++c,b) k=(ps.take k,((ps.drop k).flatMap (λp=>[p.1,p.2])++c,b))
 |0,_=>by simp[Xk]
 |k+1,hk=>by
  have a:k<ps.length:=by omega
  rw[Xk,FC ps c b k (by omega),YW a,xn a];rfl
def gA(ps:List (Nat×Nat)):(ps.flatMap (λp=>[p.1,p.2])).length=2*ps.length:=by
 induction ps with
 |nil=>rfl
 |cons p ps ih=>rw[yb,xc,ih];simp;omega
def rY(ps:List (Nat×Nat))(a:List Nat)(b:Bool):kF (VW ps++a,b)=(ps,(a,b)):=by
 unfold kF VW;rw[XS,yK (by rw[xc,gA];omega)];show Xk (ps.flatMap (λp=>[p.1,p.2])++a,b) ps.length=_;rw[FC ps a b ps.length (xe _)];simp
def WE(x:L):L:={ x with got:=if x.par.length=0 then x.got else 0,gv:=0 }
def OI{x:L}(g:Ris x.par)(a:List Nat)(b:Bool):Xi (bU x++a,b)=WE x/\(Xg (bU x++a,b)).2=(a,b):=by
 have e:bU x++a=x.id::x.gd::x.ex::x.place::x.free::x.hd::x.sh::x.sc::(VW x.par++((if x.par.length=0 then [x.got] else [])++a)):=by
  unfold bU;rw[jG g];simp
 rw[e];generalize f:(VW x.par++((if x.par.length=0 then [x.got] else [])++a))=R;have hF:Xf (x.id::x.gd::x.ex::x.place::x.free::x.hd::x.sh::x.sc::R,b)=(x.par,((if x.par.length=0 then [x.got] else [])++a,b)):=by
  show kF (R,b)=_;rw[<-f];exact rY _ _ _
 have d:Xg (x.id::x.gd::x.ex::x.place::x.free::x.hd::x.sh::x.sc::R,b)=(if x.par.length=0 then x.got else 0,(a,b)):=by
  unfold Xg;rw[hF];dsimp only;by_cases c:x.par.length=0
  ·rw[xh c,xh c,xh c];rfl
  rw[xg c,xg c,xg c];rfl
 refine⟨?_,by rw[d]⟩;unfold Xi;rw[d,hF];rfl
def Cg(xs:List L)(d:∀x∈xs,Ris x.par)(c:List Nat)(b:Bool):∀k,k<=xs.length->fD (xs.flatMap bU++c,b) k=((xs.take k).map WE,((xs.drop k).flatMap bU++c,b))
 |0,_=>by simp[fD]
 |k+1,hk=>by
  have a:k<xs.length:=by omega
  rw[fD,Cg xs d c b k (by omega),List.drop_eq_getElem_cons a,List.take_succ_eq_append_getElem a,List.flatMap_cons,List.append_assoc];obtain⟨e,f⟩:=OI (d _ (List.getElem_mem a)) ((xs.drop (k+1)).flatMap bU++c) b;dsimp only;rw[e,f,List.map_append];rfl
def OK{o:O}(c:Ris o.li)(a:List Nat)(b:Bool):Xj (bV o++a,b)=(o,(a,b)):=by
 have e:bV o++a=o.id::o.gd::(VW o.li++a):=by
  unfold bV;rw[iH (oL c)];simp
 rw[e];show((⟨o.id,o.gd,(kF (VW o.li++a,b)).1⟩:O),(kF (VW o.li++a,b)).2)=_;rw[rY]
def Ch(xs:List O)(d:∀x∈xs,Ris x.li)(c:List Nat)(b:Bool):∀k,k<=xs.length->gS (xs.flatMap bV++c,b) k=(xs.take k,((xs.drop k).flatMap bV++c,b))
 |0,_=>by simp[gS]
 |k+1,hk=>by
  have a:k<xs.length:=by omega
  rw[gS,Ch xs d c b k (by omega),List.drop_eq_getElem_cons a,List.take_succ_eq_append_getElem a,List.flatMap_cons,List.append_assoc];dsimp only;rw[OK (d _ (List.getElem_mem a))]
def CM{α:Type}(f:α->List Nat)(a:∀x,1<=(f x).length):∀l:List α,l.length<=(l.flatMap f).length
 |[]=>xe _
 |x::l=>by
  have:=CM f a l
  have:=a x
  rw[yb,xc,List.length_cons];omega
def nO(ls:List L):List L:=(Zb (λi=>(ls.getD i L0).id) ls.length (ls.length+1) 0).map (λi=>ls.getD i L0)
def BY(ls:List L):WR ls=(nO ls).flatMap bU:=by unfold WR nO;rw[xaQ]
def uN{ls:List L}(a:∀i j,i<ls.length->j<ls.length->(ls.getD i L0).id=(ls.getD j L0).id->i=j)(b:∀i,i<ls.length->1<=(ls.getD i L0).id):(nO ls).Perm ls:=by
 have:=(wF (x:=λi=>(ls.getD i L0).id) a b).map (λi=>ls.getD i L0)
 have e:=rJ (λx:L=>x) L0 ls;rw[List.map_id']at e;rw[e]at this;exact this
def OM{td:Nat}{rj:List (Nat×Nat)}{ls:List L}(a:(nO ls).length=ls.length)(g:∀x∈nO ls,Ris x.par)(c:WT os=os.flatMap bV)(b:∀o∈os,Ris o.li)(d:cA rj=rj):Xn (WS td os rj ls)=⟨td,ls.length,ls.length,(nO ls).map WE,os,rj,([],false)⟩:=by
 have e:WS td os rj ls=td::ls.length::ls.length::((nO ls).flatMap bU++(os.length::(os.flatMap bV++(VW rj++[])))):=by
  unfold WS;rw[BY,c,d];simp
 have h:∀x:L,1<=(bU x).length:=λx=>by unfold bU;simp
 have i:∀x:O,1<=(bV x).length:=λx=>by unfold bV;simp
 have l:=CM bU h (nO ls);have g2:=CM bV i os;have s1:Xl (ls.length::((nO ls).flatMap bU++(os.length::(os.flatMap bV++(VW rj++[])))),false)=(ls.length,((nO ls).flatMap bU++(os.length::(os.flatMap bV++(VW rj++[]))),false)):=yK (by rw[List.length_append];omega) false;have s2:=Cg (nO ls) g (os.length::(os.flatMap bV++(VW rj++[]))) false (nO ls).length (Nat.le_refl _);have j:Xl (os.length::(os.flatMap bV++(VW rj++[])),false)=(os.length,(os.flatMap bV++(VW rj++[]),false)):=yK (by rw[List.length_append];omega) false;have f:=Ch os b (VW rj++[]) false os.length (Nat.le_refl _);have k:=rY rj [] false;rw[a,List.take_of_length_le (by omega),List.drop_of_length_le (by omega)]at s2;rw[List.take_length,List.drop_length]at f;rw[List.flatMap_nil,List.nil_append]at s2 f;rw[e];unfold Xn;show VB.mk td ls.length _ _ _ _ _=_;dsimp only[Xe];rw[s1];dsimp only;rw[s2];dsimp only;rw[j];dsimp only;rw[f];dsimp only;rw[k]
def WC(l:List L)(k:Nat):List L:=(List.range k).flatMap (λq=>l.filter (λx=>x.place==q+1))
def WB(l:List L):Prop:=∀q,q<l.length->(l.filter (λx=>x.place==q+1)).length=1
def Oa{l ls:List L}(m:l.Perm (ls.map WE))(u:ls.Nodup)(b:∀i,i<ls.length->(ls.getD i L0).place=i+1):WB l/\WC l l.length=ls.map WE:=by
 have a:l.length=ls.length:=by rw[m.length_eq,List.length_map]
 have g:∀q,q<ls.length->l.filter (λx=>x.place==q+1)=[WE (ls.getD q L0)]:=λq f=>by
  have n:=m.filter (λx=>x.place==q+1);have p:((ls.map WE).filter (λx=>x.place==q+1)).Perm [WE (ls.getD q L0)]:=by
   rw[xcq];have r:(ls.filter ((λx=>x.place==q+1)∘WE)).Perm [ls.getD q L0]:=by
    refine(YN (u.filter _) (by simp)).2 (λx=>?_);rw[Yk,XN];constructor
    ·rintro⟨v,t⟩;obtain⟨j,h,rfl⟩:=xw v;have e:ls.getD j L0=ls[j]:=by simp[Wc,h]
     have s:=b j h;have c:ls[j].place=q+1:=by simpa [WE] using t
     rw[e,c]at s;have:j=q:=by omega
     subst this;exact e.symm
    rintro rfl;exact⟨zf f,by show((ls.getD q L0).place==q+1)=true;rw[b q f];simp⟩
   exact r.map WE
  exact List.perm_singleton.1 (n.trans p)
 constructor
 ·intro q f;rw[g q (by omega)];rfl
 unfold WC;rw[a];have:∀k,k<=ls.length->(List.range k).flatMap (λq=>l.filter (λx=>x.place==q+1))=(ls.take k).map WE:=λk=>by
  induction k with
  |zero=>intro _;simp
  |succ k ih=>
   intro w;rw[YU,yw,ih (by omega),ZY (d:=L0) (show k<ls.length by omega)];simp[g k (by omega)]
 rw[this _ (xe _),Xs]
def DD{l:List L}(h:WB l):∀k,k<=l.length->(WC l k).length=k/\∀i,i<k->(WC l k).getD i L0∈l/\((WC l k).getD i L0).place=i+1
 |0,_=>⟨rfl,λi m=>by omega⟩
 |k+1,hk=>by
  obtain⟨d,g⟩:=DD h k (by omega);have j:=h k (by omega);have e:WC l (k+1)=WC l k++l.filter (λx=>x.place==k+1):=by unfold WC;rw[YU,yw];simp
  obtain⟨y,f⟩:=List.length_eq_one_iff.1 j;have a:y∈l.filter (λx=>x.place==k+1):=by rw[f];simp
  rw[Yk]at a;rw[e,f];refine⟨by rw[xc,d];rfl,λi m=>?_⟩;by_cases c:i<k
  ·have:(WC l k++[y]).getD i L0=(WC l k).getD i L0:=by rw[Wc,Wc,XH (by omega)]
   rw[this];exact g i c
  have b:i=k:=by omega
  subst b;have:(WC l i++[y]).getD i L0=y:=by rw[Wc,Yc (by omega),d];simp
  rw[this];exact⟨a.1,by simpa using a.2⟩
def wq(ls:List L)(g q:L->Nat):List L:=ls.map λx=>{ x with gv:=g x,got:=q x }
section
variable {ls:List L}
def kI(g q:L->Nat):(wq ls g q).length=ls.length:=by simp[wq]
def FG(g q:L->Nat)(n:Nat):Wj n (wq ls g q)=Wj n ls:=by
 unfold Wj wq;rw[xaP];rfl
def mX(g q:L->Nat){i:Nat}(a:i<ls.length):(wq ls g q).getD i L0={ ls.getD i L0 with gv:=g (ls.getD i L0),got:=q (ls.getD i L0) }:=by
 simp[wq,Wc,a]
def yN(g q:L->Nat){i:Nat}(a:i<ls.length):(wq ls g q)[i]?=some { ls.getD i L0 with gv:=g (ls.getD i L0),got:=q (ls.getD i L0) }:=by
 rw[<-mX g q a,Wc,xi (by rw[kI];exact a)];rfl
def TR(b:∀i j,i<ls.length->j<ls.length->(ls.getD i L0).id=(ls.getD j L0).id->i=j)(g q:L->Nat){n m:Nat}(c:Wj n ls<ls.length):(wq ls g q).set (Wj n ls) (Wf ((wq ls g q).getD (Wj n ls) L0) m)=wq ls (λx=>g x+if n=x.id then m else 0) q:=by
 have a:=aS c;apply YQ;intro j;by_cases d:j<ls.length
 ·rw[yN _ _ d,XB];by_cases e:Wj n ls=j
  ·rw[xh e,xh (by rw[kI];exact c),mX _ _ c,e];rw[e]at a;rw[xh a.symm];rfl
  rw[xg e,yN _ _ d];have:¬n=(ls.getD j L0).id:=λq=>e (b _ _ c d (by rw[a,q]))
  rw[xg this];rfl
 rw[XJ (by rw[xq,kI];omega),XJ (by rw[kI];omega)]
def TQ(b:∀i,i<ls.length->(ls.getD i L0).place=i+1)(g q:L->Nat){i:Nat}(c:i<ls.length)(s:Nat):(wq ls g q).set i { (wq ls g q).getD i L0 with got:=s }=wq ls g (λx=>if x.place=i+1 then s else q x):=by
 apply YQ
 intro j;by_cases a:j<ls.length
 ·rw[yN _ _ a,XB];have d:=b j a;by_cases e:i=j
  ·subst e;rw[xh rfl,xh (by rw[kI];exact c),mX _ _ c,xh d]
  rw[xg e,yN _ _ a,xg (by omega)]
 rw[XJ (by rw[xq,kI];omega),XJ (by rw[kI];omega)]
def oQ(ls:List L)(l:L)(p:Nat×Nat):Prop:=Wj p.1 ls<ls.length/\p.2<=2147483647/\(zi ls p.1).gd=l.gd/\(zi ls p.1).place<l.place
def VR(ls:List L)(ps:List (Nat×Nat))(u:Nat):Nat:=ps.foldl (λe p=>min e (zi ls p.1).ex) u
def Pd(c:∀i j,i<ls.length->j<ls.length->(ls.getD i L0).id=(ls.getD j L0).id->i=j)(l:L):∀(ps:List (Nat×Nat)) (u b:Nat) (g q:L->Nat),((∀p∈ps,oQ ls l p)->VY l ps u b (wq ls g q)=some (wq ls (λx=>g x+(ps.map λp=>if p.1=x.id then p.2 else 0).sum) q,VR ls ps u,b+(ps.map Prod.snd).sum))/\(¬(∀p∈ps,oQ ls l p)->VY l ps u b (wq ls g q)=none)
 |[],u,b,g,q=>⟨λ_=>by simp[VY,VR],λh=>absurd (λp y=>by cases y) h⟩
 |p::ps,u,b,g,q=>by
  have a:(Wj p.1 (wq ls g q)<(wq ls g q).length/\p.2<=2147483647/\((wq ls g q).getD (Wj p.1 (wq ls g q)) L0).gd=l.gd/\((wq ls g q).getD (Wj p.1 (wq ls g q)) L0).place<l.place)↔oQ ls l p:=by
   rw[FG,kI];unfold oQ;constructor
   ·rintro⟨f,s,m,n⟩;rw[mX _ _ f]at m n;exact⟨f,s,m,n⟩
   rintro⟨f,s,m,n⟩;rw[mX _ _ f];exact⟨f,s,m,n⟩
  by_cases d:oQ ls l p
  ·have t:((wq ls g q).getD (Wj p.1 (wq ls g q)) L0).ex=(zi ls p.1).ex:=by rw[FG,mX _ _ d.1];rfl
   have e:VY l (p::ps) u b (wq ls g q)=VY l ps (min u (zi ls p.1).ex) (b+p.2) (wq ls (λx=>g x+if p.1=x.id then p.2 else 0) q):=by
    rw[VY,xh (a.2 d),t,FG,TR c g q d.1]
   obtain⟨z,A⟩:=Pd c l ps (min u (zi ls p.1).ex) (b+p.2) (λx=>g x+if p.1=x.id then p.2 else 0) q;refine⟨λh=>?_,λh=>?_⟩
   ·rw[e,z (λr k=>h r (by simp[k]))];have v:(λx:L=>(g x+if p.1=x.id then p.2 else 0)+(ps.map λp=>if p.1=x.id then p.2 else 0).sum)=λx=>g x+((p::ps).map λp=>if p.1=x.id then p.2 else 0).sum:=by
     funext x
     rw[Xv,XZ];omega
    rw[v,Xv,XZ,xcA];rfl
   rw[e,A (λw=>h (λr k=>by
    rcases xz.1 k with rfl|k
    ·exact d
    exact w r k))]
  refine⟨λh=>absurd (h p (by simp)) d,λ_=>?_⟩;rw[VY,xg (λh=>d (a.1 h))]
structure UZ(ls:List L)(i:Nat):Prop where
 len:(ls.getD i L0).par.length<=2
 ris:Ris (ls.getD i L0).par
 fam:∀p∈(ls.getD i L0).par,oQ ls (ls.getD i L0) p
 exp:(ls.getD i L0).par≠[]->VR ls (ls.getD i L0).par 2147483648=(ls.getD i L0).ex
def uE(x:L):Nat:=if x.par.length=0 then x.got else (x.par.map Prod.snd).sum
def wy(ls:List L)(i:Nat):List L:=wq ls (λx=>Wh (ls.take i) x.id) (λx=>if x.place<=i then uE x else x.got)
def SJ(r:∀i j,i<ls.length->j<ls.length->(ls.getD i L0).id=(ls.getD j L0).id->i=j)(c:∀i,i<ls.length->(ls.getD i L0).place=i+1){i:Nat}(w:i<ls.length):(UZ ls i->VZ (wy ls i) i=some (wy ls (i+1)))/\(¬UZ ls i->VZ (wy ls i) i=none):=by
 have A:∀n,Wh (ls.take (i+1)) n=Wh (ls.take i) n+We (ls.getD i L0) n:=λn=>by
  rw[ZY (d:=L0) w];simp[Wh]
 obtain⟨y,u⟩:∃y,y=(wy ls i).getD i L0:=⟨_,rfl⟩
 have z:=mX (ls:=ls) (λx=>Wh (ls.take i) x.id) (λx=>if x.place<=i then uE x else x.got) w;have H:y.par=(ls.getD i L0).par:=by rw[u];unfold wy;rw[z]
 have J:y.ex=(ls.getD i L0).ex:=by rw[u];unfold wy;rw[z]
 have K:y.gd=(ls.getD i L0).gd:=by rw[u];unfold wy;rw[z]
 have M:y.place=(ls.getD i L0).place:=by rw[u];unfold wy;rw[z]
 have l:∀p,oQ ls y p↔oQ ls (ls.getD i L0) p:=λp=>by unfold oQ;rw[K,M]
 obtain⟨D,G⟩:=Pd r y (ls.getD i L0).par 2147483648 0 (λx=>Wh (ls.take i) x.id) (λx=>if x.place<=i then uE x else x.got);have N:=c i w;have k:∀j,j<ls.length->(if (ls.getD j L0).place<=i+1 then uE (ls.getD j L0) else (ls.getD j L0).got)=(if (ls.getD j L0).place=i+1 then uE (ls.getD i L0) else (if (ls.getD j L0).place<=i then uE (ls.getD j L0) else (ls.getD j L0).got)):=λj b=>by
  have E:=c j b;by_cases e:j=i
  ·subst e;rw[xh (by omega),xh (by omega)]
  rw[xg (show ¬(ls.getD j L0).place=i+1 by omega)];by_cases C:(ls.getD j L0).place<=i
  ·rw[xh (by omega),xh C]
  rw[xg (by omega),xg C]
 have a:∀(g q B:L->Nat),(∀j,j<ls.length->q (ls.getD j L0)=B (ls.getD j L0))->wq ls g q=wq ls g B:=λg q B h=>by
  unfold wq;apply ye;intro x F;obtain⟨j,b,rfl⟩:=xw F;have e:ls.getD j L0=ls[j]:=by simp[Wc,b]
  have:=h j b
  rw[e]at this;rw[this]
 have t:wy ls (i+1)=wq ls (λx=>Wh (ls.take i) x.id+((ls.getD i L0).par.map λp=>if p.1=x.id then p.2 else 0).sum) (λx=>if x.place<=i+1 then uE x else x.got):=by
  unfold wy;congr 1;funext x;rw[A];rfl
 unfold VZ;rw[<-u,H,J];constructor
 ·intro hF;rw[if_pos ⟨hF.len,hF.ris⟩];unfold wy at *;rw[D (λp s=>(l p).2 (hF.fam p s)),Option.bind_some];dsimp only;by_cases f:(ls.getD i L0).par.length=0
  ·rw[xh f,t];congr 1;apply a;intro j b;show _=(if (ls.getD j L0).place<=i+1 then uE (ls.getD j L0) else (ls.getD j L0).got);rw[k j b];by_cases e:(ls.getD j L0).place=i+1
   ·rw[xh e,xg (by omega)];have:j=i:=by have:=c j b;omega
    subst this;unfold uE;rw[xh f]
   rw[xg e]
  rw[xg f,xh (hF.exp (λe=>f (by rw[e];rfl))),TQ c _ _ w,t];congr 1;apply a;intro j b;show _=(if (ls.getD j L0).place<=i+1 then uE (ls.getD j L0) else (ls.getD j L0).got);rw[k j b];unfold uE;rw[xg f,Yz]
 intro hF;by_cases m:(ls.getD i L0).par.length<=2/\((ls.getD i L0).par.map Prod.fst).Pairwise (·<·)
 ·rw[xh m];unfold wy at *;by_cases v:∀p∈(ls.getD i L0).par,oQ ls y p
  ·rw[D v,Option.bind_some];dsimp only;by_cases f:(ls.getD i L0).par.length=0
   ·exact absurd ⟨m.1,m.2,λp s=>(l p).1 (v p s),λh=>absurd (XD.1 f) h⟩ hF
   rw[xg f,xg (λe=>hF ⟨m.1,m.2,λp s=>(l p).1 (v p s),λ_=>e⟩)]
  rw[G v];rfl
 rw[xg m]
def Jb(a:∀i j,i<ls.length->j<ls.length->(ls.getD i L0).id=(ls.getD j L0).id->i=j)(b:∀i,i<ls.length->(ls.getD i L0).place=i+1):∀(k i:Nat),i+k=ls.length->((∀j,i<=j->j<ls.length->UZ ls j)->VX k i (wy ls i)=some (wy ls ls.length))/\(¬(∀j,i<=j->j<ls.length->UZ ls j)->VX k i (wy ls i)=none)
 |0,i,hk=>by
  obtain rfl:i=ls.length:=by omega
  exact⟨λ_=>rfl,λh=>absurd (λj f c=>by omega) h⟩
 |k+1,i,hk=>by
  obtain⟨d,g⟩:=SJ a b (show i<ls.length by omega);obtain⟨l,m⟩:=Jb a b k (i+1) (by omega);rw[VX];refine⟨λh=>?_,λh=>?_⟩
  ·rw[d (h i (xe _) (by omega)),xk];exact l (λj f c=>h j (by omega) c)
  by_cases hF:UZ ls i
  ·rw[d hF,xk];exact m (λn=>h (λj f c=>by
    by_cases e:j=i
    ·subst e;exact hF
    exact n j (by omega) c))
  rw[g hF];rfl
end
