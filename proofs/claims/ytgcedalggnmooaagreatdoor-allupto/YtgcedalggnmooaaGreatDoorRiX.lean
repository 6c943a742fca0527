import Derived.Test.YtgcedalggnmooaaGreatDoorSp0X
import Derived.Test.YtgcedalggnmooaaGreatDoorSfX
set_option linter.all false
set_option maxRecDepth 100000
namespace Go.Proofs.YtgcedalggnmooaaGreatDoor
open Option renaming none->Y,some->V
def uP:∀l:List UInt8,Pl.lead l<l.length->∃p b s,l=p++b::s/\p.length=Pl.lead l/\(∀c∈p,128<=c.toNat)/\b.toNat<128
 |[],h=>by simp at h
 |b::r,h=>by
  rw[Pl.lead_cons]at h ⊢;by_cases d:128<=b.toNat
  ·rw[xh d]at h ⊢;obtain⟨p,c,s,e,i,f,g⟩:=uP r (by simpa using h);refine⟨b::p,c,s,by rw[e];rfl,by simp;omega,λx a=>?_,g⟩;rcases xz.1 a with rfl|a
   ·exact d
   exact f x a
  rw[xg d];exact⟨[],b,r,rfl,rfl,(λx a=>by cases a),by omega⟩
variable {l r:List UInt8}{n:Nat}
def yE(h:Xl l=V (n,r)):l=Pl.num n++r:=by
 unfold Xl at h;split at h
 ·cases h
 rename_i f;simp only[yk,Yi]at h;obtain⟨rfl,rfl⟩:=h;have a:Pl.ok1 l=true:=by
  cases m:Pl.ok1 l with
  |true=>rfl
  |false=>unfold Pl.snd at f;rw[m]at f;exact absurd rfl f
 have g:Pl.snd l=Pl.lead l+1:=by unfold Pl.snd;rw[xh a]
 have e:Pl.fst l=Pl.val (l.take (Pl.lead l+1)):=by unfold Pl.fst;rw[xh a]
 unfold Pl.ok1 at a;simp only[yt,yr,xbO,xaF,Yv,xr]at a;obtain⟨p,b,s,c,d,i,j⟩:=uP l a.1.2;have t:l.take (Pl.lead l+1)=p++[b]:=by
  rw[<-d];conv=>lhs;rw[c]
  rw[List.take_append,ye (by omega)];simp
 have hd:l.drop (Pl.lead l+1)=s:=by
  rw[<-d];conv=>lhs;rw[c]
  rw[List.drop_append];simp
 have k:l.getD (Pl.lead l) 1=b:=by
  rw[<-d];conv=>lhs;rw[c]
  simp[WI]
 rw[e,g,t,hd,(Pl.num_val b j p i).2 (λ⟨k1,k2⟩=>?_),c]
 ·simp
 rcases a.2 with q|q
 ·omega
 rw[k]at q;exact q k2
def Zh{lo d:Nat}(h:Xm lo d l=V (n,r)):l=Pl.toldB [n]++r/\lo<=n/\n<=d:=by
 unfold Xm at h
 cases b:Xl l with
 |none=>rw[b]at h;cases h
 |some a=>
  obtain⟨m,q⟩:=a;rw[b,xk]at h;split at h
  ·rename_i c;simp only[yk,Yi]at h;obtain⟨rfl,rfl⟩:=h;exact⟨by rw[yE b];simp[Pl.toldB],c.1,c.2⟩
  cases h
def bH(a b:List Nat)(r:List UInt8):Pl.toldB a++(Pl.toldB b++r)=Pl.toldB (a++b)++r:=by simp[Pl.toldB]
def zB{α β:Type}{o:Option α}{f:α->Option β}{y:β}(h:o.bind f=V y):∃a,o=V a/\f a=V y:=by
 cases o with
 |none=>cases h
 |some a=>exact⟨a,rfl,h⟩
def BT:∀{k p:Nat} {b ps:List (Nat×Nat)} {l r:List UInt8},fH k p b l=V (ps,r)->∃d,ps=b++d/\d.length=k/\l=Pl.toldB (d.flatMap (λp=>[p.1,p.2]))++r/\Ris d/\∀q∈d,p<q.1/\q.1<=2147483647/\q.2<=2147483647
 |0,p,b,ps,l,r,h=>by
  simp only[fH,yk,Yi]at h;obtain⟨rfl,rfl⟩:=h;exact⟨[],by simp,rfl,by simp[Pl.toldB],by simp[Ris],λq c=>by cases c⟩
 |k+1,p,b,ps,l,r,h=>by
  rw[fH]at h;obtain⟨⟨a,y⟩,t,h⟩:=zB h;obtain⟨⟨g,z⟩,u,h⟩:=zB h;obtain⟨d,f,n,i,s,e⟩:=BT h;obtain⟨j,w,m⟩:=Zh t;obtain⟨c1,c2,c3⟩:=Zh u;dsimp only at c1 f i e;refine⟨(a,g)::d,by rw[f];simp,by simp[n],?_,?_,λq c=>?_⟩
  ·rw[j,c1,i,bH,bH];rfl
  ·unfold Ris;rw[XY,ym];refine⟨λx v=>?_,s⟩;obtain⟨q,c,rfl⟩:=yc.1 v;exact(e q c).1
  rcases xz.1 c with rfl|c
  ·exact⟨by show p<a;omega,m,c3⟩
  have:=e q c
  exact⟨by omega,this.2⟩
def Hx{ps:List (Nat×Nat)}(h:fE l=V (ps,r)):l=Pl.toldB (WC ps)++r/\ps.length<=2/\Ris ps/\∀q∈ps,1<=q.1/\q.1<=2147483647/\q.2<=2147483647:=by
 unfold fE at h;obtain⟨⟨k,q⟩,g,h⟩:=zB h;obtain⟨n,a,b,c,e,f⟩:=BT h;obtain⟨d,j,m⟩:=Zh g;dsimp only at b c;rw[List.nil_append]at a;subst a;refine⟨?_,by omega,e,λq i=>by have:=f q i;exact⟨by omega,this.2⟩⟩;rw[d,c,bH,<-b];rfl
def jJ{l:List (Nat×Nat)}(h:Ris l):zV l=l:=by
 match l with
 |[]=>rfl
 |[a]=>rfl
 |[a,b] =>
  have:a.1<b.1:=by simpa [Ris] using h
  have d:¬b.1<a.1:=by omega
  simp[zV,d]
 |a::b::c::r=>rfl
structure VS(com:Nat)(x:L):Prop where
 gd:1<=x.gd/\x.gd<=2147483647
 ex:x.ex<=2147483647
 place:1<=x.place/\x.place<=com
 got:1<=x.got/\x.got<=2147483647
 cnt:x.free<=2147483647/\x.hd<=2147483647/\x.sh<=2147483647/\x.sc<=2147483647
 plen:x.par.length<=2
 ris:Ris x.par
 par:∀q∈x.par,1<=q.1/\q.1<=2147483647/\q.2<=2147483647
 psum:x.par=[]\/x.got=(x.par.map Prod.snd).sum
def Lp{num com:Nat}{x:L}(h:cV num com l=V (x,r)):l=Pl.toldB (bZ x).tail++r/\x.id=num/\x.gv=0/\VS com x:=by
 unfold cV at h;obtain⟨⟨s,r1⟩,S,h⟩:=zB h;obtain⟨⟨t,r2⟩,i,h⟩:=zB h;obtain⟨⟨u,r3⟩,j,h⟩:=zB h;obtain⟨⟨v,r4⟩,k,h⟩:=zB h;obtain⟨⟨w,r5⟩,m,h⟩:=zB h;obtain⟨⟨y,r6⟩,n,h⟩:=zB h;obtain⟨⟨z,r7⟩,p,h⟩:=zB h;obtain⟨⟨ps,T⟩,q,h⟩:=zB h;obtain⟨⟨c,W⟩,a,h⟩:=zB h;dsimp only at i j k m n p q a h;obtain⟨A,J,c1⟩:=Zh S;obtain⟨B,X,c2⟩:=Zh i;obtain⟨C,K,c3⟩:=Zh j;obtain⟨D,Z,c4⟩:=Zh k;obtain⟨E,b5,N⟩:=Zh m;obtain⟨F,b6,P⟩:=Zh n;obtain⟨G,b7,Q⟩:=Zh p;obtain⟨H,M,g,R⟩:=Hx q;split at h
 ·rename_i d;simp only[yk,Yi]at h;obtain⟨rfl,rfl⟩:=h;have f:T=Pl.toldB (if ps.length=0 then [c] else [])++W:=by
   split at a
   ·rename_i b;rw[xh b,yE a];simp[Pl.toldB]
   rename_i b;rw[xg b];simp only[yk,Yi]at a;rw[a.2];rfl
  refine⟨?_,rfl,rfl,⟨⟨J,c1⟩,c2,⟨K,c3⟩,d,⟨c4,N,P,Q⟩,M,g,R,?_⟩⟩
  ·have e:(bZ ⟨num,s,t,u,c,v,w,y,z,0,ps⟩).tail=[s]++([t]++([u]++([v]++([w]++([y]++([z]++(WC ps++(if ps.length=0 then [c] else [])))))))):=by
    unfold bZ;dsimp only;rw[jJ g];simp
   rw[e,A,B,C,D,E,F,G,H,f];simp only[bH,Ym]
  split at a
  ·rename_i b;exact Or.inl (yl.1 b)
  simp only[yk,Yi]at a;exact Or.inr a.1.symm
 cases h
def Ti(sl:List (Option L)):Nat:=sl.countP Option.isSome
def FI{c:Nat}:∀{k p:Nat} {g d:List (Option L)} {l r:List UInt8},g.length=c->yH c k p g l=V (d,r)->∃xs:List L,xs.length=k/\l=Pl.toldB (xs.flatMap bZ)++r/\xs.Pairwise (λa b=>a.id<b.id) /\
  (∀x∈xs,p<x.id/\x.id<=2147483647/\x.gv=0/\VS c x/\d[x.place-1]?=V (V x))/\(∀(i:Nat) (y:L),g[i]?=V (V y)->d[i]?=V (V y))/\(∀(i:Nat) (y:L),d[i]?=V (V y)->(y∈xs/\y.place=i+1)\/g[i]?=V (V y))/\d.length=c/\Ti d=Ti g+k
 |0,p,g,d,l,r,hc,h=>by
  simp only[yH,yk,Yi]at h;obtain⟨rfl,rfl⟩:=h;exact⟨[],rfl,by simp[Pl.toldB],by simp,(λx N=>by cases N),(λ_ _ h=>h),(λ_ _ h=>Or.inr h),hc,rfl⟩
 |k+1,p,g,d,l,r,hc,h=>by
  rw[yH]at h;obtain⟨⟨a,T⟩,K,h⟩:=zB h;obtain⟨⟨x,W⟩,w,h⟩:=zB h;dsimp only at w h;obtain⟨A,R,S⟩:=Zh K;obtain⟨B,s,C,t⟩:=Lp w;split at h
  ·rename_i z;have M:=t.place;have f:x.place-1<g.length:=by omega
   have j:g[x.place-1]?=V Y:=by
    rw[WI,xj f]at z;rw[xj f];exact xas V z
   obtain⟨xs,D,E,F,u,v,G,H,J⟩:=FI (by rw[xp];exact hc) h;refine⟨x::xs,by simp[D],?_,?_,λy n=>?_,λi y m=>?_,λi y m=>?_,H,?_⟩
   ·rw[A,B,E,bH,bH];congr 2;rw[Yl];have:bZ x=x.id::(bZ x).tail:=by unfold bZ;rfl
    rw[this,s];simp
   ·rw[ym];exact⟨λy n=>by rw[s];exact(u y n).1,F⟩
   ·rcases xz.1 n with rfl|n
    ·refine⟨by omega,by omega,C,t,?_⟩;exact v _ _ (by rw[yi];simp[f])
    have:=u y n
    exact⟨by omega,this.2⟩
   ·apply v
    rw[yi];by_cases e:x.place-1=i
    ·rw[<-e,j]at m;cases m
    rw[xg e];exact m
   ·rcases G i y m with ⟨q,Q⟩|q
    ·exact Or.inl ⟨xaK _ q,Q⟩
    rw[yi]at q;by_cases e:x.place-1=i
    ·rw[xh e,xh f]at q;injection q with q
     injection q with q
     subst q;exact Or.inl ⟨by simp,by omega⟩
    rw[xg e]at q;exact Or.inr q
   rw[J];unfold Ti;rw[List.countP_set f];have P:g[x.place-1]=Y:=by rw[xj f]at j;injection j
   rw[P];simp;omega
  cases h
section
variable {ls:List L}
def SB(c:∀i j,i<ls.length->j<ls.length->(ls.getD i L0).id=(ls.getD j L0).id->i=j)(l:L):∀(ps:List (Nat×Nat)) (e:Nat) (g:L->Nat) {H:List L} {d:Nat},XH l ps e (wg ls g)=V (H,d) ->
  (∀p∈ps,WO p.1 ls<ls.length/\(zg ls p.1).gd=l.gd/\(zg ls p.1).place<l.place)/\H=wg ls (λx=>g x+(ps.map λp=>if p.1=x.id then p.2 else 0).sum)/\d=ps.foldl (λe p=>min e (zg ls p.1).ex) e:=by
 intro ps;induction ps with
 |nil=>
  intro e g H d h;simp only[XH,yk,Yi]at h;exact⟨(λp m=>by cases m),by rw[<-h.1];simp,h.2.symm⟩
 |cons p ps ih=>
  intro e g H d h;have t:=h;rw[XH]at h;split at h
  ·rename_i k;rw[kK,iE]at k;obtain⟨c1,c2,c3⟩:=k;rw[cO g c1]at c2 c3;have b:∀q∈[p],WO q.1 ls<ls.length/\(zg ls q.1).gd=l.gd/\(zg ls q.1).place<l.place:=λq a=>by
    simp only[yp]at a;subst a;exact⟨c1,c2,c3⟩
   have f:((wg ls g).getD (WO p.1 (wg ls g)) L0).ex=(zg ls p.1).ex:=by rw[kK,cO g c1];rfl
   rw[f,kK,Qm c g c1]at h;obtain⟨n,r,s⟩:=ih _ _ h;refine⟨λq a=>?_,?_,?_⟩
   ·rcases xz.1 a with rfl|a
    ·exact b _ (by simp)
    exact n q a
   ·rw[r];congr 1;funext x;rw[XY,Yf];omega
   rw[s];rfl
  cases h
structure VH(ls:List L)(i:Nat):Prop where
 fam:∀p∈(ls.getD i L0).par,WO p.1 ls<ls.length/\(zg ls p.1).gd=(ls.getD i L0).gd/\(zg ls p.1).place<(ls.getD i L0).place
 exp:(ls.getD i L0).par≠[]->(ls.getD i L0).ex=Xb ls (ls.getD i L0).par
def SD(c:∀i j,i<ls.length->j<ls.length->(ls.getD i L0).id=(ls.getD j L0).id->i=j){i:Nat}(b:i<ls.length){H:List L}(h:XI (wg ls (λx=>WM (ls.take i) x.id)) i=V H):H=wg ls (λx=>WM (ls.take (i+1)) x.id)/\VH ls i:=by
 have a:∀n,WM (ls.take (i+1)) n=WM (ls.take i) n+WJ (ls.getD i L0) n:=λn=>by
  rw[Z8 (d:=L0) b];simp[WM]
 obtain⟨y,f⟩:∃y,y=(wg ls (λx=>WM (ls.take i) x.id)).getD i L0:=⟨_,rfl⟩
 have u:y.par=zV (ls.getD i L0).par:=by rw[f,cO _ b];rfl
 have v:y.ex=(ls.getD i L0).ex:=by rw[f,cO _ b];rfl
 have w:y.gd=(ls.getD i L0).gd:=by rw[f,cO _ b];rfl
 have z:y.place=(ls.getD i L0).place:=by rw[f,cO _ b];rfl
 unfold XI at h;rw[<-f,u,v]at h;split at h
 ·rename_i g;have e:(ls.getD i L0).par=[]:=by rw[ZS]at g;exact yl.1 g
  simp only[yk]at h;refine⟨?_,⟨λp k=>(by rw[e]at k;cases k),λq=>absurd e q⟩⟩;rw[<-h];congr 1;funext x;rw[a];unfold WJ;rw[e];rfl
 rename_i g;obtain⟨⟨A,B⟩,l,h⟩:=zB h;dsimp only at h;split at h
 ·rename_i m;simp only[yk]at h;subst h;obtain⟨r,s,t⟩:=SB c _ _ _ _ l;refine⟨?_,⟨λp e=>?_,λ_=>?_⟩⟩
  ·rw[s];congr 1;funext x;rw[a,AP];rfl
  ·have:=r p (gN.2 e)
   rw[w,z]at this;exact this
  rw[m,t];exact Fq (ls:=ls) (ls.getD i L0).par
 cases h
def Ms(a:∀i j,i<ls.length->j<ls.length->(ls.getD i L0).id=(ls.getD j L0).id->i=j):∀(k i:Nat) {H:List L},i+k=ls.length->XG k i (wg ls (λx=>WM (ls.take i) x.id))=V H->H=wg ls (λx=>WM ls x.id)/\∀j,i<=j->j<ls.length->VH ls j
 |0,i,H,hk,h=>by
  simp only[XG,yk]at h;rw[ye (by omega)]at h;exact⟨h.symm,λj c p=>by omega⟩
 |k+1,i,H,hk,h=>by
  rw[XG]at h;obtain⟨n,c,h⟩:=zB h;obtain⟨d,f⟩:=SD a (by omega) c;rw[d]at h;obtain⟨g,l⟩:=Ms a k (i+1) (by omega) h;refine⟨g,λj m b=>?_⟩;by_cases e:j=i
  ·subst e;exact f
  exact l j (by omega) b
end
structure VU(ls:List L):Prop where
 room:ls.length<=30
 ids:∀i j,i<ls.length->j<ls.length->(ls.getD i L0).id=(ls.getD j L0).id->i=j
 place:∀i,i<ls.length->(ls.getD i L0).place=i+1
 id:∀i,i<ls.length->1<=(ls.getD i L0).id/\(ls.getD i L0).id<=2147483647
 one:∀i,i<ls.length->VS ls.length (ls.getD i L0)
 fam:∀i,i<ls.length->VH ls i
 giv:∀i,i<ls.length->(ls.getD i L0).gv=WM ls (ls.getD i L0).id
def Hw{ls:List L}(h:cM l=V (ls,r)):l=Pl.toldB (ls.length::ls.length::Xw ls)++r/\VU ls:=by
 unfold cM at h;obtain⟨⟨c,r1⟩,h1,h⟩:=zB h;obtain⟨⟨d,r2⟩,h2,h⟩:=zB h;dsimp only at h2 h;split at h
 ·rename_i a0;subst a0;obtain⟨⟨D,r3⟩,h3,h⟩:=zB h;obtain⟨f,W,h⟩:=zB h;dsimp only at W h;simp only[Option.some.injEq,Prod.mk.injEq]at h;obtain⟨rfl,rfl⟩:=h;obtain⟨a1,a2,a3⟩:=Zh h1;have b1:=yE h2;obtain⟨xs,e1,e2,e3,H,e5,e6,e7,e8⟩:=FI (by simp) h3;have hz:Ti (List.replicate d Y)=0:=by simp[Ti]
  rw[hz,xaj]at e8;have M:∀o∈D,o.isSome=true:=by
   have:D.countP Option.isSome=D.length:=by rw[e7];exact e8
   exact List.countP_eq_length.1 this
  have a8:∀i,i<d->∃y,D[i]?=V (V y)/\y∈xs/\y.place=i+1:=λi s=>by
   have N:i<D.length:=by omega
   have:=M D[i] (YD N)
   cases hq:D[i] with
   |none=>rw[hq]at this;cases this
   |some y=>
    have hy:D[i]?=V (V y):=by rw[xj N,hq]
    rcases e6 i y hy with q|q
    ·exact⟨y,hy,q.1,q.2⟩
    rw[xbC]at q;split at q<;>cases q
  obtain⟨g,C⟩:∃g,g=D.map (λo=>o.getD L0):=⟨_,rfl⟩
  rw[<-C]at W;have F:g.length=d:=by rw[C,List.length_map];exact e7
  have m:∀i,i<d->g.getD i L0∈xs/\(g.getD i L0).place=i+1:=λi s=>by
   obtain⟨y,y1,y2,y3⟩:=a8 i s;have:g.getD i L0=y:=by rw[C,WI,xbm,y1];rfl
   rw[this];exact⟨y2,y3⟩
  have Q:∀x∈xs,g.getD (x.place-1) L0=x/\x.place-1<d:=λx S=>by
   have:=H x S
   have J:=this.2.2.2.1.place;exact⟨by rw[C,WI,xbm,this.2.2.2.2];rfl,by omega⟩
  have P:∀a∈xs,∀b∈xs,a.id=b.id->a=b:=λa ha b hb E=>by
   obtain⟨i,s,rfl⟩:=xw ha;obtain⟨j,B,rfl⟩:=xw hb;rcases Nat.lt_trichotomy i j with q|q|q
   ·have:=Ye.1 e3 i j s B q;omega
   ·subst q;rfl
   have:=Ye.1 e3 j i B s q;omega
  have w:∀i j,i<g.length->j<g.length->(g.getD i L0).id=(g.getD j L0).id->i=j:=λi j s B E=>by
   have p1:=m i (by omega);have p2:=m j (by omega);have:=P _ p1.1 _ p2.1 E;have e:=p1.2;rw[this,p2.2]at e;omega
  have A:∀i,i<d->kap (g.getD i L0)=g.getD i L0:=λi s=>by
   have:=(H _ (m i s).1).2.2.2.1.ris
   unfold kap;rw[jJ this]
  have a9:wg g (λx=>WM (g.take 0) x.id)=g:=by
   apply xay
   intro i;by_cases s:i<d
   ·have X:(wg g (λx=>WM (g.take 0) x.id))[i]?=V ((wg g (λx=>WM (g.take 0) x.id)).getD i L0):=by
     rw[WI,xj (by rw[iE];omega)];rfl
    have Z:g[i]?=V (g.getD i L0):=by rw[WI,xj (by omega)];rfl
    rw[X,Z,cO _ (by omega),A i s];have hg:=(H _ (m i s).1).2.2.1;congr 1;generalize g.getD i L0=y at hg
    cases y;simp only at hg
    subst hg;rfl
   rw[yo (by rw[iE];omega),yo (by omega)]
  rw[<-a9]at W;obtain⟨T,f2⟩:=Ms w d 0 (by omega) W;have t:f.length=d:=by rw[T,iE,F]
  have k:∀i,i<d->f.getD i L0={ g.getD i L0 with gv:=WM g (g.getD i L0).id }:=λi s=>by
   rw[T,cO _ (by omega),A i s]
  have z:∀n,WO n f=WO n g:=λn=>by rw[T,kK]
  have v:∀n,(zg f n).gd=(zg g n).gd/\(zg f n).place=(zg g n).place/\(zg f n).ex=(zg g n).ex:=λn=>by
   unfold zg;rw[z];rcases xaI (WO n g) d with q|q
   ·rw[k _ q];exact⟨rfl,rfl,rfl⟩
   have z1:f.getD (WO n g) L0=L0:=by rw[WI,yo (by omega)];rfl
   have z2:g.getD (WO n g) L0=L0:=by rw[WI,yo (by omega)];rfl
   rw[z1,z2];exact⟨rfl,rfl,rfl⟩
  have a6:∀ps,Xb f ps=Xb g ps:=λps=>by
   unfold Xb;congr 1;funext e p;rw[(v p.1).2.2]
  have a4:∀n,WM f n=WM g n:=λn=>by
   rw[T];unfold WM wg;rw[xai];congr 1;apply Yj;intro x S;obtain⟨j,B,rfl⟩:=xw S;have e:g.getD j L0=g[j]:=by simp[WI,B]
   have hk:=A j (by omega);rw[e]at hk;show WJ { kap g[j] with gv:=_ } n=WJ g[j] n;rw[hk];rfl
  have R:Xw f=xs.flatMap bZ:=by
   have G:∀i j,i<f.length->j<f.length->(f.getD i L0).id=(f.getD j L0).id->i=j:=λi j s B E=>by
    rw[k i (by omega),k j (by omega)]at E;exact w i j (by omega) (by omega) E
   obtain⟨q1,q2⟩:=Zk (x:=λi=>(f.getD i L0).id) G (f.length+1) 0 (by have:=bN (λi=>(f.getD i L0).id) 0 f.length;omega);unfold Xw;have u:∀i,i∈Zf (λi=>(f.getD i L0).id) f.length (f.length+1) 0↔i<d:=λi=>by
    rw[q2,t];refine⟨λh=>h.1,λh=>⟨h,?_⟩⟩;show 0<(f.getD i L0).id;rw[k i h];have:=(H _ (m i h).1).1;exact this
   have a5:∀i∈Zf (λi=>(f.getD i L0).id) f.length (f.length+1) 0,bZ (f.getD i L0)=bZ (g.getD i L0):=λi s=>by
    rw[k i ((u i).1 s)];rfl
   have a7:(Zf (λi=>(f.getD i L0).id) f.length (f.length+1) 0).map (λi=>g.getD i L0)=xs:=by
    refine dQ (lt:=λa b:L=>a.id<b.id) (λa=>xaa _) (λa b c=>xcr) ?_ e3 (λx=>?_)
    ·rw[Yn];refine q1.imp_of_mem (λ{a b} ha hb hab=>?_);have:=hab;rw[k a ((u a).1 ha),k b ((u b).1 hb)]at this;exact this
    rw[yc];constructor
    ·rintro⟨i,s,rfl⟩;exact(m i ((u i).1 s)).1
    intro S;obtain⟨z1,z2⟩:=Q x S;exact⟨x.place-1,(u _).2 z2,z1⟩
   rw[<-a7,xbu];have:∀(K:List Nat),(∀i∈K,bZ (f.getD i L0)=bZ (g.getD i L0))->K.flatMap (λi=>bZ (f.getD i L0))=K.flatMap (λi=>bZ (g.getD i L0)):=λK=>by
    induction K with
    |nil=>intro _;rfl
    |cons i K ih=>
     intro hh;rw[Yl,Yl,hh i (by simp),ih (λj B=>hh j (by simp[B]))]
   exact this _ a5
  refine⟨?_,⟨by omega,λi j s B E=>?_,λi s=>?_,λi s=>?_,λi s=>?_,λi s=>?_,λi s=>?_⟩⟩
  ·rw[a1,b1,e2,R,t];simp[Pl.toldB]
  ·rw[k i (by omega),k j (by omega)]at E;exact w i j (by omega) (by omega) E
  ·rw[k i (by omega)];exact(m i (by omega)).2
  ·rw[k i (by omega)];have:=H _ (m i (by omega)).1;exact⟨this.1,this.2.1⟩
  ·rw[k i (by omega),t];have:=(H _ (m i (by omega)).1).2.2.2.1;exact⟨this.gd,this.ex,this.place,this.got,this.cnt,this.plen,this.ris,this.par,this.psum⟩
  ·have hf:=f2 i (by omega) (by omega);refine⟨λp J=>?_,λJ=>?_⟩
   ·rw[k i (by omega)]at J;have:=hf.fam p J;rw[z,(v p.1).1,(v p.1).2.1,k i (by omega),t];rw[F]at this;exact this
   rw[k i (by omega)]at J ⊢;rw[a6];exact hf.exp J
  rw[a4,k i (by omega)]
 cases h
variable {os:List O}
section
variable {ls:List L}
def FG{g:Nat}:∀{k p:Nat} {b ps:List (Nat×Nat)} {l r:List UInt8},sJ ls g k p b l=V (ps,r)->∃d,ps=b++d/\d.length=k/\l=Pl.toldB (d.flatMap (λp=>[p.1,p.2]))++r/\Ris d/\∀q∈d,p<q.1/\q.1<=2147483647/\1<=q.2/\q.2<=2147483647/\WO q.1 ls<ls.length/\(zg ls q.1).gd=g
 |0,p,b,ps,l,r,h=>by
  simp only[sJ,yk,Yi]at h;obtain⟨rfl,rfl⟩:=h;exact⟨[],by simp,rfl,by simp[Pl.toldB],by simp[Ris],λq c=>by cases c⟩
 |k+1,p,b,ps,l,r,h=>by
  rw[sJ]at h;obtain⟨⟨a,z⟩,u,h⟩:=zB h;dsimp only at h;split at h
  ·rename_i j;obtain⟨⟨g',A⟩,v,h⟩:=zB h;obtain⟨d,f,s,i,t,e⟩:=FG h;obtain⟨m,y,n⟩:=Zh u;obtain⟨c1,c2,c3⟩:=Zh v;dsimp only at c1 f i e;refine⟨(a,g')::d,by rw[f];simp,by simp[s],?_,?_,λq c=>?_⟩
   ·rw[m,c1,i,bH,bH];rfl
   ·unfold Ris;rw[XY,ym];refine⟨λx w=>?_,t⟩;obtain⟨q,c,rfl⟩:=yc.1 w;exact(e q c).1
   rcases xz.1 c with rfl|c
   ·exact⟨by show p<a;omega,n,c2,c3,j.1,j.2⟩
   have:=e q c
   exact⟨by omega,this.2⟩
  cases h
def oO{l:List (Nat×Nat)}(h:Ris l):l.Pairwise (λa b=>aH a b=true):=by
 unfold Ris at h;rw[Yn]at h;exact h.imp (λh=>by simp only[aH,xak,yr];exact Or.inl h)
def oN{l:List (Nat×Nat)}(h:Ris l):(l.map Prod.fst).Nodup:=h.imp (λh e=>by rw[e]at h;exact xaa _ h)
def iK{l:List (Nat×Nat)}(h:l.Pairwise (λa b=>aH a b=true)):bQ l=l:=by
 have c:l.Nodup:=h.imp (λh e=>by rw[e]at h;exact dP _ h);obtain⟨d,f⟩:=zX c;exact dQ (lt:=λa b=>aH a b=true) dP rK d h f
structure Vj(ls:List L)(o:O):Prop where
 id:o.id<=2147483647
 gd:1<=o.gd/\o.gd<=2147483647
 len:1<=o.li.length/\o.li.length<=30
 ris:Ris o.li
 line:∀q∈o.li,1<=q.1/\q.1<=2147483647/\1<=q.2/\q.2<=2147483647/\WO q.1 ls<ls.length/\(zg ls q.1).gd=o.gd
def FJ:∀{k p:Nat} {c os:List O} {l r:List UInt8},Ad ls k p c l=V (os,r)->∃xs:List O,os=c++xs/\xs.length=k/\l=Pl.toldB (xs.flatMap cA)++r/\xs.Pairwise (λa b=>a.id<b.id)/\∀o∈xs,p<o.id/\Vj ls o
 |0,p,c,os,l,r,h=>by
  simp only[Ad,yk,Yi]at h;obtain⟨rfl,rfl⟩:=h;exact⟨[],by simp,rfl,by simp[Pl.toldB],by simp,λq m=>by cases m⟩
 |k+1,p,c,os,l,r,h=>by
  rw[Ad]at h;obtain⟨⟨a,N⟩,G,h⟩:=zB h;obtain⟨⟨g,P⟩,v,h⟩:=zB h;obtain⟨⟨i,Q⟩,f,h⟩:=zB h;dsimp only at v f h;unfold aI at f;obtain⟨⟨n,R⟩,H,f⟩:=zB f;dsimp only at f;obtain⟨xs,z,A,B,C,s⟩:=FJ h;obtain⟨S,t,D,E,u,F⟩:=FG f;obtain⟨w,J,x⟩:=Zh G;obtain⟨c1,c2,c3⟩:=Zh v;obtain⟨y,K,M⟩:=Zh H;rw[List.nil_append]at t;subst t;have j:Vj ls ⟨a,g,i⟩:=⟨x,⟨c2,c3⟩,⟨by show 1<=i.length;omega,by show i.length<=30;omega⟩,u,λq m=>by have:=F q m;exact⟨by omega,this.2⟩⟩
  refine⟨⟨a,g,i⟩::xs,by rw[z];simp,by simp[A],?_,?_,λo d=>?_⟩
  ·have e:cA ⟨a,g,i⟩=[a]++([g]++([n]++i.flatMap (λp=>[p.1,p.2]))):=by
    unfold cA WC;dsimp only;rw[iK (oO u),D];rfl
   rw[w,c1,y,E,B,Yl,e];simp only[bH,Ym]
  ·rw[ym];exact⟨λo j=>(s o j).1,C⟩
  rcases xz.1 d with rfl|d
  ·exact⟨by show p<a;omega,j⟩
  have:=s o d
  exact⟨by omega,this.2⟩
def TV(l:os.Pairwise (λa b=>a.id<b.id))(m:∀o∈os,1<=o.id)(q:∀o∈os,Ris o.li):Xg os=os/\Xy os=os.flatMap cA:=by
 have n:(os.map O.id).Nodup:=by
  rw[Yu,Yn];exact l.imp (λh=>by omega)
 obtain⟨s,t⟩:=Zk (x:=λi=>(os.getD i O0).id) (eV n) (os.length+1) 0 (by have:=bN (λi=>(os.getD i O0).id) 0 os.length;omega);have d:∀i,i∈Zf (λi=>(os.getD i O0).id) os.length (os.length+1) 0↔i<os.length:=λi=>by
  rw[t];exact⟨λh=>h.1,λh=>⟨h,m _ (Da h)⟩⟩
 have k:(Zf (λi=>(os.getD i O0).id) os.length (os.length+1) 0).map (λi=>os.getD i O0)=os:=by
  refine dQ (lt:=λa b:O=>a.id<b.id) (λa=>xaa _) (λa b c=>xcr) ?_ l (λx=>?_)
  ·rw[Yn];exact s
  rw[yc];constructor
  ·rintro⟨i,j,rfl⟩;exact Da ((d i).1 j)
  intro r;obtain⟨i,j,rfl⟩:=xw r;exact⟨i,(d i).2 j,by simp[WI,j]⟩
 constructor
 ·unfold Xg;have e:(Zf (λi=>(os.getD i O0).id) os.length (os.length+1) 0).map (λi=>Xr (os.getD i O0))=((Zf (λi=>(os.getD i O0).id) os.length (os.length+1) 0).map (λi=>os.getD i O0)).map Xr:=by rw[xai];rfl
  rw[e,k];have:os.map Xr=os.map id:=Yj (λo p=>by
   unfold Xr;rw[iK (oO (q o p))];rfl)
  rw[this,xbE]
 unfold Xy;rw[<-xbu (f:=λi=>os.getD i O0) (g:=cA),k]
def FK:∀{k:Nat} {a:Nat×Nat} {c ps:List (Nat×Nat)} {l r:List UInt8},DW ls k a c l=V (ps,r)->∃e,ps=c++e/\e.length=k/\l=Pl.toldB (e.flatMap (λp=>[p.1,p.2]))++r/\(a::e).Pairwise (λa b=>aH a b=true)/\∀q∈e,1<=q.1/\q.1<=2147483647/\1<=q.2/\q.2<=2147483647/\WO q.1 ls<ls.length
 |0,a,c,ps,l,r,h=>by
  simp only[DW,yk,Yi]at h;obtain⟨rfl,rfl⟩:=h;exact⟨[],by simp,rfl,by simp[Pl.toldB],by simp,λq d=>by cases d⟩
 |k+1,a,c,ps,l,r,h=>by
  rw[DW]at h;obtain⟨⟨x,z⟩,w,h⟩:=zB h;obtain⟨⟨y,A⟩,i,h⟩:=zB h;dsimp only at i h;split at h
  ·rename_i f;obtain⟨e,s,t,u,g,v⟩:=FK h;obtain⟨j,m,n⟩:=Zh w;obtain⟨c1,c2,c3⟩:=Zh i;refine⟨(x,y)::e,by rw[s];simp,by simp[t],?_,?_,λq d=>?_⟩
   ·rw[j,c1,u,bH,bH];rfl
   ·rw[ym];refine⟨λq d=>?_,g⟩;rcases xz.1 d with rfl|d
    ·exact f.1
    exact rK _ _ _ f.1 ((ym.1 g).1 q d)
   rcases xz.1 d with rfl|d
   ·exact⟨m,n,c2,c3,f.2⟩
   exact v q d
  cases h
end
structure VM(td:Nat)(os:List O)(rj:List (Nat×Nat))(ls:List L):Prop where
 td:td<=2147483647
 ok:∀l∈ls,L.Ok l
 room:ls.length<=30
 good:Good os ls
 snd:Snd os rj ls
 rc:Rc rj
 sml:Wa os ls
 kap:ls.map kap=ls
 os:Xg os=os
 rj:bQ rj=rj
def lY{b:List UInt8}{td:Nat}{ls:List L}{rj:List (Nat×Nat)}(h:zE b=V (td,ls,os,rj)):VM td os rj ls/\b=Xu td os rj ls:=by
 cases b with
 |nil=>cases h
 |cons c r0=>
  unfold zE at h;dsimp only at h;split at h
  ·rename_i hc;subst hc;obtain⟨⟨a0,r1⟩,h1,h⟩:=zB h;obtain⟨⟨ls',r2⟩,M,h⟩:=zB h;obtain⟨⟨os',r3⟩,w,h⟩:=zB h;obtain⟨⟨C,r4⟩,x,h⟩:=zB h;dsimp only at M w x h;split at h
   ·rename_i E;simp only[Option.some.injEq,Prod.mk.injEq]at h;obtain⟨rfl,rfl,rfl,rfl⟩:=h;obtain⟨S,a2,T⟩:=Zh h1;obtain⟨W,f⟩:=Hw M;unfold ZV at w;obtain⟨⟨ko,r5⟩,h5,w⟩:=zB w;dsimp only at w;obtain⟨c1,c2,c3⟩:=Zh h5;obtain⟨xs,G,Z,e3,H,t⟩:=FJ w;rw[List.nil_append]at G;subst G;unfold eF at x;obtain⟨⟨kr,r6⟩,h6,x⟩:=zB x;dsimp only at x;obtain⟨X,d2,d3⟩:=Zh h6;obtain⟨qs,J,K,f3,f4,D⟩:=FK x;rw[List.nil_append]at J;subst J;obtain⟨F,y⟩:=E;subst F;have m:=(List.pairwise_cons.1 f4).2;obtain⟨o1,o2⟩:=TV H (λo g=>by have:=(t o g).1;omega) (λo g=>(t o g).2.ris);have s:∀i,i<ls'.length->(ls'.getD i L0).got=(ls'.getD i L0).free+(ls'.getD i L0).hd+(ls'.getD i L0).sh+(ls'.getD i L0).sc+(ls'.getD i L0).gv/\(ls'.getD i L0).hd=zD os' (ls'.getD i L0).id:=λi r=>by
     have:=xaP.1 y _ (zf r)
     unfold Wk at this;rw[yt,yr,yr]at this;exact this
    have v:(os'.map O.id).Nodup:=by
     rw[Yu,Yn];exact H.imp (λh=>by omega)
    have z:∀n,WO n ls'<ls'.length->(ls'.getD (WO n ls') L0).id=n:=λn hn=>aD hn
    have u:Good os' ls':=⟨f.ids,f.place,v,λo g=>(t o g).2.id,by omega,λo g=>oN (t o g).2.ris,λo g p a=>⟨WO p.1 ls',((t o g).2.line p a).2.2.2.2.1,z _ ((t o g).2.line p a).2.2.2.2.1⟩,λi r=>(s i r).2⟩
    have N:∀j,j<ls'.length->WO (ls'.getD j L0).id ls'=j:=λj q=>eR q (λk hk e=>by have:=f.ids k j (by omega) q e;omega) rfl
    have B:Snd os' C ls':=by
     refine⟨λi r=>?_,λi r p a=>?_,λi r a=>(f.fam i r).exp a,f.giv,λo g=>?_,λp a=>?_⟩
     ·have d:=f.one i r;exact⟨(f.id i r).1,d.gd.1,d.got.1,(s i r).1,oN d.ris,λp a=>(d.par p a).2.2,d.psum⟩
     ·obtain⟨P,Q,R⟩:=(f.fam i r).fam p a;unfold zg at Q R;refine⟨WO p.1 ls',?_,z _ P,Q⟩;rw[f.place _ P,f.place i r]at R;omega
     ·have d:=(t o g).2;refine⟨d.gd.1,λe=>?_,λp a=>⟨(d.line p a).2.2.1,(d.line p a).2.2.2.2.2⟩⟩;have:=d.len.1;rw[e]at this;exact absurd this (by simp)
     have:=D p a
     exact⟨this.1,this.2.2.1,this.2.2.2.2⟩
    refine⟨⟨T,λl A=>?_,f.room,u,B,⟨m.imp (λh e=>by rw[e]at h;exact dP _ h),by omega,λp a=>⟨(D p a).2.1,(D p a).2.2.2.1⟩⟩,⟨λl A=>?_,λo g=>⟨by have:=(t o g).1;omega,(t o g).2.gd.2⟩⟩,?_,o1,iK m⟩,?_⟩
    ·obtain⟨j,q,rfl⟩:=xw A;have e:ls'.getD j L0=ls'[j]:=by simp[WI,q]
     rw[<-e];have d:=f.one j q;have hs:=(s j q).1;have hr:=f.room;have:=d.place;have:=d.got;exact⟨(f.id j q).2,d.gd.2,d.ex,by omega,by omega,d.got.2,d.plen,λp a=>(d.par p a).2.1⟩
    ·obtain⟨j,q,rfl⟩:=xw A;have e:ls'.getD j L0=ls'[j]:=by simp[WI,q]
     rw[<-e];exact⟨(f.id j q).1,λp a=>((f.one j q).par p a).2.2⟩
    ·have:ls'.map kap=ls'.map id:=Yj (λl A=>by
      obtain⟨j,q,rfl⟩:=xw A;have e:ls'.getD j L0=ls'[j]:=by simp[WI,q]
      rw[<-e];unfold kap;rw[jJ (f.one j q).ris];rfl)
     rw[this,xbE]
    unfold Xu Xx;rw[S,W,c1,e3,X,f3,o2,<-Z,<-K,iK m];unfold WC;rw[K];congr 1;simp[Pl.toldB]
   cases h
  cases h
def yW{a:List Nat}(h:n<=a.length)(b:Bool):XQ (n::a,b)=(n,(a,b)):=by
 show(if a.length<n then _ else _)=_;rw[xg (by omega)];rfl
def FX(ps:List (Nat×Nat))(c:List Nat)(b:Bool):∀k,k<=ps.length->XP (ps.flatMap (λp=>[p.1,p.2])++c,b) k=(ps.take k,((ps.drop k).flatMap (λp=>[p.1,p.2])++c,b))
 |0,_=>by simp[XP]
 |k+1,hk=>by
  have a:k<ps.length:=by omega
  rw[XP,FX ps c b k (by omega),xaD a,xn a];rfl
def gD(ps:List (Nat×Nat)):(ps.flatMap (λp=>[p.1,p.2])).length=2*ps.length:=by
 induction ps with
 |nil=>rfl
 |cons p ps ih=>rw[Yl,xc,ih];simp;omega
def sB(ps:List (Nat×Nat))(a:List Nat)(b:Bool):kI (WC ps++a,b)=(ps,(a,b)):=by
 unfold kI WC;rw[Yb,yW (by rw[xc,gD];omega)];show XP (ps.flatMap (λp=>[p.1,p.2])++a,b) ps.length=_;rw[FX ps a b ps.length (xe _)];simp
def Xk(x:L):L:={ x with got:=if x.par.length=0 then x.got else 0,gv:=0 }
def Pk{x:L}(g:Ris x.par)(a:List Nat)(b:Bool):XN (bZ x++a,b)=Xk x/\(XL (bZ x++a,b)).2=(a,b):=by
 have e:bZ x++a=x.id::x.gd::x.ex::x.place::x.free::x.hd::x.sh::x.sc::(WC x.par++((if x.par.length=0 then [x.got] else [])++a)):=by
  unfold bZ;rw[jJ g];simp
 rw[e];generalize f:(WC x.par++((if x.par.length=0 then [x.got] else [])++a))=R;have hF:XK (x.id::x.gd::x.ex::x.place::x.free::x.hd::x.sh::x.sc::R,b)=(x.par,((if x.par.length=0 then [x.got] else [])++a,b)):=by
  show kI (R,b)=_;rw[<-f];exact sB _ _ _
 have d:XL (x.id::x.gd::x.ex::x.place::x.free::x.hd::x.sh::x.sc::R,b)=(if x.par.length=0 then x.got else 0,(a,b)):=by
  unfold XL;rw[hF];dsimp only;by_cases c:x.par.length=0
  ·rw[xh c,xh c,xh c];rfl
  rw[xg c,xg c,xg c];rfl
 refine⟨?_,by rw[d]⟩;unfold XN;rw[d,hF];rfl
def Cv(xs:List L)(d:∀x∈xs,Ris x.par)(c:List Nat)(b:Bool):∀k,k<=xs.length->fI (xs.flatMap bZ++c,b) k=((xs.take k).map Xk,((xs.drop k).flatMap bZ++c,b))
 |0,_=>by simp[fI]
 |k+1,hk=>by
  have a:k<xs.length:=by omega
  rw[fI,Cv xs d c b k (by omega),List.drop_eq_getElem_cons a,List.take_succ_eq_append_getElem a,List.flatMap_cons,List.append_assoc];obtain⟨e,f⟩:=Pk (d _ (List.getElem_mem a)) ((xs.drop (k+1)).flatMap bZ++c) b;dsimp only;rw[e,f,List.map_append];rfl
def Pn{o:O}(c:Ris o.li)(a:List Nat)(b:Bool):XO (cA o++a,b)=(o,(a,b)):=by
 have e:cA o++a=o.id::o.gd::(WC o.li++a):=by
  unfold cA;rw[iK (oO c)];simp
 rw[e];show((⟨o.id,o.gd,(kI (WC o.li++a,b)).1⟩:O),(kI (WC o.li++a,b)).2)=_;rw[sB]
def Cw(xs:List O)(d:∀x∈xs,Ris x.li)(c:List Nat)(b:Bool):∀k,k<=xs.length->gV (xs.flatMap cA++c,b) k=(xs.take k,((xs.drop k).flatMap cA++c,b))
 |0,_=>by simp[gV]
 |k+1,hk=>by
  have a:k<xs.length:=by omega
  rw[gV,Cw xs d c b k (by omega),List.drop_eq_getElem_cons a,List.take_succ_eq_append_getElem a,List.flatMap_cons,List.append_assoc];dsimp only;rw[Pn (d _ (List.getElem_mem a))]
def CY{α:Type}(f:α->List Nat)(a:∀x,1<=(f x).length):∀l:List α,l.length<=(l.flatMap f).length
 |[]=>xe _
 |x::l=>by
  have:=CY f a l
  have:=a x
  rw[Yl,xc,List.length_cons];omega
def nR(ls:List L):List L:=(Zf (λi=>(ls.getD i L0).id) ls.length (ls.length+1) 0).map (λi=>ls.getD i L0)
def Cj(ls:List L):Xw ls=(nR ls).flatMap bZ:=by unfold Xw nR;rw[xbu]
def uU{ls:List L}(a:∀i j,i<ls.length->j<ls.length->(ls.getD i L0).id=(ls.getD j L0).id->i=j)(b:∀i,i<ls.length->1<=(ls.getD i L0).id):(nR ls).Perm ls:=by
 have:=(wM (x:=λi=>(ls.getD i L0).id) a b).map (λi=>ls.getD i L0)
 have e:=rN (λx:L=>x) L0 ls;rw[List.map_id']at e;rw[e]at this;exact this
def Pp{td:Nat}{rj:List (Nat×Nat)}{ls:List L}(a:(nR ls).length=ls.length)(g:∀x∈nR ls,Ris x.par)(c:Xy os=os.flatMap cA)(b:∀o∈os,Ris o.li)(d:bQ rj=rj):XS (Xx td os rj ls)=⟨td,ls.length,ls.length,(nR ls).map Xk,os,rj,([],false)⟩:=by
 have e:Xx td os rj ls=td::ls.length::ls.length::((nR ls).flatMap bZ++(os.length::(os.flatMap cA++(WC rj++[])))):=by
  unfold Xx;rw[Cj,c,d];simp
 have h:∀x:L,1<=(bZ x).length:=λx=>by unfold bZ;simp
 have i:∀x:O,1<=(cA x).length:=λx=>by unfold cA;simp
 have l:=CY bZ h (nR ls);have g2:=CY cA i os;have s1:XQ (ls.length::((nR ls).flatMap bZ++(os.length::(os.flatMap cA++(WC rj++[])))),false)=(ls.length,((nR ls).flatMap bZ++(os.length::(os.flatMap cA++(WC rj++[]))),false)):=yW (by rw[List.length_append];omega) false;have s2:=Cv (nR ls) g (os.length::(os.flatMap cA++(WC rj++[]))) false (nR ls).length (Nat.le_refl _);have j:XQ (os.length::(os.flatMap cA++(WC rj++[])),false)=(os.length,(os.flatMap cA++(WC rj++[]),false)):=yW (by rw[List.length_append];omega) false;have f:=Cw os b (WC rj++[]) false os.length (Nat.le_refl _);have k:=sB rj [] false;rw[a,List.take_of_length_le (by omega),List.drop_of_length_le (by omega)]at s2;rw[List.take_length,List.drop_length]at f;rw[List.flatMap_nil,List.nil_append]at s2 f;rw[e];unfold XS;show Wi.mk td ls.length _ _ _ _ _=_;dsimp only[XJ];rw[s1];dsimp only;rw[s2];dsimp only;rw[j];dsimp only;rw[f];dsimp only;rw[k]
def Xi(l:List L)(k:Nat):List L:=(List.range k).flatMap (λq=>l.filter (λx=>x.place==q+1))
def Xh(l:List L):Prop:=∀q,q<l.length->(l.filter (λx=>x.place==q+1)).length=1
def OM{l ls:List L}(m:l.Perm (ls.map Xk))(u:ls.Nodup)(b:∀i,i<ls.length->(ls.getD i L0).place=i+1):Xh l/\Xi l l.length=ls.map Xk:=by
 have a:l.length=ls.length:=by rw[m.length_eq,List.length_map]
 have g:∀q,q<ls.length->l.filter (λx=>x.place==q+1)=[Xk (ls.getD q L0)]:=λq f=>by
  have n:=m.filter (λx=>x.place==q+1);have p:((ls.map Xk).filter (λx=>x.place==q+1)).Perm [Xk (ls.getD q L0)]:=by
   rw[xda];have r:(ls.filter ((λx=>x.place==q+1)∘Xk)).Perm [ls.getD q L0]:=by
    refine(xav (u.filter _) (by simp)).2 (λx=>?_);rw[YC,yp];constructor
    ·rintro⟨v,t⟩;obtain⟨j,h,rfl⟩:=xw v;have e:ls.getD j L0=ls[j]:=by simp[WI,h]
     have s:=b j h;have c:ls[j].place=q+1:=by simpa [Xk] using t
     rw[e,c]at s;have:j=q:=by omega
     subst this;exact e.symm
    rintro rfl;exact⟨zf f,by show((ls.getD q L0).place==q+1)=true;rw[b q f];simp⟩
   exact r.map Xk
  exact List.perm_singleton.1 (n.trans p)
 constructor
 ·intro q f;rw[g q (by omega)];rfl
 unfold Xi;rw[a];have:∀k,k<=ls.length->(List.range k).flatMap (λq=>l.filter (λx=>x.place==q+1))=(ls.take k).map Xk:=λk=>by
  induction k with
  |zero=>intro _;simp
  |succ k ih=>
   intro w;rw[xaC,YA,ih (by omega),Z8 (d:=L0) (show k<ls.length by omega)];simp[g k (by omega)]
 rw[this _ (xe _),XZ]
def DS{l:List L}(h:Xh l):∀k,k<=l.length->(Xi l k).length=k/\∀i,i<k->(Xi l k).getD i L0∈l/\((Xi l k).getD i L0).place=i+1
 |0,_=>⟨rfl,λi m=>by omega⟩
 |k+1,hk=>by
  obtain⟨d,g⟩:=DS h k (by omega);have j:=h k (by omega);have e:Xi l (k+1)=Xi l k++l.filter (λx=>x.place==k+1):=by unfold Xi;rw[xaC,YA];simp
  obtain⟨y,f⟩:=List.length_eq_one_iff.1 j;have a:y∈l.filter (λx=>x.place==k+1):=by rw[f];simp
  rw[YC]at a;rw[e,f];refine⟨by rw[xc,d];rfl,λi m=>?_⟩;by_cases c:i<k
  ·have:(Xi l k++[y]).getD i L0=(Xi l k).getD i L0:=by rw[WI,WI,yj (by omega)]
   rw[this];exact g i c
  have b:i=k:=by omega
  subst b;have:(Xi l i++[y]).getD i L0=y:=by rw[WI,YI (by omega),d];simp
  rw[this];exact⟨a.1,by simpa using a.2⟩
def wq(ls:List L)(g q:L->Nat):List L:=ls.map λx=>{ x with gv:=g x,got:=q x }
section
variable {ls:List L}
def kL(g q:L->Nat):(wq ls g q).length=ls.length:=by simp[wq]
def Ga(g q:L->Nat)(n:Nat):WO n (wq ls g q)=WO n ls:=by
 unfold WO wq;rw[xbt];rfl
def nA(g q:L->Nat){i:Nat}(a:i<ls.length):(wq ls g q).getD i L0={ ls.getD i L0 with gv:=g (ls.getD i L0),got:=q (ls.getD i L0) }:=by
 simp[wq,WI,a]
def yZ(g q:L->Nat){i:Nat}(a:i<ls.length):(wq ls g q)[i]?=V { ls.getD i L0 with gv:=g (ls.getD i L0),got:=q (ls.getD i L0) }:=by
 rw[<-nA g q a,WI,xj (by rw[kL];exact a)];rfl
def Uw(b:∀i j,i<ls.length->j<ls.length->(ls.getD i L0).id=(ls.getD j L0).id->i=j)(g q:L->Nat){n m:Nat}(c:WO n ls<ls.length):(wq ls g q).set (WO n ls) (WK ((wq ls g q).getD (WO n ls) L0) m)=wq ls (λx=>g x+if n=x.id then m else 0) q:=by
 have a:=aD c;apply xay;intro j;by_cases d:j<ls.length
 ·rw[yZ _ _ d,yi];by_cases e:WO n ls=j
  ·rw[xh e,xh (by rw[kL];exact c),nA _ _ c,e];rw[e]at a;rw[xh a.symm];rfl
  rw[xg e,yZ _ _ d];have:¬n=(ls.getD j L0).id:=λq=>e (b _ _ c d (by rw[a,q]))
  rw[xg this];rfl
 rw[yo (by rw[xp,kL];omega),yo (by rw[kL];omega)]
def Uv(b:∀i,i<ls.length->(ls.getD i L0).place=i+1)(g q:L->Nat){i:Nat}(c:i<ls.length)(s:Nat):(wq ls g q).set i { (wq ls g q).getD i L0 with got:=s }=wq ls g (λx=>if x.place=i+1 then s else q x):=by
 apply xay
 intro j;by_cases a:j<ls.length
 ·rw[yZ _ _ a,yi];have d:=b j a;by_cases e:i=j
  ·subst e;rw[xh rfl,xh (by rw[kL];exact c),nA _ _ c,xh d]
  rw[xg e,yZ _ _ a,xg (by omega)]
 rw[yo (by rw[xp,kL];omega),yo (by rw[kL];omega)]
def oT(ls:List L)(l:L)(p:Nat×Nat):Prop:=WO p.1 ls<ls.length/\p.2<=2147483647/\(zg ls p.1).gd=l.gd/\(zg ls p.1).place<l.place
def Wx(ls:List L)(ps:List (Nat×Nat))(u:Nat):Nat:=ps.foldl (λe p=>min e (zg ls p.1).ex) u
def PJ(c:∀i j,i<ls.length->j<ls.length->(ls.getD i L0).id=(ls.getD j L0).id->i=j)(l:L):∀(ps:List (Nat×Nat)) (u b:Nat) (g q:L->Nat),((∀p∈ps,oT ls l p)->WE l ps u b (wq ls g q)=V (wq ls (λx=>g x+(ps.map λp=>if p.1=x.id then p.2 else 0).sum) q,Wx ls ps u,b+(ps.map Prod.snd).sum))/\(¬(∀p∈ps,oT ls l p)->WE l ps u b (wq ls g q)=Y)
 |[],u,b,g,q=>⟨λ_=>by simp[WE,Wx],λh=>absurd (λp y=>by cases y) h⟩
 |p::ps,u,b,g,q=>by
  have a:(WO p.1 (wq ls g q)<(wq ls g q).length/\p.2<=2147483647/\((wq ls g q).getD (WO p.1 (wq ls g q)) L0).gd=l.gd/\((wq ls g q).getD (WO p.1 (wq ls g q)) L0).place<l.place)↔oT ls l p:=by
   rw[Ga,kL];unfold oT;constructor
   ·rintro⟨f,s,m,n⟩;rw[nA _ _ f]at m n;exact⟨f,s,m,n⟩
   rintro⟨f,s,m,n⟩;rw[nA _ _ f];exact⟨f,s,m,n⟩
  by_cases d:oT ls l p
  ·have t:((wq ls g q).getD (WO p.1 (wq ls g q)) L0).ex=(zg ls p.1).ex:=by rw[Ga,nA _ _ d.1];rfl
   have e:WE l (p::ps) u b (wq ls g q)=WE l ps (min u (zg ls p.1).ex) (b+p.2) (wq ls (λx=>g x+if p.1=x.id then p.2 else 0) q):=by
    rw[WE,xh (a.2 d),t,Ga,Uw c g q d.1]
   obtain⟨z,A⟩:=PJ c l ps (min u (zg ls p.1).ex) (b+p.2) (λx=>g x+if p.1=x.id then p.2 else 0) q;refine⟨λh=>?_,λh=>?_⟩
   ·rw[e,z (λr k=>h r (by simp[k]))];have v:(λx:L=>(g x+if p.1=x.id then p.2 else 0)+(ps.map λp=>if p.1=x.id then p.2 else 0).sum)=λx=>g x+((p::ps).map λp=>if p.1=x.id then p.2 else 0).sum:=by
     funext x
     rw[XY,Yf];omega
    rw[v,XY,Yf,xdf];rfl
   rw[e,A (λw=>h (λr k=>by
    rcases xz.1 k with rfl|k
    ·exact d
    exact w r k))]
  refine⟨λh=>absurd (h p (by simp)) d,λ_=>?_⟩;rw[WE,xg (λh=>d (a.1 h))]
structure VG(ls:List L)(i:Nat):Prop where
 len:(ls.getD i L0).par.length<=2
 ris:Ris (ls.getD i L0).par
 fam:∀p∈(ls.getD i L0).par,oT ls (ls.getD i L0) p
 exp:(ls.getD i L0).par≠[]->Wx ls (ls.getD i L0).par 2147483648=(ls.getD i L0).ex
def uJ(x:L):Nat:=if x.par.length=0 then x.got else (x.par.map Prod.snd).sum
def wy(ls:List L)(i:Nat):List L:=wq ls (λx=>WM (ls.take i) x.id) (λx=>if x.place<=i then uJ x else x.got)
def Tt(r:∀i j,i<ls.length->j<ls.length->(ls.getD i L0).id=(ls.getD j L0).id->i=j)(c:∀i,i<ls.length->(ls.getD i L0).place=i+1){i:Nat}(w:i<ls.length):(VG ls i->WF (wy ls i) i=V (wy ls (i+1)))/\(¬VG ls i->WF (wy ls i) i=Y):=by
 have A:∀n,WM (ls.take (i+1)) n=WM (ls.take i) n+WJ (ls.getD i L0) n:=λn=>by
  rw[Z8 (d:=L0) w];simp[WM]
 obtain⟨y,u⟩:∃y,y=(wy ls i).getD i L0:=⟨_,rfl⟩
 have z:=nA (ls:=ls) (λx=>WM (ls.take i) x.id) (λx=>if x.place<=i then uJ x else x.got) w;have H:y.par=(ls.getD i L0).par:=by rw[u];unfold wy;rw[z]
 have J:y.ex=(ls.getD i L0).ex:=by rw[u];unfold wy;rw[z]
 have K:y.gd=(ls.getD i L0).gd:=by rw[u];unfold wy;rw[z]
 have M:y.place=(ls.getD i L0).place:=by rw[u];unfold wy;rw[z]
 have l:∀p,oT ls y p↔oT ls (ls.getD i L0) p:=λp=>by unfold oT;rw[K,M]
 obtain⟨D,G⟩:=PJ r y (ls.getD i L0).par 2147483648 0 (λx=>WM (ls.take i) x.id) (λx=>if x.place<=i then uJ x else x.got);have N:=c i w;have k:∀j,j<ls.length->(if (ls.getD j L0).place<=i+1 then uJ (ls.getD j L0) else (ls.getD j L0).got)=(if (ls.getD j L0).place=i+1 then uJ (ls.getD i L0) else (if (ls.getD j L0).place<=i then uJ (ls.getD j L0) else (ls.getD j L0).got)):=λj b=>by
  have E:=c j b;by_cases e:j=i
  ·subst e;rw[xh (by omega),xh (by omega)]
  rw[xg (show ¬(ls.getD j L0).place=i+1 by omega)];by_cases C:(ls.getD j L0).place<=i
  ·rw[xh (by omega),xh C]
  rw[xg (by omega),xg C]
 have a:∀(g q B:L->Nat),(∀j,j<ls.length->q (ls.getD j L0)=B (ls.getD j L0))->wq ls g q=wq ls g B:=λg q B h=>by
  unfold wq;apply Yj;intro x F;obtain⟨j,b,rfl⟩:=xw F;have e:ls.getD j L0=ls[j]:=by simp[WI,b]
  have:=h j b
  rw[e]at this;rw[this]
 have t:wy ls (i+1)=wq ls (λx=>WM (ls.take i) x.id+((ls.getD i L0).par.map λp=>if p.1=x.id then p.2 else 0).sum) (λx=>if x.place<=i+1 then uJ x else x.got):=by
  unfold wy;congr 1;funext x;rw[A];rfl
 unfold WF;rw[<-u,H,J];constructor
 ·intro hF;rw[if_pos ⟨hF.len,hF.ris⟩];unfold wy at *;rw[D (λp s=>(l p).2 (hF.fam p s)),Option.bind_some];dsimp only;by_cases f:(ls.getD i L0).par.length=0
  ·rw[xh f,t];congr 1;apply a;intro j b;show _=(if (ls.getD j L0).place<=i+1 then uJ (ls.getD j L0) else (ls.getD j L0).got);rw[k j b];by_cases e:(ls.getD j L0).place=i+1
   ·rw[xh e,xg (by omega)];have:j=i:=by have:=c j b;omega
    subst this;unfold uJ;rw[xh f]
   rw[xg e]
  rw[xg f,xh (hF.exp (λe=>f (by rw[e];rfl))),Uv c _ _ w,t];congr 1;apply a;intro j b;show _=(if (ls.getD j L0).place<=i+1 then uJ (ls.getD j L0) else (ls.getD j L0).got);rw[k j b];unfold uJ;rw[xg f,xaj]
 intro hF;by_cases m:(ls.getD i L0).par.length<=2/\((ls.getD i L0).par.map Prod.fst).Pairwise (·<·)
 ·rw[xh m];unfold wy at *;by_cases v:∀p∈(ls.getD i L0).par,oT ls y p
  ·rw[D v,Option.bind_some];dsimp only;by_cases f:(ls.getD i L0).par.length=0
   ·exact absurd ⟨m.1,m.2,λp s=>(l p).1 (v p s),λh=>absurd (yl.1 f) h⟩ hF
   rw[xg f,xg (λe=>hF ⟨m.1,m.2,λp s=>(l p).1 (v p s),λ_=>e⟩)]
  rw[G v];rfl
 rw[xg m]
def Jw(a:∀i j,i<ls.length->j<ls.length->(ls.getD i L0).id=(ls.getD j L0).id->i=j)(b:∀i,i<ls.length->(ls.getD i L0).place=i+1):∀(k i:Nat),i+k=ls.length->((∀j,i<=j->j<ls.length->VG ls j)->WD k i (wy ls i)=V (wy ls ls.length))/\(¬(∀j,i<=j->j<ls.length->VG ls j)->WD k i (wy ls i)=Y)
 |0,i,hk=>by
  obtain rfl:i=ls.length:=by omega
  exact⟨λ_=>rfl,λh=>absurd (λj f c=>by omega) h⟩
 |k+1,i,hk=>by
  obtain⟨d,g⟩:=Tt a b (show i<ls.length by omega);obtain⟨l,m⟩:=Jw a b k (i+1) (by omega);rw[WD];refine⟨λh=>?_,λh=>?_⟩
  ·rw[d (h i (xe _) (by omega)),xk];exact l (λj f c=>h j (by omega) c)
  by_cases hF:VG ls i
  ·rw[d hF,xk];exact m (λn=>h (λj f c=>by
    by_cases e:j=i
    ·subst e;exact hF
    exact n j (by omega) c))
  rw[g hF];rfl
end
