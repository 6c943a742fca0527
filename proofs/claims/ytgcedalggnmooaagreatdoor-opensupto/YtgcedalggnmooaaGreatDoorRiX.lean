import Derived.Test.YtgcedalggnmooaaGreatDoorSp0X
import Derived.Test.YtgcedalggnmooaaGreatDoorSfX
set_option linter.all false
set_option maxRecDepth 100000
namespace Go.Proofs.YtgcedalggnmooaaGreatDoor
theorem tU:∀l:List UInt8,Pl.lead l<l.length->∃p b s,l=p++b::s/\p.length=Pl.lead l/\(∀c∈p,128<=c.toNat)/\b.toNat<128
 |[],h=>by simp at h
 |b::r,h=>by
  rw[Pl.lead_cons]at h ⊢;by_cases d:128<=b.toNat
  ·rw[xe d]at h ⊢;obtain⟨p,c,s,e,i,f,g⟩:=tU r (by simpa using h);refine⟨b::p,c,s,by rw[e];rfl,by simp;omega,λx a=>?_,g⟩;rcases xx.1 a with rfl|a
   ·exact d
   exact f x a
  rw[xg d];exact⟨[],b,r,rfl,rfl,(λx a=>by cases a),by omega⟩
variable {l r:List UInt8}{n:Nat}
theorem xB(h:UU l=some (n,r)):l=Pl.num n++r:=by
 unfold UU at h;split at h
 ·cases h
 rename_i f;simp only[Xj,XD]at h;obtain⟨rfl,rfl⟩:=h;have a:Pl.ok1 l=true:=by
  cases m:Pl.ok1 l with
  |true=>rfl
  |false=>unfold Pl.snd at f;rw[m]at f;exact absurd rfl f
 have g:Pl.snd l=Pl.lead l+1:=by unfold Pl.snd;rw[xe a]
 have e:Pl.fst l=Pl.val (l.take (Pl.lead l+1)):=by unfold Pl.fst;rw[xe a]
 unfold Pl.ok1 at a;simp only[Xu,Xv,xaD,xac,yq,xp]at a;obtain⟨p,b,s,c,d,i,j⟩:=tU l a.1.2;have t:l.take (Pl.lead l+1)=p++[b]:=by
  rw[<-d];conv=>lhs;rw[c]
  rw[List.take_append,Xh (by omega)];simp
 have hd:l.drop (Pl.lead l+1)=s:=by
  rw[<-d];conv=>lhs;rw[c]
  rw[List.drop_append];simp
 have k:l.getD (Pl.lead l) 1=b:=by
  rw[<-d];conv=>lhs;rw[c]
  simp[Uv]
 rw[e,g,t,hd,(Pl.num_val b j p i).2 (λ⟨k1,k2⟩=>?_),c]
 ·simp
 rcases a.2 with q|q
 ·omega
 rw[k]at q;exact q k2
theorem Zh{lo d:Nat}(h:UV lo d l=some (n,r)):l=Pl.toldB [n]++r/\lo<=n/\n<=d:=by
 unfold UV at h
 cases b:UU l with
 |none=>rw[b]at h;cases h
 |some a=>
  obtain⟨m,q⟩:=a;rw[b,xk]at h;split at h
  ·rename_i c;simp only[Xj,XD]at h;obtain⟨rfl,rfl⟩:=h;exact⟨by rw[xB b];simp[Pl.toldB],c.1,c.2⟩
  cases h
theorem bD(a b:List Nat)(r:List UInt8):Pl.toldB a++(Pl.toldB b++r)=Pl.toldB (a++b)++r:=by simp[Pl.toldB]
theorem zD{α β:Type}{o:Option α}{f:α->Option β}{y:β}(h:o.bind f=some y):∃a,o=some a/\f a=some y:=by
 cases o with
 |none=>cases h
 |some a=>exact⟨a,rfl,h⟩
theorem AY:∀{k p:Nat} {b ps:List (Nat×Nat)} {l r:List UInt8},eX k p b l=some (ps,r)->∃d,ps=b++d/\d.length=k/\l=Pl.toldB (d.flatMap (λp=>[p.1,p.2]))++r/\Ris d/\∀q∈d,p<q.1/\q.1<=2147483647/\q.2<=2147483647
 |0,p,b,ps,l,r,h=>by
  simp only[eX,Xj,XD]at h;obtain⟨rfl,rfl⟩:=h;exact⟨[],by simp,rfl,by simp[Pl.toldB],by simp[Ris],λq c=>by cases c⟩
 |k+1,p,b,ps,l,r,h=>by
  rw[eX]at h;obtain⟨⟨a,y⟩,t,h⟩:=zD h;obtain⟨⟨g,z⟩,u,h⟩:=zD h;obtain⟨d,f,n,i,s,e⟩:=AY h;obtain⟨j,w,m⟩:=Zh t;obtain⟨c1,c2,c3⟩:=Zh u;dsimp only at c1 f i e;refine⟨(a,g)::d,by rw[f];simp,by simp[n],?_,?_,λq c=>?_⟩
  ·rw[j,c1,i,bD,bD];rfl
  ·unfold Ris;rw[List.map_cons,Xp];refine⟨λx v=>?_,s⟩;obtain⟨q,c,rfl⟩:=Xg.1 v;exact(e q c).1
  rcases xx.1 c with rfl|c
  ·exact⟨by show p<a;omega,m,c3⟩
  have:=e q c
  exact⟨by omega,this.2⟩
theorem Gm{ps:List (Nat×Nat)}(h:eU l=some (ps,r)):l=Pl.toldB (Up ps)++r/\ps.length<=2/\Ris ps/\∀q∈ps,1<=q.1/\q.1<=2147483647/\q.2<=2147483647:=by
 unfold eU at h;obtain⟨⟨k,q⟩,g,h⟩:=zD h;obtain⟨n,a,b,c,e,f⟩:=AY h;obtain⟨d,j,m⟩:=Zh g;dsimp only at b c;rw[List.nil_append]at a;subst a;refine⟨?_,by omega,e,λq i=>by have:=f q i;exact⟨by omega,this.2⟩⟩;rw[d,c,bD,<-b];rfl
theorem iY{l:List (Nat×Nat)}(h:Ris l):zW l=l:=by
 match l with
 |[]=>rfl
 |[a]=>rfl
 |[a,b] =>
  have:a.1<b.1:=by simpa [Ris] using h
  have d:¬b.1<a.1:=by omega
  simp[zW,d]
 |a::b::c::r=>rfl
structure TH(com:Nat)(x:L):Prop where
 gd:1<=x.gd/\x.gd<=2147483647
 ex:x.ex<=2147483647
 place:1<=x.place/\x.place<=com
 got:1<=x.got/\x.got<=2147483647
 cnt:x.free<=2147483647/\x.hd<=2147483647/\x.sh<=2147483647/\x.sc<=2147483647
 plen:x.par.length<=2
 ris:Ris x.par
 par:∀q∈x.par,1<=q.1/\q.1<=2147483647/\q.2<=2147483647
 psum:x.par=[]\/x.got=(x.par.map Prod.snd).sum
theorem JB{num com:Nat}{x:L}(h:cN num com l=some (x,r)):l=Pl.toldB (cL x).tail++r/\x.id=num/\x.gv=0/\TH com x:=by
 unfold cN at h;obtain⟨⟨s,r1⟩,S,h⟩:=zD h;obtain⟨⟨t,r2⟩,i,h⟩:=zD h;obtain⟨⟨u,r3⟩,j,h⟩:=zD h;obtain⟨⟨v,r4⟩,k,h⟩:=zD h;obtain⟨⟨w,r5⟩,m,h⟩:=zD h;obtain⟨⟨y,r6⟩,n,h⟩:=zD h;obtain⟨⟨z,r7⟩,p,h⟩:=zD h;obtain⟨⟨ps,T⟩,q,h⟩:=zD h;obtain⟨⟨c,W⟩,a,h⟩:=zD h;dsimp only at i j k m n p q a h;obtain⟨A,J,c1⟩:=Zh S;obtain⟨B,X,c2⟩:=Zh i;obtain⟨C,K,c3⟩:=Zh j;obtain⟨D,Z,c4⟩:=Zh k;obtain⟨E,b5,N⟩:=Zh m;obtain⟨F,b6,P⟩:=Zh n;obtain⟨G,b7,Q⟩:=Zh p;obtain⟨H,M,g,R⟩:=Gm q;split at h
 ·rename_i d;simp only[Xj,XD]at h;obtain⟨rfl,rfl⟩:=h;have f:T=Pl.toldB (if ps.length=0 then [c] else [])++W:=by
   split at a
   ·rename_i b;rw[xe b,xB a];simp[Pl.toldB]
   rename_i b;rw[xg b];simp only[Xj,XD]at a;rw[a.2];rfl
  refine⟨?_,rfl,rfl,⟨⟨J,c1⟩,c2,⟨K,c3⟩,d,⟨c4,N,P,Q⟩,M,g,R,?_⟩⟩
  ·have e:(cL ⟨num,s,t,u,c,v,w,y,z,0,ps⟩).tail=[s]++([t]++([u]++([v]++([w]++([y]++([z]++(Up ps++(if ps.length=0 then [c] else [])))))))):=by
    unfold cL;dsimp only;rw[iY g];simp
   rw[e,A,B,C,D,E,F,G,H,f];simp only[bD,XL]
  split at a
  ·rename_i b;exact Or.inl (Xn.1 b)
  simp only[Xj,XD]at a;exact Or.inr a.1.symm
 cases h
def QY(sl:List (Option L)):Nat:=sl.countP Option.isSome
theorem EH{c:Nat}:∀{k p:Nat} {g d:List (Option L)} {l r:List UInt8},g.length=c->xE c k p g l=some (d,r)->∃xs:List L,xs.length=k/\l=Pl.toldB (xs.flatMap cL)++r/\xs.Pairwise (λa b=>a.id<b.id) /\
  (∀x∈xs,p<x.id/\x.id<=2147483647/\x.gv=0/\TH c x/\d[x.place-1]?=some (some x))/\(∀(i:Nat) (y:L),g[i]?=some (some y)->d[i]?=some (some y))/\(∀(i:Nat) (y:L),d[i]?=some (some y)->(y∈xs/\y.place=i+1)\/g[i]?=some (some y))/\d.length=c/\QY d=QY g+k
 |0,p,g,d,l,r,hc,h=>by
  simp only[xE,Xj,XD]at h;obtain⟨rfl,rfl⟩:=h;exact⟨[],rfl,by simp[Pl.toldB],by simp,(λx N=>by cases N),(λ_ _ h=>h),(λ_ _ h=>Or.inr h),hc,rfl⟩
 |k+1,p,g,d,l,r,hc,h=>by
  rw[xE]at h;obtain⟨⟨a,T⟩,K,h⟩:=zD h;obtain⟨⟨x,W⟩,w,h⟩:=zD h;dsimp only at w h;obtain⟨A,R,S⟩:=Zh K;obtain⟨B,s,C,t⟩:=JB w;split at h
  ·rename_i z;have M:=t.place;have f:x.place-1<g.length:=by omega
   have j:g[x.place-1]?=some none:=by
    rw[Uv,xi f]at z;rw[xi f];exact YA some z
   obtain⟨xs,D,E,F,u,v,G,H,J⟩:=EH (by rw[xd];exact hc) h;refine⟨x::xs,by simp[D],?_,?_,λy n=>?_,λi y m=>?_,λi y m=>?_,H,?_⟩
   ·rw[A,B,E,bD,bD];congr 2;rw[XT];have:cL x=x.id::(cL x).tail:=by unfold cL;rfl
    rw[this,s];simp
   ·rw[Xp];exact⟨λy n=>by rw[s];exact(u y n).1,F⟩
   ·rcases xx.1 n with rfl|n
    ·refine⟨by omega,by omega,C,t,?_⟩;exact v _ _ (by rw[Xd];simp[f])
    have:=u y n
    exact⟨by omega,this.2⟩
   ·apply v
    rw[Xd];by_cases e:x.place-1=i
    ·rw[<-e,j]at m;cases m
    rw[xg e];exact m
   ·rcases G i y m with ⟨q,Q⟩|q
    ·exact Or.inl ⟨Yx _ q,Q⟩
    rw[Xd]at q;by_cases e:x.place-1=i
    ·rw[xe e,xe f]at q;injection q with q
     injection q with q
     subst q;exact Or.inl ⟨by simp,by omega⟩
    rw[xg e]at q;exact Or.inr q
   rw[J];unfold QY;rw[List.countP_set f];have P:g[x.place-1]=none:=by rw[xi f]at j;injection j
   rw[P];simp;omega
  cases h
section
variable {ls:List L}
theorem Qw(c:∀i j,i<ls.length->j<ls.length->(ls.getD i L0).id=(ls.getD j L0).id->i=j)(l:L):∀(ps:List (Nat×Nat)) (e:Nat) (g:L->Nat) {H:List L} {d:Nat},Vn l ps e (wg ls g)=some (H,d) ->
  (∀p∈ps,UB p.1 ls<ls.length/\(zd ls p.1).gd=l.gd/\(zd ls p.1).place<l.place)/\H=wg ls (λx=>g x+(ps.map λp=>if p.1=x.id then p.2 else 0).sum)/\d=ps.foldl (λe p=>min e (zd ls p.1).ex) e:=by
 intro ps;induction ps with
 |nil=>
  intro e g H d h;simp only[Vn,Xj,XD]at h;exact⟨(λp m=>by cases m),by rw[<-h.1];simp,h.2.symm⟩
 |cons p ps ih=>
  intro e g H d h;have t:=h;rw[Vn]at h;split at h
  ·rename_i k;rw[jV,gV]at k;obtain⟨c1,c2,c3⟩:=k;rw[cI g c1]at c2 c3;have b:∀q∈[p],UB q.1 ls<ls.length/\(zd ls q.1).gd=l.gd/\(zd ls q.1).place<l.place:=λq a=>by
    simp only[Xq]at a;subst a;exact⟨c1,c2,c3⟩
   have f:((wg ls g).getD (UB p.1 (wg ls g)) L0).ex=(zd ls p.1).ex:=by rw[jV,cI g c1];rfl
   rw[f,jV,Ol c g c1]at h;obtain⟨n,r,s⟩:=ih _ _ h;refine⟨λq a=>?_,?_,?_⟩
   ·rcases xx.1 a with rfl|a
    ·exact b _ (by simp)
    exact n q a
   ·rw[r];congr 1;funext x;rw[List.map_cons,List.sum_cons];omega
   rw[s];rfl
  cases h
structure Ty(ls:List L)(i:Nat):Prop where
 fam:∀p∈(ls.getD i L0).par,UB p.1 ls<ls.length/\(zd ls p.1).gd=(ls.getD i L0).gd/\(zd ls p.1).place<(ls.getD i L0).place
 exp:(ls.getD i L0).par≠[]->(ls.getD i L0).ex=UL ls (ls.getD i L0).par
theorem Qy(c:∀i j,i<ls.length->j<ls.length->(ls.getD i L0).id=(ls.getD j L0).id->i=j){i:Nat}(b:i<ls.length){H:List L}(h:Vo (wg ls (λx=>Uz (ls.take i) x.id)) i=some H):H=wg ls (λx=>Uz (ls.take (i+1)) x.id)/\Ty ls i:=by
 have a:∀n,Uz (ls.take (i+1)) n=Uz (ls.take i) n+Uw (ls.getD i L0) n:=λn=>by
  rw[cC (d:=L0) b];simp[Uz]
 obtain⟨y,f⟩:∃y,y=(wg ls (λx=>Uz (ls.take i) x.id)).getD i L0:=⟨_,rfl⟩
 have u:y.par=zW (ls.getD i L0).par:=by rw[f,cI _ b];rfl
 have v:y.ex=(ls.getD i L0).ex:=by rw[f,cI _ b];rfl
 have w:y.gd=(ls.getD i L0).gd:=by rw[f,cI _ b];rfl
 have z:y.place=(ls.getD i L0).place:=by rw[f,cI _ b];rfl
 unfold Vo at h;rw[<-f,u,v]at h;split at h
 ·rename_i g;have e:(ls.getD i L0).par=[]:=by rw[aI]at g;exact Xn.1 g
  simp only[Xj]at h;refine⟨?_,⟨λp k=>(by rw[e]at k;cases k),λq=>absurd e q⟩⟩;rw[<-h];congr 1;funext x;rw[a];unfold Uw;rw[e];rfl
 rename_i g;obtain⟨⟨A,B⟩,l,h⟩:=zD h;dsimp only at h;split at h
 ·rename_i m;simp only[Xj]at h;subst h;obtain⟨r,s,t⟩:=Qw c _ _ _ _ l;refine⟨?_,⟨λp e=>?_,λ_=>?_⟩⟩
  ·rw[s];congr 1;funext x;rw[a,Ae];rfl
  ·have:=r p (iX.2 e)
   rw[w,z]at this;exact this
  rw[m,t];exact Es (ls:=ls) (ls.getD i L0).par
 cases h
theorem KI(a:∀i j,i<ls.length->j<ls.length->(ls.getD i L0).id=(ls.getD j L0).id->i=j):∀(k i:Nat) {H:List L},i+k=ls.length->Vm k i (wg ls (λx=>Uz (ls.take i) x.id))=some H->H=wg ls (λx=>Uz ls x.id)/\∀j,i<=j->j<ls.length->Ty ls j
 |0,i,H,hk,h=>by
  simp only[Vm,Xj]at h;rw[Xh (by omega)]at h;exact⟨h.symm,λj c p=>by omega⟩
 |k+1,i,H,hk,h=>by
  rw[Vm]at h;obtain⟨n,c,h⟩:=zD h;obtain⟨d,f⟩:=Qy a (by omega) c;rw[d]at h;obtain⟨g,l⟩:=KI a k (i+1) (by omega) h;refine⟨g,λj m b=>?_⟩;by_cases e:j=i
  ·subst e;exact f
  exact l j (by omega) b
end
structure TK(ls:List L):Prop where
 room:ls.length<=30
 ids:∀i j,i<ls.length->j<ls.length->(ls.getD i L0).id=(ls.getD j L0).id->i=j
 place:∀i,i<ls.length->(ls.getD i L0).place=i+1
 id:∀i,i<ls.length->1<=(ls.getD i L0).id/\(ls.getD i L0).id<=2147483647
 one:∀i,i<ls.length->TH ls.length (ls.getD i L0)
 fam:∀i,i<ls.length->Ty ls i
 giv:∀i,i<ls.length->(ls.getD i L0).gv=Uz ls (ls.getD i L0).id
theorem Gk{ls:List L}(h:cG l=some (ls,r)):l=Pl.toldB (ls.length::ls.length::Vd ls)++r/\TK ls:=by
 unfold cG at h;obtain⟨⟨c,r1⟩,h1,h⟩:=zD h;obtain⟨⟨d,r2⟩,h2,h⟩:=zD h;dsimp only at h2 h;split at h
 ·rename_i a0;subst a0;obtain⟨⟨D,r3⟩,h3,h⟩:=zD h;obtain⟨f,W,h⟩:=zD h;dsimp only at W h;simp only[Option.some.injEq,Prod.mk.injEq]at h;obtain⟨rfl,rfl⟩:=h;obtain⟨a1,a2,a3⟩:=Zh h1;have b1:=xB h2;obtain⟨xs,e1,e2,e3,H,e5,e6,e7,e8⟩:=EH (by simp) h3;have hz:QY (List.replicate d none)=0:=by simp[QY]
  rw[hz,Yu]at e8;have M:∀o∈D,o.isSome=true:=by
   have:D.countP Option.isSome=D.length:=by rw[e7];exact e8
   exact List.countP_eq_length.1 this
  have a8:∀i,i<d->∃y,D[i]?=some (some y)/\y∈xs/\y.place=i+1:=λi s=>by
   have N:i<D.length:=by omega
   have:=M D[i] (yb N)
   cases hq:D[i] with
   |none=>rw[hq]at this;cases this
   |some y=>
    have hy:D[i]?=some (some y):=by rw[xi N,hq]
    rcases e6 i y hy with q|q
    ·exact⟨y,hy,q.1,q.2⟩
    rw[xas]at q;split at q<;>cases q
  obtain⟨g,C⟩:∃g,g=D.map (λo=>o.getD L0):=⟨_,rfl⟩
  rw[<-C]at W;have F:g.length=d:=by rw[C,Xl];exact e7
  have m:∀i,i<d->g.getD i L0∈xs/\(g.getD i L0).place=i+1:=λi s=>by
   obtain⟨y,y1,y2,y3⟩:=a8 i s;have:g.getD i L0=y:=by rw[C,Uv,xaf,y1];rfl
   rw[this];exact⟨y2,y3⟩
  have Q:∀x∈xs,g.getD (x.place-1) L0=x/\x.place-1<d:=λx S=>by
   have:=H x S
   have J:=this.2.2.2.1.place;exact⟨by rw[C,Uv,xaf,this.2.2.2.2];rfl,by omega⟩
  have P:∀a∈xs,∀b∈xs,a.id=b.id->a=b:=λa ha b hb E=>by
   obtain⟨i,s,rfl⟩:=xt ha;obtain⟨j,B,rfl⟩:=xt hb;rcases Nat.lt_trichotomy i j with q|q|q
   ·have:=Xz.1 e3 i j s B q;omega
   ·subst q;rfl
   have:=Xz.1 e3 j i B s q;omega
  have w:∀i j,i<g.length->j<g.length->(g.getD i L0).id=(g.getD j L0).id->i=j:=λi j s B E=>by
   have p1:=m i (by omega);have p2:=m j (by omega);have:=P _ p1.1 _ p2.1 E;have e:=p1.2;rw[this,p2.2]at e;omega
  have A:∀i,i<d->kap (g.getD i L0)=g.getD i L0:=λi s=>by
   have:=(H _ (m i s).1).2.2.2.1.ris
   unfold kap;rw[iY this]
  have a9:wg g (λx=>Uz (g.take 0) x.id)=g:=by
   apply Yj
   intro i;by_cases s:i<d
   ·have X:(wg g (λx=>Uz (g.take 0) x.id))[i]?=some ((wg g (λx=>Uz (g.take 0) x.id)).getD i L0):=by
     rw[Uv,xi (by rw[gV];omega)];rfl
    have Z:g[i]?=some (g.getD i L0):=by rw[Uv,xi (by omega)];rfl
    rw[X,Z,cI _ (by omega),A i s];have hg:=(H _ (m i s).1).2.2.1;congr 1;generalize g.getD i L0=y at hg
    cases y;simp only at hg
    subst hg;rfl
   rw[Xo (by rw[gV];omega),Xo (by omega)]
  rw[<-a9]at W;obtain⟨T,f2⟩:=KI w d 0 (by omega) W;have t:f.length=d:=by rw[T,gV,F]
  have k:∀i,i<d->f.getD i L0={ g.getD i L0 with gv:=Uz g (g.getD i L0).id }:=λi s=>by
   rw[T,cI _ (by omega),A i s]
  have z:∀n,UB n f=UB n g:=λn=>by rw[T,jV]
  have v:∀n,(zd f n).gd=(zd g n).gd/\(zd f n).place=(zd g n).place/\(zd f n).ex=(zd g n).ex:=λn=>by
   unfold zd;rw[z];rcases YD (UB n g) d with q|q
   ·rw[k _ q];exact⟨rfl,rfl,rfl⟩
   have z1:f.getD (UB n g) L0=L0:=by rw[Uv,Xo (by omega)];rfl
   have z2:g.getD (UB n g) L0=L0:=by rw[Uv,Xo (by omega)];rfl
   rw[z1,z2];exact⟨rfl,rfl,rfl⟩
  have a6:∀ps,UL f ps=UL g ps:=λps=>by
   unfold UL;congr 1;funext e p;rw[(v p.1).2.2]
  have a4:∀n,Uz f n=Uz g n:=λn=>by
   rw[T];unfold Uz wg;rw[Ya];congr 1;apply XE;intro x S;obtain⟨j,B,rfl⟩:=xt S;have e:g.getD j L0=g[j]:=by simp[Uv,B]
   have hk:=A j (by omega);rw[e]at hk;show Uw { kap g[j] with gv:=_ } n=Uw g[j] n;rw[hk];rfl
  have R:Vd f=xs.flatMap cL:=by
   have G:∀i j,i<f.length->j<f.length->(f.getD i L0).id=(f.getD j L0).id->i=j:=λi j s B E=>by
    rw[k i (by omega),k j (by omega)]at E;exact w i j (by omega) (by omega) E
   obtain⟨q1,q2⟩:=bJ (x:=λi=>(f.getD i L0).id) G (f.length+1) 0 (by have:=fH (λi=>(f.getD i L0).id) 0 f.length;omega);unfold Vd;have u:∀i,i∈Zx (λi=>(f.getD i L0).id) f.length (f.length+1) 0↔i<d:=λi=>by
    rw[q2,t];refine⟨λh=>h.1,λh=>⟨h,?_⟩⟩;show 0<(f.getD i L0).id;rw[k i h];have:=(H _ (m i h).1).1;exact this
   have a5:∀i∈Zx (λi=>(f.getD i L0).id) f.length (f.length+1) 0,cL (f.getD i L0)=cL (g.getD i L0):=λi s=>by
    rw[k i ((u i).1 s)];rfl
   have a7:(Zx (λi=>(f.getD i L0).id) f.length (f.length+1) 0).map (λi=>g.getD i L0)=xs:=by
    refine nW (lt:=λa b:L=>a.id<b.id) (λa=>Yf _) (λa b c=>xbF) ?_ e3 (λx=>?_)
    ·rw[yi];refine q1.imp_of_mem (λ{a b} ha hb hab=>?_);have:=hab;rw[k a ((u a).1 ha),k b ((u b).1 hb)]at this;exact this
    rw[Xg];constructor
    ·rintro⟨i,s,rfl⟩;exact(m i ((u i).1 s)).1
    intro S;obtain⟨z1,z2⟩:=Q x S;exact⟨x.place-1,(u _).2 z2,z1⟩
   rw[<-a7,xaM];have:∀(K:List Nat),(∀i∈K,cL (f.getD i L0)=cL (g.getD i L0))->K.flatMap (λi=>cL (f.getD i L0))=K.flatMap (λi=>cL (g.getD i L0)):=λK=>by
    induction K with
    |nil=>intro _;rfl
    |cons i K ih=>
     intro hh;rw[XT,XT,hh i (by simp),ih (λj B=>hh j (by simp[B]))]
   exact this _ a5
  refine⟨?_,⟨by omega,λi j s B E=>?_,λi s=>?_,λi s=>?_,λi s=>?_,λi s=>?_,λi s=>?_⟩⟩
  ·rw[a1,b1,e2,R,t];simp[Pl.toldB]
  ·rw[k i (by omega),k j (by omega)]at E;exact w i j (by omega) (by omega) E
  ·rw[k i (by omega)];exact(m i (by omega)).2
  ·rw[k i (by omega)];have:=H _ (m i (by omega)).1;exact⟨this.1,this.2.1⟩
  ·rw[k i (by omega),t];have:=(H _ (m i (by omega)).1).2.2.2.1;exact⟨this.gd,this.ex,this.place,this.got,this.cnt,this.plen,this.ris,this.par,this.psum⟩
  ·have hf:=f2 i (by omega) (by omega);refine⟨λp J=>?_,λJ=>?_⟩
   ·rw[k i (by omega)]at J;have:=hf.fam p J;rw[z,(v p.1).1,(v p.1).2.1,k i (by omega),t];rw[F]at this;exact this
   rw[k i (by omega)]at J ⊢;rw[a6];exact hf.exp J
  rw[a4,k i (by omega)]
 cases h
variable {os:List O}
section
variable {ls:List L}
theorem EF{g:Nat}:∀{k p:Nat} {b ps:List (Nat×Nat)} {l r:List UInt8},rO ls g k p b l=some (ps,r)->∃d,ps=b++d/\d.length=k/\l=Pl.toldB (d.flatMap (λp=>[p.1,p.2]))++r/\Ris d/\∀q∈d,p<q.1/\q.1<=2147483647/\1<=q.2/\q.2<=2147483647/\UB q.1 ls<ls.length/\(zd ls q.1).gd=g
 |0,p,b,ps,l,r,h=>by
  simp only[rO,Xj,XD]at h;obtain⟨rfl,rfl⟩:=h;exact⟨[],by simp,rfl,by simp[Pl.toldB],by simp[Ris],λq c=>by cases c⟩
 |k+1,p,b,ps,l,r,h=>by
  rw[rO]at h;obtain⟨⟨a,A⟩,v,h⟩:=zD h;dsimp only at h;split at h
  ·rename_i j;obtain⟨⟨u,B⟩,w,h⟩:=zD h;obtain⟨d,f,s,i,t,e⟩:=EF h;obtain⟨m,z,n⟩:=Zh v;obtain⟨c1,c2,c3⟩:=Zh w;dsimp only at c1 f i e;refine⟨(a,u)::d,by rw[f];simp,by simp[s],?_,?_,λq c=>?_⟩
   ·rw[m,c1,i,bD,bD];rfl
   ·unfold Ris;rw[List.map_cons,Xp];refine⟨λx y=>?_,t⟩;obtain⟨q,c,rfl⟩:=Xg.1 y;exact(e q c).1
   rcases xx.1 c with rfl|c
   ·exact⟨by show p<a;omega,n,c2,c3,j.1,j.2⟩
   have:=e q c
   exact⟨by omega,this.2⟩
  cases h
theorem nU{l:List (Nat×Nat)}(h:Ris l):l.Pairwise (λa b=>bH a b=true):=by
 unfold Ris at h;rw[yi]at h;exact h.imp (λh=>by simp only[bH,Yy,Xv];exact Or.inl h)
theorem nT{l:List (Nat×Nat)}(h:Ris l):(l.map Prod.fst).Nodup:=h.imp (λh e=>by rw[e]at h;exact Yf _ h)
theorem gZ{l:List (Nat×Nat)}(h:l.Pairwise (λa b=>bH a b=true)):cV l=l:=by
 have c:l.Nodup:=h.imp (λh e=>by rw[e]at h;exact gJ _ h);obtain⟨d,f⟩:=ZN c;exact nW (lt:=λa b=>bH a b=true) gJ CX d h f
structure Ta(ls:List L)(o:O):Prop where
 id:o.id<=2147483647
 gd:1<=o.gd/\o.gd<=2147483647
 len:1<=o.li.length/\o.li.length<=30
 ris:Ris o.li
 line:∀q∈o.li,1<=q.1/\q.1<=2147483647/\1<=q.2/\q.2<=2147483647/\UB q.1 ls<ls.length/\(zd ls q.1).gd=o.gd
theorem EI:∀{k p:Nat} {c os:List O} {l r:List UInt8},yB ls k p c l=some (os,r)->∃xs:List O,os=c++xs/\xs.length=k/\l=Pl.toldB (xs.flatMap dA)++r/\xs.Pairwise (λa b=>a.id<b.id)/\∀o∈xs,p<o.id/\Ta ls o
 |0,p,c,os,l,r,h=>by
  simp only[yB,Xj,XD]at h;obtain⟨rfl,rfl⟩:=h;exact⟨[],by simp,rfl,by simp[Pl.toldB],by simp,λq m=>by cases m⟩
 |k+1,p,c,os,l,r,h=>by
  rw[yB]at h;obtain⟨⟨a,N⟩,G,h⟩:=zD h;obtain⟨⟨g,P⟩,v,h⟩:=zD h;obtain⟨⟨i,Q⟩,f,h⟩:=zD h;dsimp only at v f h;unfold aD at f;obtain⟨⟨n,R⟩,H,f⟩:=zD f;dsimp only at f;obtain⟨xs,z,A,B,C,s⟩:=EI h;obtain⟨S,t,D,E,u,F⟩:=EF f;obtain⟨w,J,x⟩:=Zh G;obtain⟨c1,c2,c3⟩:=Zh v;obtain⟨y,K,M⟩:=Zh H;rw[List.nil_append]at t;subst t;have j:Ta ls ⟨a,g,i⟩:=⟨x,⟨c2,c3⟩,⟨by show 1<=i.length;omega,by show i.length<=30;omega⟩,u,λq m=>by have:=F q m;exact⟨by omega,this.2⟩⟩
  refine⟨⟨a,g,i⟩::xs,by rw[z];simp,by simp[A],?_,?_,λo d=>?_⟩
  ·have e:dA ⟨a,g,i⟩=[a]++([g]++([n]++i.flatMap (λp=>[p.1,p.2]))):=by
    unfold dA Up;dsimp only;rw[gZ (nU u),D];rfl
   rw[w,c1,y,E,B,XT,e];simp only[bD,XL]
  ·rw[Xp];exact⟨λo j=>(s o j).1,C⟩
  rcases xx.1 d with rfl|d
  ·exact⟨by show p<a;omega,j⟩
  have:=s o d
  exact⟨by omega,this.2⟩
theorem RO(l:os.Pairwise (λa b=>a.id<b.id))(m:∀o∈os,1<=o.id)(q:∀o∈os,Ris o.li):UP os=os/\Vf os=os.flatMap dA:=by
 have n:(os.map O.id).Nodup:=by
  rw[yc,yi];exact l.imp (λh=>by omega)
 obtain⟨s,t⟩:=bJ (x:=λi=>(os.getD i O0).id) (qL n) (os.length+1) 0 (by have:=fH (λi=>(os.getD i O0).id) 0 os.length;omega);have d:∀i,i∈Zx (λi=>(os.getD i O0).id) os.length (os.length+1) 0↔i<os.length:=λi=>by
  rw[t];exact⟨λh=>h.1,λh=>⟨h,m _ (Io h)⟩⟩
 have k:(Zx (λi=>(os.getD i O0).id) os.length (os.length+1) 0).map (λi=>os.getD i O0)=os:=by
  refine nW (lt:=λa b:O=>a.id<b.id) (λa=>Yf _) (λa b c=>xbF) ?_ l (λx=>?_)
  ·rw[yi];exact s
  rw[Xg];constructor
  ·rintro⟨i,j,rfl⟩;exact Io ((d i).1 j)
  intro r;obtain⟨i,j,rfl⟩:=xt r;exact⟨i,(d i).2 j,by simp[Uv,j]⟩
 constructor
 ·unfold UP;have e:(Zx (λi=>(os.getD i O0).id) os.length (os.length+1) 0).map (λi=>UZ (os.getD i O0))=((Zx (λi=>(os.getD i O0).id) os.length (os.length+1) 0).map (λi=>os.getD i O0)).map UZ:=by rw[Ya];rfl
  rw[e,k];have:os.map UZ=os.map id:=XE (λo p=>by
   unfold UZ;rw[gZ (nU (q o p))];rfl)
  rw[this,xau]
 unfold Vf;rw[<-xaM (f:=λi=>os.getD i O0) (g:=dA),k]
theorem EJ:∀{k:Nat} {a:Nat×Nat} {c ps:List (Nat×Nat)} {l r:List UInt8},Db ls k a c l=some (ps,r)->∃e,ps=c++e/\e.length=k/\l=Pl.toldB (e.flatMap (λp=>[p.1,p.2]))++r/\(a::e).Pairwise (λa b=>bH a b=true)/\∀q∈e,1<=q.1/\q.1<=2147483647/\1<=q.2/\q.2<=2147483647/\UB q.1 ls<ls.length
 |0,a,c,ps,l,r,h=>by
  simp only[Db,Xj,XD]at h;obtain⟨rfl,rfl⟩:=h;exact⟨[],by simp,rfl,by simp[Pl.toldB],by simp,λq d=>by cases d⟩
 |k+1,a,c,ps,l,r,h=>by
  rw[Db]at h;obtain⟨⟨x,z⟩,w,h⟩:=zD h;obtain⟨⟨y,A⟩,i,h⟩:=zD h;dsimp only at i h;split at h
  ·rename_i f;obtain⟨e,s,t,u,g,v⟩:=EJ h;obtain⟨j,m,n⟩:=Zh w;obtain⟨c1,c2,c3⟩:=Zh i;refine⟨(x,y)::e,by rw[s];simp,by simp[t],?_,?_,λq d=>?_⟩
   ·rw[j,c1,u,bD,bD];rfl
   ·rw[Xp];refine⟨λq d=>?_,g⟩;rcases xx.1 d with rfl|d
    ·exact f.1
    exact CX _ _ _ f.1 ((Xp.1 g).1 q d)
   rcases xx.1 d with rfl|d
   ·exact⟨m,n,c2,c3,f.2⟩
   exact v q d
  cases h
end
structure TC(td:Nat)(os:List O)(rj:List (Nat×Nat))(ls:List L):Prop where
 td:td<=2147483647
 ok:∀l∈ls,L.Ok l
 room:ls.length<=30
 good:Good os ls
 snd:Snd os rj ls
 rc:Rc rj
 sml:TQ os ls
 kap:ls.map kap=ls
 os:UP os=os
 rj:cV rj=rj
theorem lH{b:List UInt8}{td:Nat}{ls:List L}{rj:List (Nat×Nat)}(h:zI b=some (td,ls,os,rj)):TC td os rj ls/\b=Vc td os rj ls:=by
 cases b with
 |nil=>cases h
 |cons c r0=>
  unfold zI at h;dsimp only at h;split at h
  ·rename_i hc;subst hc;obtain⟨⟨a0,r1⟩,h1,h⟩:=zD h;obtain⟨⟨ls',r2⟩,M,h⟩:=zD h;obtain⟨⟨os',r3⟩,w,h⟩:=zD h;obtain⟨⟨C,r4⟩,x,h⟩:=zD h;dsimp only at M w x h;split at h
   ·rename_i E;simp only[Option.some.injEq,Prod.mk.injEq]at h;obtain⟨rfl,rfl,rfl,rfl⟩:=h;obtain⟨S,a2,T⟩:=Zh h1;obtain⟨W,f⟩:=Gk M;unfold ZT at w;obtain⟨⟨ko,r5⟩,h5,w⟩:=zD w;dsimp only at w;obtain⟨c1,c2,c3⟩:=Zh h5;obtain⟨xs,G,Z,e3,H,t⟩:=EI w;rw[List.nil_append]at G;subst G;unfold eA at x;obtain⟨⟨kr,r6⟩,h6,x⟩:=zD x;dsimp only at x;obtain⟨X,d2,d3⟩:=Zh h6;obtain⟨qs,J,K,f3,f4,D⟩:=EJ x;rw[List.nil_append]at J;subst J;obtain⟨F,y⟩:=E;subst F;have m:=(List.pairwise_cons.1 f4).2;obtain⟨o1,o2⟩:=RO H (λo g=>by have:=(t o g).1;omega) (λo g=>(t o g).2.ris);have s:∀i,i<ls'.length->(ls'.getD i L0).got=(ls'.getD i L0).free+(ls'.getD i L0).hd+(ls'.getD i L0).sh+(ls'.getD i L0).sc+(ls'.getD i L0).gv/\(ls'.getD i L0).hd=zH os' (ls'.getD i L0).id:=λi r=>by
     have:=YG.1 y _ (zg r)
     unfold TY at this;rw[Xu,Xv,Xv]at this;exact this
    have v:(os'.map O.id).Nodup:=by
     rw[yc,yi];exact H.imp (λh=>by omega)
    have z:∀n,UB n ls'<ls'.length->(ls'.getD (UB n ls') L0).id=n:=λn hn=>Zu hn
    have u:Good os' ls':=⟨f.ids,f.place,v,λo g=>(t o g).2.id,by omega,λo g=>nT (t o g).2.ris,λo g p a=>⟨UB p.1 ls',((t o g).2.line p a).2.2.2.2.1,z _ ((t o g).2.line p a).2.2.2.2.1⟩,λi r=>(s i r).2⟩
    have N:∀j,j<ls'.length->UB (ls'.getD j L0).id ls'=j:=λj q=>eJ q (λk hk e=>by have:=f.ids k j (by omega) q e;omega) rfl
    have B:Snd os' C ls':=by
     refine⟨λi r=>?_,λi r p a=>?_,λi r a=>(f.fam i r).exp a,f.giv,λo g=>?_,λp a=>?_⟩
     ·have d:=f.one i r;exact⟨(f.id i r).1,d.gd.1,d.got.1,(s i r).1,nT d.ris,λp a=>(d.par p a).2.2,d.psum⟩
     ·obtain⟨P,Q,R⟩:=(f.fam i r).fam p a;unfold zd at Q R;refine⟨UB p.1 ls',?_,z _ P,Q⟩;rw[f.place _ P,f.place i r]at R;omega
     ·have d:=(t o g).2;refine⟨d.gd.1,λe=>?_,λp a=>⟨(d.line p a).2.2.1,(d.line p a).2.2.2.2.2⟩⟩;have:=d.len.1;rw[e]at this;exact absurd this (by simp)
     have:=D p a
     exact⟨this.1,this.2.2.1,this.2.2.2.2⟩
    refine⟨⟨T,λl A=>?_,f.room,u,B,⟨m.imp (λh e=>by rw[e]at h;exact gJ _ h),by omega,λp a=>⟨(D p a).2.1,(D p a).2.2.2.1⟩⟩,⟨λl A=>?_,λo g=>⟨by have:=(t o g).1;omega,(t o g).2.gd.2⟩⟩,?_,o1,gZ m⟩,?_⟩
    ·obtain⟨j,q,rfl⟩:=xt A;have e:ls'.getD j L0=ls'[j]:=by simp[Uv,q]
     rw[<-e];have d:=f.one j q;have hs:=(s j q).1;have hr:=f.room;have:=d.place;have:=d.got;exact⟨(f.id j q).2,d.gd.2,d.ex,by omega,by omega,d.got.2,d.plen,λp a=>(d.par p a).2.1⟩
    ·obtain⟨j,q,rfl⟩:=xt A;have e:ls'.getD j L0=ls'[j]:=by simp[Uv,q]
     rw[<-e];exact⟨(f.id j q).1,λp a=>((f.one j q).par p a).2.2⟩
    ·have:ls'.map kap=ls'.map id:=XE (λl A=>by
      obtain⟨j,q,rfl⟩:=xt A;have e:ls'.getD j L0=ls'[j]:=by simp[Uv,q]
      rw[<-e];unfold kap;rw[iY (f.one j q).ris];rfl)
     rw[this,xau]
    unfold Vc Ve;rw[S,W,c1,e3,X,f3,o2,<-Z,<-K,gZ m];unfold Up;rw[K];congr 1;simp[Pl.toldB]
   cases h
  cases h
theorem xV{a:List Nat}(h:n<=a.length)(b:Bool):Vw (n::a,b)=(n,(a,b)):=by
 show(if a.length<n then _ else _)=_;rw[xg (by omega)];rfl
theorem EV(ps:List (Nat×Nat))(c:List Nat)(b:Bool):∀k,k<=ps.length->Vv (ps.flatMap (λp=>[p.1,p.2])++c,b) k=(ps.take k,((ps.drop k).flatMap (λp=>[p.1,p.2])++c,b))
 |0,_=>by simp[Vv]
 |k+1,hk=>by
  have a:k<ps.length:=by omega
  rw[Vv,EV ps c b k (by omega),xao a,xl a];rfl
theorem fU(ps:List (Nat×Nat)):(ps.flatMap (λp=>[p.1,p.2])).length=2*ps.length:=by
 induction ps with
 |nil=>rfl
 |cons p ps ih=>rw[XT,xb,ih];simp;omega
theorem rH(ps:List (Nat×Nat))(a:List Nat)(b:Bool):jT (Up ps++a,b)=(ps,(a,b)):=by
 unfold jT Up;rw[XF,xV (by rw[xb,fU];omega)];show Vv (ps.flatMap (λp=>[p.1,p.2])++a,b) ps.length=_;rw[EV ps a b ps.length (xc _)];simp
def UT(x:L):L:={ x with got:=if x.par.length=0 then x.got else 0,gv:=0 }
theorem Nr{x:L}(g:Ris x.par)(a:List Nat)(b:Bool):Vt (cL x++a,b)=UT x/\(Vr (cL x++a,b)).2=(a,b):=by
 have e:cL x++a=x.id::x.gd::x.ex::x.place::x.free::x.hd::x.sh::x.sc::(Up x.par++((if x.par.length=0 then [x.got] else [])++a)):=by
  unfold cL;rw[iY g];simp
 rw[e];generalize f:(Up x.par++((if x.par.length=0 then [x.got] else [])++a))=R;have hF:Vq (x.id::x.gd::x.ex::x.place::x.free::x.hd::x.sh::x.sc::R,b)=(x.par,((if x.par.length=0 then [x.got] else [])++a,b)):=by
  show jT (R,b)=_;rw[<-f];exact rH _ _ _
 have d:Vr (x.id::x.gd::x.ex::x.place::x.free::x.hd::x.sh::x.sc::R,b)=(if x.par.length=0 then x.got else 0,(a,b)):=by
  unfold Vr;rw[hF];dsimp only;by_cases c:x.par.length=0
  ·rw[xe c,xe c,xe c];rfl
  rw[xg c,xg c,xg c];rfl
 refine⟨?_,by rw[d]⟩;unfold Vt;rw[d,hF];rfl
theorem BC(xs:List L)(d:∀x∈xs,Ris x.par)(c:List Nat)(b:Bool):∀k,k<=xs.length->eY (xs.flatMap cL++c,b) k=((xs.take k).map UT,((xs.drop k).flatMap cL++c,b))
 |0,_=>by simp[eY]
 |k+1,hk=>by
  have a:k<xs.length:=by omega
  rw[eY,BC xs d c b k (by omega),List.drop_eq_getElem_cons a,List.take_succ_eq_append_getElem a,List.flatMap_cons,List.append_assoc];obtain⟨e,f⟩:=Nr (d _ (List.getElem_mem a)) ((xs.drop (k+1)).flatMap cL++c) b;dsimp only;rw[e,f,List.map_append];rfl
theorem Nt{o:O}(c:Ris o.li)(a:List Nat)(b:Bool):Vu (dA o++a,b)=(o,(a,b)):=by
 have e:dA o++a=o.id::o.gd::(Up o.li++a):=by
  unfold dA;rw[gZ (nU c)];simp
 rw[e];show((⟨o.id,o.gd,(jT (Up o.li++a,b)).1⟩:O),(jT (Up o.li++a,b)).2)=_;rw[rH]
theorem BD(xs:List O)(d:∀x∈xs,Ris x.li)(c:List Nat)(b:Bool):∀k,k<=xs.length->gL (xs.flatMap dA++c,b) k=(xs.take k,((xs.drop k).flatMap dA++c,b))
 |0,_=>by simp[gL]
 |k+1,hk=>by
  have a:k<xs.length:=by omega
  rw[gL,BD xs d c b k (by omega),List.drop_eq_getElem_cons a,List.take_succ_eq_append_getElem a,List.flatMap_cons,List.append_assoc];dsimp only;rw[Nt (d _ (List.getElem_mem a))]
theorem Ci{α:Type}(f:α->List Nat)(a:∀x,1<=(f x).length):∀l:List α,l.length<=(l.flatMap f).length
 |[]=>xc _
 |x::l=>by
  have:=Ci f a l
  have:=a x
  rw[XT,xb,List.length_cons];omega
def nB(ls:List L):List L:=(Zx (λi=>(ls.getD i L0).id) ls.length (ls.length+1) 0).map (λi=>ls.getD i L0)
theorem Bq(ls:List L):Vd ls=(nB ls).flatMap cL:=by unfold Vd nB;rw[xaM]
theorem tY{ls:List L}(a:∀i j,i<ls.length->j<ls.length->(ls.getD i L0).id=(ls.getD j L0).id->i=j)(b:∀i,i<ls.length->1<=(ls.getD i L0).id):(nB ls).Perm ls:=by
 have:=(vL (x:=λi=>(ls.getD i L0).id) a b).map (λi=>ls.getD i L0)
 have e:=qS (λx:L=>x) L0 ls;rw[List.map_id']at e;rw[e]at this;exact this
theorem Nv{td:Nat}{rj:List (Nat×Nat)}{ls:List L}(a:(nB ls).length=ls.length)(g:∀x∈nB ls,Ris x.par)(c:Vf os=os.flatMap dA)(b:∀o∈os,Ris o.li)(d:cV rj=rj):Vy (Ve td os rj ls)=⟨td,ls.length,ls.length,(nB ls).map UT,os,rj,([],false)⟩:=by
 have e:Ve td os rj ls=td::ls.length::ls.length::((nB ls).flatMap cL++(os.length::(os.flatMap dA++(Up rj++[])))):=by
  unfold Ve;rw[Bq,c,d];simp
 have h:∀x:L,1<=(cL x).length:=λx=>by unfold cL;simp
 have i:∀x:O,1<=(dA x).length:=λx=>by unfold dA;simp
 have l:=Ci cL h (nB ls);have g2:=Ci dA i os;have s1:Vw (ls.length::((nB ls).flatMap cL++(os.length::(os.flatMap dA++(Up rj++[])))),false)=(ls.length,((nB ls).flatMap cL++(os.length::(os.flatMap dA++(Up rj++[]))),false)):=xV (by rw[List.length_append];omega) false;have s2:=BC (nB ls) g (os.length::(os.flatMap dA++(Up rj++[]))) false (nB ls).length (Nat.le_refl _);have j:Vw (os.length::(os.flatMap dA++(Up rj++[])),false)=(os.length,(os.flatMap dA++(Up rj++[]),false)):=xV (by rw[List.length_append];omega) false;have f:=BD os b (Up rj++[]) false os.length (Nat.le_refl _);have k:=rH rj [] false;rw[a,List.take_of_length_le (by omega),List.drop_of_length_le (by omega)]at s2;rw[List.take_length,List.drop_length]at f;rw[List.flatMap_nil,List.nil_append]at s2 f;rw[e];unfold Vy;show TW.mk td ls.length _ _ _ _ _=_;dsimp only[Vp];rw[s1];dsimp only;rw[s2];dsimp only;rw[j];dsimp only;rw[f];dsimp only;rw[k]
def UR(l:List L)(k:Nat):List L:=(List.range k).flatMap (λq=>l.filter (λx=>x.place==q+1))
def UQ(l:List L):Prop:=∀q,q<l.length->(l.filter (λx=>x.place==q+1)).length=1
theorem MS{l ls:List L}(m:l.Perm (ls.map UT))(u:ls.Nodup)(b:∀i,i<ls.length->(ls.getD i L0).place=i+1):UQ l/\UR l l.length=ls.map UT:=by
 have a:l.length=ls.length:=by rw[m.length_eq,Xl]
 have g:∀q,q<ls.length->l.filter (λx=>x.place==q+1)=[UT (ls.getD q L0)]:=λq f=>by
  have n:=m.filter (λx=>x.place==q+1);have p:((ls.map UT).filter (λx=>x.place==q+1)).Perm [UT (ls.getD q L0)]:=by
   rw[xbM];have r:(ls.filter ((λx=>x.place==q+1)∘UT)).Perm [ls.getD q L0]:=by
    refine(YI (u.filter _) (by simp)).2 (λx=>?_);rw[XW,Xq];constructor
    ·rintro⟨v,t⟩;obtain⟨j,h,rfl⟩:=xt v;have e:ls.getD j L0=ls[j]:=by simp[Uv,h]
     have s:=b j h;have c:ls[j].place=q+1:=by simpa [UT] using t
     rw[e,c]at s;have:j=q:=by omega
     subst this;exact e.symm
    rintro rfl;exact⟨zg f,by show((ls.getD q L0).place==q+1)=true;rw[b q f];simp⟩
   exact r.map UT
  exact List.perm_singleton.1 (n.trans p)
 constructor
 ·intro q f;rw[g q (by omega)];rfl
 unfold UR;rw[a];have:∀k,k<=ls.length->(List.range k).flatMap (λq=>l.filter (λx=>x.place==q+1))=(ls.take k).map UT:=λk=>by
  induction k with
  |zero=>intro _;simp
  |succ k ih=>
   intro w;rw[Yz,Yo,ih (by omega),cC (d:=L0) (show k<ls.length by omega)];simp[g k (by omega)]
 rw[this _ (xc _),Xa]
theorem CW{l:List L}(h:UQ l):∀k,k<=l.length->(UR l k).length=k/\∀i,i<k->(UR l k).getD i L0∈l/\((UR l k).getD i L0).place=i+1
 |0,_=>⟨rfl,λi m=>by omega⟩
 |k+1,hk=>by
  obtain⟨d,g⟩:=CW h k (by omega);have j:=h k (by omega);have e:UR l (k+1)=UR l k++l.filter (λx=>x.place==k+1):=by unfold UR;rw[Yz,Yo];simp
  obtain⟨y,f⟩:=List.length_eq_one_iff.1 j;have a:y∈l.filter (λx=>x.place==k+1):=by rw[f];simp
  rw[XW]at a;rw[e,f];refine⟨by rw[xb,d];rfl,λi m=>?_⟩;by_cases c:i<k
  ·have:(UR l k++[y]).getD i L0=(UR l k).getD i L0:=by rw[Uv,Uv,Xk (by omega)]
   rw[this];exact g i c
  have b:i=k:=by omega
  subst b;have:(UR l i++[y]).getD i L0=y:=by rw[Uv,ya (by omega),d];simp
  rw[this];exact⟨a.1,by simpa using a.2⟩
def wq(ls:List L)(g q:L->Nat):List L:=ls.map λx=>{ x with gv:=g x,got:=q x }
section
variable {ls:List L}
theorem jW(g q:L->Nat):(wq ls g q).length=ls.length:=by simp[wq]
theorem EX(g q:L->Nat)(n:Nat):UB n (wq ls g q)=UB n ls:=by
 unfold UB wq;rw[xam];rfl
theorem mJ(g q:L->Nat){i:Nat}(a:i<ls.length):(wq ls g q).getD i L0={ ls.getD i L0 with gv:=g (ls.getD i L0),got:=q (ls.getD i L0) }:=by
 simp[wq,Uv,a]
theorem xY(g q:L->Nat){i:Nat}(a:i<ls.length):(wq ls g q)[i]?=some { ls.getD i L0 with gv:=g (ls.getD i L0),got:=q (ls.getD i L0) }:=by
 rw[<-mJ g q a,Uv,xi (by rw[jW];exact a)];rfl
theorem Sq(b:∀i j,i<ls.length->j<ls.length->(ls.getD i L0).id=(ls.getD j L0).id->i=j)(g q:L->Nat){n m:Nat}(c:UB n ls<ls.length):(wq ls g q).set (UB n ls) (Ux ((wq ls g q).getD (UB n ls) L0) m)=wq ls (λx=>g x+if n=x.id then m else 0) q:=by
 have a:=Zu c;apply Yj;intro j;by_cases d:j<ls.length
 ·rw[xY _ _ d,Xd];by_cases e:UB n ls=j
  ·rw[xe e,xe (by rw[jW];exact c),mJ _ _ c,e];rw[e]at a;rw[xe a.symm];rfl
  rw[xg e,xY _ _ d];have:¬n=(ls.getD j L0).id:=λq=>e (b _ _ c d (by rw[a,q]))
  rw[xg this];rfl
 rw[Xo (by rw[xd,jW];omega),Xo (by rw[jW];omega)]
theorem Sp(b:∀i,i<ls.length->(ls.getD i L0).place=i+1)(g q:L->Nat){i:Nat}(c:i<ls.length)(s:Nat):(wq ls g q).set i { (wq ls g q).getD i L0 with got:=s }=wq ls g (λx=>if x.place=i+1 then s else q x):=by
 apply Yj
 intro j;by_cases a:j<ls.length
 ·rw[xY _ _ a,Xd];have d:=b j a;by_cases e:i=j
  ·subst e;rw[xe rfl,xe (by rw[jW];exact c),mJ _ _ c,xe d]
  rw[xg e,xY _ _ a,xg (by omega)]
 rw[Xo (by rw[xd,jW];omega),Xo (by rw[jW];omega)]
def oA(ls:List L)(l:L)(p:Nat×Nat):Prop:=UB p.1 ls<ls.length/\p.2<=2147483647/\(zd ls p.1).gd=l.gd/\(zd ls p.1).place<l.place
def Uk(ls:List L)(ps:List (Nat×Nat))(u:Nat):Nat:=ps.foldl (λe p=>min e (zd ls p.1).ex) u
theorem NN(c:∀i j,i<ls.length->j<ls.length->(ls.getD i L0).id=(ls.getD j L0).id->i=j)(l:L):∀(ps:List (Nat×Nat)) (u b:Nat) (g q:L->Nat),((∀p∈ps,oA ls l p)->Ur l ps u b (wq ls g q)=some (wq ls (λx=>g x+(ps.map λp=>if p.1=x.id then p.2 else 0).sum) q,Uk ls ps u,b+(ps.map Prod.snd).sum))/\(¬(∀p∈ps,oA ls l p)->Ur l ps u b (wq ls g q)=none)
 |[],u,b,g,q=>⟨λ_=>by simp[Ur,Uk],λh=>absurd (λp y=>by cases y) h⟩
 |p::ps,u,b,g,q=>by
  have a:(UB p.1 (wq ls g q)<(wq ls g q).length/\p.2<=2147483647/\((wq ls g q).getD (UB p.1 (wq ls g q)) L0).gd=l.gd/\((wq ls g q).getD (UB p.1 (wq ls g q)) L0).place<l.place)↔oA ls l p:=by
   rw[EX,jW];unfold oA;constructor
   ·rintro⟨f,s,m,n⟩;rw[mJ _ _ f]at m n;exact⟨f,s,m,n⟩
   rintro⟨f,s,m,n⟩;rw[mJ _ _ f];exact⟨f,s,m,n⟩
  by_cases d:oA ls l p
  ·have t:((wq ls g q).getD (UB p.1 (wq ls g q)) L0).ex=(zd ls p.1).ex:=by rw[EX,mJ _ _ d.1];rfl
   have e:Ur l (p::ps) u b (wq ls g q)=Ur l ps (min u (zd ls p.1).ex) (b+p.2) (wq ls (λx=>g x+if p.1=x.id then p.2 else 0) q):=by
    rw[Ur,xe (a.2 d),t,EX,Sq c g q d.1]
   obtain⟨z,A⟩:=NN c l ps (min u (zd ls p.1).ex) (b+p.2) (λx=>g x+if p.1=x.id then p.2 else 0) q;refine⟨λh=>?_,λh=>?_⟩
   ·rw[e,z (λr k=>h r (by simp[k]))];have v:(λx:L=>(g x+if p.1=x.id then p.2 else 0)+(ps.map λp=>if p.1=x.id then p.2 else 0).sum)=λx=>g x+((p::ps).map λp=>if p.1=x.id then p.2 else 0).sum:=by
     funext x
     rw[List.map_cons,List.sum_cons];omega
    rw[v,List.map_cons,List.sum_cons,xbR];rfl
   rw[e,A (λw=>h (λr k=>by
    rcases xx.1 k with rfl|k
    ·exact d
    exact w r k))]
  refine⟨λh=>absurd (h p (by simp)) d,λ_=>?_⟩;rw[Ur,xg (λh=>d (a.1 h))]
structure Tx(ls:List L)(i:Nat):Prop where
 len:(ls.getD i L0).par.length<=2
 ris:Ris (ls.getD i L0).par
 fam:∀p∈(ls.getD i L0).par,oA ls (ls.getD i L0) p
 exp:(ls.getD i L0).par≠[]->Uk ls (ls.getD i L0).par 2147483648=(ls.getD i L0).ex
def tO(x:L):Nat:=if x.par.length=0 then x.got else (x.par.map Prod.snd).sum
def wy(ls:List L)(i:Nat):List L:=wq ls (λx=>Uz (ls.take i) x.id) (λx=>if x.place<=i then tO x else x.got)
theorem Rj(r:∀i j,i<ls.length->j<ls.length->(ls.getD i L0).id=(ls.getD j L0).id->i=j)(c:∀i,i<ls.length->(ls.getD i L0).place=i+1){i:Nat}(w:i<ls.length):(Tx ls i->Us (wy ls i) i=some (wy ls (i+1)))/\(¬Tx ls i->Us (wy ls i) i=none):=by
 have A:∀n,Uz (ls.take (i+1)) n=Uz (ls.take i) n+Uw (ls.getD i L0) n:=λn=>by
  rw[cC (d:=L0) w];simp[Uz]
 obtain⟨y,u⟩:∃y,y=(wy ls i).getD i L0:=⟨_,rfl⟩
 have z:=mJ (ls:=ls) (λx=>Uz (ls.take i) x.id) (λx=>if x.place<=i then tO x else x.got) w;have H:y.par=(ls.getD i L0).par:=by rw[u];unfold wy;rw[z]
 have J:y.ex=(ls.getD i L0).ex:=by rw[u];unfold wy;rw[z]
 have K:y.gd=(ls.getD i L0).gd:=by rw[u];unfold wy;rw[z]
 have M:y.place=(ls.getD i L0).place:=by rw[u];unfold wy;rw[z]
 have l:∀p,oA ls y p↔oA ls (ls.getD i L0) p:=λp=>by unfold oA;rw[K,M]
 obtain⟨D,G⟩:=NN r y (ls.getD i L0).par 2147483648 0 (λx=>Uz (ls.take i) x.id) (λx=>if x.place<=i then tO x else x.got);have N:=c i w;have k:∀j,j<ls.length->(if (ls.getD j L0).place<=i+1 then tO (ls.getD j L0) else (ls.getD j L0).got)=(if (ls.getD j L0).place=i+1 then tO (ls.getD i L0) else (if (ls.getD j L0).place<=i then tO (ls.getD j L0) else (ls.getD j L0).got)):=λj b=>by
  have E:=c j b;by_cases e:j=i
  ·subst e;rw[xe (by omega),xe (by omega)]
  rw[xg (show ¬(ls.getD j L0).place=i+1 by omega)];by_cases C:(ls.getD j L0).place<=i
  ·rw[xe (by omega),xe C]
  rw[xg (by omega),xg C]
 have a:∀(g q B:L->Nat),(∀j,j<ls.length->q (ls.getD j L0)=B (ls.getD j L0))->wq ls g q=wq ls g B:=λg q B h=>by
  unfold wq;apply XE;intro x F;obtain⟨j,b,rfl⟩:=xt F;have e:ls.getD j L0=ls[j]:=by simp[Uv,b]
  have:=h j b
  rw[e]at this;rw[this]
 have t:wy ls (i+1)=wq ls (λx=>Uz (ls.take i) x.id+((ls.getD i L0).par.map λp=>if p.1=x.id then p.2 else 0).sum) (λx=>if x.place<=i+1 then tO x else x.got):=by
  unfold wy;congr 1;funext x;rw[A];rfl
 unfold Us;rw[<-u,H,J];constructor
 ·intro hF;rw[if_pos ⟨hF.len,hF.ris⟩];unfold wy at *;rw[D (λp s=>(l p).2 (hF.fam p s)),Option.bind_some];dsimp only;by_cases f:(ls.getD i L0).par.length=0
  ·rw[xe f,t];congr 1;apply a;intro j b;show _=(if (ls.getD j L0).place<=i+1 then tO (ls.getD j L0) else (ls.getD j L0).got);rw[k j b];by_cases e:(ls.getD j L0).place=i+1
   ·rw[xe e,xg (by omega)];have:j=i:=by have:=c j b;omega
    subst this;unfold tO;rw[xe f]
   rw[xg e]
  rw[xg f,xe (hF.exp (λe=>f (by rw[e];rfl))),Sp c _ _ w,t];congr 1;apply a;intro j b;show _=(if (ls.getD j L0).place<=i+1 then tO (ls.getD j L0) else (ls.getD j L0).got);rw[k j b];unfold tO;rw[xg f,Yu]
 intro hF;by_cases m:(ls.getD i L0).par.length<=2/\((ls.getD i L0).par.map Prod.fst).Pairwise (·<·)
 ·rw[xe m];unfold wy at *;by_cases v:∀p∈(ls.getD i L0).par,oA ls y p
  ·rw[D v,Option.bind_some];dsimp only;by_cases f:(ls.getD i L0).par.length=0
   ·exact absurd ⟨m.1,m.2,λp s=>(l p).1 (v p s),λh=>absurd (Xn.1 f) h⟩ hF
   rw[xg f,xg (λe=>hF ⟨m.1,m.2,λp s=>(l p).1 (v p s),λ_=>e⟩)]
  rw[G v];rfl
 rw[xg m]
theorem Ic(a:∀i j,i<ls.length->j<ls.length->(ls.getD i L0).id=(ls.getD j L0).id->i=j)(b:∀i,i<ls.length->(ls.getD i L0).place=i+1):∀(k i:Nat),i+k=ls.length->((∀j,i<=j->j<ls.length->Tx ls j)->Uq k i (wy ls i)=some (wy ls ls.length))/\(¬(∀j,i<=j->j<ls.length->Tx ls j)->Uq k i (wy ls i)=none)
 |0,i,hk=>by
  obtain rfl:i=ls.length:=by omega
  exact⟨λ_=>rfl,λh=>absurd (λj f c=>by omega) h⟩
 |k+1,i,hk=>by
  obtain⟨d,g⟩:=Rj a b (show i<ls.length by omega);obtain⟨l,m⟩:=Ic a b k (i+1) (by omega);rw[Uq];refine⟨λh=>?_,λh=>?_⟩
  ·rw[d (h i (xc _) (by omega)),xk];exact l (λj f c=>h j (by omega) c)
  by_cases hF:Tx ls i
  ·rw[d hF,xk];exact m (λn=>h (λj f c=>by
    by_cases e:j=i
    ·subst e;exact hF
    exact n j (by omega) c))
  rw[g hF];rfl
end
