import Derived.Test.YtgcedalggnmooaaGreatDoorSp0X
import Derived.Test.YtgcedalggnmooaaGreatDoorSfX
set_option linter.all false
set_option maxRecDepth 100000
namespace Go.Proofs.YtgcedalggnmooaaGreatDoor
theorem tV:∀l:List UInt8,Pl.lead l<l.length->∃p b s,l=p++b::s/\p.length=Pl.lead l/\(∀c∈p,128<=c.toNat)/\b.toNat<128
 |[],h=>by simp at h
 |b::r,h=>by
  rw[Pl.lead_cons]at h ⊢;by_cases d:128<=b.toNat
  ·rw[xd d]at h ⊢;obtain⟨p,c,s,e,i,f,g⟩:=tV r (by simpa using h);refine⟨b::p,c,s,by rw[e];rfl,by simp;omega,λx a=>?_,g⟩;rcases xx.1 a with rfl|a
   ·exact d
   exact f x a
  rw[xe d];exact⟨[],b,r,rfl,rfl,(λx a=>by cases a),by omega⟩
variable {l r:List UInt8}{n:Nat}
theorem xD(h:UK l=some (n,r)):l=Pl.num n++r:=by
 unfold UK at h;split at h
 ·cases h
 rename_i f;simp only[Xj,XD]at h;obtain⟨rfl,rfl⟩:=h;have a:Pl.ok1 l=true:=by
  cases m:Pl.ok1 l with
  |true=>rfl
  |false=>unfold Pl.snd at f;rw[m]at f;exact absurd rfl f
 have g:Pl.snd l=Pl.lead l+1:=by unfold Pl.snd;rw[xd a]
 have e:Pl.fst l=Pl.val (l.take (Pl.lead l+1)):=by unfold Pl.fst;rw[xd a]
 unfold Pl.ok1 at a;simp only[Xs,Xu,xaD,xac,yq,xr]at a;obtain⟨p,b,s,c,d,i,j⟩:=tV l a.1.2;have t:l.take (Pl.lead l+1)=p++[b]:=by
  rw[<-d];conv=>lhs;rw[c]
  rw[List.take_append,Xh (by omega)];simp
 have hd:l.drop (Pl.lead l+1)=s:=by
  rw[<-d];conv=>lhs;rw[c]
  rw[List.drop_append];simp
 have k:l.getD (Pl.lead l) 1=b:=by
  rw[<-d];conv=>lhs;rw[c]
  simp[Ul]
 rw[e,g,t,hd,(Pl.num_val b j p i).2 (λ⟨k1,k2⟩=>?_),c]
 ·simp
 rcases a.2 with q|q
 ·omega
 rw[k]at q;exact q k2
theorem Zk{lo d:Nat}(h:UL lo d l=some (n,r)):l=Pl.toldB [n]++r/\lo<=n/\n<=d:=by
 unfold UL at h
 cases b:UK l with
 |none=>rw[b]at h;cases h
 |some a=>
  obtain⟨m,q⟩:=a;rw[b,xi]at h;split at h
  ·rename_i c;simp only[Xj,XD]at h;obtain⟨rfl,rfl⟩:=h;exact⟨by rw[xD b];simp[Pl.toldB],c.1,c.2⟩
  cases h
theorem aZ(a b:List Nat)(r:List UInt8):Pl.toldB a++(Pl.toldB b++r)=Pl.toldB (a++b)++r:=by simp[Pl.toldB]
theorem zD{α β:Type}{o:Option α}{f:α->Option β}{y:β}(h:o.bind f=some y):∃a,o=some a/\f a=some y:=by
 cases o with
 |none=>cases h
 |some a=>exact⟨a,rfl,h⟩
theorem AZ:∀{k p:Nat} {b ps:List (Nat×Nat)} {l r:List UInt8},eU k p b l=some (ps,r)->∃d,ps=b++d/\d.length=k/\l=Pl.toldB (d.flatMap (λp=>[p.1,p.2]))++r/\Ris d/\∀q∈d,p<q.1/\q.1<=2147483647/\q.2<=2147483647
 |0,p,b,ps,l,r,h=>by
  simp only[eU,Xj,XD]at h;obtain⟨rfl,rfl⟩:=h;exact⟨[],by simp,rfl,by simp[Pl.toldB],by simp[Ris],λq c=>by cases c⟩
 |k+1,p,b,ps,l,r,h=>by
  rw[eU]at h;obtain⟨⟨a,y⟩,t,h⟩:=zD h;obtain⟨⟨g,z⟩,u,h⟩:=zD h;obtain⟨d,f,n,i,s,e⟩:=AZ h;obtain⟨j,w,m⟩:=Zk t;obtain⟨c1,c2,c3⟩:=Zk u;dsimp only at c1 f i e;refine⟨(a,g)::d,by rw[f];simp,by simp[n],?_,?_,λq c=>?_⟩
  ·rw[j,c1,i,aZ,aZ];rfl
  ·unfold Ris;rw[List.map_cons,Xq];refine⟨λx v=>?_,s⟩;obtain⟨q,c,rfl⟩:=Xg.1 v;exact(e q c).1
  rcases xx.1 c with rfl|c
  ·exact⟨by show p<a;omega,m,c3⟩
  have:=e q c
  exact⟨by omega,this.2⟩
theorem Gj{ps:List (Nat×Nat)}(h:eR l=some (ps,r)):l=Pl.toldB (Uf ps)++r/\ps.length<=2/\Ris ps/\∀q∈ps,1<=q.1/\q.1<=2147483647/\q.2<=2147483647:=by
 unfold eR at h;obtain⟨⟨k,q⟩,g,h⟩:=zD h;obtain⟨n,a,b,c,e,f⟩:=AZ h;obtain⟨d,j,m⟩:=Zk g;dsimp only at b c;rw[List.nil_append]at a;subst a;refine⟨?_,by omega,e,λq i=>by have:=f q i;exact⟨by omega,this.2⟩⟩;rw[d,c,aZ,<-b];rfl
theorem iW{l:List (Nat×Nat)}(h:Ris l):zY l=l:=by
 match l with
 |[]=>rfl
 |[a]=>rfl
 |[a,b] =>
  have:a.1<b.1:=by simpa [Ris] using h
  have d:¬b.1<a.1:=by omega
  simp[zY,d]
 |a::b::c::r=>rfl
structure Tz(com:Nat)(x:L):Prop where
 gd:1<=x.gd/\x.gd<=2147483647
 ex:x.ex<=2147483647
 place:1<=x.place/\x.place<=com
 got:1<=x.got/\x.got<=2147483647
 cnt:x.free<=2147483647/\x.hd<=2147483647/\x.sh<=2147483647/\x.sc<=2147483647
 plen:x.par.length<=2
 ris:Ris x.par
 par:∀q∈x.par,1<=q.1/\q.1<=2147483647/\q.2<=2147483647
 psum:x.par=[]\/x.got=(x.par.map Prod.snd).sum
theorem Jy{num com:Nat}{x:L}(h:cL num com l=some (x,r)):l=Pl.toldB (cJ x).tail++r/\x.id=num/\x.gv=0/\Tz com x:=by
 unfold cL at h;obtain⟨⟨s,r1⟩,S,h⟩:=zD h;obtain⟨⟨t,r2⟩,i,h⟩:=zD h;obtain⟨⟨u,r3⟩,j,h⟩:=zD h;obtain⟨⟨v,r4⟩,k,h⟩:=zD h;obtain⟨⟨w,r5⟩,m,h⟩:=zD h;obtain⟨⟨y,r6⟩,n,h⟩:=zD h;obtain⟨⟨z,r7⟩,p,h⟩:=zD h;obtain⟨⟨ps,T⟩,q,h⟩:=zD h;obtain⟨⟨c,W⟩,a,h⟩:=zD h;dsimp only at i j k m n p q a h;obtain⟨A,J,c1⟩:=Zk S;obtain⟨B,X,c2⟩:=Zk i;obtain⟨C,K,c3⟩:=Zk j;obtain⟨D,Z,c4⟩:=Zk k;obtain⟨E,b5,N⟩:=Zk m;obtain⟨F,b6,P⟩:=Zk n;obtain⟨G,b7,Q⟩:=Zk p;obtain⟨H,M,g,R⟩:=Gj q;split at h
 ·rename_i d;simp only[Xj,XD]at h;obtain⟨rfl,rfl⟩:=h;have f:T=Pl.toldB (if ps.length=0 then [c] else [])++W:=by
   split at a
   ·rename_i b;rw[xd b,xD a];simp[Pl.toldB]
   rename_i b;rw[xe b];simp only[Xj,XD]at a;rw[a.2];rfl
  refine⟨?_,rfl,rfl,⟨⟨J,c1⟩,c2,⟨K,c3⟩,d,⟨c4,N,P,Q⟩,M,g,R,?_⟩⟩
  ·have e:(cJ ⟨num,s,t,u,c,v,w,y,z,0,ps⟩).tail=[s]++([t]++([u]++([v]++([w]++([y]++([z]++(Uf ps++(if ps.length=0 then [c] else [])))))))):=by
    unfold cJ;dsimp only;rw[iW g];simp
   rw[e,A,B,C,D,E,F,G,H,f];simp only[aZ,XK]
  split at a
  ·rename_i b;exact Or.inl (Xn.1 b)
  simp only[Xj,XD]at a;exact Or.inr a.1.symm
 cases h
def QQ(sl:List (Option L)):Nat:=sl.countP Option.isSome
theorem EK{c:Nat}:∀{k p:Nat} {g d:List (Option L)} {l r:List UInt8},g.length=c->xG c k p g l=some (d,r)->∃xs:List L,xs.length=k/\l=Pl.toldB (xs.flatMap cJ)++r/\xs.Pairwise (λa b=>a.id<b.id) /\
  (∀x∈xs,p<x.id/\x.id<=2147483647/\x.gv=0/\Tz c x/\d[x.place-1]?=some (some x))/\(∀(i:Nat) (y:L),g[i]?=some (some y)->d[i]?=some (some y))/\(∀(i:Nat) (y:L),d[i]?=some (some y)->(y∈xs/\y.place=i+1)\/g[i]?=some (some y))/\d.length=c/\QQ d=QQ g+k
 |0,p,g,d,l,r,hc,h=>by
  simp only[xG,Xj,XD]at h;obtain⟨rfl,rfl⟩:=h;exact⟨[],rfl,by simp[Pl.toldB],by simp,(λx N=>by cases N),(λ_ _ h=>h),(λ_ _ h=>Or.inr h),hc,rfl⟩
 |k+1,p,g,d,l,r,hc,h=>by
  rw[xG]at h;obtain⟨⟨a,T⟩,K,h⟩:=zD h;obtain⟨⟨x,W⟩,w,h⟩:=zD h;dsimp only at w h;obtain⟨A,R,S⟩:=Zk K;obtain⟨B,s,C,t⟩:=Jy w;split at h
  ·rename_i z;have M:=t.place;have f:x.place-1<g.length:=by omega
   have j:g[x.place-1]?=some none:=by
    rw[Ul,xh f]at z;rw[xh f];exact YA some z
   obtain⟨xs,D,E,F,u,v,G,H,J⟩:=EK (by rw[xl];exact hc) h;refine⟨x::xs,by simp[D],?_,?_,λy n=>?_,λi y m=>?_,λi y m=>?_,H,?_⟩
   ·rw[A,B,E,aZ,aZ];congr 2;rw[XU];have:cJ x=x.id::(cJ x).tail:=by unfold cJ;rfl
    rw[this,s];simp
   ·rw[Xq];exact⟨λy n=>by rw[s];exact(u y n).1,F⟩
   ·rcases xx.1 n with rfl|n
    ·refine⟨by omega,by omega,C,t,?_⟩;exact v _ _ (by rw[Xe];simp[f])
    have:=u y n
    exact⟨by omega,this.2⟩
   ·apply v
    rw[Xe];by_cases e:x.place-1=i
    ·rw[<-e,j]at m;cases m
    rw[xe e];exact m
   ·rcases G i y m with ⟨q,Q⟩|q
    ·exact Or.inl ⟨Yx _ q,Q⟩
    rw[Xe]at q;by_cases e:x.place-1=i
    ·rw[xd e,xd f]at q;injection q with q
     injection q with q
     subst q;exact Or.inl ⟨by simp,by omega⟩
    rw[xe e]at q;exact Or.inr q
   rw[J];unfold QQ;rw[List.countP_set f];have P:g[x.place-1]=none:=by rw[xh f]at j;injection j
   rw[P];simp;omega
  cases h
section
variable {ls:List L}
theorem Qo(c:∀i j,i<ls.length->j<ls.length->(ls.getD i L0).id=(ls.getD j L0).id->i=j)(l:L):∀(ps:List (Nat×Nat)) (e:Nat) (g:L->Nat) {H:List L} {d:Nat},Vd l ps e (wg ls g)=some (H,d) ->
  (∀p∈ps,Ur p.1 ls<ls.length/\(zd ls p.1).gd=l.gd/\(zd ls p.1).place<l.place)/\H=wg ls (λx=>g x+(ps.map λp=>if p.1=x.id then p.2 else 0).sum)/\d=ps.foldl (λe p=>min e (zd ls p.1).ex) e:=by
 intro ps;induction ps with
 |nil=>
  intro e g H d h;simp only[Vd,Xj,XD]at h;exact⟨(λp m=>by cases m),by rw[<-h.1];simp,h.2.symm⟩
 |cons p ps ih=>
  intro e g H d h;have t:=h;rw[Vd]at h;split at h
  ·rename_i k;rw[jU,gU]at k;obtain⟨c1,c2,c3⟩:=k;rw[cH g c1]at c2 c3;have b:∀q∈[p],Ur q.1 ls<ls.length/\(zd ls q.1).gd=l.gd/\(zd ls q.1).place<l.place:=λq a=>by
    simp only[Xp]at a;subst a;exact⟨c1,c2,c3⟩
   have f:((wg ls g).getD (Ur p.1 (wg ls g)) L0).ex=(zd ls p.1).ex:=by rw[jU,cH g c1];rfl
   rw[f,jU,Oc c g c1]at h;obtain⟨n,r,s⟩:=ih _ _ h;refine⟨λq a=>?_,?_,?_⟩
   ·rcases xx.1 a with rfl|a
    ·exact b _ (by simp)
    exact n q a
   ·rw[r];congr 1;funext x;rw[List.map_cons,List.sum_cons];omega
   rw[s];rfl
  cases h
structure Tq(ls:List L)(i:Nat):Prop where
 fam:∀p∈(ls.getD i L0).par,Ur p.1 ls<ls.length/\(zd ls p.1).gd=(ls.getD i L0).gd/\(zd ls p.1).place<(ls.getD i L0).place
 exp:(ls.getD i L0).par≠[]->(ls.getD i L0).ex=UB ls (ls.getD i L0).par
theorem Qq(c:∀i j,i<ls.length->j<ls.length->(ls.getD i L0).id=(ls.getD j L0).id->i=j){i:Nat}(b:i<ls.length){H:List L}(h:Ve (wg ls (λx=>Up (ls.take i) x.id)) i=some H):H=wg ls (λx=>Up (ls.take (i+1)) x.id)/\Tq ls i:=by
 have a:∀n,Up (ls.take (i+1)) n=Up (ls.take i) n+Um (ls.getD i L0) n:=λn=>by
  rw[cA (d:=L0) b];simp[Up]
 obtain⟨y,f⟩:∃y,y=(wg ls (λx=>Up (ls.take i) x.id)).getD i L0:=⟨_,rfl⟩
 have u:y.par=zY (ls.getD i L0).par:=by rw[f,cH _ b];rfl
 have v:y.ex=(ls.getD i L0).ex:=by rw[f,cH _ b];rfl
 have w:y.gd=(ls.getD i L0).gd:=by rw[f,cH _ b];rfl
 have z:y.place=(ls.getD i L0).place:=by rw[f,cH _ b];rfl
 unfold Ve at h;rw[<-f,u,v]at h;split at h
 ·rename_i g;have e:(ls.getD i L0).par=[]:=by rw[aG]at g;exact Xn.1 g
  simp only[Xj]at h;refine⟨?_,⟨λp k=>(by rw[e]at k;cases k),λq=>absurd e q⟩⟩;rw[<-h];congr 1;funext x;rw[a];unfold Um;rw[e];rfl
 rename_i g;obtain⟨⟨A,B⟩,l,h⟩:=zD h;dsimp only at h;split at h
 ·rename_i m;simp only[Xj]at h;subst h;obtain⟨r,s,t⟩:=Qo c _ _ _ _ l;refine⟨?_,⟨λp e=>?_,λ_=>?_⟩⟩
  ·rw[s];congr 1;funext x;rw[a,Ag];rfl
  ·have:=r p (iV.2 e)
   rw[w,z]at this;exact this
  rw[m,t];exact Ev (ls:=ls) (ls.getD i L0).par
 cases h
theorem Kw(a:∀i j,i<ls.length->j<ls.length->(ls.getD i L0).id=(ls.getD j L0).id->i=j):∀(k i:Nat) {H:List L},i+k=ls.length->Vc k i (wg ls (λx=>Up (ls.take i) x.id))=some H->H=wg ls (λx=>Up ls x.id)/\∀j,i<=j->j<ls.length->Tq ls j
 |0,i,H,hk,h=>by
  simp only[Vc,Xj]at h;rw[Xh (by omega)]at h;exact⟨h.symm,λj c p=>by omega⟩
 |k+1,i,H,hk,h=>by
  rw[Vc]at h;obtain⟨n,c,h⟩:=zD h;obtain⟨d,f⟩:=Qq a (by omega) c;rw[d]at h;obtain⟨g,l⟩:=Kw a k (i+1) (by omega) h;refine⟨g,λj m b=>?_⟩;by_cases e:j=i
  ·subst e;exact f
  exact l j (by omega) b
end
structure TB(ls:List L):Prop where
 room:ls.length<=30
 ids:∀i j,i<ls.length->j<ls.length->(ls.getD i L0).id=(ls.getD j L0).id->i=j
 place:∀i,i<ls.length->(ls.getD i L0).place=i+1
 id:∀i,i<ls.length->1<=(ls.getD i L0).id/\(ls.getD i L0).id<=2147483647
 one:∀i,i<ls.length->Tz ls.length (ls.getD i L0)
 fam:∀i,i<ls.length->Tq ls i
 giv:∀i,i<ls.length->(ls.getD i L0).gv=Up ls (ls.getD i L0).id
theorem Gi{ls:List L}(h:cF l=some (ls,r)):l=Pl.toldB (ls.length::ls.length::UT ls)++r/\TB ls:=by
 unfold cF at h;obtain⟨⟨c,r1⟩,h1,h⟩:=zD h;obtain⟨⟨d,r2⟩,h2,h⟩:=zD h;dsimp only at h2 h;split at h
 ·rename_i a0;subst a0;obtain⟨⟨D,r3⟩,h3,h⟩:=zD h;obtain⟨f,W,h⟩:=zD h;dsimp only at W h;simp only[Option.some.injEq,Prod.mk.injEq]at h;obtain⟨rfl,rfl⟩:=h;obtain⟨a1,a2,a3⟩:=Zk h1;have b1:=xD h2;obtain⟨xs,e1,e2,e3,H,e5,e6,e7,e8⟩:=EK (by simp) h3;have hz:QQ (List.replicate d none)=0:=by simp[QQ]
  rw[hz,Yu]at e8;have M:∀o∈D,o.isSome=true:=by
   have:D.countP Option.isSome=D.length:=by rw[e7];exact e8
   exact List.countP_eq_length.1 this
  have a8:∀i,i<d->∃y,D[i]?=some (some y)/\y∈xs/\y.place=i+1:=λi s=>by
   have N:i<D.length:=by omega
   have:=M D[i] (yb N)
   cases hq:D[i] with
   |none=>rw[hq]at this;cases this
   |some y=>
    have hy:D[i]?=some (some y):=by rw[xh N,hq]
    rcases e6 i y hy with q|q
    ·exact⟨y,hy,q.1,q.2⟩
    rw[xas]at q;split at q<;>cases q
  obtain⟨g,C⟩:∃g,g=D.map (λo=>o.getD L0):=⟨_,rfl⟩
  rw[<-C]at W;have F:g.length=d:=by rw[C,Xl];exact e7
  have m:∀i,i<d->g.getD i L0∈xs/\(g.getD i L0).place=i+1:=λi s=>by
   obtain⟨y,y1,y2,y3⟩:=a8 i s;have:g.getD i L0=y:=by rw[C,Ul,xaf,y1];rfl
   rw[this];exact⟨y2,y3⟩
  have Q:∀x∈xs,g.getD (x.place-1) L0=x/\x.place-1<d:=λx S=>by
   have:=H x S
   have J:=this.2.2.2.1.place;exact⟨by rw[C,Ul,xaf,this.2.2.2.2];rfl,by omega⟩
  have P:∀a∈xs,∀b∈xs,a.id=b.id->a=b:=λa ha b hb E=>by
   obtain⟨i,s,rfl⟩:=xt ha;obtain⟨j,B,rfl⟩:=xt hb;rcases Nat.lt_trichotomy i j with q|q|q
   ·have:=Xz.1 e3 i j s B q;omega
   ·subst q;rfl
   have:=Xz.1 e3 j i B s q;omega
  have w:∀i j,i<g.length->j<g.length->(g.getD i L0).id=(g.getD j L0).id->i=j:=λi j s B E=>by
   have p1:=m i (by omega);have p2:=m j (by omega);have:=P _ p1.1 _ p2.1 E;have e:=p1.2;rw[this,p2.2]at e;omega
  have A:∀i,i<d->kap (g.getD i L0)=g.getD i L0:=λi s=>by
   have:=(H _ (m i s).1).2.2.2.1.ris
   unfold kap;rw[iW this]
  have a9:wg g (λx=>Up (g.take 0) x.id)=g:=by
   apply Yj
   intro i;by_cases s:i<d
   ·have X:(wg g (λx=>Up (g.take 0) x.id))[i]?=some ((wg g (λx=>Up (g.take 0) x.id)).getD i L0):=by
     rw[Ul,xh (by rw[gU];omega)];rfl
    have Z:g[i]?=some (g.getD i L0):=by rw[Ul,xh (by omega)];rfl
    rw[X,Z,cH _ (by omega),A i s];have hg:=(H _ (m i s).1).2.2.1;congr 1;generalize g.getD i L0=y at hg
    cases y;simp only at hg
    subst hg;rfl
   rw[Xo (by rw[gU];omega),Xo (by omega)]
  rw[<-a9]at W;obtain⟨T,f2⟩:=Kw w d 0 (by omega) W;have t:f.length=d:=by rw[T,gU,F]
  have k:∀i,i<d->f.getD i L0={ g.getD i L0 with gv:=Up g (g.getD i L0).id }:=λi s=>by
   rw[T,cH _ (by omega),A i s]
  have z:∀n,Ur n f=Ur n g:=λn=>by rw[T,jU]
  have v:∀n,(zd f n).gd=(zd g n).gd/\(zd f n).place=(zd g n).place/\(zd f n).ex=(zd g n).ex:=λn=>by
   unfold zd;rw[z];rcases YD (Ur n g) d with q|q
   ·rw[k _ q];exact⟨rfl,rfl,rfl⟩
   have z1:f.getD (Ur n g) L0=L0:=by rw[Ul,Xo (by omega)];rfl
   have z2:g.getD (Ur n g) L0=L0:=by rw[Ul,Xo (by omega)];rfl
   rw[z1,z2];exact⟨rfl,rfl,rfl⟩
  have a6:∀ps,UB f ps=UB g ps:=λps=>by
   unfold UB;congr 1;funext e p;rw[(v p.1).2.2]
  have a4:∀n,Up f n=Up g n:=λn=>by
   rw[T];unfold Up wg;rw[Ya];congr 1;apply XE;intro x S;obtain⟨j,B,rfl⟩:=xt S;have e:g.getD j L0=g[j]:=by simp[Ul,B]
   have hk:=A j (by omega);rw[e]at hk;show Um { kap g[j] with gv:=_ } n=Um g[j] n;rw[hk];rfl
  have R:UT f=xs.flatMap cJ:=by
   have G:∀i j,i<f.length->j<f.length->(f.getD i L0).id=(f.getD j L0).id->i=j:=λi j s B E=>by
    rw[k i (by omega),k j (by omega)]at E;exact w i j (by omega) (by omega) E
   obtain⟨q1,q2⟩:=bI (x:=λi=>(f.getD i L0).id) G (f.length+1) 0 (by have:=fE (λi=>(f.getD i L0).id) 0 f.length;omega);unfold UT;have u:∀i,i∈Zy (λi=>(f.getD i L0).id) f.length (f.length+1) 0↔i<d:=λi=>by
    rw[q2,t];refine⟨λh=>h.1,λh=>⟨h,?_⟩⟩;show 0<(f.getD i L0).id;rw[k i h];have:=(H _ (m i h).1).1;exact this
   have a5:∀i∈Zy (λi=>(f.getD i L0).id) f.length (f.length+1) 0,cJ (f.getD i L0)=cJ (g.getD i L0):=λi s=>by
    rw[k i ((u i).1 s)];rfl
   have a7:(Zy (λi=>(f.getD i L0).id) f.length (f.length+1) 0).map (λi=>g.getD i L0)=xs:=by
    refine nX (lt:=λa b:L=>a.id<b.id) (λa=>Yf _) (λa b c=>xbF) ?_ e3 (λx=>?_)
    ·rw[yi];refine q1.imp_of_mem (λ{a b} ha hb hab=>?_);have:=hab;rw[k a ((u a).1 ha),k b ((u b).1 hb)]at this;exact this
    rw[Xg];constructor
    ·rintro⟨i,s,rfl⟩;exact(m i ((u i).1 s)).1
    intro S;obtain⟨z1,z2⟩:=Q x S;exact⟨x.place-1,(u _).2 z2,z1⟩
   rw[<-a7,xaM];have:∀(K:List Nat),(∀i∈K,cJ (f.getD i L0)=cJ (g.getD i L0))->K.flatMap (λi=>cJ (f.getD i L0))=K.flatMap (λi=>cJ (g.getD i L0)):=λK=>by
    induction K with
    |nil=>intro _;rfl
    |cons i K ih=>
     intro hh;rw[XU,XU,hh i (by simp),ih (λj B=>hh j (by simp[B]))]
   exact this _ a5
  refine⟨?_,⟨by omega,λi j s B E=>?_,λi s=>?_,λi s=>?_,λi s=>?_,λi s=>?_,λi s=>?_⟩⟩
  ·rw[a1,b1,e2,R,t];simp[Pl.toldB]
  ·rw[k i (by omega),k j (by omega)]at E;exact w i j (by omega) (by omega) E
  ·rw[k i (by omega)];exact(m i (by omega)).2
  ·rw[k i (by omega)];have:=H _ (m i (by omega)).1;exact⟨this.1,this.2.1⟩
  ·rw[k i (by omega),t];have:=(H _ (m i (by omega)).1).2.2.2.1;exact⟨this.gd,this.ex,this.place,this.got,this.cnt,this.plen,this.ris,this.par,this.psum⟩
  ·have hf:=f2 i (by omega) (by omega);refine⟨λp J=>?_,λJ=>?_⟩
   ·rw[k i (by omega)]at J;have:=hf.fam p J;rw[z,(v p.1).1,(v p.1).2.1,k i (by omega),t];rw[F]at this;exact this
   rw[k i (by omega)]at J ⊢;rw[a6];exact hf.exp J
  rw[a4,k i (by omega)]
 cases h
variable {os:List O}
section
variable {ls:List L}
theorem EI{g:Nat}:∀{k p:Nat} {b ps:List (Nat×Nat)} {l r:List UInt8},rQ ls g k p b l=some (ps,r)->∃d,ps=b++d/\d.length=k/\l=Pl.toldB (d.flatMap (λp=>[p.1,p.2]))++r/\Ris d/\∀q∈d,p<q.1/\q.1<=2147483647/\1<=q.2/\q.2<=2147483647/\Ur q.1 ls<ls.length/\(zd ls q.1).gd=g
 |0,p,b,ps,l,r,h=>by
  simp only[rQ,Xj,XD]at h;obtain⟨rfl,rfl⟩:=h;exact⟨[],by simp,rfl,by simp[Pl.toldB],by simp[Ris],λq c=>by cases c⟩
 |k+1,p,b,ps,l,r,h=>by
  rw[rQ]at h;obtain⟨⟨a,A⟩,v,h⟩:=zD h;dsimp only at h;split at h
  ·rename_i j;obtain⟨⟨u,B⟩,w,h⟩:=zD h;obtain⟨d,f,s,i,t,e⟩:=EI h;obtain⟨m,z,n⟩:=Zk v;obtain⟨c1,c2,c3⟩:=Zk w;dsimp only at c1 f i e;refine⟨(a,u)::d,by rw[f];simp,by simp[s],?_,?_,λq c=>?_⟩
   ·rw[m,c1,i,aZ,aZ];rfl
   ·unfold Ris;rw[List.map_cons,Xq];refine⟨λx y=>?_,t⟩;obtain⟨q,c,rfl⟩:=Xg.1 y;exact(e q c).1
   rcases xx.1 c with rfl|c
   ·exact⟨by show p<a;omega,n,c2,c3,j.1,j.2⟩
   have:=e q c
   exact⟨by omega,this.2⟩
  cases h
theorem nV{l:List (Nat×Nat)}(h:Ris l):l.Pairwise (λa b=>bG a b=true):=by
 unfold Ris at h;rw[yi]at h;exact h.imp (λh=>by simp only[bG,Yy,Xu];exact Or.inl h)
theorem nU{l:List (Nat×Nat)}(h:Ris l):(l.map Prod.fst).Nodup:=h.imp (λh e=>by rw[e]at h;exact Yf _ h)
theorem gY{l:List (Nat×Nat)}(h:l.Pairwise (λa b=>bG a b=true)):cT l=l:=by
 have c:l.Nodup:=h.imp (λh e=>by rw[e]at h;exact gI _ h);obtain⟨d,f⟩:=ZL c;exact nX (lt:=λa b=>bG a b=true) gI CZ d h f
structure SR(ls:List L)(o:O):Prop where
 id:o.id<=2147483647
 gd:1<=o.gd/\o.gd<=2147483647
 len:1<=o.li.length/\o.li.length<=30
 ris:Ris o.li
 line:∀q∈o.li,1<=q.1/\q.1<=2147483647/\1<=q.2/\q.2<=2147483647/\Ur q.1 ls<ls.length/\(zd ls q.1).gd=o.gd
theorem EL:∀{k p:Nat} {c os:List O} {l r:List UInt8},yD ls k p c l=some (os,r)->∃xs:List O,os=c++xs/\xs.length=k/\l=Pl.toldB (xs.flatMap cZ)++r/\xs.Pairwise (λa b=>a.id<b.id)/\∀o∈xs,p<o.id/\SR ls o
 |0,p,c,os,l,r,h=>by
  simp only[yD,Xj,XD]at h;obtain⟨rfl,rfl⟩:=h;exact⟨[],by simp,rfl,by simp[Pl.toldB],by simp,λq m=>by cases m⟩
 |k+1,p,c,os,l,r,h=>by
  rw[yD]at h;obtain⟨⟨a,N⟩,G,h⟩:=zD h;obtain⟨⟨g,P⟩,v,h⟩:=zD h;obtain⟨⟨i,Q⟩,f,h⟩:=zD h;dsimp only at v f h;unfold Z9 at f;obtain⟨⟨n,R⟩,H,f⟩:=zD f;dsimp only at f;obtain⟨xs,z,A,B,C,s⟩:=EL h;obtain⟨S,t,D,E,u,F⟩:=EI f;obtain⟨w,J,x⟩:=Zk G;obtain⟨c1,c2,c3⟩:=Zk v;obtain⟨y,K,M⟩:=Zk H;rw[List.nil_append]at t;subst t;have j:SR ls ⟨a,g,i⟩:=⟨x,⟨c2,c3⟩,⟨by show 1<=i.length;omega,by show i.length<=30;omega⟩,u,λq m=>by have:=F q m;exact⟨by omega,this.2⟩⟩
  refine⟨⟨a,g,i⟩::xs,by rw[z];simp,by simp[A],?_,?_,λo d=>?_⟩
  ·have e:cZ ⟨a,g,i⟩=[a]++([g]++([n]++i.flatMap (λp=>[p.1,p.2]))):=by
    unfold cZ Uf;dsimp only;rw[gY (nV u),D];rfl
   rw[w,c1,y,E,B,XU,e];simp only[aZ,XK]
  ·rw[Xq];exact⟨λo j=>(s o j).1,C⟩
  rcases xx.1 d with rfl|d
  ·exact⟨by show p<a;omega,j⟩
  have:=s o d
  exact⟨by omega,this.2⟩
theorem RE(l:os.Pairwise (λa b=>a.id<b.id))(m:∀o∈os,1<=o.id)(q:∀o∈os,Ris o.li):UF os=os/\UV os=os.flatMap cZ:=by
 have n:(os.map O.id).Nodup:=by
  rw[yc,yi];exact l.imp (λh=>by omega)
 obtain⟨s,t⟩:=bI (x:=λi=>(os.getD i O0).id) (qM n) (os.length+1) 0 (by have:=fE (λi=>(os.getD i O0).id) 0 os.length;omega);have d:∀i,i∈Zy (λi=>(os.getD i O0).id) os.length (os.length+1) 0↔i<os.length:=λi=>by
  rw[t];exact⟨λh=>h.1,λh=>⟨h,m _ (Ik h)⟩⟩
 have k:(Zy (λi=>(os.getD i O0).id) os.length (os.length+1) 0).map (λi=>os.getD i O0)=os:=by
  refine nX (lt:=λa b:O=>a.id<b.id) (λa=>Yf _) (λa b c=>xbF) ?_ l (λx=>?_)
  ·rw[yi];exact s
  rw[Xg];constructor
  ·rintro⟨i,j,rfl⟩;exact Ik ((d i).1 j)
  intro r;obtain⟨i,j,rfl⟩:=xt r;exact⟨i,(d i).2 j,by simp[Ul,j]⟩
 constructor
 ·unfold UF;have e:(Zy (λi=>(os.getD i O0).id) os.length (os.length+1) 0).map (λi=>UP (os.getD i O0))=((Zy (λi=>(os.getD i O0).id) os.length (os.length+1) 0).map (λi=>os.getD i O0)).map UP:=by rw[Ya];rfl
  rw[e,k];have:os.map UP=os.map id:=XE (λo p=>by
   unfold UP;rw[gY (nV (q o p))];rfl)
  rw[this,xau]
 unfold UV;rw[<-xaM (f:=λi=>os.getD i O0) (g:=cZ),k]
theorem EM:∀{k:Nat} {a:Nat×Nat} {c ps:List (Nat×Nat)} {l r:List UInt8},Dd ls k a c l=some (ps,r)->∃e,ps=c++e/\e.length=k/\l=Pl.toldB (e.flatMap (λp=>[p.1,p.2]))++r/\(a::e).Pairwise (λa b=>bG a b=true)/\∀q∈e,1<=q.1/\q.1<=2147483647/\1<=q.2/\q.2<=2147483647/\Ur q.1 ls<ls.length
 |0,a,c,ps,l,r,h=>by
  simp only[Dd,Xj,XD]at h;obtain⟨rfl,rfl⟩:=h;exact⟨[],by simp,rfl,by simp[Pl.toldB],by simp,λq d=>by cases d⟩
 |k+1,a,c,ps,l,r,h=>by
  rw[Dd]at h;obtain⟨⟨x,z⟩,w,h⟩:=zD h;obtain⟨⟨y,A⟩,i,h⟩:=zD h;dsimp only at i h;split at h
  ·rename_i f;obtain⟨e,s,t,u,g,v⟩:=EM h;obtain⟨j,m,n⟩:=Zk w;obtain⟨c1,c2,c3⟩:=Zk i;refine⟨(x,y)::e,by rw[s];simp,by simp[t],?_,?_,λq d=>?_⟩
   ·rw[j,c1,u,aZ,aZ];rfl
   ·rw[Xq];refine⟨λq d=>?_,g⟩;rcases xx.1 d with rfl|d
    ·exact f.1
    exact CZ _ _ _ f.1 ((Xq.1 g).1 q d)
   rcases xx.1 d with rfl|d
   ·exact⟨m,n,c2,c3,f.2⟩
   exact v q d
  cases h
end
structure Tu(td:Nat)(os:List O)(rcs:List (Nat×Nat))(ls:List L):Prop where
 td:td<=2147483647
 ok:∀l∈ls,L.Ok l
 room:ls.length<=30
 good:Good os ls
 snd:Snd os rcs ls
 rc:Rc rcs
 sml:TH os ls
 kap:ls.map kap=ls
 os:UF os=os
 rcs:cT rcs=rcs
theorem lI{b:List UInt8}{td:Nat}{ls:List L}{rcs:List (Nat×Nat)}(h:zH b=some (td,ls,os,rcs)):Tu td os rcs ls/\b=US td os rcs ls:=by
 cases b with
 |nil=>cases h
 |cons c r0=>
  unfold zH at h;dsimp only at h;split at h
  ·rename_i hc;subst hc;obtain⟨⟨a0,r1⟩,h1,h⟩:=zD h;obtain⟨⟨ls',r2⟩,M,h⟩:=zD h;obtain⟨⟨os',r3⟩,w,h⟩:=zD h;obtain⟨⟨C,r4⟩,x,h⟩:=zD h;dsimp only at M w x h;split at h
   ·rename_i E;simp only[Option.some.injEq,Prod.mk.injEq]at h;obtain⟨rfl,rfl,rfl,rfl⟩:=h;obtain⟨S,a2,T⟩:=Zk h1;obtain⟨W,f⟩:=Gi M;unfold ZR at w;obtain⟨⟨ko,r5⟩,h5,w⟩:=zD w;dsimp only at w;obtain⟨c1,c2,c3⟩:=Zk h5;obtain⟨xs,G,Z,e3,H,t⟩:=EL w;rw[List.nil_append]at G;subst G;unfold dX at x;obtain⟨⟨kr,r6⟩,h6,x⟩:=zD x;dsimp only at x;obtain⟨X,d2,d3⟩:=Zk h6;obtain⟨qs,J,K,f3,f4,D⟩:=EM x;rw[List.nil_append]at J;subst J;obtain⟨F,y⟩:=E;subst F;have m:=(List.pairwise_cons.1 f4).2;obtain⟨o1,o2⟩:=RE H (λo g=>by have:=(t o g).1;omega) (λo g=>(t o g).2.ris);have s:∀i,i<ls'.length->(ls'.getD i L0).got=(ls'.getD i L0).free+(ls'.getD i L0).hd+(ls'.getD i L0).sh+(ls'.getD i L0).sc+(ls'.getD i L0).gv/\(ls'.getD i L0).hd=zG os' (ls'.getD i L0).id:=λi r=>by
     have:=YF.1 y _ (zg r)
     unfold TP at this;rw[Xs,Xu,Xu]at this;exact this
    have v:(os'.map O.id).Nodup:=by
     rw[yc,yi];exact H.imp (λh=>by omega)
    have z:∀n,Ur n ls'<ls'.length->(ls'.getD (Ur n ls') L0).id=n:=λn hn=>Z6 hn
    have u:Good os' ls':=⟨f.ids,f.place,v,λo g=>(t o g).2.id,by omega,λo g=>nU (t o g).2.ris,λo g p a=>⟨Ur p.1 ls',((t o g).2.line p a).2.2.2.2.1,z _ ((t o g).2.line p a).2.2.2.2.1⟩,λi r=>(s i r).2⟩
    have N:∀j,j<ls'.length->Ur (ls'.getD j L0).id ls'=j:=λj q=>eG q (λk hk e=>by have:=f.ids k j (by omega) q e;omega) rfl
    have B:Snd os' C ls':=by
     refine⟨λi r=>?_,λi r p a=>?_,λi r a=>(f.fam i r).exp a,f.giv,λo g=>?_,λp a=>?_⟩
     ·have d:=f.one i r;exact⟨(f.id i r).1,d.gd.1,d.got.1,(s i r).1,nU d.ris,λp a=>(d.par p a).2.2,d.psum⟩
     ·obtain⟨P,Q,R⟩:=(f.fam i r).fam p a;unfold zd at Q R;refine⟨Ur p.1 ls',?_,z _ P,Q⟩;rw[f.place _ P,f.place i r]at R;omega
     ·have d:=(t o g).2;refine⟨d.gd.1,λe=>?_,λp a=>⟨(d.line p a).2.2.1,(d.line p a).2.2.2.2.2⟩⟩;have:=d.len.1;rw[e]at this;exact absurd this (by simp)
     have:=D p a
     exact⟨this.1,this.2.2.1,this.2.2.2.2⟩
    refine⟨⟨T,λl A=>?_,f.room,u,B,⟨m.imp (λh e=>by rw[e]at h;exact gI _ h),by omega,λp a=>⟨(D p a).2.1,(D p a).2.2.2.1⟩⟩,⟨λl A=>?_,λo g=>⟨by have:=(t o g).1;omega,(t o g).2.gd.2⟩⟩,?_,o1,gY m⟩,?_⟩
    ·obtain⟨j,q,rfl⟩:=xt A;have e:ls'.getD j L0=ls'[j]:=by simp[Ul,q]
     rw[<-e];have d:=f.one j q;have hs:=(s j q).1;have hr:=f.room;have:=d.place;have:=d.got;exact⟨(f.id j q).2,d.gd.2,d.ex,by omega,by omega,d.got.2,d.plen,λp a=>(d.par p a).2.1⟩
    ·obtain⟨j,q,rfl⟩:=xt A;have e:ls'.getD j L0=ls'[j]:=by simp[Ul,q]
     rw[<-e];exact⟨(f.id j q).1,λp a=>((f.one j q).par p a).2.2⟩
    ·have:ls'.map kap=ls'.map id:=XE (λl A=>by
      obtain⟨j,q,rfl⟩:=xt A;have e:ls'.getD j L0=ls'[j]:=by simp[Ul,q]
      rw[<-e];unfold kap;rw[iW (f.one j q).ris];rfl)
     rw[this,xau]
    unfold US UU;rw[S,W,c1,e3,X,f3,o2,<-Z,<-K,gY m];unfold Uf;rw[K];congr 1;simp[Pl.toldB]
   cases h
  cases h
theorem xY{a:List Nat}(h:n<=a.length)(b:Bool):Vm (n::a,b)=(n,(a,b)):=by
 show(if a.length<n then _ else _)=_;rw[xe (by omega)];rfl
theorem EX(ps:List (Nat×Nat))(c:List Nat)(b:Bool):∀k,k<=ps.length->Vl (ps.flatMap (λp=>[p.1,p.2])++c,b) k=(ps.take k,((ps.drop k).flatMap (λp=>[p.1,p.2])++c,b))
 |0,_=>by simp[Vl]
 |k+1,hk=>by
  have a:k<ps.length:=by omega
  rw[Vl,EX ps c b k (by omega),xao a,xk a];rfl
theorem fS(ps:List (Nat×Nat)):(ps.flatMap (λp=>[p.1,p.2])).length=2*ps.length:=by
 induction ps with
 |nil=>rfl
 |cons p ps ih=>rw[XU,xb,ih];simp;omega
theorem rI(ps:List (Nat×Nat))(a:List Nat)(b:Bool):jS (Uf ps++a,b)=(ps,(a,b)):=by
 unfold jS Uf;rw[XF,xY (by rw[xb,fS];omega)];show Vl (ps.flatMap (λp=>[p.1,p.2])++a,b) ps.length=_;rw[EX ps a b ps.length (xc _)];simp
def UJ(x:L):L:={ x with got:=if x.par.length=0 then x.got else 0,gv:=0 }
theorem Nl{x:L}(g:Ris x.par)(a:List Nat)(b:Bool):Vj (cJ x++a,b)=UJ x/\(Vh (cJ x++a,b)).2=(a,b):=by
 have e:cJ x++a=x.id::x.gd::x.ex::x.place::x.free::x.hd::x.sh::x.sc::(Uf x.par++((if x.par.length=0 then [x.got] else [])++a)):=by
  unfold cJ;rw[iW g];simp
 rw[e];generalize f:(Uf x.par++((if x.par.length=0 then [x.got] else [])++a))=R;have hF:Vg (x.id::x.gd::x.ex::x.place::x.free::x.hd::x.sh::x.sc::R,b)=(x.par,((if x.par.length=0 then [x.got] else [])++a,b)):=by
  show jS (R,b)=_;rw[<-f];exact rI _ _ _
 have d:Vh (x.id::x.gd::x.ex::x.place::x.free::x.hd::x.sh::x.sc::R,b)=(if x.par.length=0 then x.got else 0,(a,b)):=by
  unfold Vh;rw[hF];dsimp only;by_cases c:x.par.length=0
  ·rw[xd c,xd c,xd c];rfl
  rw[xe c,xe c,xe c];rfl
 refine⟨?_,by rw[d]⟩;unfold Vj;rw[d,hF];rfl
theorem BC(xs:List L)(d:∀x∈xs,Ris x.par)(c:List Nat)(b:Bool):∀k,k<=xs.length->eV (xs.flatMap cJ++c,b) k=((xs.take k).map UJ,((xs.drop k).flatMap cJ++c,b))
 |0,_=>by simp[eV]
 |k+1,hk=>by
  have a:k<xs.length:=by omega
  rw[eV,BC xs d c b k (by omega),List.drop_eq_getElem_cons a,List.take_succ_eq_append_getElem a,List.flatMap_cons,List.append_assoc];obtain⟨e,f⟩:=Nl (d _ (List.getElem_mem a)) ((xs.drop (k+1)).flatMap cJ++c) b;dsimp only;rw[e,f,List.map_append];rfl
theorem Nn{o:O}(c:Ris o.li)(a:List Nat)(b:Bool):Vk (cZ o++a,b)=(o,(a,b)):=by
 have e:cZ o++a=o.id::o.gd::(Uf o.li++a):=by
  unfold cZ;rw[gY (nV c)];simp
 rw[e];show((⟨o.id,o.gd,(jS (Uf o.li++a,b)).1⟩:O),(jS (Uf o.li++a,b)).2)=_;rw[rI]
theorem BD(xs:List O)(d:∀x∈xs,Ris x.li)(c:List Nat)(b:Bool):∀k,k<=xs.length->gK (xs.flatMap cZ++c,b) k=(xs.take k,((xs.drop k).flatMap cZ++c,b))
 |0,_=>by simp[gK]
 |k+1,hk=>by
  have a:k<xs.length:=by omega
  rw[gK,BD xs d c b k (by omega),List.drop_eq_getElem_cons a,List.take_succ_eq_append_getElem a,List.flatMap_cons,List.append_assoc];dsimp only;rw[Nn (d _ (List.getElem_mem a))]
theorem Ci{α:Type}(f:α->List Nat)(a:∀x,1<=(f x).length):∀l:List α,l.length<=(l.flatMap f).length
 |[]=>xc _
 |x::l=>by
  have:=Ci f a l
  have:=a x
  rw[XU,xb,List.length_cons];omega
def nA(ls:List L):List L:=(Zy (λi=>(ls.getD i L0).id) ls.length (ls.length+1) 0).map (λi=>ls.getD i L0)
theorem Bq(ls:List L):UT ls=(nA ls).flatMap cJ:=by unfold UT nA;rw[xaM]
theorem tZ{ls:List L}(a:∀i j,i<ls.length->j<ls.length->(ls.getD i L0).id=(ls.getD j L0).id->i=j)(b:∀i,i<ls.length->1<=(ls.getD i L0).id):(nA ls).Perm ls:=by
 have:=(vN (x:=λi=>(ls.getD i L0).id) a b).map (λi=>ls.getD i L0)
 have e:=qT (λx:L=>x) L0 ls;rw[List.map_id']at e;rw[e]at this;exact this
theorem Np{td:Nat}{rcs:List (Nat×Nat)}{ls:List L}(a:(nA ls).length=ls.length)(g:∀x∈nA ls,Ris x.par)(c:UV os=os.flatMap cZ)(b:∀o∈os,Ris o.li)(d:cT rcs=rcs):Vo (UU td os rcs ls)=⟨td,ls.length,ls.length,(nA ls).map UJ,os,rcs,([],false)⟩:=by
 have e:UU td os rcs ls=td::ls.length::ls.length::((nA ls).flatMap cJ++(os.length::(os.flatMap cZ++(Uf rcs++[])))):=by
  unfold UU;rw[Bq,c,d];simp
 have h:∀x:L,1<=(cJ x).length:=λx=>by unfold cJ;simp
 have i:∀x:O,1<=(cZ x).length:=λx=>by unfold cZ;simp
 have l:=Ci cJ h (nA ls);have g2:=Ci cZ i os;have s1:Vm (ls.length::((nA ls).flatMap cJ++(os.length::(os.flatMap cZ++(Uf rcs++[])))),false)=(ls.length,((nA ls).flatMap cJ++(os.length::(os.flatMap cZ++(Uf rcs++[]))),false)):=xY (by rw[List.length_append];omega) false;have s2:=BC (nA ls) g (os.length::(os.flatMap cZ++(Uf rcs++[]))) false (nA ls).length (Nat.le_refl _);have j:Vm (os.length::(os.flatMap cZ++(Uf rcs++[])),false)=(os.length,(os.flatMap cZ++(Uf rcs++[]),false)):=xY (by rw[List.length_append];omega) false;have f:=BD os b (Uf rcs++[]) false os.length (Nat.le_refl _);have k:=rI rcs [] false;rw[a,List.take_of_length_le (by omega),List.drop_of_length_le (by omega)]at s2;rw[List.take_length,List.drop_length]at f;rw[List.flatMap_nil,List.nil_append]at s2 f;rw[e];unfold Vo;show TO.mk td ls.length _ _ _ _ _=_;dsimp only[Vf];rw[s1];dsimp only;rw[s2];dsimp only;rw[j];dsimp only;rw[f];dsimp only;rw[k]
def UH(l:List L)(k:Nat):List L:=(List.range k).flatMap (λq=>l.filter (λx=>x.place==q+1))
def UG(l:List L):Prop:=∀q,q<l.length->(l.filter (λx=>x.place==q+1)).length=1
theorem MN{l ls:List L}(m:l.Perm (ls.map UJ))(u:ls.Nodup)(b:∀i,i<ls.length->(ls.getD i L0).place=i+1):UG l/\UH l l.length=ls.map UJ:=by
 have a:l.length=ls.length:=by rw[m.length_eq,Xl]
 have g:∀q,q<ls.length->l.filter (λx=>x.place==q+1)=[UJ (ls.getD q L0)]:=λq f=>by
  have n:=m.filter (λx=>x.place==q+1);have p:((ls.map UJ).filter (λx=>x.place==q+1)).Perm [UJ (ls.getD q L0)]:=by
   rw[xbM];have r:(ls.filter ((λx=>x.place==q+1)∘UJ)).Perm [ls.getD q L0]:=by
    refine(YH (u.filter _) (by simp)).2 (λx=>?_);rw[XW,Xp];constructor
    ·rintro⟨v,t⟩;obtain⟨j,h,rfl⟩:=xt v;have e:ls.getD j L0=ls[j]:=by simp[Ul,h]
     have s:=b j h;have c:ls[j].place=q+1:=by simpa [UJ] using t
     rw[e,c]at s;have:j=q:=by omega
     subst this;exact e.symm
    rintro rfl;exact⟨zg f,by show((ls.getD q L0).place==q+1)=true;rw[b q f];simp⟩
   exact r.map UJ
  exact List.perm_singleton.1 (n.trans p)
 constructor
 ·intro q f;rw[g q (by omega)];rfl
 unfold UH;rw[a];have:∀k,k<=ls.length->(List.range k).flatMap (λq=>l.filter (λx=>x.place==q+1))=(ls.take k).map UJ:=λk=>by
  induction k with
  |zero=>intro _;simp
  |succ k ih=>
   intro w;rw[Yz,Yo,ih (by omega),cA (d:=L0) (show k<ls.length by omega)];simp[g k (by omega)]
 rw[this _ (xc _),Xa]
theorem CY{l:List L}(h:UG l):∀k,k<=l.length->(UH l k).length=k/\∀i,i<k->(UH l k).getD i L0∈l/\((UH l k).getD i L0).place=i+1
 |0,_=>⟨rfl,λi m=>by omega⟩
 |k+1,hk=>by
  obtain⟨d,g⟩:=CY h k (by omega);have j:=h k (by omega);have e:UH l (k+1)=UH l k++l.filter (λx=>x.place==k+1):=by unfold UH;rw[Yz,Yo];simp
  obtain⟨y,f⟩:=List.length_eq_one_iff.1 j;have a:y∈l.filter (λx=>x.place==k+1):=by rw[f];simp
  rw[XW]at a;rw[e,f];refine⟨by rw[xb,d];rfl,λi m=>?_⟩;by_cases c:i<k
  ·have:(UH l k++[y]).getD i L0=(UH l k).getD i L0:=by rw[Ul,Ul,Xk (by omega)]
   rw[this];exact g i c
  have b:i=k:=by omega
  subst b;have:(UH l i++[y]).getD i L0=y:=by rw[Ul,ya (by omega),d];simp
  rw[this];exact⟨a.1,by simpa using a.2⟩
def wq(ls:List L)(g q:L->Nat):List L:=ls.map λx=>{ x with gv:=g x,got:=q x }
section
variable {ls:List L}
theorem jV(g q:L->Nat):(wq ls g q).length=ls.length:=by simp[wq]
theorem EZ(g q:L->Nat)(n:Nat):Ur n (wq ls g q)=Ur n ls:=by
 unfold Ur wq;rw[xam];rfl
theorem mI(g q:L->Nat){i:Nat}(a:i<ls.length):(wq ls g q).getD i L0={ ls.getD i L0 with gv:=g (ls.getD i L0),got:=q (ls.getD i L0) }:=by
 simp[wq,Ul,a]
theorem yB(g q:L->Nat){i:Nat}(a:i<ls.length):(wq ls g q)[i]?=some { ls.getD i L0 with gv:=g (ls.getD i L0),got:=q (ls.getD i L0) }:=by
 rw[<-mI g q a,Ul,xh (by rw[jV];exact a)];rfl
theorem Sh(b:∀i j,i<ls.length->j<ls.length->(ls.getD i L0).id=(ls.getD j L0).id->i=j)(g q:L->Nat){n m:Nat}(c:Ur n ls<ls.length):(wq ls g q).set (Ur n ls) (Un ((wq ls g q).getD (Ur n ls) L0) m)=wq ls (λx=>g x+if n=x.id then m else 0) q:=by
 have a:=Z6 c;apply Yj;intro j;by_cases d:j<ls.length
 ·rw[yB _ _ d,Xe];by_cases e:Ur n ls=j
  ·rw[xd e,xd (by rw[jV];exact c),mI _ _ c,e];rw[e]at a;rw[xd a.symm];rfl
  rw[xe e,yB _ _ d];have:¬n=(ls.getD j L0).id:=λq=>e (b _ _ c d (by rw[a,q]))
  rw[xe this];rfl
 rw[Xo (by rw[xl,jV];omega),Xo (by rw[jV];omega)]
theorem Sg(b:∀i,i<ls.length->(ls.getD i L0).place=i+1)(g q:L->Nat){i:Nat}(c:i<ls.length)(s:Nat):(wq ls g q).set i { (wq ls g q).getD i L0 with got:=s }=wq ls g (λx=>if x.place=i+1 then s else q x):=by
 apply Yj
 intro j;by_cases a:j<ls.length
 ·rw[yB _ _ a,Xe];have d:=b j a;by_cases e:i=j
  ·subst e;rw[xd rfl,xd (by rw[jV];exact c),mI _ _ c,xd d]
  rw[xe e,yB _ _ a,xe (by omega)]
 rw[Xo (by rw[xl,jV];omega),Xo (by rw[jV];omega)]
def oB(ls:List L)(l:L)(p:Nat×Nat):Prop:=Ur p.1 ls<ls.length/\p.2<=2147483647/\(zd ls p.1).gd=l.gd/\(zd ls p.1).place<l.place
def Ua(ls:List L)(ps:List (Nat×Nat))(u:Nat):Nat:=ps.foldl (λe p=>min e (zd ls p.1).ex) u
theorem NH(c:∀i j,i<ls.length->j<ls.length->(ls.getD i L0).id=(ls.getD j L0).id->i=j)(l:L):∀(ps:List (Nat×Nat)) (u b:Nat) (g q:L->Nat),((∀p∈ps,oB ls l p)->Uh l ps u b (wq ls g q)=some (wq ls (λx=>g x+(ps.map λp=>if p.1=x.id then p.2 else 0).sum) q,Ua ls ps u,b+(ps.map Prod.snd).sum))/\(¬(∀p∈ps,oB ls l p)->Uh l ps u b (wq ls g q)=none)
 |[],u,b,g,q=>⟨λ_=>by simp[Uh,Ua],λh=>absurd (λp y=>by cases y) h⟩
 |p::ps,u,b,g,q=>by
  have a:(Ur p.1 (wq ls g q)<(wq ls g q).length/\p.2<=2147483647/\((wq ls g q).getD (Ur p.1 (wq ls g q)) L0).gd=l.gd/\((wq ls g q).getD (Ur p.1 (wq ls g q)) L0).place<l.place)↔oB ls l p:=by
   rw[EZ,jV];unfold oB;constructor
   ·rintro⟨f,s,m,n⟩;rw[mI _ _ f]at m n;exact⟨f,s,m,n⟩
   rintro⟨f,s,m,n⟩;rw[mI _ _ f];exact⟨f,s,m,n⟩
  by_cases d:oB ls l p
  ·have t:((wq ls g q).getD (Ur p.1 (wq ls g q)) L0).ex=(zd ls p.1).ex:=by rw[EZ,mI _ _ d.1];rfl
   have e:Uh l (p::ps) u b (wq ls g q)=Uh l ps (min u (zd ls p.1).ex) (b+p.2) (wq ls (λx=>g x+if p.1=x.id then p.2 else 0) q):=by
    rw[Uh,xd (a.2 d),t,EZ,Sh c g q d.1]
   obtain⟨z,A⟩:=NH c l ps (min u (zd ls p.1).ex) (b+p.2) (λx=>g x+if p.1=x.id then p.2 else 0) q;refine⟨λh=>?_,λh=>?_⟩
   ·rw[e,z (λr k=>h r (by simp[k]))];have v:(λx:L=>(g x+if p.1=x.id then p.2 else 0)+(ps.map λp=>if p.1=x.id then p.2 else 0).sum)=λx=>g x+((p::ps).map λp=>if p.1=x.id then p.2 else 0).sum:=by
     funext x
     rw[List.map_cons,List.sum_cons];omega
    rw[v,List.map_cons,List.sum_cons,xbR];rfl
   rw[e,A (λw=>h (λr k=>by
    rcases xx.1 k with rfl|k
    ·exact d
    exact w r k))]
  refine⟨λh=>absurd (h p (by simp)) d,λ_=>?_⟩;rw[Uh,xe (λh=>d (a.1 h))]
structure Tp(ls:List L)(i:Nat):Prop where
 len:(ls.getD i L0).par.length<=2
 ris:Ris (ls.getD i L0).par
 fam:∀p∈(ls.getD i L0).par,oB ls (ls.getD i L0) p
 exp:(ls.getD i L0).par≠[]->Ua ls (ls.getD i L0).par 2147483648=(ls.getD i L0).ex
def tP(x:L):Nat:=if x.par.length=0 then x.got else (x.par.map Prod.snd).sum
def wy(ls:List L)(i:Nat):List L:=wq ls (λx=>Up (ls.take i) x.id) (λx=>if x.place<=i then tP x else x.got)
theorem QY(r:∀i j,i<ls.length->j<ls.length->(ls.getD i L0).id=(ls.getD j L0).id->i=j)(c:∀i,i<ls.length->(ls.getD i L0).place=i+1){i:Nat}(w:i<ls.length):(Tp ls i->Ui (wy ls i) i=some (wy ls (i+1)))/\(¬Tp ls i->Ui (wy ls i) i=none):=by
 have A:∀n,Up (ls.take (i+1)) n=Up (ls.take i) n+Um (ls.getD i L0) n:=λn=>by
  rw[cA (d:=L0) w];simp[Up]
 obtain⟨y,u⟩:∃y,y=(wy ls i).getD i L0:=⟨_,rfl⟩
 have z:=mI (ls:=ls) (λx=>Up (ls.take i) x.id) (λx=>if x.place<=i then tP x else x.got) w;have H:y.par=(ls.getD i L0).par:=by rw[u];unfold wy;rw[z]
 have J:y.ex=(ls.getD i L0).ex:=by rw[u];unfold wy;rw[z]
 have K:y.gd=(ls.getD i L0).gd:=by rw[u];unfold wy;rw[z]
 have M:y.place=(ls.getD i L0).place:=by rw[u];unfold wy;rw[z]
 have l:∀p,oB ls y p↔oB ls (ls.getD i L0) p:=λp=>by unfold oB;rw[K,M]
 obtain⟨D,G⟩:=NH r y (ls.getD i L0).par 2147483648 0 (λx=>Up (ls.take i) x.id) (λx=>if x.place<=i then tP x else x.got);have N:=c i w;have k:∀j,j<ls.length->(if (ls.getD j L0).place<=i+1 then tP (ls.getD j L0) else (ls.getD j L0).got)=(if (ls.getD j L0).place=i+1 then tP (ls.getD i L0) else (if (ls.getD j L0).place<=i then tP (ls.getD j L0) else (ls.getD j L0).got)):=λj b=>by
  have E:=c j b;by_cases e:j=i
  ·subst e;rw[xd (by omega),xd (by omega)]
  rw[xe (show ¬(ls.getD j L0).place=i+1 by omega)];by_cases C:(ls.getD j L0).place<=i
  ·rw[xd (by omega),xd C]
  rw[xe (by omega),xe C]
 have a:∀(g q B:L->Nat),(∀j,j<ls.length->q (ls.getD j L0)=B (ls.getD j L0))->wq ls g q=wq ls g B:=λg q B h=>by
  unfold wq;apply XE;intro x F;obtain⟨j,b,rfl⟩:=xt F;have e:ls.getD j L0=ls[j]:=by simp[Ul,b]
  have:=h j b
  rw[e]at this;rw[this]
 have t:wy ls (i+1)=wq ls (λx=>Up (ls.take i) x.id+((ls.getD i L0).par.map λp=>if p.1=x.id then p.2 else 0).sum) (λx=>if x.place<=i+1 then tP x else x.got):=by
  unfold wy;congr 1;funext x;rw[A];rfl
 unfold Ui;rw[<-u,H,J];constructor
 ·intro hF;rw[if_pos ⟨hF.len,hF.ris⟩];unfold wy at *;rw[D (λp s=>(l p).2 (hF.fam p s)),Option.bind_some];dsimp only;by_cases f:(ls.getD i L0).par.length=0
  ·rw[xd f,t];congr 1;apply a;intro j b;show _=(if (ls.getD j L0).place<=i+1 then tP (ls.getD j L0) else (ls.getD j L0).got);rw[k j b];by_cases e:(ls.getD j L0).place=i+1
   ·rw[xd e,xe (by omega)];have:j=i:=by have:=c j b;omega
    subst this;unfold tP;rw[xd f]
   rw[xe e]
  rw[xe f,xd (hF.exp (λe=>f (by rw[e];rfl))),Sg c _ _ w,t];congr 1;apply a;intro j b;show _=(if (ls.getD j L0).place<=i+1 then tP (ls.getD j L0) else (ls.getD j L0).got);rw[k j b];unfold tP;rw[xe f,Yu]
 intro hF;by_cases m:(ls.getD i L0).par.length<=2/\((ls.getD i L0).par.map Prod.fst).Pairwise (·<·)
 ·rw[xd m];unfold wy at *;by_cases v:∀p∈(ls.getD i L0).par,oB ls y p
  ·rw[D v,Option.bind_some];dsimp only;by_cases f:(ls.getD i L0).par.length=0
   ·exact absurd ⟨m.1,m.2,λp s=>(l p).1 (v p s),λh=>absurd (Xn.1 f) h⟩ hF
   rw[xe f,xe (λe=>hF ⟨m.1,m.2,λp s=>(l p).1 (v p s),λ_=>e⟩)]
  rw[G v];rfl
 rw[xe m]
theorem Hz(a:∀i j,i<ls.length->j<ls.length->(ls.getD i L0).id=(ls.getD j L0).id->i=j)(b:∀i,i<ls.length->(ls.getD i L0).place=i+1):∀(k i:Nat),i+k=ls.length->((∀j,i<=j->j<ls.length->Tp ls j)->Ug k i (wy ls i)=some (wy ls ls.length))/\(¬(∀j,i<=j->j<ls.length->Tp ls j)->Ug k i (wy ls i)=none)
 |0,i,hk=>by
  obtain rfl:i=ls.length:=by omega
  exact⟨λ_=>rfl,λh=>absurd (λj f c=>by omega) h⟩
 |k+1,i,hk=>by
  obtain⟨d,g⟩:=QY a b (show i<ls.length by omega);obtain⟨l,m⟩:=Hz a b k (i+1) (by omega);rw[Ug];refine⟨λh=>?_,λh=>?_⟩
  ·rw[d (h i (xc _) (by omega)),xi];exact l (λj f c=>h j (by omega) c)
  by_cases hF:Tp ls i
  ·rw[d hF,xi];exact m (λn=>h (λj f c=>by
    by_cases e:j=i
    ·subst e;exact hF
    exact n j (by omega) c))
  rw[g hF];rfl
end
