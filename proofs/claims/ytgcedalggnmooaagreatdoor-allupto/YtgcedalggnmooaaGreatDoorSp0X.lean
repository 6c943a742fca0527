import Derived.Test.YtgcedalggnmooaaGreatDoorCm0X
import Derived.Test.YtgcedalggnmooaaGreatDoorKAX
set_option linter.all false
set_option maxRecDepth 100000
namespace Go.Proofs.YtgcedalggnmooaaGreatDoor
open Option renaming none->Y,some->V
def dQ{α:Type}{lt:α->α->Prop}(d:∀a,¬lt a a)(k:∀a b c,lt a b->lt b c->lt a c):∀{l m:List α},l.Pairwise lt->m.Pairwise lt->(∀x,x∈l↔x∈m)->l=m
 |[],[],_,_,_=>rfl
 |[],y::m,_,_,h=>absurd ((h y).2 (by simp)) (by simp)
 |x::l,[],_,_,h=>absurd ((h x).1 (by simp)) (by simp)
 |x::l,y::m,hl,hm,h=>by
  have i:=ym.1 hl;have j:=ym.1 hm;have e:x=y:=by
   rcases xz.1 ((h x).1 (by simp)) with e|e
   ·exact e
   rcases xz.1 ((h y).2 (by simp)) with g|g
   ·exact g.symm
   exact absurd (k _ _ _ (j.1 x e) (i.1 y g)) (d y)
  subst e;rw[dQ d k i.2 j.2 (λz=>?_)];constructor
  ·intro f;rcases xz.1 ((h z).1 (by simp[f])) with e|e
   ·subst e;exact absurd (i.1 z f) (d z)
   exact e
  intro f;rcases xz.1 ((h z).2 (by simp[f])) with e|e
  ·subst e;exact absurd (j.1 z f) (d z)
  exact e
def DJ{x:Nat->Nat}{n:Nat}:∀{k i:Nat},Xd x n k=V i->∀j,j<k->n<x j->x i<=x j
 |0,i,h=>by simp[Xd]at h
 |k+1,i,h=>by
  intro j q a;rw[Xd]at h;split at h
  ·rename_i f
   cases h;by_cases e:j=k
   ·subst e;exact xe _
   cases p:Xd x n k with
   |none=>
    exfalso
    have:∀m,Xd x n m=Y->∀j,j<m->¬n<x j:=by
     intro m;induction m with
     |zero=>intro _ j h;omega
     |succ m ih=>
      intro d j q a;rw[Xd]at d;split at d
      ·cases d
      rename_i g;by_cases e:j=m
      ·subst e;exact g ⟨a,λb c=>by rw[d]at c;cases c⟩
      exact ih d j (by omega) a
    exact this k p j (by omega) a
   |some b=>
    have r:=f.2 b p;have s:=DJ p j (by omega) a;omega
  rename_i f;by_cases e:j=k
  ·subst e;by_cases l:x j<x i
   ·exact absurd ⟨a,λb c=>by rw[h]at c;cases c;exact l⟩ f
   omega
  exact DJ h j (by omega) a
def Fv{x:Nat->Nat}{n:Nat}:∀{k:Nat},Xd x n k=Y->∀j,j<k->¬n<x j
 |0,_,j,h=>by omega
 |k+1,hm,j,hj=>by
  intro d;rw[Xd]at hm;split at hm
  ·cases hm
  rename_i a;by_cases e:j=k
  ·subst e;exact a ⟨d,λb c=>by rw[hm]at c;cases c⟩
  exact Fv hm j (by omega) d
def Zk{x:Nat->Nat}{N:Nat}(g:∀i j,i<N->j<N->x i=x j->i=j):∀(f n:Nat),CB x n N<=f->(Zf x N f n).Pairwise (λa b=>x a<x b)/\∀i,i∈Zf x N f n↔i<N/\n<x i
 |0,n,hc=>by
  refine⟨by simp[Zf],λi=>⟨by simp[Zf],λ⟨c,d⟩=>?_⟩⟩;have:=pV x d N c;omega
 |f+1,n,hc=>by
  rw[Zf]
  cases l:Xd x n N with
  |none=>exact⟨by simp,λi=>⟨by simp,λ⟨c,d⟩=>absurd d (Fv l i c)⟩⟩
  |some k=>
   obtain⟨p,q⟩:=jY l;have t:=DJ l;have s:=pV x q N p;obtain⟨m,h⟩:=Zk g f (x k) (by omega);refine⟨ym.2 ⟨λb r=>((h b).1 r).2,m⟩,λi=>?_⟩;rw[xz,h];constructor
   ·rintro(rfl|⟨c,d⟩)
    ·exact⟨p,q⟩
    exact⟨c,by omega⟩
   rintro⟨c,d⟩;have:=t i c d;by_cases e:x k=x i
   ·exact Or.inl (g i k c p e.symm)
   exact Or.inr ⟨c,by omega⟩
def EJ{ls:List L}(c:∀i j,i<ls.length->j<ls.length->(ls.getD i L0).id=(ls.getD j L0).id->i=j):(Wu ls).Pairwise (λa b=>(ls.getD a L0).id<(ls.getD b L0).id):=by
 have h:=xbX.2 ⟨CH ls,Au ls⟩;refine xbw ?_ h
 rintro a b k l ⟨f,g⟩;have d:=eJ.1 k;have e:=eJ.1 l;simp only[lL,Yv]at f;rcases xaI (ls.getD a L0).id (ls.getD b L0).id with h|h
 ·exact h
 exact absurd (c a b d e (by omega)) g
def nW{ls:List L}(d:∀i j,i<ls.length->j<ls.length->(ls.getD i L0).id=(ls.getD j L0).id->i=j)(e:∀l∈ls,1<=l.id):Wu ls=Zf (λi=>(ls.getD i L0).id) ls.length (ls.length+1) 0:=by
 obtain⟨f,g⟩:=Zk (x:=λi=>(ls.getD i L0).id) d (ls.length+1) 0 (by have:=bN (λi=>(ls.getD i L0).id) 0 ls.length;omega);refine dQ (lt:=λa b=>(ls.getD a L0).id<(ls.getD b L0).id) (λa=>xaa _) (λa b c=>xcr) (EJ d) f (λi=>?_);rw[g,eJ];exact⟨λh=>⟨h,e _ (zf h)⟩,λh=>h.1⟩
def dP(a:Nat×Nat):¬aH a a=true:=by simp[aH]
def rK(a b c:Nat×Nat)(h:aH a b=true)(k:aH b c=true):aH a c=true:=by
 simp only[aH,xak,yt,yr]at *;omega
def FC{a b:Nat×Nat}(h:aH a b=false)(c:a≠b):aH b a=true:=by
 obtain⟨f,g⟩:=a;obtain⟨i,j⟩:=b;have d:¬(f=i/\g=j):=λe=>c (by rw[e.1,e.2])
 simp only[aH,xaX,xaF,Yv,xak,yt,yr]at *;omega
variable {α:Type}
def Mo{lt:α->α->Prop}{l:List α}{d:α}(h:l.Pairwise lt){k:Nat}(b:k<l.length):∀q∈l.take k,lt q (l.getD k d):=by
 have a:(l.take k++[l.getD k d]).Pairwise lt:=by rw[<-Z8 b];exact h.sublist (xaU _ _)
 intro q c;exact(YG.1 a).2.2 q c _ (by simp)
def uN{p:Nat×Nat}{out:List (Nat×Nat)}(r:out.Pairwise (λa b=>aH a b=true))(v:p ∉ out):∀k,k<=out.length ->
  ((gX p out k).2=false/\(gX p out k).1=out.take k/\∀q∈out.take k,aH q p=true)\/((gX p out k).2=true/\(gX p out k).1.Pairwise (λa b=>aH a b=true)/\(∀q,q∈(gX p out k).1↔q=p\/q∈out.take k)/\∃q∈out.take k,aH p q=true)
 |0,_=>Or.inl ⟨rfl,by simp[gX],by simp⟩
 |k+1,hk=>by
  have f:k<out.length:=by omega
  have n:p≠out.getD k (0,0):=λe=>v (by rw[e];simp[WI,f])
  have s:=Mo (d:=(0,0)) r f;rw[gX,Z8 (d:=(0,0)) f];rcases uN r v k (by omega) with ⟨g,i,j⟩|⟨g,i,j,w,t,u⟩
  ·by_cases m:aH p (out.getD k (0,0))=true
   ·rw[xh ⟨m,g⟩];refine Or.inr ⟨rfl,?_,?_,out.getD k (0,0),by simp,m⟩
    ·rw[i];refine YG.2 ⟨YG.2 ⟨r.sublist (xaU _ _),by simp,λa l b c=>?_⟩,by simp,λa l b c=>?_⟩
     ·simp at c;subst c;exact j a l
     simp at c;subst c;rcases xx.1 l with h|h
     ·exact s a h
     simp at h;subst h;exact m
    intro q;rw[i];simp only[xx,yp];constructor
    ·rintro((h|h)|h)
     ·exact Or.inr (Or.inl h)
     ·exact Or.inl h
     exact Or.inr (Or.inr h)
    rintro(h|h|h)
    ·exact Or.inl (Or.inr h)
    ·exact Or.inl (Or.inl h)
    exact Or.inr h
   rw[xg (λe=>m e.1)];refine Or.inl ⟨g,by rw[i],?_⟩;intro q x;rcases xx.1 x with h|h
   ·exact j q h
   simp at h;subst h;exact FC (by simpa using m) n
  rw[xg (λe=>by rw[g]at e;cases e.2)];refine Or.inr ⟨g,?_,?_,w,List.mem_append_left _ t,u⟩
  ·refine YG.2 ⟨i,by simp,λa l b c=>?_⟩;simp at c;subst c;rcases(j a).1 l with h|h
   ·subst h;exact rK _ _ _ u (s w t)
   exact s a h
  intro q;simp only[xx,j,yp];constructor
  ·rintro((h|h)|h)
   ·exact Or.inl h
   ·exact Or.inr (Or.inl h)
   exact Or.inr (Or.inr h)
  rintro(h|h|h)
  ·exact Or.inl (Or.inl h)
  ·exact Or.inl (Or.inr h)
  exact Or.inr h
variable {p:Nat×Nat}
def GN{out:List (Nat×Nat)}(g:out.Pairwise (λa b=>aH a b=true))(i:p ∉ out):(MM p out).Pairwise (λa b=>aH a b=true)/\∀q,q∈MM p out↔q=p\/q∈out:=by
 unfold MM;rcases uN g i out.length (xe _) with ⟨d,e,c⟩|⟨d,e,c,_⟩
 ·rw[d,xg (by simp),e,XZ];rw[XZ]at c;refine⟨YG.2 ⟨g,by simp,λa h b f=>by simp at f;subst f;exact c a h⟩,λq=>?_⟩;simp[or_comm]
 rw[d,xh rfl];rw[XZ]at c;exact⟨e,c⟩
def uZ{l:List (Nat×Nat)}(g:l.Nodup):∀k,k<=l.length->(yB l k).Pairwise (λa b=>aH a b=true)/\∀q,q∈yB l k↔q∈l.take k
 |0,_=>⟨by simp[yB],λq=>by simp[yB]⟩
 |k+1,hk=>by
  have c:k<l.length:=by omega
  obtain⟨h,f⟩:=uZ g k (by omega);have e:l.getD k (0,0) ∉ yB l k:=by
   rw[f];have:=g.sublist (xaU (k+1) l);rw[Z8 (d:=(0,0)) c]at this;intro m;exact(yy.1 this).2.2 _ m _ (by simp) rfl
  obtain⟨i,j⟩:=GN h e;rw[yB];refine⟨i,λq=>?_⟩;rw[j,f,Z8 (d:=(0,0)) c];simp[or_comm]
variable {l:List (Nat×Nat)}
def zX(c:l.Nodup):(bQ l).Pairwise (λa b=>aH a b=true)/\∀q,q∈bQ l↔q∈l:=by
 have:=uZ c l.length (xe _)
 rw[XZ]at this;exact this
def Rs{m:List (Nat×Nat)}(e:l.Nodup)(f:m.Perm l):WR aH m=bQ l:=by
 obtain⟨n,p⟩:=zX e;rw[TH];have d:(Xq aH m).Nodup:=((FO aH m).trans f).nodup_iff.2 e;have j:=OX aH (λa b h=>by simp only[aH,xak,yt,yr,xaX,xaF,Yv]at *;omega) (λa b c h k=>by simp only[aH,xaX,xaF,Yv]at *;omega) m;refine dQ (lt:=λa b=>aH a b=true) dP rK ?_ n (λq=>?_)
 ·rw[List.pairwise_reverse];refine(xbX.2 ⟨j,d⟩).imp ?_
  rintro a b ⟨g,i⟩;exact FC g i
 rw[List.mem_reverse,(FO aH m).mem_iff,f.mem_iff,p]
def Qc(a b:Nat×Nat):Bool:=decide (a.1<b.1)
def Rr(h:l.length<=2):WR Qc l=zV l:=by
 match l,h with
 |[],_=>rfl
 |[a],_=>rfl
 |[a,b],_=>
  simp only[WR,List.length_cons,yx,WQ,Wt,Xz,Qc,zV];by_cases c:b.1<a.1<;>simp[c]
def Ac(l:L):List Nat:=[l.id,l.gd,l.ex,l.place,l.free,l.hd,l.sh,l.sc,l.par.length]++(if l.par.length=0 then [l.got] else (WR Qc l.par).flatMap (λp=>[p.1,p.2]))
def KK{l:L}(h:l.par.length<=2):Ac l=bZ l:=by
 unfold Ac bZ WC;rw[Rr h,ZS];by_cases a:l.par.length=0
 ·have b:l.par=[]:=yl.1 a;rw[xh a,xh a,b];rfl
 rw[xg a,xg a];simp
def Xf(os:List O):List Nat:=(Zf (λi=>(os.getD i O0).id) os.length (os.length+1) 0).map (λi=>(os.getD i O0).id)
def Da{os:List O}{i:Nat}(h:i<os.length):os.getD i O0∈os:=by simp[WI,h]
def eV{os:List O}(d:(os.map O.id).Nodup):∀i j,i<os.length->j<os.length->(os.getD i O0).id=(os.getD j O0).id->i=j:=by
 intro i j a b c;have:=xcJ (i:=i) (j:=j) (h₀:=by simpa using a) (h₁:=by simpa using b) d;refine this.1 ?_
 simpa [WI,a,b] using c
def rH{os:List O}(g:(os.map O.id).Nodup)(f:∀o∈os,1<=o.id):(Xf os).Pairwise (·<·)/\∀a,a∈Xf os↔a∈os.map O.id:=by
 obtain⟨h,d⟩:=Zk (x:=λi=>(os.getD i O0).id) (eV g) (os.length+1) 0 (by have:=bN (λi=>(os.getD i O0).id) 0 os.length;omega);refine⟨Yn.2 h,λa=>?_⟩;unfold Xf;rw[yc,yc];constructor
 ·rintro⟨i,b,rfl⟩;exact⟨_,Da ((d i).1 b).1,rfl⟩
 rintro⟨o,c,rfl⟩;obtain⟨i,b,rfl⟩:=xw c;have e:os.getD i O0=os[i]:=by simp[WI,b]
 exact⟨i,(d i).2 ⟨b,by show 0<(os.getD i O0).id;rw[e];exact f _ c⟩,by rw[e]⟩
def Cx(ls:List L):∀l,aJ ls l=(l.map (λp=>((ls.getD p.1 L0).id,p.2))).flatMap (λp=>[p.1,p.2])
 |[]=>rfl
 |p::r=>by simp only[aJ,XY,Yl,Cx ls r];rfl
def ZO(h:(l.map Prod.fst).Nodup):l.Nodup:=by
 refine(Yn.1 h).imp ?_
 intro a b c e;exact c (by rw[e])
def iI{os:List O}(a:(os.map O.id).Nodup){o:O}(c:o∈os)(b:Nat):zn os o.id b=o.li.lookup b:=by
 unfold zn;rw[fT a c];rfl
def Bu{os:List O}{ls:List L}(d:Good os ls){o:O}(e:o∈os):(bJ os o.id ls ls.length).map (λp=>((ls.getD p.1 L0).id,p.2))=bQ o.li:=by
 obtain⟨u,v⟩:=zX (ZO (d.keys o e));refine dQ (lt:=λa b=>aH a b=true) dP rK ?_ u (λq=>?_)
 ·rw[Yn];unfold bJ;rw[List.pairwise_filterMap];refine((EJ d.ids).sublist (xaU _ _)).imp ?_
  intro a m h b f w c
  cases g:zn os o.id (ls.getD a L0).id with
  |none=>rw[g]at f;cases f
  |some n=>
   cases j:zn os o.id (ls.getD m L0).id with
   |none=>rw[j]at c;cases c
   |some n' =>
    rw[g]at f;rw[j]at c
    cases f;cases c
    simp only[aH,xak,yr];exact Or.inl h
 rw[v,yc];constructor
 ·rintro⟨p,t,rfl⟩;have:=(dO t).2;rw[iI d.oids e]at this;exact ZC this
 intro l;obtain⟨i,r,k⟩:=d.mem o e q l;have s:zn os o.id (ls.getD i L0).id=V q.2:=by rw[iI d.oids e,k];exact zR (d.keys o e) l
 exact⟨(i,q.2),nZ s r,Prod.ext k rfl⟩
def uI{os:List O}(a:(os.map O.id).Nodup){o:O}(b:o∈os):Ze os o.id=o.gd:=by
 unfold Ze;rw[fT a b];rfl
def Ld(os:List O)(ls:List L)(a:Nat):List Nat:=[a,Ze os a]++zA ls (bJ os a ls ls.length)
def RO{os:List O}{ls:List L}(a:Good os ls){o:O}(b:o∈os):Ld os ls o.id=cA o:=by
 unfold Ld cA zA WC;rw[Cx,Bu a b,uI a.oids b];have:=xas List.length (Bu a b);rw[List.length_map]at this;rw[this]
def pN(td:Nat)(os:List O)(rj:List (Nat×Nat))(ls:List L):List Nat:=[td,ls.length,ls.length]++(Wu ls).flatMap (λi=>Ac (ls.getD i L0))++[os.length]++(Xf os).flatMap (Ld os ls)++[rj.length]++(bQ rj).flatMap (λp=>[p.1,p.2])
def fV{α:Type}{f g:α->List Nat}:∀{l:List α},(∀x∈l,f x=g x)->l.flatMap f=l.flatMap g
 |[],_=>rfl
 |x::l,h=>by rw[Yl,Yl,h x (by simp),fV (λy a=>h y (by simp[a]))]
def bG(l:List (Nat×Nat))(a:l.Nodup):(bQ l).length=l.length:=by
 obtain⟨c,d⟩:=zX a;have b:(bQ l).Nodup:=c.imp (λh e=>by rw[e]at h;exact dP _ h);exact((xav b a).2 d).length_eq
def UV{td:Nat}{os:List O}{rj:List (Nat×Nat)}{ls:List L}(c:Good os ls)(a:∀l∈ls,1<=l.id)(e:∀o∈os,1<=o.id)(b:∀l∈ls,l.par.length<=2)(h:rj.Nodup):pN td os rj ls=Xx td os rj ls:=by
 have f:(Wu ls).flatMap (λi=>Ac (ls.getD i L0))=Xw ls:=by
  unfold Xw;rw[nW c.ids a];refine fV (λi d=>KK (b _ (zf ?_)));rw[<-nW c.ids a]at d;exact eJ.1 d
 have g:(Xf os).flatMap (Ld os ls)=Xy os:=by
  unfold Xy Xf;rw[xbu];obtain⟨_,j⟩:=Zk (x:=λi=>(os.getD i O0).id) (eV c.oids) (os.length+1) 0 (by have:=bN (λi=>(os.getD i O0).id) 0 os.length;omega);exact fV (λi d=>RO c (Da ((j i).1 d).1))
 unfold pN Xx;rw[f,g];unfold WC;rw[bG rj h];simp
def mS{α:Type}[DecidableEq α]:∀{ss t:List α},t.Nodup->ss.length=t.length->(∀x,x∈ss↔x∈t)->ss.Nodup
 |[],t,_,_,_=>by simp
 |x::r,t,hn,hl,hm=>by
  by_cases c:x∈r
  ·exfalso
   have:=ZN (l:=t) (m:=r) hn (λy a=>by
    rcases xz.1 ((hm y).2 a) with rfl|h
    ·exact c
    exact h)
   rw[List.length_cons]at hl;omega
  refine Yq.2 ⟨c,mS (t:=t.erase x) (hn.erase x) ?_ (λy=>?_)⟩
  ·rw[xaZ ((hm x).1 (by simp))];rw[List.length_cons]at hl;omega
  rw[hn.mem_erase_iff,<-hm,xz];constructor
  ·intro a;exact⟨λe=>c (by rw[<-e];exact a),Or.inr a⟩
  rintro⟨d,b|b⟩
  ·exact absurd b d
  exact b
def Ig{os:List O}{ss:List Int}(j:(os.map O.id).Nodup)(n:∀o∈os,1<=o.id)(g:ss.length=os.length)(d:∀x:Int,x∈ss↔∃o∈os,x=(o.id:Int)):ss.mergeSort (λx y=>decide (x<=y))=(Xf os).map Int.ofNat:=by
 have i:ss.Nodup:=by
  refine mS (t:=os.map (λo=>(o.id:Int))) ?_ (by rw[g,List.length_map]) (λx=>by rw[d,yc];exact⟨λ⟨o,f,e⟩=>⟨o,f,e.symm⟩,λ⟨o,f,e⟩=>⟨o,f,e.symm⟩⟩)
  rw[Yu,Yn];have:=j;rw[Yu,Yn]at this;exact this.imp (λh e=>h (by omega))
 obtain⟨r,m⟩:=rH j n;have l:=List.mergeSort_perm ss (λx y=>decide (x<=y));have q:=List.pairwise_mergeSort (le:=λx y:Int=>decide (x<=y)) (λa b c h k=>by simp at *;omega) (λa b=>by simp;omega) ss;refine dQ (lt:=λa b:Int=>a<b) (λa=>by omega) (λa b c h k=>by omega) ?_ ?_ (λx=>?_)
 ·refine(xbX.2 ⟨q,l.nodup_iff.2 i⟩).imp ?_
  rintro a b ⟨h,k⟩;simp at h;omega
 ·rw[Yn];exact r.imp (λh=>Int.ofNat_lt.2 h)
 rw[l.mem_iff,d,yc];constructor
 ·rintro⟨o,f,rfl⟩;exact⟨o.id,(m _).2 (yb f),rfl⟩
 rintro⟨a,p,rfl⟩;obtain⟨o,f,e⟩:=yc.1 ((m a).1 p);exact⟨o,f,by rw[e];rfl⟩
def VZ(l:L):Prop:=1<=l.id/\∀p∈l.par,p.2<=2147483647
structure Wa(os:List O)(ls:List L):Prop where
 lot:∀l∈ls,VZ l
 ord:∀o∈os,1<=o.id/\o.gd<=2147483647
def LO:Wa [] []:=⟨λl h=>absurd h (by simp),λo h=>absurd h (by simp)⟩
variable {P:L->Prop}
def iQ{ls:List L}(h:∀l∈ls,P l)(f:L->L)(c:∀l,P l->P (f l))(i:Nat):∀l∈ls.set i (f (ls.getD i L0)),P l:=by
 intro l a;rcases xaI i ls.length with b|b
 ·rcases Yd a with a|rfl
  ·exact h l a
  exact c _ (h _ (zf b))
 rw[xah b]at a;exact h l a
def vK{ls:List L}(h:∀l∈ls,P l){x:L}(b:P x):∀l∈ls++[x],P l:=by
 intro l a;rcases xx.1 a with a|a
 ·exact h l a
 simp at a;subst a;exact b
def Ak{P:L->Prop}(a:∀l n,P l->P (qP l n)):∀(q:List (Nat×Nat)) (ls:List L),(∀l∈ls,P l)->∀l∈Zt ls q,P l
 |[],ls,h=>h
 |p::q,ls,h=>Ak a q _ (iQ h (λl=>qP l p.2) (λl b=>a l p.2 b) p.1)
def LQ{rj:List (Nat×Nat)}{os:List O}{td:Nat}{ls:List L}(h:Wa os ls){c:Pl.Cmd}(f:∀n e,c=.ok (n,e)->Pl.mays (Pl.kindsL n) e=true):Wa os (Zi rj td ls c).2.2:=by
 unfold Zi;split
 ·exact h
 ·split<;>exact h
 ·rename_i a b c d;have:=f _ _ rfl;simp[Pl.mays,Pl.kindsL,Pl.mayB]at this;show Wa os (if zx ls a=0 then ls++[Fr ls a b c d] else ls);split
  ·exact⟨vK h.lot ⟨by show 1<=a;omega,λp g=>by simp[Fr]at g⟩,h.ord⟩
  exact h
 ·split<;>exact h
 ·exact h
 exact h
def LR{rj:List (Nat×Nat)}{os:List O}{td:Nat}{ls:List L}(h:Wa os ls)(i:∀l∈ls,L.Ok l){c:Pl.Cmd}(k:∀n r,c=.ok (n,r)->Pl.mays (Pl.kindsL n) r=true):Wa os (aM rj td ls c).2.2:=by
 unfold aM;split
 ·rename_i a b c;have:=k _ _ rfl;simp[Pl.mays,Pl.kindsL,Pl.mayB]at this;show Wa os (aE ls a b c);unfold aE;split
  ·refine⟨vK (iQ h.lot (λl=>zS l c) (λl d=>d) _) ⟨by show 1<=b;omega,λp j=>?_⟩,h.ord⟩;simp only[WZ,yp]at j;subst j;show c<=2147483647;omega
  exact h
 ·rename_i a b c;have:=k _ _ rfl;simp[Pl.mays,Pl.kindsL,Pl.mayB]at this;show Wa os (ZG ls a b c);unfold ZG;split
  ·rename_i g;have f:WO a ls<ls.length/\WO b ls<ls.length:=by
    unfold zL at g;by_cases f:WO a ls<ls.length/\WO b ls<ls.length
    ·exact f
    rw[xg f]at g;omega
   have m:WO b ls≠WO a ls:=by
    unfold zL at g;rw[xh f]at g;intro e;rw[xh (Or.inl e.symm)]at g;omega
   have s:=iQ h.lot (λl=>zS l (zg ls a).free) (λl d=>d) (WO a ls);have q:=iQ s (λl=>zS l (zg ls b).free) (λl d=>d) (WO b ls);rw[zZ m]at q;refine⟨vK q ⟨by show 1<=c;omega,λp j=>?_⟩,h.ord⟩;have t:=(i _ (zf f.1)).sum;have u:=(i _ (zf f.2)).sum;simp only[WZ,xz,Yp,xaN]at j;rcases j with rfl|rfl
   ·show(ls.getD (WO a ls) L0).free<=2147483647;omega
   show(ls.getD (WO b ls) L0).free<=2147483647;omega
  exact h
 ·rename_i a b;show Wa os (Zx ls a b);unfold Zx;split
  ·exact⟨iQ h.lot (λl=>iC l b) (λl d=>d) _,h.ord⟩
  exact h
 exact LQ h k
def LN{os:List O}{ls:List L}(h:Wa os ls)(g:L->Nat->L)(c:∀l n,(g l n).id=l.id/\(g l n).par=l.par)(a:Nat):Wa (os.filter (λo=>o.id != a)) (ls.map (dJ g os a)):=by
 refine⟨λl d=>?_,λo e=>h.ord o (YC.1 e).1⟩;obtain⟨l',b,rfl⟩:=yc.1 d;have:=h.lot l' b;unfold dJ;split
 ·rename_i n _;obtain⟨f,i⟩:=c { l' with hd:=l'.hd-n } n;refine⟨by rw[f];exact this.1,?_⟩;rw[i];exact this.2
 exact this
def LP{rj:List (Nat×Nat)}{os:List O}{td:Nat}{ls:List L}(h:Wa os ls)(g:∀l∈ls,L.Ok l){c:Pl.Cmd}(i:∀n j,c=.ok (n,j)->Pl.mays (Pl.kindsL n) j=true):Wa (ZQ rj td os ls c).2.2.1 (ZQ rj td os ls c).2.2.2:=by
 unfold ZQ;split
 ·rename_i a b c d f;have:=i _ _ rfl;simp[Pl.mays,Pl.kindsL,Pl.mayB]at this;show Wa (Ab rj os td ls a b c d f) (tS rj os td ls a b c d f);unfold Ab tS;split
  ·refine⟨Ak (λl n k=>k) _ _ h.lot,λo e=>?_⟩;rcases xx.1 e with e|e
   ·exact h.ord o e
   simp only[yp]at e;subst e;exact⟨by show 1<=a;omega,by show b<=2147483647;omega⟩
  exact h
 ·exact LN h Zl (λl n=>⟨rfl,rfl⟩) _
 ·exact LN h Zv (λl n=>⟨rfl,rfl⟩) _
 exact LR h g i
def Nj(l:List UInt8):∀n a,Pl.cmd l=.ok (n,a)->Pl.mays (Pl.kindsL n) a=true:=by
 intro n a h;rw[dN]at h;split at h
 ·cases h
 split at h
 ·rename_i b
  cases h;exact b
 cases h
def Cg{rj:List (Nat×Nat)}{os:List O}{td:Nat}{ls:List L}(h:Wa os ls)(a:∀l∈ls,L.Ok l)(l:List UInt8):Wa (zK rj td os ls (Pl.cmd l)).2.2.1 (zK rj td os ls (Pl.cmd l)).2.2.2.2:=by
 have b:=Nj l;generalize Pl.cmd l=c at b;unfold zK;split
 ·exact h
 ·exact h
 exact LP h a b
def WJ(l:L)(n:Nat):Nat:=(l.par.map λp=>if p.1=n then p.2 else 0).sum
def WM(ls:List L)(n:Nat):Nat:=(ls.map λl=>WJ l n).sum
def Xb(ls:List L)(ps:List (Nat×Nat)):Nat:=ps.foldl (λe p=>min e (zg ls p.1).ex) 2147483647
structure Wb(l:L):Prop where
 id:1<=l.id
 gd:1<=l.gd
 got:1<=l.got
 sum:l.got=l.free+l.hd+l.sh+l.sc+l.gv
 keys:(l.par.map Prod.fst).Nodup
 small:∀p∈l.par,p.2<=2147483647
 par:l.par=[]\/l.got=(l.par.map Prod.snd).sum
structure Snd(os:List O)(rj:List (Nat×Nat))(ls:List L):Prop where
 one:∀i,i<ls.length->Wb (ls.getD i L0)
 fam:∀i,i<ls.length->∀p∈(ls.getD i L0).par,∃j,j<i/\(ls.getD j L0).id=p.1/\(ls.getD j L0).gd=(ls.getD i L0).gd
 exp:∀i,i<ls.length->(ls.getD i L0).par≠[]->(ls.getD i L0).ex=Xb ls (ls.getD i L0).par
 giv:∀i,i<ls.length->(ls.getD i L0).gv=WM ls (ls.getD i L0).id
 ord:∀o∈os,1<=o.gd/\o.li≠[]/\∀p∈o.li,1<=p.2/\(zg ls p.1).gd=o.gd
 rcl:∀p∈rj,1<=p.1/\1<=p.2/\WO p.1 ls<ls.length
def xB{ls ls':List L}(g:ls'.length=ls.length)(h:∀i,i<ls.length->(ls'.getD i L0).id=(ls.getD i L0).id)(n:Nat):WO n ls'=WO n ls:=by
 have j:ls'.map L.id=ls.map L.id:=YT (by simp[g]) (λi d f=>by
  have c:i<ls'.length:=by simpa using d
  have b:i<ls.length:=by simpa using f
  have:=h i b
  simpa [WI,c,b] using this)
 have e:∀l:List L,WO n l=(l.map L.id).findIdx (λx=>x==n):=λl=>by
  induction l with
  |nil=>rfl
  |cons a l ih=>unfold WO at ih ⊢;simp[xbP,ih]
 rw[e,e,j]
structure Lqq(l l':L):Prop where
 id:l'.id=l.id
 gd:l'.gd=l.gd
 ex:l'.ex=l.ex
 got:l'.got=l.got
 par:l'.par=l.par
def Lqq.refl(l:L):Lqq l l:=⟨rfl,rfl,rfl,rfl,rfl⟩
def Qb{β:Type}{ls ls':List L}(e:ls'.length=ls.length)(f:L->β)(h:∀i,i<ls.length->f (ls'.getD i L0)=f (ls.getD i L0)):ls'.map f=ls.map f:=YT (by simp[e]) (λi c d=>by
 have b:i<ls'.length:=by simpa using c
 have a:i<ls.length:=by simpa using d
 have:=h i a
 simpa [WI,b,a] using this)
variable {n:Nat}
section
variable {os:List O}{rj:List (Nat×Nat)}{ls ls':List L}
def Dx(b:ls'.length=ls.length)(h:∀i,i<ls.length->Lqq (ls.getD i L0) (ls'.getD i L0))(n:Nat):(zg ls' n).gd=(zg ls n).gd/\(zg ls' n).ex=(zg ls n).ex:=by
 unfold zg;rw[xB b (λi a=>(h i a).id)];rcases xaI (WO n ls) ls.length with a|a
 ·exact⟨(h _ a).gd,(h _ a).ex⟩
 rw[WI,WI,yo a,yo (by omega)];exact⟨rfl,rfl⟩
def UU(a:ls'.length=ls.length)(h:∀i,i<ls.length->Lqq (ls.getD i L0) (ls'.getD i L0))(ps:List (Nat×Nat)):Xb ls' ps=Xb ls ps:=by
 unfold Xb;congr 1;funext e p;rw[(Dx a h p.1).2]
def Snd.keep(h:Snd os rj ls)(e:ls'.length=ls.length)(c:∀i,i<ls.length->Lqq (ls.getD i L0) (ls'.getD i L0)/\(ls'.getD i L0).gv=(ls.getD i L0).gv/\(ls'.getD i L0).free+(ls'.getD i L0).hd+(ls'.getD i L0).sh+(ls'.getD i L0).sc=(ls.getD i L0).free+(ls.getD i L0).hd+(ls.getD i L0).sh+(ls.getD i L0).sc):Snd os rj ls':={
 one:=λi b=>by
  rw[e]at b;have a:=h.one i b;obtain⟨q,g,s⟩:=c i b;exact⟨by rw[q.id];exact a.id,by rw[q.gd];exact a.gd,by rw[q.got];exact a.got,by rw[q.got,a.sum,g];omega,by rw[q.par];exact a.keys,by rw[q.par];exact a.small,by rw[q.par,q.got];exact a.par⟩
 fam:=λi b p d=>by
  rw[e]at b;rw[(c i b).1.par]at d;obtain⟨j,k,m,f⟩:=h.fam i b p d;exact⟨j,k,by rw[(c j (by omega)).1.id];exact m,by rw[(c j (by omega)).1.gd,(c i b).1.gd];exact f⟩
 exp:=λi b d=>by
  rw[e]at b;rw[(c i b).1.par]at d ⊢;rw[(c i b).1.ex,UU e (λi b=>(c i b).1)];exact h.exp i b d
 giv:=λi b=>by
  rw[e]at b;rw[(c i b).2.1,(c i b).1.id,h.giv i b];unfold WM;rw[Qb e (λl=>WJ l (ls.getD i L0).id) (λj n=>by unfold WJ;rw[(c j n).1.par])]
 ord:=λo r=>by
  obtain⟨k,m,f⟩:=h.ord o r;exact⟨k,m,λp d=>⟨(f p d).1,by rw[(Dx e (λi b=>(c i b).1) p.1).1];exact(f p d).2⟩⟩
 rcl:=λp d=>by
  obtain⟨k,m,f⟩:=h.rcl p d;exact⟨k,m,by rw[e,xB e (λi b=>(c i b).1.id)];exact f⟩}
def KG{x:L}(h:WO n ls<ls.length):WO n (ls++[x])=WO n ls/\zg (ls++[x]) n=zg ls n:=by
 have e:WO n (ls++[x])=WO n ls:=by
  unfold WO at h ⊢;rw[List.findIdx_append,xh h]
 refine⟨e,?_⟩;unfold zg;rw[e,WI,WI,yj h]
def NP(a:∀i j,i<ls.length->j<ls.length->(ls.getD i L0).id=(ls.getD j L0).id->i=j){j:Nat}(b:j<ls.length):WO (ls.getD j L0).id ls=j:=eR b (λk c e=>by have:=a k j (by omega) b e;omega) rfl
def wV{l:L}(h:∀p∈l.par,p.1≠n):WJ l n=0:=by
 unfold WJ;have:l.par.map (λp=>if p.1=n then p.2 else 0)=l.par.map (λ_=>0):=Yj (λp a=>by rw[xg (h p a)]);rw[this];generalize l.par=ps;induction ps with
 |nil=>rfl
 |cons p ps ih=>rw[XY,Yf,ih]
def EY{n:Nat}:∀{l:List L},(∀x∈l,WJ x n=0)->WM l n=0
 |[],_=>rfl
 |x::l,h=>by
  unfold WM;rw[XY,Yf,h x (by simp)];have:=EY (n:=n) (l:=l) (λy a=>h y (by simp[a]));unfold WM at this;rw[this]
def Rb(l:List L)(x:L)(n:Nat):WM (l++[x]) n=WM l n+WJ x n:=by simp[WM]
def Snd.app(h:Snd os rj ls)(E:∀i j,i<ls.length->j<ls.length->(ls.getD i L0).id=(ls.getD j L0).id->i=j)(F:∀o∈os,∀p∈o.li,WO p.1 ls<ls.length){x:L}(z:ls'.length=ls.length)
  (J:∀i,i<ls.length->Lqq (ls.getD i L0) (ls'.getD i L0)/\(ls'.getD i L0).gv=(ls.getD i L0).gv+WJ x (ls.getD i L0).id/\(ls'.getD i L0).got=(ls'.getD i L0).free+(ls'.getD i L0).hd+(ls'.getD i L0).sh+(ls'.getD i L0).sc+(ls'.getD i L0).gv)
  (R:Wb x) (N:x.gv=0) (A:¬WO x.id ls<ls.length) (v:∀p∈x.par,WO p.1 ls<ls.length/\(zg ls p.1).gd=x.gd) (D:x.par≠[]->x.ex=Xb ls x.par):Snd os rj (ls'++[x]):=by
 have f:∀i,i<ls.length->(ls'++[x]).getD i L0=ls'.getD i L0:=λi t=>by rw[WI,WI,yj (by omega)]
 have y:(ls'++[x]).getD ls.length L0=x:=by simp[WI,<-z]
 have r:(ls'++[x]).length=ls.length+1:=by simp[z]
 have m:=λi t=>(J i t).1
 have B:∀n,WO n ls<ls.length->WO n (ls'++[x])=WO n ls/\(zg (ls'++[x]) n).gd=(zg ls n).gd/\(zg (ls'++[x]) n).ex=(zg ls n).ex:=λn Q=>by
  have e:=xB z (λi t=>(m i t).id) n;obtain⟨a,b⟩:=KG (ls:=ls') (x:=x) (n:=n) (by rw[e,z];exact Q);have c:=Dx z m n;exact⟨by rw[a,e],by rw[b,c.1],by rw[b,c.2]⟩
 have H:∀i,i<ls.length->∀p∈(ls.getD i L0).par,WO p.1 ls<ls.length:=λi t p k=>by
  obtain⟨j,u,w,_⟩:=h.fam i t p k;rw[<-w,NP E (by omega)];omega
 have G:∀ps:List (Nat×Nat),(∀p∈ps,WO p.1 ls<ls.length)->Xb (ls'++[x]) ps=Xb ls ps:=λps=>by
  unfold Xb;generalize 2147483647=e;induction ps generalizing e with
  |nil=>intro _;rfl
  |cons p ps ih=>
   intro k;rw[YS,YS,(B p.1 (k p (by simp))).2.2];exact ih _ (λq J=>k q (by simp[J]))
 refine⟨λi t=>?_,λi t p k=>?_,λi t k=>?_,λi t=>?_,λo P=>?_,λp k=>?_⟩
 ·rw[r]at t;by_cases e:i=ls.length
  ·subst e;rw[y];exact R
  have d:i<ls.length:=by omega
  rw[f i d];obtain⟨q,g,s⟩:=J i d;have a:=h.one i d;exact⟨by rw[q.id];exact a.id,by rw[q.gd];exact a.gd,by rw[q.got];exact a.got,s,by rw[q.par];exact a.keys,by rw[q.par];exact a.small,by rw[q.par,q.got];exact a.par⟩
 ·rw[r]at t;by_cases e:i=ls.length
  ·subst e;rw[y]at k ⊢;obtain⟨u,w⟩:=v p k;refine⟨WO p.1 ls,u,?_,?_⟩
   ·rw[f _ u,(m _ u).id];exact aD u
   rw[f _ u,(m _ u).gd];exact w
  have d:i<ls.length:=by omega
  rw[f i d,(m i d).par]at k;obtain⟨j,u,w,C⟩:=h.fam i d p k;exact⟨j,u,by rw[f j (by omega),(m j (by omega)).id];exact w,by rw[f j (by omega),f i d,(m j (by omega)).gd,(m i d).gd];exact C⟩
 ·rw[r]at t;by_cases e:i=ls.length
  ·subst e;rw[y]at k ⊢;rw[G _ (λp k=>(v p k).1)];exact D k
  have d:i<ls.length:=by omega
  rw[f i d,(m i d).par]at k ⊢;rw[(m i d).ex,G _ (H i d)];exact h.exp i d k
 ·have M:∀n,WM (ls'++[x]) n=WM ls n+WJ x n:=λn=>by
   rw[Rb];unfold WM;rw[Qb z (λl=>WJ l n) (λj K=>by unfold WJ;rw[(m j K).par])]
  rw[M];rw[r]at t;by_cases e:i=ls.length
  ·subst e;rw[y,N,wV (λp k e=>A (by rw[<-e];exact(v p k).1)),EY (λl z=>wV (λp k e=>?_))];obtain⟨j,K,rfl⟩:=xw z;have:=H j K p (by simpa [WI,K] using k);rw[e]at this;exact A this
  have d:i<ls.length:=by omega
  rw[f i d,(J i d).2.1,(m i d).id,h.giv i d]
 ·obtain⟨u,w,C⟩:=h.ord o P;exact⟨u,w,λp k=>⟨(C p k).1,by rw[(B p.1 (F o P p k)).2.1];exact(C p k).2⟩⟩
 obtain⟨u,w,C⟩:=h.rcl p k;exact⟨u,w,by rw[r,(B p.1 C).1];omega⟩
end
def Ra{l:L}(h:l.par=[])(n:Nat):WJ l n=0:=by unfold WJ;rw[h];rfl
def EW{os:List O}{ls:List L}(h:Good os ls):∀o∈os,∀p∈o.li,WO p.1 ls<ls.length:=λo b p c=>by
 obtain⟨i,a,e⟩:=h.mem o b p c;rw[<-e,NP h.ids a];exact a
def FN{ls:List L}(h:zx ls n=0):¬WO n ls<ls.length:=λa=>by unfold zx at h;rw[xh a]at h;cases h
section
variable {os:List O}{rj:List (Nat×Nat)}{ls:List L}
def Snd.receive(h:Snd os rj ls)(e:Good os ls){a b c d:Nat}(g:1<=a)(j:1<=b)(k:1<=c):Snd os rj (if zx ls a=0 then ls++[Fr ls a b c d] else ls):=by
 split
 ·rename_i m;exact h.app e.ids (EW e) rfl (λi l=>⟨Lqq.refl _,by rw[Ra rfl];omega,(h.one i l).sum⟩) ⟨g,j,k,by show c=c+0+0+0+0;omega,by simp[Fr],by simp[Fr],Or.inl rfl⟩ rfl (FN m) (λp f=>by simp[Fr]at f) (λf=>absurd rfl f)
 exact h
def Ej{m c:Nat}(h:zO ls n m c=0):WO n ls<ls.length/\zx ls m=0/\c<=(ls.getD (WO n ls) L0).free:=by
 unfold zO at h;split at h
 ·rename_i b;split at h
  ·rename_i a;split at h
   ·cases h
   exact⟨b,a,by omega⟩
  rename_i a;exact absurd h a
 cases h
def QX(l:L)(n:Nat):Lqq l (zS l n):=⟨rfl,rfl,rfl,rfl,rfl⟩
def Snd.split(h:Snd os rj ls)(a:Good os ls)(r:∀l∈ls,L.Ok l){n m c:Nat}(w:1<=m)(u:1<=c)(f:c<=2147483647):Snd os rj (aE ls n m c):=by
 unfold aE;split
 ·rename_i s;obtain⟨d,t,z⟩:=Ej s;have v:=aD d;have A:=(r _ (zf d)).ex;refine h.app a.ids (EW a) (xp ..) (λi j=>?_) ⟨w,(h.one _ d).gd,u,by show c=c+0+0+0+0;omega,by simp[WZ],by intro p b;simp only[WZ,yp]at b;subst b;exact f,Or.inr (by simp[WZ])⟩ rfl (FN t) (λp b=>?_) (λ_=>?_)
  ·have x:=(h.one i j).sum;by_cases e:i=WO n ls
   ·subst e;rw[ZJ j];refine⟨QX _ _,by simp[zS,WJ,WZ],?_⟩;show(ls.getD (WO n ls) L0).got=(ls.getD (WO n ls) L0).free-c+(ls.getD (WO n ls) L0).hd+(ls.getD (WO n ls) L0).sh+(ls.getD (WO n ls) L0).sc+((ls.getD (WO n ls) L0).gv+c);omega
   rw[zZ e];refine⟨Lqq.refl _,?_,x⟩;have k:¬(ls.getD (WO n ls) L0).id=(ls.getD i L0).id:=λq=>e (a.ids i _ j d q.symm)
   have y:∀(g m:Nat),WJ (WZ ls m (ls.getD (WO n ls) L0).gd (ls.getD (WO n ls) L0).ex c [((ls.getD (WO n ls) L0).id,g)]) (ls.getD i L0).id=0:=λg m=>wV (λp b=>by simp only[WZ,yp]at b;subst b;exact k)
   rw[y];rfl
  ·simp only[WZ,yp]at b;subst b;have e:WO (ls.getD (WO n ls) L0).id ls=WO n ls:=NP a.ids d;exact⟨by show WO (ls.getD (WO n ls) L0).id ls<_;rw[e];exact d,by show(zg ls (ls.getD (WO n ls) L0).id).gd=(ls.getD (WO n ls) L0).gd;unfold zg;rw[e]⟩
  show(ls.getD (WO n ls) L0).ex=min 2147483647 (zg ls (ls.getD (WO n ls) L0).id).ex;unfold zg;rw[NP a.ids d];omega
 exact h
def Snd.fin(h:Snd os rj ls)(d:Good os ls)(g:L->Nat->L)(j:∀l n,Lqq l (g l n)/\(g l n).gv=l.gv/\(g l n).free+(g l n).hd+(g l n).sh+(g l n).sc=l.free+l.hd+l.sh+l.sc+n)(a:Nat):Snd (os.filter (λo=>o.id != a)) rj (ls.map (dJ g os a)):=by
 have b:Snd os rj (ls.map (dJ g os a)):=h.keep (List.length_map ..) (λi f=>by
  have e:(ls.map (dJ g os a)).getD i L0=dJ g os a (ls.getD i L0):=by simp[WI,f]
  rw[e];unfold dJ
  cases k:zn os a (ls.getD i L0).id with
  |none=>exact⟨Lqq.refl _,rfl,rfl⟩
  |some n=>
   have m:n<=(ls.getD i L0).hd:=by rw[d.hd i f];exact fZ k
   obtain⟨c,q,r⟩:=j { ls.getD i L0 with hd:=(ls.getD i L0).hd-n } n;refine⟨⟨c.id,c.gd,c.ex,c.got,c.par⟩,q,?_⟩;rw[r];show(ls.getD i L0).free+((ls.getD i L0).hd-n)+(ls.getD i L0).sh+(ls.getD i L0).sc+n=_;omega)
 exact⟨b.one,b.fam,b.exp,b.giv,λo p=>b.ord o (YC.1 p).1,b.rcl⟩
end
def yG(h:n<=2147483647)(a:List Nat):Xl (Pl.toldB (n::a))=V (n,Pl.toldB a):=by
 have e:Pl.toldB (n::a)=Pl.num n++Pl.toldB a:=by simp[Pl.toldB]
 obtain⟨b,c⟩:=Pl.read_num n (by omega) (Pl.toldB a);have d:=Pl.num_len_pos n;unfold Xl;rw[e,b,c,xg (by omega)];simp
def zU{lo a:Nat}(c:lo<=n)(d:n<=a)(e:n<=2147483647)(b:List Nat):Xm lo a (Pl.toldB (n::b))=V (n,Pl.toldB b):=by
 unfold Xm;rw[yG e,xk,xh ⟨c,d⟩]
def Ris(l:List (Nat×Nat)):Prop:=(l.map Prod.fst).Pairwise (·<·)
def Ris.cons(h:Ris (p::l)):(∀q∈l,p.1<q.1)/\Ris l:=by
 unfold Ris at h;rw[XY,ym]at h;exact⟨λq a=>h.1 _ (yb a),h.2⟩
def FM(h:l.length<=2)(d:(l.map Prod.fst).Nodup):Ris (zV l):=by
 match l,h with
 |[],_=>simp[Ris,zV]
 |[a],_=>simp[Ris,zV]
 |[a,b],_=>
  have e:¬a.1=b.1:=by simpa using d
  simp only[Ris,zV];by_cases c:b.1<a.1
  ·simp[c]
  simp[c];omega
def oP(d:(l.map Prod.fst).Nodup):Ris (bQ l):=by
 obtain⟨f,g⟩:=zX (ZO d);unfold Ris;rw[Yn];refine f.imp_of_mem (λ{a b} ha hb h=>?_);rw[g]at ha hb;simp only[aH,xak,yt,yr]at h;rcases h with h|h
 ·exact h
 exfalso
 have c:=zR d (b:=a.1) (n:=a.2) ha;have e:=zR d (b:=b.1) (n:=b.2) hb;rw[h.1,e]at c;injection c with c
 omega
def vB(b:List Nat):∀(ps:List (Nat×Nat)) (p:Nat) (a:List (Nat×Nat)),Ris ps->(∀q∈ps,p<q.1/\q.1<=2147483647/\q.2<=2147483647)->fH ps.length p a (Pl.toldB (ps.flatMap (λp=>[p.1,p.2])++b))=V (a++ps,Pl.toldB b)
 |[],p,a,_,_=>by simp[fH]
 |q::ps,p,a,hr,hq=>by
  obtain⟨f,d,e⟩:=hq q (by simp);rw[List.length_cons,fH,Yl];show((Xm (p+1) 2147483647 (Pl.toldB (q.1::(q.2::(ps.flatMap (λp=>[p.1,p.2])++b))))).bind _)=_;rw[zU (by omega) d d,xk];show((Xm 0 2147483647 (Pl.toldB (q.2::(ps.flatMap (λp=>[p.1,p.2])++b)))).bind _)=_;rw[zU (Nat.zero_le _) e e,xk];show fH ps.length q.1 (a++[(q.1,q.2)]) (Pl.toldB (ps.flatMap (λp=>[p.1,p.2])++b))=_;rw[vB b ps q.1 _ hr.cons.2 (λr c=>⟨hr.cons.1 r c,(hq r (by simp[c])).2⟩)];simp
def DV{ps:List (Nat×Nat)}(b:ps.length<=2)(d:Ris ps)(c:∀q∈ps,1<=q.1/\q.1<=2147483647/\q.2<=2147483647)(a:List Nat):fE (Pl.toldB (WC ps++a))=V (ps,Pl.toldB a):=by
 unfold fE WC;rw[Yb,zU (Nat.zero_le _) b (by omega),xk];show fH ps.length 0 [] (Pl.toldB _)=_;rw[vB a ps 0 [] d (λq h=>by have:=c q h;omega)];simp
def kap(l:L):L:={ l with par:=zV l.par }
def XV(l:L):L:={ kap l with gv:=0 }
def Nw(l:List (Nat×Nat)):((zV l).map Prod.snd).sum=(l.map Prod.snd).sum:=by
 unfold zV;split
 ·split
  ·simp;omega
  rfl
 rfl
def Hv{l:L}(i:Wb l)(a:L.Ok l){com:Nat}(n:1<=l.place)(r:l.place<=com)(g:∀p∈l.par,1<=p.1)(m:List Nat):cV l.id com (Pl.toldB ((bZ l).tail++m))=V (XV l,Pl.toldB m):=by
 have t:=a.sum;have s:=a.place;have c:=i.got;have b:=a.got;have d:=a.par.1;have e:(bZ l).tail++m=l.gd::l.ex::l.place::l.free::l.hd::l.sh::l.sc::(WC (zV l.par)++((if (zV l.par).length=0 then [l.got] else [])++m)):=by
  unfold bZ;simp
 rw[e];unfold cV;rw[zU i.gd a.gd a.gd,xk,zU (Nat.zero_le _) a.ex a.ex,xk,zU n r (by omega),xk,zU (Nat.zero_le _) (by omega) (by omega),xk,zU (Nat.zero_le _) (by omega) (by omega),xk,zU (Nat.zero_le _) (by omega) (by omega),xk,zU (Nat.zero_le _) (by omega) (by omega),xk];rw[DV (by rw[ZS];exact d) (FM d i.keys) (λq k=>by
  rw[gN]at k;exact⟨g q k,a.par.2 q k,i.small q k⟩),xk]
 dsimp only;by_cases f:(zV l.par).length=0
 ·rw[xh f,xh f,List.singleton_append,yG b,xk,xh ⟨c,b⟩];rfl
 rw[xg f,xg f,xk];have j:((zV l.par).map Prod.snd).sum=l.got:=by
  rw[Nw];rcases i.par with h|h
  ·rw[ZS,h]at f;simp at f
  exact h.symm
 rw[j,xh ⟨c,b⟩];rfl
def Wz(f:Nat->Option L)(is:List Nat)(sl:List (Option L)):List (Option L):=is.foldl (λsl i=>sl.set i (f i)) sl
def Ju(f:Nat->Option L):∀(b:List Nat) (a:List (Option L)),(Wz f b a).length=a.length
 |[],a=>rfl
 |i::b,a=>by
  show(Wz f b (a.set i (f i))).length=_;rw[Ju f b,xp]
def Jt(f:Nat->Option L){j:Nat}:∀(a:List Nat) (b:List (Option L)),j<b.length->(Wz f a b)[j]?=if j∈a then V (f j) else b[j]?
 |[],b,_=>by simp[Wz]
 |i::a,b,hj=>by
  show(Wz f a (b.set i (f i)))[j]?=_;rw[Jt f a _ (by rw[xp];exact hj)];by_cases c:j∈a
  ·rw[xh c,xh (by simp[c])]
  rw[xg c];by_cases d:j=i
  ·subst d;rw[xh (by simp)];simp[hj]
  rw[xg (by simp[c,d])];simp[YM d]
def QT{ls:List L}{b:List Nat}(h:∀i,i<ls.length->i∈b):Wz (λi=>V (XV (ls.getD i L0))) b (List.replicate ls.length Y)=ls.map (λl=>V (XV l)):=by
 apply xay
 intro j;by_cases a:j<ls.length
 ·rw[Jt _ _ _ (by simpa using a),xh (h j a)];simp[WI,a]
 rw[yo (by rw[Ju];simp;omega),yo (by simp;omega)]
variable {x:Nat->Nat}
section
variable {os:List O}{rj:List (Nat×Nat)}{ls:List L}{td:Nat}
def BR(f:∀l∈ls,L.Ok l)(d:Good os ls)(n:Snd os rj ls)(g:List Nat):∀(is:List Nat) (p:Nat) (h:List (Option L)),(∀i∈is,i<ls.length/\p<(ls.getD i L0).id/\h[i]?=V Y)->is.Pairwise (λa b=>(ls.getD a L0).id<(ls.getD b L0).id) ->
  yH ls.length is.length p h (Pl.toldB (is.flatMap (λi=>bZ (ls.getD i L0))++g))=V (Wz (λi=>V (XV (ls.getD i L0))) is h,Pl.toldB g)
 |[],p,h,_,_=>by simp[yH,Wz]
 |i::is,p,h,hi,hr=>by
  obtain⟨k,x,r⟩:=hi i (by simp);have c:=f _ (zf k);have t:=d.place i k;obtain⟨q,w⟩:=ym.1 hr;have e:(i::is).flatMap (λi=>bZ (ls.getD i L0))++g=(ls.getD i L0).id::((bZ (ls.getD i L0)).tail++(is.flatMap (λi=>bZ (ls.getD i L0))++g)):=by
   rw[Yl];unfold bZ;simp
  rw[List.length_cons,yH,e,zU (by omega) c.id c.id,Option.bind_some];dsimp only;rw[Hv (n.one i k) c (by omega) (by omega) (λp s=>by
   obtain⟨j,y,v,_⟩:=n.fam i k p s;rw[<-v];exact(n.one j (by omega)).id),xk]
  dsimp only;have u:(XV (ls.getD i L0)).place-1=i:=by show(ls.getD i L0).place-1=i;omega
  rw[u,xh (by rw[WI,r];rfl),BR f d n g is _ _ (λj m=>⟨(hi j (by simp[m])).1,q j m,by
   rw[yi];by_cases e:i=j
   ·subst e;have:=q i m;omega
   rw[xg e];exact(hi j (by simp[m])).2.2⟩) w]
  rfl
def wg(ls:List L)(g:L->Nat):List L:=ls.map λx=>{ kap x with gv:=g x }
def iE(g:L->Nat):(wg ls g).length=ls.length:=by simp[wg]
def kK(g:L->Nat)(n:Nat):WO n (wg ls g)=WO n ls:=by
 unfold WO wg;rw[xbt];rfl
def cO(g:L->Nat){i:Nat}(a:i<ls.length):(wg ls g).getD i L0={ kap (ls.getD i L0) with gv:=g (ls.getD i L0) }:=by
 simp[wg,WI,a]
def Qm(b:∀i j,i<ls.length->j<ls.length->(ls.getD i L0).id=(ls.getD j L0).id->i=j)(g:L->Nat){n m:Nat}(d:WO n ls<ls.length):(wg ls g).set (WO n ls) (WL ((wg ls g).getD (WO n ls) L0) m)=wg ls (λx=>g x+if n=x.id then m else 0):=by
 have a:=aD d;apply xay;intro j;by_cases c:j<ls.length
 ·have h:(wg ls (λx=>g x+if n=x.id then m else 0))[j]?=V ((wg ls (λx=>g x+if n=x.id then m else 0)).getD j L0):=by
   rw[WI,xj (by rw[iE];exact c)];rfl
  have f:(wg ls g)[j]?=V ((wg ls g).getD j L0):=by
   rw[WI,xj (by rw[iE];exact c)];rfl
  rw[h,cO _ c,yi];by_cases e:WO n ls=j
  ·rw[xh e,xh (by rw[iE];exact d),cO _ d,e];rw[e]at a;rw[xh a.symm];rfl
  rw[xg e,f,cO _ c];have:¬n=(ls.getD j L0).id:=λq=>e (b _ _ d c (by rw[a,q]))
  rw[xg this];rfl
 rw[yo (by rw[xp,iE];omega),yo (by rw[iE];omega)]
def Qj(a:∀i j,i<ls.length->j<ls.length->(ls.getD i L0).id=(ls.getD j L0).id->i=j)(l:L):∀(ps:List (Nat×Nat)) (e:Nat) (g:L->Nat),(∀p∈ps,WO p.1 ls<ls.length/\(zg ls p.1).gd=l.gd/\(zg ls p.1).place<l.place) ->
  XH l ps e (wg ls g)=V (wg ls (λx=>g x+(ps.map λp=>if p.1=x.id then p.2 else 0).sum),ps.foldl (λe p=>min e (zg ls p.1).ex) e)
 |[],e,g,_=>by simp[XH]
 |p::ps,e,g,hp=>by
  obtain⟨b,k,m⟩:=hp p (by simp);have d:=cO g b;have f:((wg ls g).getD (WO p.1 (wg ls g)) L0).gd=l.gd:=by rw[kK,d];exact k
  have h:((wg ls g).getD (WO p.1 (wg ls g)) L0).place<l.place:=by rw[kK,d];exact m
  have c:((wg ls g).getD (WO p.1 (wg ls g)) L0).ex=(zg ls p.1).ex:=by rw[kK,d];rfl
  rw[XH,xh ⟨by rw[kK,iE];exact b,f,h⟩,c,kK,Qm a g b,Qj a l ps _ _ (λq n=>hp q (by simp[n]))];simp only[XY,Yf,YS,yk,Yi,and_true];congr 1;funext x;omega
def Fq(ps:List (Nat×Nat)):Xb ls (zV ps)=Xb ls ps:=by
 unfold zV;split
 ·split
  ·simp only[Xb,YS,List.foldl_nil];omega
  rfl
 rfl
def AP(f:Nat×Nat->Nat)(l:List (Nat×Nat)):((zV l).map f).sum=(l.map f).sum:=by
 unfold zV;split
 ·split
  ·simp;omega
  rfl
 rfl
def Uq(a:Good os ls)(q:Snd os rj ls){i:Nat}(b:i<ls.length):XI (wg ls (λx=>WM (ls.take i) x.id)) i=V (wg ls (λx=>WM (ls.take (i+1)) x.id)):=by
 have f:∀n,WM (ls.take (i+1)) n=WM (ls.take i) n+WJ (ls.getD i L0) n:=λn=>by
  rw[Z8 (d:=L0) b];simp[WM]
 obtain⟨y,g⟩:∃y,y=(wg ls (λx=>WM (ls.take i) x.id)).getD i L0:=⟨_,rfl⟩
 have u:y.par=zV (ls.getD i L0).par:=by rw[g,cO _ b];rfl
 have v:y.ex=(ls.getD i L0).ex:=by rw[g,cO _ b];rfl
 have w:y.gd=(ls.getD i L0).gd:=by rw[g,cO _ b];rfl
 have z:y.place=(ls.getD i L0).place:=by rw[g,cO _ b];rfl
 unfold XI;rw[<-g,u,v];by_cases c:(zV (ls.getD i L0).par).length=0
 ·rw[xh c];have h:(ls.getD i L0).par=[]:=by rw[ZS]at c;exact yl.1 c
  congr 2
  funext x
  rw[f];unfold WJ;rw[h];rfl
 rw[xg c];have m:(ls.getD i L0).par≠[]:=λe=>c (by rw[e];rfl)
 rw[Qj a.ids _ _ _ _ (λp h=>by
  rw[gN]at h;obtain⟨j,B,s,t⟩:=q.fam i b p h;have e:WO p.1 ls=j:=by rw[<-s];exact eR (by omega) (λk A e=>by have:=a.ids k j (by omega) (by omega) e;omega) rfl
  unfold zg;rw[e,w,z];refine⟨by omega,t,?_⟩;rw[a.place j (by omega),a.place i b];omega),xk]
 have r:=q.exp i b m;have l:=Fq (ls:=ls) (ls.getD i L0).par;rw[<-r]at l;unfold Xb at l;rw[l,xh rfl];show V (wg ls _)=_;congr 2;funext x;rw[f,AP];rfl
def Qi(a:Good os ls)(b:Snd os rj ls):∀k i,i+k=ls.length->XG k i (wg ls (λx=>WM (ls.take i) x.id))=V (ls.map kap)
 |0,i,h=>by
  rw[XG];congr 1;unfold wg;apply Yj;intro x f;obtain⟨j,d,rfl⟩:=xw f;have e:ls.getD j L0=ls[j]:=by simp[WI,d]
  have c:=b.giv j d;rw[e]at c;rw[ye (by omega)];show({ kap ls[j] with gv:=WM ls ls[j].id }:L)=_;rw[<-c];rfl
 |k+1,i,h=>by
  rw[XG,Uq a b (by omega),xk];exact Qi a b k (i+1) (by omega)
def KL(p:∀l∈ls,L.Ok l)(g:ls.length<=30)(f:Good os ls)(q:Snd os rj ls)(r:List Nat):cM (Pl.toldB (ls.length::ls.length::(Xw ls++r)))=V (ls.map kap,Pl.toldB r):=by
 obtain⟨s,n⟩:=Zk (x:=λi=>(ls.getD i L0).id) f.ids (ls.length+1) 0 (by have:=bN (λi=>(ls.getD i L0).id) 0 ls.length;omega);have d:∀i,i<ls.length->i∈Zf (λi=>(ls.getD i L0).id) ls.length (ls.length+1) 0:=λi c=>(n i).2 ⟨c,(q.one i c).id⟩
 have k:(Zf (λi=>(ls.getD i L0).id) ls.length (ls.length+1) 0).length=ls.length:=by
  have a:=ZN (l:=Zf (λi=>(ls.getD i L0).id) ls.length (ls.length+1) 0) (m:=List.range ls.length) (s.imp (λj e=>by rw[e]at j;exact xaa _ j)) (λi c=>by simp;exact((n i).1 c).1);have b:=ZN (l:=List.range ls.length) (m:=Zf (λi=>(ls.getD i L0).id) ls.length (ls.length+1) 0) xbv (λi c=>d i (by simpa using c));simp only[List.length_range]at a b;omega
 unfold cM;rw[zU (Nat.zero_le _) g (by omega),Option.bind_some,yG (by omega),Option.bind_some,if_pos rfl];dsimp only;have h:=BR p f q r (Zf (λi=>(ls.getD i L0).id) ls.length (ls.length+1) 0) 0 (List.replicate ls.length Y) (λi c=>⟨((n i).1 c).1,((n i).1 c).2,by simp[((n i).1 c).1]⟩) s;rw[k]at h;unfold Xw;rw[h,Option.bind_some,QT d];dsimp only;have e:(ls.map (λl=>V (XV l))).map (λo=>o.getD L0)=wg ls (λx=>WM (ls.take 0) x.id):=by
  unfold wg;simp[XV,WM]
 rw[e,Qi f q _ 0 (by omega),xk]
def Xr(o:O):O:={ o with li:=bQ o.li }
def Dt(n:Nat):WO n (ls.map kap)=WO n ls:=by
 unfold WO;rw[xbt];rfl
def Ke(i:Nat):(ls.map kap).getD i L0=kap (ls.getD i L0):=by
 rw[WI,WI,xbm]
 cases ls[i]? with
 |none=>rfl
 |some x=>rfl
def BQ{g:Nat}(c:List Nat):∀(ps:List (Nat×Nat)) (p:Nat) (a:List (Nat×Nat)),Ris ps->(∀q∈ps,p<q.1/\q.1<=2147483647/\1<=q.2/\q.2<=2147483647/\WO q.1 ls<ls.length/\(zg ls q.1).gd=g)->sJ (ls.map kap) g ps.length p a (Pl.toldB (ps.flatMap (λp=>[p.1,p.2])++c))=V (a++ps,Pl.toldB c)
 |[],p,a,_,_=>by simp[sJ]
 |q::ps,p,a,hr,hq=>by
  obtain⟨j,d,f,e,h,i⟩:=hq q (by simp);rw[List.length_cons,sJ,List.flatMap_cons];show((Xm (p+1) 2147483647 (Pl.toldB (q.1::(q.2::(ps.flatMap (λp=>[p.1,p.2])++c))))).bind _)=_;rw[zU (by omega) d d,Option.bind_some];dsimp only;rw[if_pos ⟨by rw[Dt,List.length_map];exact h,by rw[Dt,Ke];exact i⟩,zU f e e,Option.bind_some];show sJ (ls.map kap) g ps.length q.1 (a++[(q.1,q.2)]) (Pl.toldB (ps.flatMap (λp=>[p.1,p.2])++c))=_;rw[BQ c ps q.1 _ hr.cons.2 (λr b=>⟨hr.cons.1 r b,(hq r (by simp[b])).2⟩)];simp
structure VT(ls:List L)(o:O):Prop where
 id:o.id<=2147483647
 gd:1<=o.gd/\o.gd<=2147483647
 len:1<=o.li.length/\o.li.length<=30
 keys:(o.li.map Prod.fst).Nodup
 line:∀q∈o.li,1<=q.1/\q.1<=2147483647/\1<=q.2/\q.2<=2147483647/\WO q.1 ls<ls.length/\(zg ls q.1).gd=o.gd
def BP{o:O}(a:VT ls o)(b:List Nat):aI (ls.map kap) o.gd (Pl.toldB (WC (bQ o.li)++b))=V (bQ o.li,Pl.toldB b):=by
 obtain⟨_,d⟩:=zX (ZO a.keys);have f:=bG o.li (ZO a.keys);have e:=a.len;unfold aI WC;rw[Yb,zU (by omega) (by omega) (by omega),xk];show sJ (ls.map kap) o.gd (bQ o.li).length 0 [] (Pl.toldB _)=_;rw[BQ b _ 0 [] (oP a.keys) (λq c=>by
  rw[d]at c;have:=a.line q c;exact⟨by omega,this.2⟩)]
 simp
def BS(g:∀o∈os,VT ls o)(f:List Nat):∀(is:List Nat) (p:Nat) (c:List O),(∀i∈is,i<os.length/\p<(os.getD i O0).id)->is.Pairwise (λa b=>(os.getD a O0).id<(os.getD b O0).id) ->
  Ad (ls.map kap) is.length p c (Pl.toldB (is.flatMap (λi=>cA (os.getD i O0))++f))=V (c++is.map (λi=>Xr (os.getD i O0)),Pl.toldB f)
 |[],p,c,_,_=>by simp[Ad]
 |i::is,p,c,hi,hr=>by
  obtain⟨k,n⟩:=hi i (by simp);have d:=g _ (Da k);obtain⟨l,m⟩:=ym.1 hr;have e:(i::is).flatMap (λi=>cA (os.getD i O0))++f=(os.getD i O0).id::(os.getD i O0).gd::(WC (bQ (os.getD i O0).li)++(is.flatMap (λi=>cA (os.getD i O0))++f)):=by
   rw[Yl];unfold cA;simp
  rw[List.length_cons,Ad,e,zU (by omega) d.id d.id,Option.bind_some];dsimp only;rw[zU d.gd.1 d.gd.2 d.gd.2,Option.bind_some];dsimp only;rw[BP d,Option.bind_some];show Ad (ls.map kap) is.length (os.getD i O0).id (c++[Xr (os.getD i O0)]) (Pl.toldB _)=_;rw[BS g f is _ _ (λj h=>⟨(hi j (by simp[h])).1,l j h⟩) m];simp
def Xg(os:List O):List O:=(Zf (λi=>(os.getD i O0).id) os.length (os.length+1) 0).map (λi=>Xr (os.getD i O0))
def wM{N:Nat}(b:∀i j,i<N->j<N->x i=x j->i=j)(c:∀i,i<N->1<=x i):(Zf x N (N+1) 0).Perm (List.range N):=by
 obtain⟨d,f⟩:=Zk (x:=x) b (N+1) 0 (by have:=bN x 0 N;omega);refine(xav (d.imp (λa e=>by rw[e]at a;exact xaa _ a)) xbv).2 (λi=>?_);rw[f,xdb];exact⟨λh=>h.1,λh=>⟨h,c i h⟩⟩
def rN{β:Type}(f:α->β)(d:α)(l:List α):(List.range l.length).map (λi=>f (l.getD i d))=l.map f:=by
 apply YT
 ·simp
 intro i a b;simp at a;simp[WI,a]
def kA(c:(os.map O.id).Nodup)(a:∀o∈os,1<=o.id):(Xg os).Perm (os.map Xr):=by
 have:=(wM (x:=λi=>(os.getD i O0).id) (eV c) (λi b=>a _ (Da b))).map (λi=>Xr (os.getD i O0))
 rw[rN Xr O0 os]at this;exact this
def DQ(g:∀o∈os,VT ls o)(e:(os.map O.id).Nodup)(f:∀o∈os,1<=o.id)(a:os.length<=10)(c:List Nat):ZV (ls.map kap) (Pl.toldB (os.length::(Xy os++c)))=V (Xg os,Pl.toldB c):=by
 obtain⟨j,k⟩:=Zk (x:=λi=>(os.getD i O0).id) (eV e) (os.length+1) 0 (by have:=bN (λi=>(os.getD i O0).id) 0 os.length;omega);have d:=(wM (x:=λi=>(os.getD i O0).id) (eV e) (λi b=>f _ (Da b))).length_eq;rw[List.length_range]at d;unfold ZV;rw[zU (Nat.zero_le _) a (by omega),Option.bind_some];dsimp only;have h:=BS g c (Zf (λi=>(os.getD i O0).id) os.length (os.length+1) 0) 0 [] (λi b=>(k i).1 b) j;rw[d]at h;unfold Xy;rw[h];rfl
def BU(d:List Nat):∀(ps:List (Nat×Nat)) (a:Nat×Nat) (c:List (Nat×Nat)),(a::ps).Pairwise (λa b=>aH a b=true)->(∀q∈ps,1<=q.1/\q.1<=2147483647/\1<=q.2/\q.2<=2147483647/\WO q.1 ls<ls.length)->DW (ls.map kap) ps.length a c (Pl.toldB (ps.flatMap (λp=>[p.1,p.2])++d))=V (c++ps,Pl.toldB d)
 |[],p,c,_,_=>by simp[DW]
 |q::ps,p,c,e,hq=>by
  obtain⟨h,f,i,g,j⟩:=hq q (by simp);obtain⟨k,l⟩:=List.pairwise_cons.1 e;rw[List.length_cons,DW,List.flatMap_cons];show((Xm 1 2147483647 (Pl.toldB (q.1::(q.2::(ps.flatMap (λp=>[p.1,p.2])++d))))).bind _)=_;rw[zU h f f,Option.bind_some];dsimp only;rw[zU i g g,Option.bind_some];show(if aH p q=true/\WO q.1 (ls.map kap)<(ls.map kap).length then DW (ls.map kap) ps.length q (c++[q]) (Pl.toldB _) else Y)=_;rw[if_pos ⟨k q (by simp),by rw[Dt,List.length_map];exact j⟩,BU d ps q _ l (λr e=>hq r (by simp[e]))];simp
def Lz(a:Rc rj)(d:Snd os rj ls)(c:List Nat):eF (ls.map kap) (Pl.toldB (WC (bQ rj)++c))=V (bQ rj,Pl.toldB c):=by
 obtain⟨f,e⟩:=zX a.nodup;have h:=bG rj a.nodup;have g:=a.len;unfold eF WC;rw[Yb,zU (Nat.zero_le _) (by omega) (by omega),xk];show DW (ls.map kap) (bQ rj).length (0,0) [] (Pl.toldB _)=_;rw[BU c _ (0,0) [] (ym.2 ⟨λq b=>by
  rw[e]at b;have:=(d.rcl q b).1;simp only[aH,xak,yr];exact Or.inl (by omega),f⟩) (λq b=>by
  rw[e]at b;have:=d.rcl q b;have:=a.fits q b;omega)]
 simp
def uT(a:(l.map Prod.fst).Nodup)(n:Nat):(bQ l).lookup n=l.lookup n:=by
 obtain⟨f,c⟩:=zX (ZO a);have b:((bQ l).map Prod.fst).Nodup:=(oP a).imp (λh e=>by rw[e]at h;exact xaa _ h)
 cases h:l.lookup n with
 |some v=>exact zR b ((c _).2 (ZC h))
 |none=>
  cases d:(bQ l).lookup n with
  |none=>rfl
  |some v=>
   have:=zR a ((c _).1 (ZC d))
   rw[h]at this;cases this
def Dg(b:∀o∈os,(o.li.map Prod.fst).Nodup)(c:(os.map O.id).Nodup)(a:∀o∈os,1<=o.id)(n:Nat):zD (Xg os) n=zD os n:=by
 unfold zD;rw[((kA c a).map (λo=>ZZ o n)).sum_nat,xai];congr 1;apply Yj;intro o d;show((bQ o.li).lookup n).getD 0=(o.li.lookup n).getD 0;rw[uT (b o d)]
def Km{n:Nat}:∀{l:List Nat},n∈l->n<=l.sum
 |x::l,h=>by
  rw[Yf];rcases xz.1 h with rfl|h
  ·omega
  have:=Km h;omega
def Il(t:td<=2147483647)(r:∀l∈ls,L.Ok l)(h:ls.length<=30)(a:Good os ls)(s:Snd os rj ls)(z:Rc rj)(w:∀o∈os,1<=o.id/\o.gd<=2147483647):zE (Xu td os rj ls)=V (td,ls.map kap,Xg os,bQ rj):=by
 have F:∀o∈os,VT ls o:=λo b=>by
  obtain⟨s1,s2,E⟩:=s.ord o b;have d:=λp g=>a.mem o b p g
  have q:o.li.length<=30:=by
   have:=ZN (l:=o.li.map Prod.fst) (m:=ls.map L.id) (a.keys o b) (λx u=>by
    obtain⟨p,g,rfl⟩:=yc.1 u;obtain⟨i,c,e⟩:=d p g;rw[<-e];exact yb (zf c))
   rw[List.length_map,List.length_map]at this;omega
  refine⟨a.oid o b,⟨s1,(w o b).2⟩,⟨xaf.2 s2,q⟩,a.keys o b,λp g=>?_⟩;obtain⟨i,c,e⟩:=d p g;have n:=r _ (zf c);have u:WO p.1 ls=i:=by rw[<-e];exact eR c (λk K e=>by have:=a.ids k i (by omega) c e;omega) rfl
  have J:p.2<=zD os p.1:=by
   have v:ZZ o p.1=p.2:=by unfold ZZ;rw[zR (a.keys o b) g];rfl
   rw[<-v];unfold zD;exact Km (yb (f:=λo=>ZZ o p.1) b)
  have G:=a.hd i c;rw[e]at G;have D:=n.sum;have C:=(s.one i c).id;have v:=n.id;rw[e]at C v;exact⟨C,v,(E p g).1,by omega,by rw[u];exact c,(E p g).2⟩
 have e:Xx td os rj ls=td::(ls.length::ls.length::(Xw ls++(os.length::(Xy os++(WC (bQ rj)++[]))))):=by
  unfold Xx;simp
 unfold Xu zE;dsimp only;rw[if_pos rfl,e,zU (Nat.zero_le _) t t,Option.bind_some];dsimp only;rw[KL r h a s,Option.bind_some];dsimp only;rw[DQ F a.oids (λo b=>(w o b).1) a.olen,Option.bind_some];dsimp only;rw[Lz z s,Option.bind_some];dsimp only;rw[if_pos ⟨rfl,by
  rw[xaP];intro x u;obtain⟨l,H,rfl⟩:=yc.1 u;obtain⟨j,y,rfl⟩:=xw H;have e:ls.getD j L0=ls[j]:=by simp[WI,y]
  have A:=(s.one j y).sum;have B:=a.hd j y;rw[e]at A B;unfold Wk;rw[yt,yr,yr];refine⟨A,?_⟩;show ls[j].hd=zD (Xg os) ls[j].id;rw[Dg a.keys a.oids (λo b=>(w o b).1)];exact B⟩]
end
section
variable {os:List O}{rj:List (Nat×Nat)}{ls:List L}{td:Nat}
end
open Go.RowKit
section
variable {os:List O}{rj:List (Nat×Nat)}{ls:List L}{td:Nat}
def RP(a:(os.map O.id).Nodup)(b:∀o∈os,1<=o.id):((Xg os).map O.id).Nodup:=by
 have h:=((kA a b).map O.id)
 rw[xai]at h;exact h.nodup_iff.2 a
def lS(b:(os.map O.id).Nodup)(a:∀o∈os,1<=o.id){o:O}:o∈Xg os↔∃x∈os,Xr x=o:=by
 rw[(kA b a).mem_iff,yc]
def EP(c:(os.map O.id).Nodup)(a:∀o∈os,1<=o.id)(n:Nat):(Xg os).find? (λo=>o.id==n)=(os.find? (λo=>o.id==n)).map Xr:=by
 cases h:os.find? (λo=>o.id==n) with
 |some o=>
  have d:=xaE h
  have b:o.id=n:=by have:=xcU h;simpa using this
  have:=fT (RP c a) ((lS c a).2 ⟨o,d,rfl⟩)
  rw[<-b];exact this
 |none=>
  rw[YO]at h;show _=Y;rw[YO];intro o d;obtain⟨x,e,rfl⟩:=(lS c a).1 d;exact h x e
def Db(b:(os.map O.id).Nodup)(a:∀o∈os,1<=o.id)(n:Nat):Ze (Xg os) n=Ze os n:=by
 unfold Ze;rw[EP b a,Option.map_map];rfl
def uR(e:(os.map O.id).Nodup)(c:∀o∈os,1<=o.id)(d:∀o∈os,(o.li.map Prod.fst).Nodup)(a b:Nat):zn (Xg os) a b=zn os a b:=by
 unfold zn;rw[EP e c]
 cases h:os.find? (λo=>o.id==a) with
 |none=>rfl
 |some o=>exact uT (d o (xaE h)) b
def Qw(c:(os.map O.id).Nodup)(b:∀o∈os,1<=o.id)(n:Nat):(Xg os).any (λo=>o.id==n)=os.any (λo=>o.id==n):=by
 rw[YH,xap,xap];constructor
 ·rintro⟨o,a,e⟩;obtain⟨x,d,rfl⟩:=(lS c b).1 a;exact⟨x,d,e⟩
 rintro⟨o,a,e⟩;exact⟨Xr o,(lS c b).2 ⟨o,a,rfl⟩,e⟩
def RQ(b:(os.map O.id).Nodup)(a:∀o∈os,1<=o.id):(Xg os).length=os.length:=by rw[(kA b a).length_eq,List.length_map]
def Hk(c:(os.map O.id).Nodup)(a:∀o∈os,1<=o.id)(b:∀o∈os,(o.li.map Prod.fst).Nodup):Zb (Xg os)=Zb os:=by
 unfold Zb;rw[((kA c a).map (λo=>o.li.length)).sum_nat,xai];congr 1;apply Yj;intro o d;exact bG o.li (ZO (b o d))
end
section
variable {os:List O}{rj:List (Nat×Nat)}{ls:List L}{td:Nat}{w:World}{M:Mx}
def Mp.same(h:Mp (Xg os) (bQ rj) w M)(c:Good os ls)(f:∀o∈os,1<=o.id)(i:Rc rj):Mp os rj w M:={
 r:=by
  obtain⟨D,l,d⟩:=h.r;obtain⟨_,s⟩:=zX i.nodup;refine⟨D,l,⟨by rw[d.size,bG rj i.nodup],λa b j k=>?_,λq g=>?_⟩⟩
  ·rw[d.has a b j k,YH];simp[s]
  obtain⟨p,u,e⟩:=d.keys q g;exact⟨p,(s p).1 u,e⟩
 rc:=i
 o:=by
  obtain⟨D,l,d⟩:=h.o;refine⟨D,l,⟨by rw[d.size,RQ c.oids f],λn m=>by rw[d.has n m,Qw c.oids f],λn m=>by rw[d.val n m,Db c.oids f],λq g=>?_⟩⟩;obtain⟨o,t,e⟩:=d.keys q g;obtain⟨x,v,rfl⟩:=(lS c.oids f).1 t;exact⟨x,v,e⟩
 h:=by
  obtain⟨D,l,d⟩:=h.h;exact⟨D,l,⟨by rw[d.size,Hk c.oids f c.keys],λa b j k=>by rw[d.has a b j k,uR c.oids f c.keys],λa b j k=>by rw[d.val a b j k,uR c.oids f c.keys]⟩⟩
 ro:=h.ro
 rh:=h.rh
 oh:=h.oh}
def PL.same{lg:List UInt8}{Z:Nat->Prop}{f:Nat}(h:PL lg (Xg os) (bQ rj) Z w f td ls)(b:Good os ls)(q:∀o∈os,1<=o.id)(d:Rc rj):PL lg os rj Z w f td ls:=by
 obtain⟨S,g,lv,i,j,k,l,⟨M,v,p,e,a,c⟩,m,n⟩:=h;exact⟨S,g,lv,i,j,k,l,⟨M,v,p,e,⟨a.store,a.maps.same b q d,a.row,a.len,a.plen,a.lot,a.par,a.nodup,a.today,a.ok,a.room⟩,c⟩,m,n⟩
def Kv.same{lg:List UInt8}{B:Nat}{d:World}{Z:Nat->Prop}{c:Nat}(h:Kv B d w Z c ⟨td,Xg os,bQ rj,ls,lg⟩)(a:Good os ls)(e:∀o∈os,1<=o.id)(b:Rc rj):Kv B d w Z c ⟨td,os,rj,ls,lg⟩:=
 ⟨h.old,h.size,h.two,h.gl,h.pl.same a e b,h.zin,a⟩
end
