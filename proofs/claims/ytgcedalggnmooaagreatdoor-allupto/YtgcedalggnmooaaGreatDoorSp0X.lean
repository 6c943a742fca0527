import Derived.Test.YtgcedalggnmooaaGreatDoorCm0X
set_option linter.all false
set_option maxRecDepth 100000
namespace Go.Proofs.YtgcedalggnmooaaGreatDoor
def dO{α:Type}{lt:α->α->Prop}(d:∀a,¬lt a a)(k:∀a b c,lt a b->lt b c->lt a c):∀{l m:List α},l.Pairwise lt->m.Pairwise lt->(∀x,x∈l↔x∈m)->l=m
 |[],[],_,_,_=>rfl
 |[],y::m,_,_,h=>absurd ((h y).2 (by simp)) (by simp)
 |x::l,[],_,_,h=>absurd ((h x).1 (by simp)) (by simp)
 |x::l,y::m,hl,hm,h=>by
  have i:=XE.1 hl;have j:=XE.1 hm;have e:x=y:=by
   rcases xz.1 ((h x).1 (by simp)) with e|e
   ·exact e
   rcases xz.1 ((h y).2 (by simp)) with g|g
   ·exact g.symm
   exact absurd (k _ _ _ (j.1 x e) (i.1 y g)) (d y)
  subst e;rw[dO d k i.2 j.2 (λz=>?_)];constructor
  ·intro f;rcases xz.1 ((h z).1 (by simp[f])) with e|e
   ·subst e;exact absurd (i.1 z f) (d z)
   exact e
  intro f;rcases xz.1 ((h z).2 (by simp[f])) with e|e
  ·subst e;exact absurd (j.1 z f) (d z)
  exact e
def Du{x:Nat->Nat}{n:Nat}:∀{k i:Nat},Wx x n k=some i->∀j,j<k->n<x j->x i<=x j
 |0,i,h=>by simp[Wx]at h
 |k+1,i,h=>by
  intro j q a;rw[Wx]at h;split at h
  ·rename_i f
   cases h;by_cases e:j=k
   ·subst e;exact xe _
   cases p:Wx x n k with
   |none=>
    exfalso
    have:∀m,Wx x n m=none->∀j,j<m->¬n<x j:=by
     intro m;induction m with
     |zero=>intro _ j h;omega
     |succ m ih=>
      intro d j q a;rw[Wx]at d;split at d
      ·cases d
      rename_i g;by_cases e:j=m
      ·subst e;exact g ⟨a,λb c=>by rw[d]at c;cases c⟩
      exact ih d j (by omega) a
    exact this k p j (by omega) a
   |some b=>
    have r:=f.2 b p;have s:=Du p j (by omega) a;omega
  rename_i f;by_cases e:j=k
  ·subst e;by_cases l:x j<x i
   ·exact absurd ⟨a,λb c=>by rw[h]at c;cases c;exact l⟩ f
   omega
  exact Du h j (by omega) a
def Fa{x:Nat->Nat}{n:Nat}:∀{k:Nat},Wx x n k=none->∀j,j<k->¬n<x j
 |0,_,j,h=>by omega
 |k+1,hm,j,hj=>by
  intro d;rw[Wx]at hm;split at hm
  ·cases hm
  rename_i a;by_cases e:j=k
  ·subst e;exact a ⟨d,λb c=>by rw[hm]at c;cases c⟩
  exact Fa hm j (by omega) d
def Zf{x:Nat->Nat}{N:Nat}(g:∀i j,i<N->j<N->x i=x j->i=j):∀(f n:Nat),Co x n N<=f->(Zb x N f n).Pairwise (λa b=>x a<x b)/\∀i,i∈Zb x N f n↔i<N/\n<x i
 |0,n,hc=>by
  refine⟨by simp[Zb],λi=>⟨by simp[Zb],λ⟨c,d⟩=>?_⟩⟩;have:=pS x d N c;omega
 |f+1,n,hc=>by
  rw[Zb]
  cases l:Wx x n N with
  |none=>exact⟨by simp,λi=>⟨by simp,λ⟨c,d⟩=>absurd d (Fa l i c)⟩⟩
  |some k=>
   obtain⟨p,q⟩:=jW l;have t:=Du l;have s:=pS x q N p;obtain⟨m,h⟩:=Zf g f (x k) (by omega);refine⟨XE.2 ⟨λb r=>((h b).1 r).2,m⟩,λi=>?_⟩;rw[xz,h];constructor
   ·rintro(rfl|⟨c,d⟩)
    ·exact⟨p,q⟩
    exact⟨c,by omega⟩
   rintro⟨c,d⟩;have:=t i c d;by_cases e:x k=x i
   ·exact Or.inl (g i k c p e.symm)
   exact Or.inr ⟨c,by omega⟩
def Et{ls:List L}(c:∀i j,i<ls.length->j<ls.length->(ls.getD i L0).id=(ls.getD j L0).id->i=j):(VO ls).Pairwise (λa b=>(ls.getD a L0).id<(ls.getD b L0).id):=by
 have h:=xbs.2 ⟨Cv ls,Af ls⟩;refine xaT ?_ h
 rintro a b k l ⟨f,g⟩;have d:=eH.1 k;have e:=eH.1 l;simp only[lI,yn]at f;rcases xai (ls.getD a L0).id (ls.getD b L0).id with h|h
 ·exact h
 exact absurd (c a b d e (by omega)) g
def nT{ls:List L}(d:∀i j,i<ls.length->j<ls.length->(ls.getD i L0).id=(ls.getD j L0).id->i=j)(e:∀l∈ls,1<=l.id):VO ls=Zb (λi=>(ls.getD i L0).id) ls.length (ls.length+1) 0:=by
 obtain⟨f,g⟩:=Zf (x:=λi=>(ls.getD i L0).id) d (ls.length+1) 0 (by have:=bK (λi=>(ls.getD i L0).id) 0 ls.length;omega);refine dO (lt:=λa b=>(ls.getD a L0).id<(ls.getD b L0).id) (λa=>Yr _) (λa b c=>xbL) (Et d) f (λi=>?_);rw[g,eH];exact⟨λh=>⟨h,e _ (zf h)⟩,λh=>h.1⟩
def dN(a:Nat×Nat):¬aC a a=true:=by simp[aC]
def rG(a b c:Nat×Nat)(h:aC a b=true)(k:aC b c=true):aC a c=true:=by
 simp only[aC,YB,XK,XI]at *;omega
def Fi{a b:Nat×Nat}(h:aC a b=false)(c:a≠b):aC b a=true:=by
 obtain⟨f,g⟩:=a;obtain⟨i,j⟩:=b;have d:¬(f=i/\g=j):=λe=>c (by rw[e.1,e.2])
 simp only[aC,xat,YX,yn,YB,XK,XI]at *;omega
variable {α:Type}
def LM{lt:α->α->Prop}{l:List α}{d:α}(h:l.Pairwise lt){k:Nat}(b:k<l.length):∀q∈l.take k,lt q (l.getD k d):=by
 have a:(l.take k++[l.getD k d]).Pairwise lt:=by rw[<-ZY b];exact h.sublist (xaq _ _)
 intro q c;exact(Ya.1 a).2.2 q c _ (by simp)
def uI{p:Nat×Nat}{out:List (Nat×Nat)}(r:out.Pairwise (λa b=>aC a b=true))(v:p ∉ out):∀k,k<=out.length ->
  ((gU p out k).2=false/\(gU p out k).1=out.take k/\∀q∈out.take k,aC q p=true)\/((gU p out k).2=true/\(gU p out k).1.Pairwise (λa b=>aC a b=true)/\(∀q,q∈(gU p out k).1↔q=p\/q∈out.take k)/\∃q∈out.take k,aC p q=true)
 |0,_=>Or.inl ⟨rfl,by simp[gU],by simp⟩
 |k+1,hk=>by
  have f:k<out.length:=by omega
  have n:p≠out.getD k (0,0):=λe=>v (by rw[e];simp[Wc,f])
  have s:=LM (d:=(0,0)) r f;rw[gU,ZY (d:=(0,0)) f];rcases uI r v k (by omega) with ⟨g,i,j⟩|⟨g,i,j,w,t,u⟩
  ·by_cases m:aC p (out.getD k (0,0))=true
   ·rw[xh ⟨m,g⟩];refine Or.inr ⟨rfl,?_,?_,out.getD k (0,0),by simp,m⟩
    ·rw[i];refine Ya.2 ⟨Ya.2 ⟨r.sublist (xaq _ _),by simp,λa l b c=>?_⟩,by simp,λa l b c=>?_⟩
     ·simp at c;subst c;exact j a l
     simp at c;subst c;rcases xx.1 l with h|h
     ·exact s a h
     simp at h;subst h;exact m
    intro q;rw[i];simp only[xx,XN];constructor
    ·rintro((h|h)|h)
     ·exact Or.inr (Or.inl h)
     ·exact Or.inl h
     exact Or.inr (Or.inr h)
    rintro(h|h|h)
    ·exact Or.inl (Or.inr h)
    ·exact Or.inl (Or.inl h)
    exact Or.inr h
   rw[xg (λe=>m e.1)];refine Or.inl ⟨g,by rw[i],?_⟩;intro q x;rcases xx.1 x with h|h
   ·exact j q h
   simp at h;subst h;exact Fi (by simpa using m) n
  rw[xg (λe=>by rw[g]at e;cases e.2)];refine Or.inr ⟨g,?_,?_,w,List.mem_append_left _ t,u⟩
  ·refine Ya.2 ⟨i,by simp,λa l b c=>?_⟩;simp at c;subst c;rcases(j a).1 l with h|h
   ·subst h;exact rG _ _ _ u (s w t)
   exact s a h
  intro q;simp only[xx,j,XN];constructor
  ·rintro((h|h)|h)
   ·exact Or.inl h
   ·exact Or.inr (Or.inl h)
   exact Or.inr (Or.inr h)
  rintro(h|h|h)
  ·exact Or.inl (Or.inl h)
  ·exact Or.inl (Or.inr h)
  exact Or.inr h
variable {p:Nat×Nat}
def Gr{out:List (Nat×Nat)}(g:out.Pairwise (λa b=>aC a b=true))(i:p ∉ out):(Mk p out).Pairwise (λa b=>aC a b=true)/\∀q,q∈Mk p out↔q=p\/q∈out:=by
 unfold Mk;rcases uI g i out.length (xe _) with ⟨d,e,c⟩|⟨d,e,c,_⟩
 ·rw[d,xg (by simp),e,Xs];rw[Xs]at c;refine⟨Ya.2 ⟨g,by simp,λa h b f=>by simp at f;subst f;exact c a h⟩,λq=>?_⟩;simp[or_comm]
 rw[d,xh rfl];rw[Xs]at c;exact⟨e,c⟩
def uS{l:List (Nat×Nat)}(g:l.Nodup):∀k,k<=l.length->(xN l k).Pairwise (λa b=>aC a b=true)/\∀q,q∈xN l k↔q∈l.take k
 |0,_=>⟨by simp[xN],λq=>by simp[xN]⟩
 |k+1,hk=>by
  have c:k<l.length:=by omega
  obtain⟨h,f⟩:=uS g k (by omega);have e:l.getD k (0,0) ∉ xN l k:=by
   rw[f];have:=g.sublist (xaq (k+1) l);rw[ZY (d:=(0,0)) c]at this;intro m;exact(XP.1 this).2.2 _ m _ (by simp) rfl
  obtain⟨i,j⟩:=Gr h e;rw[xN];refine⟨i,λq=>?_⟩;rw[j,f,ZY (d:=(0,0)) c];simp[or_comm]
variable {l:List (Nat×Nat)}
def zZ(c:l.Nodup):(cA l).Pairwise (λa b=>aC a b=true)/\∀q,q∈cA l↔q∈l:=by
 have:=uS c l.length (xe _)
 rw[Xs]at this;exact this
def QH{m:List (Nat×Nat)}(e:l.Nodup)(f:m.Perm l):Wm aC m=cA l:=by
 obtain⟨n,p⟩:=zZ e;rw[SY];have d:(WK aC m).Nodup:=((Fu aC m).trans f).nodup_iff.2 e;have j:=Oo aC (λa b h=>by simp only[aC,YB,XK,XI,xat,YX,yn]at *;omega) (λa b c h k=>by simp only[aC,xat,YX,yn]at *;omega) m;refine dO (lt:=λa b=>aC a b=true) dN rG ?_ n (λq=>?_)
 ·rw[List.pairwise_reverse];refine(xbs.2 ⟨j,d⟩).imp ?_
  rintro a b ⟨g,i⟩;exact Fi g i
 rw[List.mem_reverse,(Fu aC m).mem_iff,f.mem_iff,p]
def Pr(a b:Nat×Nat):Bool:=decide (a.1<b.1)
def QG(h:l.length<=2):Wm Pr l=zT l:=by
 match l,h with
 |[],_=>rfl
 |[a],_=>rfl
 |[a,b],_=>
  simp only[Wm,List.length_cons,XO,Wk,VN,WU,Pr,zT];by_cases c:b.1<a.1<;>simp[c]
def yP(l:L):List Nat:=[l.id,l.gd,l.ex,l.place,l.free,l.hd,l.sh,l.sc,l.par.length]++(if l.par.length=0 then [l.got] else (Wm Pr l.par).flatMap (λp=>[p.1,p.2]))
def Ka{l:L}(h:l.par.length<=2):yP l=bU l:=by
 unfold yP bU VW;rw[QG h,ZN];by_cases a:l.par.length=0
 ·have b:l.par=[]:=XD.1 a;rw[xh a,xh a,b];rfl
 rw[xg a,xg a];simp
def Wz(os:List O):List Nat:=(Zb (λi=>(os.getD i O0).id) os.length (os.length+1) 0).map (λi=>(os.getD i O0).id)
def CO{os:List O}{i:Nat}(h:i<os.length):os.getD i O0∈os:=by simp[Wc,h]
def eS{os:List O}(d:(os.map O.id).Nodup):∀i j,i<os.length->j<os.length->(os.getD i O0).id=(os.getD j O0).id->i=j:=by
 intro i j a b c;have:=xce (i:=i) (j:=j) (h₀:=by simpa using a) (h₁:=by simpa using b) d;refine this.1 ?_
 simpa [Wc,a,b] using c
def rD{os:List O}(g:(os.map O.id).Nodup)(f:∀o∈os,1<=o.id):(Wz os).Pairwise (·<·)/\∀a,a∈Wz os↔a∈os.map O.id:=by
 obtain⟨h,d⟩:=Zf (x:=λi=>(os.getD i O0).id) (eS g) (os.length+1) 0 (by have:=bK (λi=>(os.getD i O0).id) 0 os.length;omega);refine⟨yk.2 h,λa=>?_⟩;unfold Wz;rw[Xz,Xz];constructor
 ·rintro⟨i,b,rfl⟩;exact⟨_,CO ((d i).1 b).1,rfl⟩
 rintro⟨o,c,rfl⟩;obtain⟨i,b,rfl⟩:=xw c;have e:os.getD i O0=os[i]:=by simp[Wc,b]
 exact⟨i,(d i).2 ⟨b,by show 0<(os.getD i O0).id;rw[e];exact f _ c⟩,by rw[e]⟩
def Ci(ls:List L):∀l,aF ls l=(l.map (λp=>((ls.getD p.1 L0).id,p.2))).flatMap (λp=>[p.1,p.2])
 |[]=>rfl
 |p::r=>by simp only[aF,Xv,yb,Ci ls r];rfl
def Z6(h:(l.map Prod.fst).Nodup):l.Nodup:=by
 refine(yk.1 h).imp ?_
 intro a b c e;exact c (by rw[e])
def iF{os:List O}(a:(os.map O.id).Nodup){o:O}(c:o∈os)(b:Nat):zq os o.id b=o.li.lookup b:=by
 unfold zq;rw[jJ a c];rfl
def Be{os:List O}{ls:List L}(d:Good os ls){o:O}(e:o∈os):(bH os o.id ls ls.length).map (λp=>((ls.getD p.1 L0).id,p.2))=cA o.li:=by
 obtain⟨u,v⟩:=zZ (Z6 (d.keys o e));refine dO (lt:=λa b=>aC a b=true) dN rG ?_ u (λq=>?_)
 ·rw[yk];unfold bH;rw[List.pairwise_filterMap];refine((Et d.ids).sublist (xaq _ _)).imp ?_
  intro a m h b f w c
  cases g:zq os o.id (ls.getD a L0).id with
  |none=>rw[g]at f;cases f
  |some n=>
   cases j:zq os o.id (ls.getD m L0).id with
   |none=>rw[j]at c;cases c
   |some n' =>
    rw[g]at f;rw[j]at c
    cases f;cases c
    simp only[aC,YB,XI];exact Or.inl h
 rw[v,Xz];constructor
 ·rintro⟨p,t,rfl⟩;have:=(dM t).2;rw[iF d.oids e]at this;exact Zx this
 intro l;obtain⟨i,r,k⟩:=d.mem o e q l;have s:zq os o.id (ls.getD i L0).id=some q.2:=by rw[iF d.oids e,k];exact zN (d.keys o e) l
 exact⟨(i,q.2),nW s r,Prod.ext k rfl⟩
def uD{os:List O}(a:(os.map O.id).Nodup){o:O}(b:o∈os):Zu os o.id=o.gd:=by
 unfold Zu;rw[jJ a b];rfl
def Ku(os:List O)(ls:List L)(a:Nat):List Nat:=[a,Zu os a]++zA ls (bH os a ls ls.length)
def QX{os:List O}{ls:List L}(a:Good os ls){o:O}(b:o∈os):Ku os ls o.id=bV o:=by
 unfold Ku bV zA VW;rw[Ci,Be a b,uD a.oids b];have:=YK List.length (Be a b);rw[List.length_map]at this;rw[this]
def pN(td:Nat)(os:List O)(rj:List (Nat×Nat))(ls:List L):List Nat:=[td,ls.length,ls.length]++(VO ls).flatMap (λi=>yP (ls.getD i L0))++[os.length]++(Wz os).flatMap (Ku os ls)++[rj.length]++(cA rj).flatMap (λp=>[p.1,p.2])
def fQ{α:Type}{f g:α->List Nat}:∀{l:List α},(∀x∈l,f x=g x)->l.flatMap f=l.flatMap g
 |[],_=>rfl
 |x::l,h=>by rw[yb,yb,h x (by simp),fQ (λy a=>h y (by simp[a]))]
def dB(l:List (Nat×Nat))(a:l.Nodup):(cA l).length=l.length:=by
 obtain⟨c,d⟩:=zZ a;have b:(cA l).Nodup:=c.imp (λh e=>by rw[e]at h;exact dN _ h);exact((YN b a).2 d).length_eq
def Up{td:Nat}{os:List O}{rj:List (Nat×Nat)}{ls:List L}(c:Good os ls)(a:∀l∈ls,1<=l.id)(e:∀o∈os,1<=o.id)(b:∀l∈ls,l.par.length<=2)(h:rj.Nodup):pN td os rj ls=WS td os rj ls:=by
 have f:(VO ls).flatMap (λi=>yP (ls.getD i L0))=WR ls:=by
  unfold WR;rw[nT c.ids a];refine fQ (λi d=>Ka (b _ (zf ?_)));rw[<-nT c.ids a]at d;exact eH.1 d
 have g:(Wz os).flatMap (Ku os ls)=WT os:=by
  unfold WT Wz;rw[xaQ];obtain⟨_,j⟩:=Zf (x:=λi=>(os.getD i O0).id) (eS c.oids) (os.length+1) 0 (by have:=bK (λi=>(os.getD i O0).id) 0 os.length;omega);exact fQ (λi d=>QX c (CO ((j i).1 d).1))
 unfold pN WS;rw[f,g];unfold VW;rw[dB rj h];simp
def mO{α:Type}[DecidableEq α]:∀{ss t:List α},t.Nodup->ss.length=t.length->(∀x,x∈ss↔x∈t)->ss.Nodup
 |[],t,_,_,_=>by simp
 |x::r,t,hn,hl,hm=>by
  by_cases c:x∈r
  ·exfalso
   have:=ZH (l:=t) (m:=r) hn (λy a=>by
    rcases xz.1 ((hm y).2 a) with rfl|h
    ·exact c
    exact h)
   rw[List.length_cons]at hl;omega
  refine yj.2 ⟨c,mO (t:=t.erase x) (hn.erase x) ?_ (λy=>?_)⟩
  ·rw[xav ((hm x).1 (by simp))];rw[List.length_cons]at hl;omega
  rw[hn.mem_erase_iff,<-hm,xz];constructor
  ·intro a;exact⟨λe=>c (by rw[<-e];exact a),Or.inr a⟩
  rintro⟨d,b|b⟩
  ·exact absurd b d
  exact b
def Hj{os:List O}{ss:List Int}(j:(os.map O.id).Nodup)(n:∀o∈os,1<=o.id)(g:ss.length=os.length)(d:∀x:Int,x∈ss↔∃o∈os,x=(o.id:Int)):ss.mergeSort (λx y=>decide (x<=y))=(Wz os).map Int.ofNat:=by
 have i:ss.Nodup:=by
  refine mO (t:=os.map (λo=>(o.id:Int))) ?_ (by rw[g,List.length_map]) (λx=>by rw[d,Xz];exact⟨λ⟨o,f,e⟩=>⟨o,f,e.symm⟩,λ⟨o,f,e⟩=>⟨o,f,e.symm⟩⟩)
  rw[yt,yk];have:=j;rw[yt,yk]at this;exact this.imp (λh e=>h (by omega))
 obtain⟨r,m⟩:=rD j n;have l:=List.mergeSort_perm ss (λx y=>decide (x<=y));have q:=List.pairwise_mergeSort (le:=λx y:Int=>decide (x<=y)) (λa b c h k=>by simp at *;omega) (λa b=>by simp;omega) ss;refine dO (lt:=λa b:Int=>a<b) (λa=>by omega) (λa b c h k=>by omega) ?_ ?_ (λx=>?_)
 ·refine(xbs.2 ⟨q,l.nodup_iff.2 i⟩).imp ?_
  rintro a b ⟨h,k⟩;simp at h;omega
 ·rw[yk];exact r.imp (λh=>Int.ofNat_lt.2 h)
 rw[l.mem_iff,d,Xz];constructor
 ·rintro⟨o,f,rfl⟩;exact⟨o.id,(m _).2 (Xu f),rfl⟩
 rintro⟨a,p,rfl⟩;obtain⟨o,f,e⟩:=Xz.1 ((m a).1 p);exact⟨o,f,by rw[e];rfl⟩
def Vs(l:L):Prop:=1<=l.id/\∀p∈l.par,p.2<=2147483647
structure Vt(os:List O)(ls:List L):Prop where
 lot:∀l∈ls,Vs l
 ord:∀o∈os,1<=o.id/\o.gd<=2147483647
def Ll:Vt [] []:=⟨λl h=>absurd h (by simp),λo h=>absurd h (by simp)⟩
variable {P:L->Prop}
def iN{ls:List L}(h:∀l∈ls,P l)(f:L->L)(c:∀l,P l->P (f l))(i:Nat):∀l∈ls.set i (f (ls.getD i L0)),P l:=by
 intro l a;rcases xai i ls.length with b|b
 ·rcases XU a with a|rfl
  ·exact h l a
  exact c _ (h _ (zf b))
 rw[xad b]at a;exact h l a
def vD{ls:List L}(h:∀l∈ls,P l){x:L}(b:P x):∀l∈ls++[x],P l:=by
 intro l a;rcases xx.1 a with a|a
 ·exact h l a
 simp at a;subst a;exact b
def yX{P:L->Prop}(a:∀l n,P l->P (qM l n)):∀(q:List (Nat×Nat)) (ls:List L),(∀l∈ls,P l)->∀l∈Zv ls q,P l
 |[],ls,h=>h
 |p::q,ls,h=>yX a q _ (iN h (λl=>qM l p.2) (λl b=>a l p.2 b) p.1)
def Ln{rj:List (Nat×Nat)}{os:List O}{td:Nat}{ls:List L}(h:Vt os ls){c:Pl.Cmd}(f:∀n e,c=.ok (n,e)->Pl.mays (Pl.kindsL n) e=true):Vt os (aE rj td ls c).2.2:=by
 unfold aE;split
 ·exact h
 ·split<;>exact h
 ·rename_i a b c d;have:=f _ _ rfl;simp[Pl.mays,Pl.kindsL,Pl.mayB]at this;show Vt os (if zz ls a=0 then ls++[Pq ls a b c d] else ls);split
  ·exact⟨vD h.lot ⟨by show 1<=a;omega,λp g=>by simp[Pq]at g⟩,h.ord⟩
  exact h
 ·split<;>exact h
 ·exact h
 exact h
def Lo{rj:List (Nat×Nat)}{os:List O}{td:Nat}{ls:List L}(h:Vt os ls)(i:∀l∈ls,L.Ok l){c:Pl.Cmd}(k:∀n r,c=.ok (n,r)->Pl.mays (Pl.kindsL n) r=true):Vt os (aI rj td ls c).2.2:=by
 unfold aI;split
 ·rename_i a b c;have:=k _ _ rfl;simp[Pl.mays,Pl.kindsL,Pl.mayB]at this;show Vt os (cJ ls a b c);unfold cJ;split
  ·refine⟨vD (iN h.lot (λl=>ZI l c) (λl d=>d) _) ⟨by show 1<=b;omega,λp j=>?_⟩,h.ord⟩;simp only[Wt,XN]at j;subst j;show c<=2147483647;omega
  exact h
 ·rename_i a b c;have:=k _ _ rfl;simp[Pl.mays,Pl.kindsL,Pl.mayB]at this;show Vt os (Z9 ls a b c);unfold Z9;split
  ·rename_i g;have f:Wj a ls<ls.length/\Wj b ls<ls.length:=by
    unfold zQ at g;by_cases f:Wj a ls<ls.length/\Wj b ls<ls.length
    ·exact f
    rw[xg f]at g;omega
   have m:Wj b ls≠Wj a ls:=by
    unfold zQ at g;rw[xh f]at g;intro e;rw[xh (Or.inl e.symm)]at g;omega
   have s:=iN h.lot (λl=>ZI l (zi ls a).free) (λl d=>d) (Wj a ls);have q:=iN s (λl=>ZI l (zi ls b).free) (λl d=>d) (Wj b ls);rw[ZJ m]at q;refine⟨vD q ⟨by show 1<=c;omega,λp j=>?_⟩,h.ord⟩;have t:=(i _ (zf f.1)).sum;have u:=(i _ (zf f.2)).sum;simp only[Wt,xz,yf,xah]at j;rcases j with rfl|rfl
   ·show(ls.getD (Wj a ls) L0).free<=2147483647;omega
   show(ls.getD (Wj b ls) L0).free<=2147483647;omega
  exact h
 ·rename_i a b;show Vt os (ZR ls a b);unfold ZR;split
  ·exact⟨iN h.lot (λl=>hU l b) (λl d=>d) _,h.ord⟩
  exact h
 exact Ln h k
def Lk{os:List O}{ls:List L}(h:Vt os ls)(g:L->Nat->L)(c:∀l n,(g l n).id=l.id/\(g l n).par=l.par)(a:Nat):Vt (os.filter (λo=>o.id != a)) (ls.map (fF g os a)):=by
 refine⟨λl d=>?_,λo e=>h.ord o (Yk.1 e).1⟩;obtain⟨l',b,rfl⟩:=Xz.1 d;have:=h.lot l' b;unfold fF;split
 ·rename_i n _;obtain⟨f,i⟩:=c { l' with hd:=l'.hd-n } n;refine⟨by rw[f];exact this.1,?_⟩;rw[i];exact this.2
 exact this
def Lm{rj:List (Nat×Nat)}{os:List O}{td:Nat}{ls:List L}(h:Vt os ls)(g:∀l∈ls,L.Ok l){c:Pl.Cmd}(i:∀n j,c=.ok (n,j)->Pl.mays (Pl.kindsL n) j=true):Vt (ZL rj td os ls c).2.2.1 (ZL rj td os ls c).2.2.2:=by
 unfold ZL;split
 ·rename_i a b c d f;have:=i _ _ rfl;simp[Pl.mays,Pl.kindsL,Pl.mayB]at this;show Vt (Cn rj os td ls a b c d f) (Cm rj os td ls a b c d f);unfold Cn Cm;split
  ·refine⟨yX (λl n k=>k) _ _ h.lot,λo e=>?_⟩;rcases xx.1 e with e|e
   ·exact h.ord o e
   simp only[XN]at e;subst e;exact⟨by show 1<=a;omega,by show b<=2147483647;omega⟩
  exact h
 ·exact Lk h Zk (λl n=>⟨rfl,rfl⟩) _
 ·exact Lk h Zl (λl n=>⟨rfl,rfl⟩) _
 exact Lo h g i
def MI(l:List UInt8):∀n a,Pl.cmd l=.ok (n,a)->Pl.mays (Pl.kindsL n) a=true:=by
 intro n a h;rw[dL]at h;split at h
 ·cases h
 split at h
 ·rename_i b
  cases h;exact b
 cases h
def BU{rj:List (Nat×Nat)}{os:List O}{td:Nat}{ls:List L}(h:Vt os ls)(a:∀l∈ls,L.Ok l)(l:List UInt8):Vt (zO rj td os ls (Pl.cmd l)).2.2.1 (zO rj td os ls (Pl.cmd l)).2.2.2.2:=by
 have b:=MI l;generalize Pl.cmd l=c at b;unfold zO;split
 ·exact h
 ·exact h
 exact Lm h a b
def We(l:L)(n:Nat):Nat:=(l.par.map λp=>if p.1=n then p.2 else 0).sum
def Wh(ls:List L)(n:Nat):Nat:=(ls.map λl=>We l n).sum
def Wv(ls:List L)(ps:List (Nat×Nat)):Nat:=ps.foldl (λe p=>min e (zi ls p.1).ex) 2147483647
structure Vv(l:L):Prop where
 id:1<=l.id
 gd:1<=l.gd
 got:1<=l.got
 sum:l.got=l.free+l.hd+l.sh+l.sc+l.gv
 keys:(l.par.map Prod.fst).Nodup
 small:∀p∈l.par,p.2<=2147483647
 par:l.par=[]\/l.got=(l.par.map Prod.snd).sum
structure Vu(os:List O)(rj:List (Nat×Nat))(ls:List L):Prop where
 one:∀i,i<ls.length->Vv (ls.getD i L0)
 fam:∀i,i<ls.length->∀p∈(ls.getD i L0).par,∃j,j<i/\(ls.getD j L0).id=p.1/\(ls.getD j L0).gd=(ls.getD i L0).gd
 exp:∀i,i<ls.length->(ls.getD i L0).par≠[]->(ls.getD i L0).ex=Wv ls (ls.getD i L0).par
 giv:∀i,i<ls.length->(ls.getD i L0).gv=Wh ls (ls.getD i L0).id
 ord:∀o∈os,1<=o.gd/\o.li≠[]/\∀p∈o.li,1<=p.2/\(zi ls p.1).gd=o.gd
 rcl:∀p∈rj,1<=p.1/\1<=p.2/\Wj p.1 ls<ls.length
section
variable {os:List O}{rj:List (Nat×Nat)}{ls ls':List L}
end
section
variable {os:List O}{rj:List (Nat×Nat)}{ls:List L}
end
variable {n:Nat}
def xU(h:n<=2147483647)(a:List Nat):WF (Pl.toldB (n::a))=some (n,Pl.toldB a):=by
 have e:Pl.toldB (n::a)=Pl.num n++Pl.toldB a:=by simp[Pl.toldB]
 obtain⟨b,c⟩:=Pl.read_num n (by omega) (Pl.toldB a);have d:=Pl.num_len_pos n;unfold WF;rw[e,b,c,xg (by omega)];simp
def zS{lo a:Nat}(c:lo<=n)(d:n<=a)(e:n<=2147483647)(b:List Nat):WG lo a (Pl.toldB (n::b))=some (n,Pl.toldB b):=by
 unfold WG;rw[xU e,xk,xh ⟨c,d⟩]
def Ris(l:List (Nat×Nat)):Prop:=(l.map Prod.fst).Pairwise (·<·)
def Ris.cons(h:Ris (p::l)):(∀q∈l,p.1<q.1)/\Ris l:=by
 unfold Ris at h;rw[Xv,XE]at h;exact⟨λq a=>h.1 _ (Xu a),h.2⟩
def Ft(h:l.length<=2)(d:(l.map Prod.fst).Nodup):Ris (zT l):=by
 match l,h with
 |[],_=>simp[Ris,zT]
 |[a],_=>simp[Ris,zT]
 |[a,b],_=>
  have e:¬a.1=b.1:=by simpa using d
  simp only[Ris,zT];by_cases c:b.1<a.1
  ·simp[c]
  simp[c];omega
def oM(d:(l.map Prod.fst).Nodup):Ris (cA l):=by
 obtain⟨f,g⟩:=zZ (Z6 d);unfold Ris;rw[yk];refine f.imp_of_mem (λ{a b} ha hb h=>?_);rw[g]at ha hb;simp only[aC,YB,XK,XI]at h;rcases h with h|h
 ·exact h
 exfalso
 have c:=zN d (b:=a.1) (n:=a.2) ha;have e:=zN d (b:=b.1) (n:=b.2) hb;rw[h.1,e]at c;injection c with c
 omega
def uU(b:List Nat):∀(ps:List (Nat×Nat)) (p:Nat) (a:List (Nat×Nat)),Ris ps->(∀q∈ps,p<q.1/\q.1<=2147483647/\q.2<=2147483647)->fC ps.length p a (Pl.toldB (ps.flatMap (λp=>[p.1,p.2])++b))=some (a++ps,Pl.toldB b)
 |[],p,a,_,_=>by simp[fC]
 |q::ps,p,a,hr,hq=>by
  obtain⟨f,d,e⟩:=hq q (by simp);rw[List.length_cons,fC,yb];show((WG (p+1) 2147483647 (Pl.toldB (q.1::(q.2::(ps.flatMap (λp=>[p.1,p.2])++b))))).bind _)=_;rw[zS (by omega) d d,xk];show((WG 0 2147483647 (Pl.toldB (q.2::(ps.flatMap (λp=>[p.1,p.2])++b)))).bind _)=_;rw[zS (Nat.zero_le _) e e,xk];show fC ps.length q.1 (a++[(q.1,q.2)]) (Pl.toldB (ps.flatMap (λp=>[p.1,p.2])++b))=_;rw[uU b ps q.1 _ hr.cons.2 (λr c=>⟨hr.cons.1 r c,(hq r (by simp[c])).2⟩)];simp
def DG{ps:List (Nat×Nat)}(b:ps.length<=2)(d:Ris ps)(c:∀q∈ps,1<=q.1/\q.1<=2147483647/\q.2<=2147483647)(a:List Nat):fA (Pl.toldB (VW ps++a))=some (ps,Pl.toldB a):=by
 unfold fA VW;rw[XS,zS (Nat.zero_le _) b (by omega),xk];show fC ps.length 0 [] (Pl.toldB _)=_;rw[uU a ps 0 [] d (λq h=>by have:=c q h;omega)];simp
def kap(l:L):L:={ l with par:=zT l.par }
def Xq(l:L):L:={ kap l with gv:=0 }
def MU(l:List (Nat×Nat)):((zT l).map Prod.snd).sum=(l.map Prod.snd).sum:=by
 unfold zT;split
 ·split
  ·simp;omega
  rfl
 rfl
def GY{l:L}(i:Vv l)(a:L.Ok l){com:Nat}(n:1<=l.place)(r:l.place<=com)(g:∀p∈l.par,1<=p.1)(m:List Nat):cT l.id com (Pl.toldB ((bU l).tail++m))=some (Xq l,Pl.toldB m):=by
 have t:=a.sum;have s:=a.place;have c:=i.got;have b:=a.got;have d:=a.par.1;have e:(bU l).tail++m=l.gd::l.ex::l.place::l.free::l.hd::l.sh::l.sc::(VW (zT l.par)++((if (zT l.par).length=0 then [l.got] else [])++m)):=by
  unfold bU;simp
 rw[e];unfold cT;rw[zS i.gd a.gd a.gd,xk,zS (Nat.zero_le _) a.ex a.ex,xk,zS n r (by omega),xk,zS (Nat.zero_le _) (by omega) (by omega),xk,zS (Nat.zero_le _) (by omega) (by omega),xk,zS (Nat.zero_le _) (by omega) (by omega),xk,zS (Nat.zero_le _) (by omega) (by omega),xk];rw[DG (by rw[ZN];exact d) (Ft d i.keys) (λq k=>by
  rw[gK]at k;exact⟨g q k,a.par.2 q k,i.small q k⟩),xk]
 dsimp only;by_cases f:(zT l.par).length=0
 ·rw[xh f,xh f,List.singleton_append,xU b,xk,xh ⟨c,b⟩];rfl
 rw[xg f,xg f,xk];have j:((zT l.par).map Prod.snd).sum=l.got:=by
  rw[MU];rcases i.par with h|h
  ·rw[ZN,h]at f;simp at f
  exact h.symm
 rw[j,xh ⟨c,b⟩];rfl
def VT(f:Nat->Option L)(is:List Nat)(sl:List (Option L)):List (Option L):=is.foldl (λsl i=>sl.set i (f i)) sl
def IZ(f:Nat->Option L):∀(b:List Nat) (a:List (Option L)),(VT f b a).length=a.length
 |[],a=>rfl
 |i::b,a=>by
  show(VT f b (a.set i (f i))).length=_;rw[IZ f b,xq]
def IY(f:Nat->Option L){j:Nat}:∀(a:List Nat) (b:List (Option L)),j<b.length->(VT f a b)[j]?=if j∈a then some (f j) else b[j]?
 |[],b,_=>by simp[VT]
 |i::a,b,hj=>by
  show(VT f a (b.set i (f i)))[j]?=_;rw[IY f a _ (by rw[xq];exact hj)];by_cases c:j∈a
  ·rw[xh c,xh (by simp[c])]
  rw[xg c];by_cases d:j=i
  ·subst d;rw[xh (by simp)];simp[hj]
  rw[xg (by simp[c,d])];simp[Yl d]
def Qp{ls:List L}{b:List Nat}(h:∀i,i<ls.length->i∈b):VT (λi=>some (Xq (ls.getD i L0))) b (List.replicate ls.length none)=ls.map (λl=>some (Xq l)):=by
 apply YQ
 intro j;by_cases a:j<ls.length
 ·rw[IY _ _ _ (by simpa using a),xh (h j a)];simp[Wc,a]
 rw[XJ (by rw[IZ];simp;omega),XJ (by simp;omega)]
variable {x:Nat->Nat}
section
variable {os:List O}{rj:List (Nat×Nat)}{ls:List L}{td:Nat}
def BF(f:∀l∈ls,L.Ok l)(d:Good os ls)(n:Vu os rj ls)(g:List Nat):∀(is:List Nat) (p:Nat) (h:List (Option L)),(∀i∈is,i<ls.length/\p<(ls.getD i L0).id/\h[i]?=some none)->is.Pairwise (λa b=>(ls.getD a L0).id<(ls.getD b L0).id) ->
  xV ls.length is.length p h (Pl.toldB (is.flatMap (λi=>bU (ls.getD i L0))++g))=some (VT (λi=>some (Xq (ls.getD i L0))) is h,Pl.toldB g)
 |[],p,h,_,_=>by simp[xV,VT]
 |i::is,p,h,hi,hr=>by
  obtain⟨k,x,r⟩:=hi i (by simp);have c:=f _ (zf k);have t:=d.place i k;obtain⟨q,w⟩:=XE.1 hr;have e:(i::is).flatMap (λi=>bU (ls.getD i L0))++g=(ls.getD i L0).id::((bU (ls.getD i L0)).tail++(is.flatMap (λi=>bU (ls.getD i L0))++g)):=by
   rw[yb];unfold bU;simp
  rw[List.length_cons,xV,e,zS (by omega) c.id c.id,Option.bind_some];dsimp only;rw[GY (n.one i k) c (by omega) (by omega) (λp s=>by
   obtain⟨j,y,v,_⟩:=n.fam i k p s;rw[<-v];exact(n.one j (by omega)).id),xk]
  dsimp only;have u:(Xq (ls.getD i L0)).place-1=i:=by show(ls.getD i L0).place-1=i;omega
  rw[u,xh (by rw[Wc,r];rfl),BF f d n g is _ _ (λj m=>⟨(hi j (by simp[m])).1,q j m,by
   rw[XB];by_cases e:i=j
   ·subst e;have:=q i m;omega
   rw[xg e];exact(hi j (by simp[m])).2.2⟩) w]
  rfl
def wg(ls:List L)(g:L->Nat):List L:=ls.map λx=>{ kap x with gv:=g x }
def iB(g:L->Nat):(wg ls g).length=ls.length:=by simp[wg]
def kH(g:L->Nat)(n:Nat):Wj n (wg ls g)=Wj n ls:=by
 unfold Wj wg;rw[xaP];rfl
def cL(g:L->Nat){i:Nat}(a:i<ls.length):(wg ls g).getD i L0={ kap (ls.getD i L0) with gv:=g (ls.getD i L0) }:=by
 simp[wg,Wc,a]
def PC(b:∀i j,i<ls.length->j<ls.length->(ls.getD i L0).id=(ls.getD j L0).id->i=j)(g:L->Nat){n m:Nat}(d:Wj n ls<ls.length):(wg ls g).set (Wj n ls) (Wg ((wg ls g).getD (Wj n ls) L0) m)=wg ls (λx=>g x+if n=x.id then m else 0):=by
 have a:=aS d;apply YQ;intro j;by_cases c:j<ls.length
 ·have h:(wg ls (λx=>g x+if n=x.id then m else 0))[j]?=some ((wg ls (λx=>g x+if n=x.id then m else 0)).getD j L0):=by
   rw[Wc,xi (by rw[iB];exact c)];rfl
  have f:(wg ls g)[j]?=some ((wg ls g).getD j L0):=by
   rw[Wc,xi (by rw[iB];exact c)];rfl
  rw[h,cL _ c,XB];by_cases e:Wj n ls=j
  ·rw[xh e,xh (by rw[iB];exact d),cL _ d,e];rw[e]at a;rw[xh a.symm];rfl
  rw[xg e,f,cL _ c];have:¬n=(ls.getD j L0).id:=λq=>e (b _ _ d c (by rw[a,q]))
  rw[xg this];rfl
 rw[XJ (by rw[xq,iB];omega),XJ (by rw[iB];omega)]
def Py(a:∀i j,i<ls.length->j<ls.length->(ls.getD i L0).id=(ls.getD j L0).id->i=j)(l:L):∀(ps:List (Nat×Nat)) (e:Nat) (g:L->Nat),(∀p∈ps,Wj p.1 ls<ls.length/\(zi ls p.1).gd=l.gd/\(zi ls p.1).place<l.place) ->
  Xc l ps e (wg ls g)=some (wg ls (λx=>g x+(ps.map λp=>if p.1=x.id then p.2 else 0).sum),ps.foldl (λe p=>min e (zi ls p.1).ex) e)
 |[],e,g,_=>by simp[Xc]
 |p::ps,e,g,hp=>by
  obtain⟨b,k,m⟩:=hp p (by simp);have d:=cL g b;have f:((wg ls g).getD (Wj p.1 (wg ls g)) L0).gd=l.gd:=by rw[kH,d];exact k
  have h:((wg ls g).getD (Wj p.1 (wg ls g)) L0).place<l.place:=by rw[kH,d];exact m
  have c:((wg ls g).getD (Wj p.1 (wg ls g)) L0).ex=(zi ls p.1).ex:=by rw[kH,d];rfl
  rw[Xc,xh ⟨by rw[kH,iB];exact b,f,h⟩,c,kH,PC a g b,Py a l ps _ _ (λq n=>hp q (by simp[n]))];simp only[Xv,XZ,YA,XC,XY,and_true];congr 1;funext x;omega
def EW(ps:List (Nat×Nat)):Wv ls (zT ps)=Wv ls ps:=by
 unfold zT;split
 ·split
  ·simp only[Wv,YA,List.foldl_nil];omega
  rfl
 rfl
def AC(f:Nat×Nat->Nat)(l:List (Nat×Nat)):((zT l).map f).sum=(l.map f).sum:=by
 unfold zT;split
 ·split
  ·simp;omega
  rfl
 rfl
def TL(a:Good os ls)(q:Vu os rj ls){i:Nat}(b:i<ls.length):Xd (wg ls (λx=>Wh (ls.take i) x.id)) i=some (wg ls (λx=>Wh (ls.take (i+1)) x.id)):=by
 have f:∀n,Wh (ls.take (i+1)) n=Wh (ls.take i) n+We (ls.getD i L0) n:=λn=>by
  rw[ZY (d:=L0) b];simp[Wh]
 obtain⟨y,g⟩:∃y,y=(wg ls (λx=>Wh (ls.take i) x.id)).getD i L0:=⟨_,rfl⟩
 have u:y.par=zT (ls.getD i L0).par:=by rw[g,cL _ b];rfl
 have v:y.ex=(ls.getD i L0).ex:=by rw[g,cL _ b];rfl
 have w:y.gd=(ls.getD i L0).gd:=by rw[g,cL _ b];rfl
 have z:y.place=(ls.getD i L0).place:=by rw[g,cL _ b];rfl
 unfold Xd;rw[<-g,u,v];by_cases c:(zT (ls.getD i L0).par).length=0
 ·rw[xh c];have h:(ls.getD i L0).par=[]:=by rw[ZN]at c;exact XD.1 c
  congr 2
  funext x
  rw[f];unfold We;rw[h];rfl
 rw[xg c];have m:(ls.getD i L0).par≠[]:=λe=>c (by rw[e];rfl)
 rw[Py a.ids _ _ _ _ (λp h=>by
  rw[gK]at h;obtain⟨j,B,s,t⟩:=q.fam i b p h;have e:Wj p.1 ls=j:=by rw[<-s];exact fV (by omega) (λk A e=>by have:=a.ids k j (by omega) (by omega) e;omega) rfl
  unfold zi;rw[e,w,z];refine⟨by omega,t,?_⟩;rw[a.place j (by omega),a.place i b];omega),xk]
 have r:=q.exp i b m;have l:=EW (ls:=ls) (ls.getD i L0).par;rw[<-r]at l;unfold Wv at l;rw[l,xh rfl];show some (wg ls _)=_;congr 2;funext x;rw[f,AC];rfl
def Px(a:Good os ls)(b:Vu os rj ls):∀k i,i+k=ls.length->Xb k i (wg ls (λx=>Wh (ls.take i) x.id))=some (ls.map kap)
 |0,i,h=>by
  rw[Xb];congr 1;unfold wg;apply ye;intro x f;obtain⟨j,d,rfl⟩:=xw f;have e:ls.getD j L0=ls[j]:=by simp[Wc,d]
  have c:=b.giv j d;rw[e]at c;rw[Xy (by omega)];show({ kap ls[j] with gv:=Wh ls ls[j].id }:L)=_;rw[<-c];rfl
 |k+1,i,h=>by
  rw[Xb,TL a b (by omega),xk];exact Px a b k (i+1) (by omega)
def Kb(p:∀l∈ls,L.Ok l)(g:ls.length<=30)(f:Good os ls)(q:Vu os rj ls)(r:List Nat):cH (Pl.toldB (ls.length::ls.length::(WR ls++r)))=some (ls.map kap,Pl.toldB r):=by
 obtain⟨s,n⟩:=Zf (x:=λi=>(ls.getD i L0).id) f.ids (ls.length+1) 0 (by have:=bK (λi=>(ls.getD i L0).id) 0 ls.length;omega);have d:∀i,i<ls.length->i∈Zb (λi=>(ls.getD i L0).id) ls.length (ls.length+1) 0:=λi c=>(n i).2 ⟨c,(q.one i c).id⟩
 have k:(Zb (λi=>(ls.getD i L0).id) ls.length (ls.length+1) 0).length=ls.length:=by
  have a:=ZH (l:=Zb (λi=>(ls.getD i L0).id) ls.length (ls.length+1) 0) (m:=List.range ls.length) (s.imp (λj e=>by rw[e]at j;exact Yr _ j)) (λi c=>by simp;exact((n i).1 c).1);have b:=ZH (l:=List.range ls.length) (m:=Zb (λi=>(ls.getD i L0).id) ls.length (ls.length+1) 0) xaR (λi c=>d i (by simpa using c));simp only[List.length_range]at a b;omega
 unfold cH;rw[zS (Nat.zero_le _) g (by omega),Option.bind_some,xU (by omega),Option.bind_some,if_pos rfl];dsimp only;have h:=BF p f q r (Zb (λi=>(ls.getD i L0).id) ls.length (ls.length+1) 0) 0 (List.replicate ls.length none) (λi c=>⟨((n i).1 c).1,((n i).1 c).2,by simp[((n i).1 c).1]⟩) s;rw[k]at h;unfold WR;rw[h,Option.bind_some,Qp d];dsimp only;have e:(ls.map (λl=>some (Xq l))).map (λo=>o.getD L0)=wg ls (λx=>Wh (ls.take 0) x.id):=by
  unfold wg;simp[Xq,Wh]
 rw[e,Px f q _ 0 (by omega),xk]
def WL(o:O):O:={ o with li:=cA o.li }
def Da(n:Nat):Wj n (ls.map kap)=Wj n ls:=by
 unfold Wj;rw[xaP];rfl
def JJ(i:Nat):(ls.map kap).getD i L0=kap (ls.getD i L0):=by
 rw[Wc,Wc,xaH]
 cases ls[i]? with
 |none=>rfl
 |some x=>rfl
def BE{g:Nat}(c:List Nat):∀(ps:List (Nat×Nat)) (p:Nat) (a:List (Nat×Nat)),Ris ps->(∀q∈ps,p<q.1/\q.1<=2147483647/\1<=q.2/\q.2<=2147483647/\Wj q.1 ls<ls.length/\(zi ls q.1).gd=g)->sG (ls.map kap) g ps.length p a (Pl.toldB (ps.flatMap (λp=>[p.1,p.2])++c))=some (a++ps,Pl.toldB c)
 |[],p,a,_,_=>by simp[sG]
 |q::ps,p,a,hr,hq=>by
  obtain⟨j,d,f,e,h,i⟩:=hq q (by simp);rw[List.length_cons,sG,List.flatMap_cons];show((WG (p+1) 2147483647 (Pl.toldB (q.1::(q.2::(ps.flatMap (λp=>[p.1,p.2])++c))))).bind _)=_;rw[zS (by omega) d d,Option.bind_some];dsimp only;rw[if_pos ⟨by rw[Da,List.length_map];exact h,by rw[Da,JJ];exact i⟩,zS f e e,Option.bind_some];show sG (ls.map kap) g ps.length q.1 (a++[(q.1,q.2)]) (Pl.toldB (ps.flatMap (λp=>[p.1,p.2])++c))=_;rw[BE c ps q.1 _ hr.cons.2 (λr b=>⟨hr.cons.1 r b,(hq r (by simp[b])).2⟩)];simp
structure Vm(ls:List L)(o:O):Prop where
 id:o.id<=2147483647
 gd:1<=o.gd/\o.gd<=2147483647
 len:1<=o.li.length/\o.li.length<=30
 keys:(o.li.map Prod.fst).Nodup
 line:∀q∈o.li,1<=q.1/\q.1<=2147483647/\1<=q.2/\q.2<=2147483647/\Wj q.1 ls<ls.length/\(zi ls q.1).gd=o.gd
def BD{o:O}(a:Vm ls o)(b:List Nat):aD (ls.map kap) o.gd (Pl.toldB (VW (cA o.li)++b))=some (cA o.li,Pl.toldB b):=by
 obtain⟨_,d⟩:=zZ (Z6 a.keys);have f:=dB o.li (Z6 a.keys);have e:=a.len;unfold aD VW;rw[XS,zS (by omega) (by omega) (by omega),xk];show sG (ls.map kap) o.gd (cA o.li).length 0 [] (Pl.toldB _)=_;rw[BE b _ 0 [] (oM a.keys) (λq c=>by
  rw[d]at c;have:=a.line q c;exact⟨by omega,this.2⟩)]
 simp
def BG(g:∀o∈os,Vm ls o)(f:List Nat):∀(is:List Nat) (p:Nat) (c:List O),(∀i∈is,i<os.length/\p<(os.getD i O0).id)->is.Pairwise (λa b=>(os.getD a O0).id<(os.getD b O0).id) ->
  yQ (ls.map kap) is.length p c (Pl.toldB (is.flatMap (λi=>bV (os.getD i O0))++f))=some (c++is.map (λi=>WL (os.getD i O0)),Pl.toldB f)
 |[],p,c,_,_=>by simp[yQ]
 |i::is,p,c,hi,hr=>by
  obtain⟨k,n⟩:=hi i (by simp);have d:=g _ (CO k);obtain⟨l,m⟩:=XE.1 hr;have e:(i::is).flatMap (λi=>bV (os.getD i O0))++f=(os.getD i O0).id::(os.getD i O0).gd::(VW (cA (os.getD i O0).li)++(is.flatMap (λi=>bV (os.getD i O0))++f)):=by
   rw[yb];unfold bV;simp
  rw[List.length_cons,yQ,e,zS (by omega) d.id d.id,Option.bind_some];dsimp only;rw[zS d.gd.1 d.gd.2 d.gd.2,Option.bind_some];dsimp only;rw[BD d,Option.bind_some];show yQ (ls.map kap) is.length (os.getD i O0).id (c++[WL (os.getD i O0)]) (Pl.toldB _)=_;rw[BG g f is _ _ (λj h=>⟨(hi j (by simp[h])).1,l j h⟩) m];simp
def WA(os:List O):List O:=(Zb (λi=>(os.getD i O0).id) os.length (os.length+1) 0).map (λi=>WL (os.getD i O0))
def wF{N:Nat}(b:∀i j,i<N->j<N->x i=x j->i=j)(c:∀i,i<N->1<=x i):(Zb x N (N+1) 0).Perm (List.range N):=by
 obtain⟨d,f⟩:=Zf (x:=x) b (N+1) 0 (by have:=bK x 0 N;omega);refine(YN (d.imp (λa e=>by rw[e]at a;exact Yr _ a)) xaR).2 (λi=>?_);rw[f,xcw];exact⟨λh=>h.1,λh=>⟨h,c i h⟩⟩
def rJ{β:Type}(f:α->β)(d:α)(l:List α):(List.range l.length).map (λi=>f (l.getD i d))=l.map f:=by
 apply YZ
 ·simp
 intro i a b;simp at a;simp[Wc,a]
def Fc(c:(os.map O.id).Nodup)(a:∀o∈os,1<=o.id):(WA os).Perm (os.map WL):=by
 have:=(wF (x:=λi=>(os.getD i O0).id) (eS c) (λi b=>a _ (CO b))).map (λi=>WL (os.getD i O0))
 rw[rJ WL O0 os]at this;exact this
def DB(g:∀o∈os,Vm ls o)(e:(os.map O.id).Nodup)(f:∀o∈os,1<=o.id)(a:os.length<=10)(c:List Nat):ZQ (ls.map kap) (Pl.toldB (os.length::(WT os++c)))=some (WA os,Pl.toldB c):=by
 obtain⟨j,k⟩:=Zf (x:=λi=>(os.getD i O0).id) (eS e) (os.length+1) 0 (by have:=bK (λi=>(os.getD i O0).id) 0 os.length;omega);have d:=(wF (x:=λi=>(os.getD i O0).id) (eS e) (λi b=>f _ (CO b))).length_eq;rw[List.length_range]at d;unfold ZQ;rw[zS (Nat.zero_le _) a (by omega),Option.bind_some];dsimp only;have h:=BG g c (Zb (λi=>(os.getD i O0).id) os.length (os.length+1) 0) 0 [] (λi b=>(k i).1 b) j;rw[d]at h;unfold WT;rw[h];rfl
def BI(d:List Nat):∀(ps:List (Nat×Nat)) (a:Nat×Nat) (c:List (Nat×Nat)),(a::ps).Pairwise (λa b=>aC a b=true)->(∀q∈ps,1<=q.1/\q.1<=2147483647/\1<=q.2/\q.2<=2147483647/\Wj q.1 ls<ls.length)->DH (ls.map kap) ps.length a c (Pl.toldB (ps.flatMap (λp=>[p.1,p.2])++d))=some (c++ps,Pl.toldB d)
 |[],p,c,_,_=>by simp[DH]
 |q::ps,p,c,e,hq=>by
  obtain⟨h,f,i,g,j⟩:=hq q (by simp);obtain⟨k,l⟩:=List.pairwise_cons.1 e;rw[List.length_cons,DH,List.flatMap_cons];show((WG 1 2147483647 (Pl.toldB (q.1::(q.2::(ps.flatMap (λp=>[p.1,p.2])++d))))).bind _)=_;rw[zS h f f,Option.bind_some];dsimp only;rw[zS i g g,Option.bind_some];show(if aC p q=true/\Wj q.1 (ls.map kap)<(ls.map kap).length then DH (ls.map kap) ps.length q (c++[q]) (Pl.toldB _) else none)=_;rw[if_pos ⟨k q (by simp),by rw[Da,List.length_map];exact j⟩,BI d ps q _ l (λr e=>hq r (by simp[e]))];simp
def KY(a:Rc rj)(d:Vu os rj ls)(c:List Nat):eD (ls.map kap) (Pl.toldB (VW (cA rj)++c))=some (cA rj,Pl.toldB c):=by
 obtain⟨f,e⟩:=zZ a.nodup;have h:=dB rj a.nodup;have g:=a.len;unfold eD VW;rw[XS,zS (Nat.zero_le _) (by omega) (by omega),xk];show DH (ls.map kap) (cA rj).length (0,0) [] (Pl.toldB _)=_;rw[BI c _ (0,0) [] (XE.2 ⟨λq b=>by
  rw[e]at b;have:=(d.rcl q b).1;simp only[aC,YB,XI];exact Or.inl (by omega),f⟩) (λq b=>by
  rw[e]at b;have:=d.rcl q b;have:=a.fits q b;omega)]
 simp
def Gy(a:(l.map Prod.fst).Nodup)(n:Nat):(cA l).lookup n=l.lookup n:=by
 obtain⟨f,c⟩:=zZ (Z6 a);have b:((cA l).map Prod.fst).Nodup:=(oM a).imp (λh e=>by rw[e]at h;exact Yr _ h)
 cases h:l.lookup n with
 |some v=>exact zN b ((c _).2 (Zx h))
 |none=>
  cases d:(cA l).lookup n with
  |none=>rfl
  |some v=>
   have:=zN a ((c _).1 (Zx d))
   rw[h]at this;cases this
def CS(b:∀o∈os,(o.li.map Prod.fst).Nodup)(c:(os.map O.id).Nodup)(a:∀o∈os,1<=o.id)(n:Nat):zD (WA os) n=zD os n:=by
 unfold zD;rw[((Fc c a).map (λo=>ZV o n)).sum_nat,xac];congr 1;apply ye;intro o d;show((cA o.li).lookup n).getD 0=(o.li.lookup n).getD 0;rw[Gy (b o d)]
def JR{n:Nat}:∀{l:List Nat},n∈l->n<=l.sum
 |x::l,h=>by
  rw[XZ];rcases xz.1 h with rfl|h
  ·omega
  have:=JR h;omega
def Ho(t:td<=2147483647)(r:∀l∈ls,L.Ok l)(h:ls.length<=30)(a:Good os ls)(s:Vu os rj ls)(z:Rc rj)(w:∀o∈os,1<=o.id/\o.gd<=2147483647):zE (WO td os rj ls)=some (td,ls.map kap,WA os,cA rj):=by
 have F:∀o∈os,Vm ls o:=λo b=>by
  obtain⟨s1,s2,E⟩:=s.ord o b;have d:=λp g=>a.mem o b p g
  have q:o.li.length<=30:=by
   have:=ZH (l:=o.li.map Prod.fst) (m:=ls.map L.id) (a.keys o b) (λx u=>by
    obtain⟨p,g,rfl⟩:=Xz.1 u;obtain⟨i,c,e⟩:=d p g;rw[<-e];exact Xu (zf c))
   rw[List.length_map,List.length_map]at this;omega
  refine⟨a.oid o b,⟨s1,(w o b).2⟩,⟨Yx.2 s2,q⟩,a.keys o b,λp g=>?_⟩;obtain⟨i,c,e⟩:=d p g;have n:=r _ (zf c);have u:Wj p.1 ls=i:=by rw[<-e];exact fV c (λk K e=>by have:=a.ids k i (by omega) c e;omega) rfl
  have J:p.2<=zD os p.1:=by
   have v:ZV o p.1=p.2:=by unfold ZV;rw[zN (a.keys o b) g];rfl
   rw[<-v];unfold zD;exact JR (Xu (f:=λo=>ZV o p.1) b)
  have G:=a.hd i c;rw[e]at G;have D:=n.sum;have C:=(s.one i c).id;have v:=n.id;rw[e]at C v;exact⟨C,v,(E p g).1,by omega,by rw[u];exact c,(E p g).2⟩
 have e:WS td os rj ls=td::(ls.length::ls.length::(WR ls++(os.length::(WT os++(VW (cA rj)++[]))))):=by
  unfold WS;simp
 unfold WO zE;dsimp only;rw[if_pos rfl,e,zS (Nat.zero_le _) t t,Option.bind_some];dsimp only;rw[Kb r h a s,Option.bind_some];dsimp only;rw[DB F a.oids (λo b=>(w o b).1) a.olen,Option.bind_some];dsimp only;rw[KY z s,Option.bind_some];dsimp only;rw[if_pos ⟨rfl,by
  rw[xak];intro x u;obtain⟨l,H,rfl⟩:=Xz.1 u;obtain⟨j,y,rfl⟩:=xw H;have e:ls.getD j L0=ls[j]:=by simp[Wc,y]
  have A:=(s.one j y).sum;have B:=a.hd j y;rw[e]at A B;unfold VD;rw[XK,XI,XI];refine⟨A,?_⟩;show ls[j].hd=zD (WA os) ls[j].id;rw[CS a.keys a.oids (λo b=>(w o b).1)];exact B⟩]
end
section
variable {os:List O}{rj:List (Nat×Nat)}{ls:List L}{td:Nat}
end
open Go.RowKit
section
variable {os:List O}{rj:List (Nat×Nat)}{ls:List L}{td:Nat}
def QY(b:(os.map O.id).Nodup)(a:∀o∈os,1<=o.id){o:O}:o∈WA os↔∃x∈os,WL x=o:=by
 rw[(Fc b a).mem_iff,Xz]
end
section
variable {os:List O}{rj:List (Nat×Nat)}{ls:List L}{td:Nat}{w:World}{M:Mx}
end
