import Derived.Test.YtgcedalggnmooaaGreatDoorCm0X
import Derived.Test.YtgcedalggnmooaaGreatDoorKAX
set_option linter.all false
set_option maxRecDepth 100000
namespace Go.Proofs.YtgcedalggnmooaaGreatDoor
theorem nX{α:Type}{lt:α->α->Prop}(d:∀a,¬lt a a)(k:∀a b c,lt a b->lt b c->lt a c):∀{l m:List α},l.Pairwise lt->m.Pairwise lt->(∀x,x∈l↔x∈m)->l=m
 |[],[],_,_,_=>rfl
 |[],y::m,_,_,h=>absurd ((h y).2 (by simp)) (by simp)
 |x::l,[],_,_,h=>absurd ((h x).1 (by simp)) (by simp)
 |x::l,y::m,hl,hm,h=>by
  have i:=Xq.1 hl;have j:=Xq.1 hm;have e:x=y:=by
   rcases xx.1 ((h x).1 (by simp)) with e|e
   ·exact e
   rcases xx.1 ((h y).2 (by simp)) with g|g
   ·exact g.symm
   exact absurd (k _ _ _ (j.1 x e) (i.1 y g)) (d y)
  subst e;rw[nX d k i.2 j.2 (λz=>?_)];constructor
  ·intro f;rcases xx.1 ((h z).1 (by simp[f])) with e|e
   ·subst e;exact absurd (i.1 z f) (d z)
   exact e
  intro f;rcases xx.1 ((h z).2 (by simp[f])) with e|e
  ·subst e;exact absurd (j.1 z f) (d z)
  exact e
theorem CO{x:Nat->Nat}{n:Nat}:∀{k i:Nat},UD x n k=some i->∀j,j<k->n<x j->x i<=x j
 |0,i,h=>by simp[UD]at h
 |k+1,i,h=>by
  intro j q a;rw[UD]at h;split at h
  ·rename_i f
   cases h;by_cases e:j=k
   ·subst e;exact xc _
   cases p:UD x n k with
   |none=>
    exfalso
    have:∀m,UD x n m=none->∀j,j<m->¬n<x j:=by
     intro m;induction m with
     |zero=>intro _ j h;omega
     |succ m ih=>
      intro d j q a;rw[UD]at d;split at d
      ·cases d
      rename_i g;by_cases e:j=m
      ·subst e;exact g ⟨a,λb c=>by rw[d]at c;cases c⟩
      exact ih d j (by omega) a
    exact this k p j (by omega) a
   |some b=>
    have r:=f.2 b p;have s:=CO p j (by omega) a;omega
  rename_i f;by_cases e:j=k
  ·subst e;by_cases l:x j<x i
   ·exact absurd ⟨a,λb c=>by rw[h]at c;cases c;exact l⟩ f
   omega
  exact CO h j (by omega) a
theorem EC{x:Nat->Nat}{n:Nat}:∀{k:Nat},UD x n k=none->∀j,j<k->¬n<x j
 |0,_,j,h=>by omega
 |k+1,hm,j,hj=>by
  intro d;rw[UD]at hm;split at hm
  ·cases hm
  rename_i a;by_cases e:j=k
  ·subst e;exact a ⟨d,λb c=>by rw[hm]at c;cases c⟩
  exact EC hm j (by omega) d
theorem bI{x:Nat->Nat}{N:Nat}(g:∀i j,i<N->j<N->x i=x j->i=j):∀(f n:Nat),BI x n N<=f->(Zy x N f n).Pairwise (λa b=>x a<x b)/\∀i,i∈Zy x N f n↔i<N/\n<x i
 |0,n,hc=>by
  refine⟨by simp[Zy],λi=>⟨by simp[Zy],λ⟨c,d⟩=>?_⟩⟩;have:=pB x d N c;omega
 |f+1,n,hc=>by
  rw[Zy]
  cases l:UD x n N with
  |none=>exact⟨by simp,λi=>⟨by simp,λ⟨c,d⟩=>absurd d (EC l i c)⟩⟩
  |some k=>
   obtain⟨p,q⟩:=jJ l;have t:=CO l;have s:=pB x q N p;obtain⟨m,h⟩:=bI g f (x k) (by omega);refine⟨Xq.2 ⟨λb r=>((h b).1 r).2,m⟩,λi=>?_⟩;rw[xx,h];constructor
   ·rintro(rfl|⟨c,d⟩)
    ·exact⟨p,q⟩
    exact⟨c,by omega⟩
   rintro⟨c,d⟩;have:=t i c d;by_cases e:x k=x i
   ·exact Or.inl (g i k c p e.symm)
   exact Or.inr ⟨c,by omega⟩
theorem gI(a:Nat×Nat):¬bG a a=true:=by simp[bG]
theorem CZ(a b c:Nat×Nat)(h:bG a b=true)(k:bG b c=true):bG a c=true:=by
 simp only[bG,Yy,Xs,Xu]at *;omega
theorem MO{a b:Nat×Nat}(h:bG a b=false)(c:a≠b):bG b a=true:=by
 obtain⟨f,g⟩:=a;obtain⟨i,j⟩:=b;have d:¬(f=i/\g=j):=λe=>c (by rw[e.1,e.2])
 simp only[bG,xaW,xac,yq,Yy,Xs,Xu]at *;omega
variable {α:Type}
theorem Kq{lt:α->α->Prop}{l:List α}{d:α}(h:l.Pairwise lt){k:Nat}(b:k<l.length):∀q∈l.take k,lt q (l.getD k d):=by
 have a:(l.take k++[l.getD k d]).Pairwise lt:=by rw[<-cA b];exact h.sublist (xad _ _)
 intro q c;exact(XY.1 a).2.2 q c _ (by simp)
theorem tT{p:Nat×Nat}{out:List (Nat×Nat)}(r:out.Pairwise (λa b=>bG a b=true))(v:p ∉ out):∀k,k<=out.length ->
  ((gM p out k).2=false/\(gM p out k).1=out.take k/\∀q∈out.take k,bG q p=true)\/((gM p out k).2=true/\(gM p out k).1.Pairwise (λa b=>bG a b=true)/\(∀q,q∈(gM p out k).1↔q=p\/q∈out.take k)/\∃q∈out.take k,bG p q=true)
 |0,_=>Or.inl ⟨rfl,by simp[gM],by simp⟩
 |k+1,hk=>by
  have f:k<out.length:=by omega
  have n:p≠out.getD k (0,0):=λe=>v (by rw[e];simp[Ul,f])
  have s:=Kq (d:=(0,0)) r f;rw[gM,cA (d:=(0,0)) f];rcases tT r v k (by omega) with ⟨g,i,j⟩|⟨g,i,j,w,t,u⟩
  ·by_cases m:bG p (out.getD k (0,0))=true
   ·rw[xd ⟨m,g⟩];refine Or.inr ⟨rfl,?_,?_,out.getD k (0,0),by simp,m⟩
    ·rw[i];refine XY.2 ⟨XY.2 ⟨r.sublist (xad _ _),by simp,λa l b c=>?_⟩,by simp,λa l b c=>?_⟩
     ·simp at c;subst c;exact j a l
     simp at c;subst c;rcases xw.1 l with h|h
     ·exact s a h
     simp at h;subst h;exact m
    intro q;rw[i];simp only[xw,Xp];constructor
    ·rintro((h|h)|h)
     ·exact Or.inr (Or.inl h)
     ·exact Or.inl h
     exact Or.inr (Or.inr h)
    rintro(h|h|h)
    ·exact Or.inl (Or.inr h)
    ·exact Or.inl (Or.inl h)
    exact Or.inr h
   rw[xe (λe=>m e.1)];refine Or.inl ⟨g,by rw[i],?_⟩;intro q x;rcases xw.1 x with h|h
   ·exact j q h
   simp at h;subst h;exact MO (by simpa using m) n
  rw[xe (λe=>by rw[g]at e;cases e.2)];refine Or.inr ⟨g,?_,?_,w,List.mem_append_left _ t,u⟩
  ·refine XY.2 ⟨i,by simp,λa l b c=>?_⟩;simp at c;subst c;rcases(j a).1 l with h|h
   ·subst h;exact CZ _ _ _ u (s w t)
   exact s a h
  intro q;simp only[xw,j,Xp];constructor
  ·rintro((h|h)|h)
   ·exact Or.inl h
   ·exact Or.inr (Or.inl h)
   exact Or.inr (Or.inr h)
  rintro(h|h|h)
  ·exact Or.inl (Or.inl h)
  ·exact Or.inl (Or.inr h)
  exact Or.inr h
variable {p:Nat×Nat}
theorem FH{out:List (Nat×Nat)}(g:out.Pairwise (λa b=>bG a b=true))(i:p ∉ out):(KX p out).Pairwise (λa b=>bG a b=true)/\∀q,q∈KX p out↔q=p\/q∈out:=by
 unfold KX;rcases tT g i out.length (xc _) with ⟨d,e,c⟩|⟨d,e,c,_⟩
 ·rw[d,xe (by simp),e,Xa];rw[Xa]at c;refine⟨XY.2 ⟨g,by simp,λa h b f=>by simp at f;subst f;exact c a h⟩,λq=>?_⟩;simp[or_comm]
 rw[d,xd rfl];rw[Xa]at c;exact⟨e,c⟩
theorem uE{l:List (Nat×Nat)}(g:l.Nodup):∀k,k<=l.length->(wZ l k).Pairwise (λa b=>bG a b=true)/\∀q,q∈wZ l k↔q∈l.take k
 |0,_=>⟨by simp[wZ],λq=>by simp[wZ]⟩
 |k+1,hk=>by
  have c:k<l.length:=by omega
  obtain⟨h,f⟩:=uE g k (by omega);have e:l.getD k (0,0) ∉ wZ l k:=by
   rw[f];have:=g.sublist (xad (k+1) l);rw[cA (d:=(0,0)) c]at this;intro m;exact(Xx.1 this).2.2 _ m _ (by simp) rfl
  obtain⟨i,j⟩:=FH h e;rw[wZ];refine⟨i,λq=>?_⟩;rw[j,f,cA (d:=(0,0)) c];simp[or_comm]
variable {l:List (Nat×Nat)}
theorem ZL(c:l.Nodup):(cT l).Pairwise (λa b=>bG a b=true)/\∀q,q∈cT l↔q∈l:=by
 have:=uE c l.length (xc _)
 rw[Xa]at this;exact this
theorem Ik{os:List O}{i:Nat}(h:i<os.length):os.getD i O0∈os:=by simp[Ul,h]
theorem qM{os:List O}(d:(os.map O.id).Nodup):∀i j,i<os.length->j<os.length->(os.getD i O0).id=(os.getD j O0).id->i=j:=by
 intro i j a b c;have:=xbv (i:=i) (j:=j) (h₀:=by simpa using a) (h₁:=by simpa using b) d;refine this.1 ?_
 simpa [Ul,a,b] using c
theorem aN(h:(l.map Prod.fst).Nodup):l.Nodup:=by
 refine(yi.1 h).imp ?_
 intro a b c e;exact c (by rw[e])
theorem bR(l:List (Nat×Nat))(a:l.Nodup):(cT l).length=l.length:=by
 obtain⟨c,d⟩:=ZL a;have b:(cT l).Nodup:=c.imp (λh e=>by rw[e]at h;exact gI _ h);exact((YH b a).2 d).length_eq
def TG(l:L):Prop:=1<=l.id/\∀p∈l.par,p.2<=2147483647
structure TH(os:List O)(ls:List L):Prop where
 lot:∀l∈ls,TG l
 ord:∀o∈os,1<=o.id/\o.gd<=2147483647
theorem Qe:TH [] []:=⟨λl h=>absurd h (by simp),λo h=>absurd h (by simp)⟩
variable {P:L->Prop}
theorem iC{ls:List L}(h:∀l∈ls,P l)(f:L->L)(c:∀l,P l->P (f l))(i:Nat):∀l∈ls.set i (f (ls.getD i L0)),P l:=by
 intro l a;rcases YD i ls.length with b|b
 ·rcases Xy a with a|rfl
  ·exact h l a
  exact c _ (h _ (zg b))
 rw[yy b]at a;exact h l a
theorem uO{ls:List L}(h:∀l∈ls,P l){x:L}(b:P x):∀l∈ls++[x],P l:=by
 intro l a;rcases xw.1 a with a|a
 ·exact h l a
 simp at a;subst a;exact b
theorem yI{P:L->Prop}(a:∀l n,P l->P (pX l n)):∀(q:List (Nat×Nat)) (ls:List L),(∀l∈ls,P l)->∀l∈Za ls q,P l
 |[],ls,h=>h
 |p::q,ls,h=>yI a q _ (iC h (λl=>pX l p.2) (λl b=>a l p.2 b) p.1)
theorem JT{rcs:List (Nat×Nat)}{os:List O}{td:Nat}{ls:List L}(h:TH os ls){c:Pl.Cmd}(f:∀n e,c=.ok (n,e)->Pl.mays (Pl.kindsL n) e=true):TH os (Zl rcs td ls c).2.2:=by
 unfold Zl;split
 ·exact h
 ·split<;>exact h
 ·rename_i a b c d;have:=f _ _ rfl;simp[Pl.mays,Pl.kindsL,Pl.mayB]at this;show TH os (if zA ls a=0 then ls++[Ew ls a b c d] else ls);split
  ·exact⟨uO h.lot ⟨by show 1<=a;omega,λp g=>by simp[Ew]at g⟩,h.ord⟩
  exact h
 ·split<;>exact h
 ·exact h
 exact h
theorem JU{rcs:List (Nat×Nat)}{os:List O}{td:Nat}{ls:List L}(h:TH os ls)(i:∀l∈ls,L.Ok l){c:Pl.Cmd}(k:∀n r,c=.ok (n,r)->Pl.mays (Pl.kindsL n) r=true):TH os (aF rcs td ls c).2.2:=by
 unfold aF;split
 ·rename_i a b c;have:=k _ _ rfl;simp[Pl.mays,Pl.kindsL,Pl.mayB]at this;show TH os (Z7 ls a b c);unfold Z7;split
  ·refine⟨uO (iC h.lot (λl=>zT l c) (λl d=>d) _) ⟨by show 1<=b;omega,λp j=>?_⟩,h.ord⟩;simp only[Uz,Xp]at j;subst j;show c<=2147483647;omega
  exact h
 ·rename_i a b c;have:=k _ _ rfl;simp[Pl.mays,Pl.kindsL,Pl.mayB]at this;show TH os (Zx ls a b c);unfold Zx;split
  ·rename_i g;have f:Ur a ls<ls.length/\Ur b ls<ls.length:=by
    unfold zN at g;by_cases f:Ur a ls<ls.length/\Ur b ls<ls.length
    ·exact f
    rw[xe f]at g;omega
   have m:Ur b ls≠Ur a ls:=by
    unfold zN at g;rw[xd f]at g;intro e;rw[xd (Or.inl e.symm)]at g;omega
   have s:=iC h.lot (λl=>zT l (zd ls a).free) (λl d=>d) (Ur a ls);have q:=iC s (λl=>zT l (zd ls b).free) (λl d=>d) (Ur b ls);rw[zU m]at q;refine⟨uO q ⟨by show 1<=c;omega,λp j=>?_⟩,h.ord⟩;have t:=(i _ (zg f.1)).sum;have u:=(i _ (zg f.2)).sum;simp only[Uz,xx,XM,YB]at j;rcases j with rfl|rfl
   ·show(ls.getD (Ur a ls) L0).free<=2147483647;omega
   show(ls.getD (Ur b ls) L0).free<=2147483647;omega
  exact h
 ·rename_i a b;show TH os (Zh ls a b);unfold Zh;split
  ·exact⟨iC h.lot (λl=>gS l b) (λl d=>d) _,h.ord⟩
  exact h
 exact JT h k
theorem JR{os:List O}{ls:List L}(h:TH os ls)(g:L->Nat->L)(c:∀l n,(g l n).id=l.id/\(g l n).par=l.par)(a:Nat):TH (os.filter (λo=>o.id != a)) (ls.map (dF g os a)):=by
 refine⟨λl d=>?_,λo e=>h.ord o (XW.1 e).1⟩;obtain⟨l',b,rfl⟩:=Xg.1 d;have:=h.lot l' b;unfold dF;split
 ·rename_i n _;obtain⟨f,i⟩:=c { l' with hd:=l'.hd-n } n;refine⟨by rw[f];exact this.1,?_⟩;rw[i];exact this.2
 exact this
theorem JS{rcs:List (Nat×Nat)}{os:List O}{td:Nat}{ls:List L}(h:TH os ls)(g:∀l∈ls,L.Ok l){c:Pl.Cmd}(i:∀n j,c=.ok (n,j)->Pl.mays (Pl.kindsL n) j=true):TH (ZN rcs td os ls c).2.2.1 (ZN rcs td os ls c).2.2.2:=by
 unfold ZN;split
 ·rename_i a b c d f;have:=i _ _ rfl;simp[Pl.mays,Pl.kindsL,Pl.mayB]at this;show TH (tA rcs os td ls a b c d f) (rN rcs os td ls a b c d f);unfold tA rN;split
  ·refine⟨yI (λl n k=>k) _ _ h.lot,λo e=>?_⟩;rcases xw.1 e with e|e
   ·exact h.ord o e
   simp only[Xp]at e;subst e;exact⟨by show 1<=a;omega,by show b<=2147483647;omega⟩
  exact h
 ·exact JR h Zm (λl n=>⟨rfl,rfl⟩) _
 ·exact JR h Zw (λl n=>⟨rfl,rfl⟩) _
 exact JU h g i
theorem Lu(l:List UInt8):∀n a,Pl.cmd l=.ok (n,a)->Pl.mays (Pl.kindsL n) a=true:=by
 intro n a h;rw[dJ]at h;split at h
 ·cases h
 split at h
 ·rename_i b
  cases h;exact b
 cases h
theorem Bn{rcs:List (Nat×Nat)}{os:List O}{td:Nat}{ls:List L}(h:TH os ls)(a:∀l∈ls,L.Ok l)(l:List UInt8):TH (zO rcs td os ls (Pl.cmd l)).2.2.1 (zO rcs td os ls (Pl.cmd l)).2.2.2.2:=by
 have b:=Lu l;generalize Pl.cmd l=c at b;unfold zO;split
 ·exact h
 ·exact h
 exact JS h a b
def Um(l:L)(n:Nat):Nat:=(l.par.map λp=>if p.1=n then p.2 else 0).sum
def Up(ls:List L)(n:Nat):Nat:=(ls.map λl=>Um l n).sum
def UB(ls:List L)(ps:List (Nat×Nat)):Nat:=ps.foldl (λe p=>min e (zd ls p.1).ex) 2147483647
structure TJ(l:L):Prop where
 id:1<=l.id
 gd:1<=l.gd
 got:1<=l.got
 sum:l.got=l.free+l.hd+l.sh+l.sc+l.gv
 keys:(l.par.map Prod.fst).Nodup
 small:∀p∈l.par,p.2<=2147483647
 par:l.par=[]\/l.got=(l.par.map Prod.snd).sum
structure Snd(os:List O)(rcs:List (Nat×Nat))(ls:List L):Prop where
 one:∀i,i<ls.length->TJ (ls.getD i L0)
 fam:∀i,i<ls.length->∀p∈(ls.getD i L0).par,∃j,j<i/\(ls.getD j L0).id=p.1/\(ls.getD j L0).gd=(ls.getD i L0).gd
 exp:∀i,i<ls.length->(ls.getD i L0).par≠[]->(ls.getD i L0).ex=UB ls (ls.getD i L0).par
 giv:∀i,i<ls.length->(ls.getD i L0).gv=Up ls (ls.getD i L0).id
 ord:∀o∈os,1<=o.gd/\o.li≠[]/\∀p∈o.li,1<=p.2/\(zd ls p.1).gd=o.gd
 rcl:∀p∈rcs,1<=p.1/\1<=p.2/\Ur p.1 ls<ls.length
theorem wC{ls ls':List L}(g:ls'.length=ls.length)(h:∀i,i<ls.length->(ls'.getD i L0).id=(ls.getD i L0).id)(n:Nat):Ur n ls'=Ur n ls:=by
 have j:ls'.map L.id=ls.map L.id:=yn (by simp[g]) (λi d f=>by
  have c:i<ls'.length:=by simpa using d
  have b:i<ls.length:=by simpa using f
  have:=h i b
  simpa [Ul,c,b] using this)
 have e:∀l:List L,Ur n l=(l.map L.id).findIdx (λx=>x==n):=λl=>by
  induction l with
  |nil=>rfl
  |cons a l ih=>unfold Ur at ih ⊢;simp[xaE,ih]
 rw[e,e,j]
structure Lqq(l l':L):Prop where
 id:l'.id=l.id
 gd:l'.gd=l.gd
 ex:l'.ex=l.ex
 got:l'.got=l.got
 par:l'.par=l.par
theorem Lqq.refl(l:L):Lqq l l:=⟨rfl,rfl,rfl,rfl,rfl⟩
theorem NT{β:Type}{ls ls':List L}(e:ls'.length=ls.length)(f:L->β)(h:∀i,i<ls.length->f (ls'.getD i L0)=f (ls.getD i L0)):ls'.map f=ls.map f:=yn (by simp[e]) (λi c d=>by
 have b:i<ls'.length:=by simpa using c
 have a:i<ls.length:=by simpa using d
 have:=h i a
 simpa [Ul,b,a] using this)
variable {n:Nat}
section
variable {os:List O}{rcs:List (Nat×Nat)}{ls ls':List L}
theorem wS(b:ls'.length=ls.length)(h:∀i,i<ls.length->Lqq (ls.getD i L0) (ls'.getD i L0))(n:Nat):(zd ls' n).gd=(zd ls n).gd/\(zd ls' n).ex=(zd ls n).ex:=by
 unfold zd;rw[wC b (λi a=>(h i a).id)];rcases YD (Ur n ls) ls.length with a|a
 ·exact⟨(h _ a).gd,(h _ a).ex⟩
 rw[Ul,Ul,Xo a,Xo (by omega)];exact⟨rfl,rfl⟩
theorem SF(a:ls'.length=ls.length)(h:∀i,i<ls.length->Lqq (ls.getD i L0) (ls'.getD i L0))(ps:List (Nat×Nat)):UB ls' ps=UB ls ps:=by
 unfold UB;congr 1;funext e p;rw[(wS a h p.1).2]
theorem Snd.keep(h:Snd os rcs ls)(e:ls'.length=ls.length)(c:∀i,i<ls.length->Lqq (ls.getD i L0) (ls'.getD i L0)/\(ls'.getD i L0).gv=(ls.getD i L0).gv/\(ls'.getD i L0).free+(ls'.getD i L0).hd+(ls'.getD i L0).sh+(ls'.getD i L0).sc=(ls.getD i L0).free+(ls.getD i L0).hd+(ls.getD i L0).sh+(ls.getD i L0).sc):Snd os rcs ls' where
 one:=λi b=>by
  rw[e]at b;have a:=h.one i b;obtain⟨q,g,s⟩:=c i b;exact⟨by rw[q.id];exact a.id,by rw[q.gd];exact a.gd,by rw[q.got];exact a.got,by rw[q.got,a.sum,g];omega,by rw[q.par];exact a.keys,by rw[q.par];exact a.small,by rw[q.par,q.got];exact a.par⟩
 fam:=λi b p d=>by
  rw[e]at b;rw[(c i b).1.par]at d;obtain⟨j,k,m,f⟩:=h.fam i b p d;exact⟨j,k,by rw[(c j (by omega)).1.id];exact m,by rw[(c j (by omega)).1.gd,(c i b).1.gd];exact f⟩
 exp:=λi b d=>by
  rw[e]at b;rw[(c i b).1.par]at d ⊢;rw[(c i b).1.ex,SF e (λi b=>(c i b).1)];exact h.exp i b d
 giv:=λi b=>by
  rw[e]at b;rw[(c i b).2.1,(c i b).1.id,h.giv i b];unfold Up;rw[NT e (λl=>Um l (ls.getD i L0).id) (λj n=>by unfold Um;rw[(c j n).1.par])]
 ord:=λo r=>by
  obtain⟨k,m,f⟩:=h.ord o r;exact⟨k,m,λp d=>⟨(f p d).1,by rw[(wS e (λi b=>(c i b).1) p.1).1];exact(f p d).2⟩⟩
 rcl:=λp d=>by
  obtain⟨k,m,f⟩:=h.rcl p d;exact⟨k,m,by rw[e,wC e (λi b=>(c i b).1.id)];exact f⟩
theorem IX{x:L}(h:Ur n ls<ls.length):Ur n (ls++[x])=Ur n ls/\zd (ls++[x]) n=zd ls n:=by
 have e:Ur n (ls++[x])=Ur n ls:=by
  unfold Ur at h ⊢;rw[List.findIdx_append,xd h]
 refine⟨e,?_⟩;unfold zd;rw[e,Ul,Ul,Xk h]
theorem Cw(a:∀i j,i<ls.length->j<ls.length->(ls.getD i L0).id=(ls.getD j L0).id->i=j){j:Nat}(b:j<ls.length):Ur (ls.getD j L0).id ls=j:=eG b (λk c e=>by have:=a k j (by omega) b e;omega) rfl
theorem nM{l:L}(h:∀p∈l.par,p.1≠n):Um l n=0:=by
 unfold Um;have:l.par.map (λp=>if p.1=n then p.2 else 0)=l.par.map (λ_=>0):=XE (λp a=>by rw[xe (h p a)]);rw[this];generalize l.par=ps;induction ps with
 |nil=>rfl
 |cons p ps ih=>rw[List.map_cons,List.sum_cons,ih]
theorem Ed{n:Nat}:∀{l:List L},(∀x∈l,Um x n=0)->Up l n=0
 |[],_=>rfl
 |x::l,h=>by
  unfold Up;rw[List.map_cons,List.sum_cons,h x (by simp)];have:=Ed (n:=n) (l:=l) (λy a=>h y (by simp[a]));unfold Up at this;rw[this]
theorem Pa(l:List L)(x:L)(n:Nat):Up (l++[x]) n=Up l n+Um x n:=by simp[Up]
theorem Snd.app(h:Snd os rcs ls)(E:∀i j,i<ls.length->j<ls.length->(ls.getD i L0).id=(ls.getD j L0).id->i=j)(F:∀o∈os,∀p∈o.li,Ur p.1 ls<ls.length){x:L}(z:ls'.length=ls.length)
  (J:∀i,i<ls.length->Lqq (ls.getD i L0) (ls'.getD i L0)/\(ls'.getD i L0).gv=(ls.getD i L0).gv+Um x (ls.getD i L0).id/\(ls'.getD i L0).got=(ls'.getD i L0).free+(ls'.getD i L0).hd+(ls'.getD i L0).sh+(ls'.getD i L0).sc+(ls'.getD i L0).gv)
  (R:TJ x) (N:x.gv=0) (A:¬Ur x.id ls<ls.length) (v:∀p∈x.par,Ur p.1 ls<ls.length/\(zd ls p.1).gd=x.gd) (D:x.par≠[]->x.ex=UB ls x.par):Snd os rcs (ls'++[x]):=by
 have f:∀i,i<ls.length->(ls'++[x]).getD i L0=ls'.getD i L0:=λi t=>by rw[Ul,Ul,Xk (by omega)]
 have y:(ls'++[x]).getD ls.length L0=x:=by simp[Ul,<-z]
 have r:(ls'++[x]).length=ls.length+1:=by simp[z]
 have m:=λi t=>(J i t).1
 have B:∀n,Ur n ls<ls.length->Ur n (ls'++[x])=Ur n ls/\(zd (ls'++[x]) n).gd=(zd ls n).gd/\(zd (ls'++[x]) n).ex=(zd ls n).ex:=λn Q=>by
  have e:=wC z (λi t=>(m i t).id) n;obtain⟨a,b⟩:=IX (ls:=ls') (x:=x) (n:=n) (by rw[e,z];exact Q);have c:=wS z m n;exact⟨by rw[a,e],by rw[b,c.1],by rw[b,c.2]⟩
 have H:∀i,i<ls.length->∀p∈(ls.getD i L0).par,Ur p.1 ls<ls.length:=λi t p k=>by
  obtain⟨j,u,w,_⟩:=h.fam i t p k;rw[<-w,Cw E (by omega)];omega
 have G:∀ps:List (Nat×Nat),(∀p∈ps,Ur p.1 ls<ls.length)->UB (ls'++[x]) ps=UB ls ps:=λps=>by
  unfold UB;generalize 2147483647=e;induction ps generalizing e with
  |nil=>intro _;rfl
  |cons p ps ih=>
   intro k;rw[Yq,Yq,(B p.1 (k p (by simp))).2.2];exact ih _ (λq J=>k q (by simp[J]))
 refine⟨λi t=>?_,λi t p k=>?_,λi t k=>?_,λi t=>?_,λo P=>?_,λp k=>?_⟩
 ·rw[r]at t;by_cases e:i=ls.length
  ·subst e;rw[y];exact R
  have d:i<ls.length:=by omega
  rw[f i d];obtain⟨q,g,s⟩:=J i d;have a:=h.one i d;exact⟨by rw[q.id];exact a.id,by rw[q.gd];exact a.gd,by rw[q.got];exact a.got,s,by rw[q.par];exact a.keys,by rw[q.par];exact a.small,by rw[q.par,q.got];exact a.par⟩
 ·rw[r]at t;by_cases e:i=ls.length
  ·subst e;rw[y]at k ⊢;obtain⟨u,w⟩:=v p k;refine⟨Ur p.1 ls,u,?_,?_⟩
   ·rw[f _ u,(m _ u).id];exact Z6 u
   rw[f _ u,(m _ u).gd];exact w
  have d:i<ls.length:=by omega
  rw[f i d,(m i d).par]at k;obtain⟨j,u,w,C⟩:=h.fam i d p k;exact⟨j,u,by rw[f j (by omega),(m j (by omega)).id];exact w,by rw[f j (by omega),f i d,(m j (by omega)).gd,(m i d).gd];exact C⟩
 ·rw[r]at t;by_cases e:i=ls.length
  ·subst e;rw[y]at k ⊢;rw[G _ (λp k=>(v p k).1)];exact D k
  have d:i<ls.length:=by omega
  rw[f i d,(m i d).par]at k ⊢;rw[(m i d).ex,G _ (H i d)];exact h.exp i d k
 ·have M:∀n,Up (ls'++[x]) n=Up ls n+Um x n:=λn=>by
   rw[Pa];unfold Up;rw[NT z (λl=>Um l n) (λj K=>by unfold Um;rw[(m j K).par])]
  rw[M];rw[r]at t;by_cases e:i=ls.length
  ·subst e;rw[y,N,nM (λp k e=>A (by rw[<-e];exact(v p k).1)),Ed (λl z=>nM (λp k e=>?_))];obtain⟨j,K,rfl⟩:=xt z;have:=H j K p (by simpa [Ul,K] using k);rw[e]at this;exact A this
  have d:i<ls.length:=by omega
  rw[f i d,(J i d).2.1,(m i d).id,h.giv i d]
 ·obtain⟨u,w,C⟩:=h.ord o P;exact⟨u,w,λp k=>⟨(C p k).1,by rw[(B p.1 (F o P p k)).2.1];exact(C p k).2⟩⟩
 obtain⟨u,w,C⟩:=h.rcl p k;exact⟨u,w,by rw[r,(B p.1 C).1];omega⟩
end
theorem OZ{l:L}(h:l.par=[])(n:Nat):Um l n=0:=by unfold Um;rw[h];rfl
theorem vX{os:List O}{ls:List L}(h:Good os ls):∀o∈os,∀p∈o.li,Ur p.1 ls<ls.length:=λo b p c=>by
 obtain⟨i,a,e⟩:=h.mem o b p c;rw[<-e,Cw h.ids a];exact a
theorem xJ{ls:List L}(h:zA ls n=0):¬Ur n ls<ls.length:=λa=>by unfold zA at h;rw[xd a]at h;cases h
section
variable {os:List O}{rcs:List (Nat×Nat)}{ls:List L}
theorem Snd.receive(h:Snd os rcs ls)(e:Good os ls){a b c d:Nat}(g:1<=a)(j:1<=b)(k:1<=c):Snd os rcs (if zA ls a=0 then ls++[Ew ls a b c d] else ls):=by
 split
 ·rename_i m;exact h.app e.ids (vX e) rfl (λi l=>⟨Lqq.refl _,by rw[OZ rfl];omega,(h.one i l).sum⟩) ⟨g,j,k,by show c=c+0+0+0+0;omega,by simp[Ew],by simp[Ew],Or.inl rfl⟩ rfl (xJ m) (λp f=>by simp[Ew]at f) (λf=>absurd rfl f)
 exact h
theorem Dq{m c:Nat}(h:zR ls n m c=0):Ur n ls<ls.length/\zA ls m=0/\c<=(ls.getD (Ur n ls) L0).free:=by
 unfold zR at h;split at h
 ·rename_i b;split at h
  ·rename_i a;split at h
   ·cases h
   exact⟨b,a,by omega⟩
  rename_i a;exact absurd h a
 cases h
theorem Ck(l:L)(n:Nat):Lqq l (zT l n):=⟨rfl,rfl,rfl,rfl,rfl⟩
theorem Snd.split(h:Snd os rcs ls)(a:Good os ls)(r:∀l∈ls,L.Ok l){n m c:Nat}(w:1<=m)(u:1<=c)(f:c<=2147483647):Snd os rcs (Z7 ls n m c):=by
 unfold Z7;split
 ·rename_i s;obtain⟨d,t,z⟩:=Dq s;have v:=Z6 d;have A:=(r _ (zg d)).ex;refine h.app a.ids (vX a) (xl ..) (λi j=>?_) ⟨w,(h.one _ d).gd,u,by show c=c+0+0+0+0;omega,by simp[Uz],by intro p b;simp only[Uz,Xp]at b;subst b;exact f,Or.inr (by simp[Uz])⟩ rfl (xJ t) (λp b=>?_) (λ_=>?_)
  ·have x:=(h.one i j).sum;by_cases e:i=Ur n ls
   ·subst e;rw[Zj j];refine⟨Ck _ _,by simp[zT,Um,Uz],?_⟩;show(ls.getD (Ur n ls) L0).got=(ls.getD (Ur n ls) L0).free-c+(ls.getD (Ur n ls) L0).hd+(ls.getD (Ur n ls) L0).sh+(ls.getD (Ur n ls) L0).sc+((ls.getD (Ur n ls) L0).gv+c);omega
   rw[zU e];refine⟨Lqq.refl _,?_,x⟩;have k:¬(ls.getD (Ur n ls) L0).id=(ls.getD i L0).id:=λq=>e (a.ids i _ j d q.symm)
   have y:∀(g m:Nat),Um (Uz ls m (ls.getD (Ur n ls) L0).gd (ls.getD (Ur n ls) L0).ex c [((ls.getD (Ur n ls) L0).id,g)]) (ls.getD i L0).id=0:=λg m=>nM (λp b=>by simp only[Uz,Xp]at b;subst b;exact k)
   rw[y];rfl
  ·simp only[Uz,Xp]at b;subst b;have e:Ur (ls.getD (Ur n ls) L0).id ls=Ur n ls:=Cw a.ids d;exact⟨by show Ur (ls.getD (Ur n ls) L0).id ls<_;rw[e];exact d,by show(zd ls (ls.getD (Ur n ls) L0).id).gd=(ls.getD (Ur n ls) L0).gd;unfold zd;rw[e]⟩
  show(ls.getD (Ur n ls) L0).ex=min 2147483647 (zd ls (ls.getD (Ur n ls) L0).id).ex;unfold zd;rw[Cw a.ids d];omega
 exact h
theorem Snd.fin(h:Snd os rcs ls)(d:Good os ls)(g:L->Nat->L)(j:∀l n,Lqq l (g l n)/\(g l n).gv=l.gv/\(g l n).free+(g l n).hd+(g l n).sh+(g l n).sc=l.free+l.hd+l.sh+l.sc+n)(a:Nat):Snd (os.filter (λo=>o.id != a)) rcs (ls.map (dF g os a)):=by
 have b:Snd os rcs (ls.map (dF g os a)):=h.keep (Xl ..) (λi f=>by
  have e:(ls.map (dF g os a)).getD i L0=dF g os a (ls.getD i L0):=by simp[Ul,f]
  rw[e];unfold dF
  cases k:zr os a (ls.getD i L0).id with
  |none=>exact⟨Lqq.refl _,rfl,rfl⟩
  |some n=>
   have m:n<=(ls.getD i L0).hd:=by rw[d.hd i f];exact kX k
   obtain⟨c,q,r⟩:=j { ls.getD i L0 with hd:=(ls.getD i L0).hd-n } n;refine⟨⟨c.id,c.gd,c.ex,c.got,c.par⟩,q,?_⟩;rw[r];show(ls.getD i L0).free+((ls.getD i L0).hd-n)+(ls.getD i L0).sh+(ls.getD i L0).sc+n=_;omega)
 exact⟨b.one,b.fam,b.exp,b.giv,λo p=>b.ord o (XW.1 p).1,b.rcl⟩
end
theorem xF(h:n<=2147483647)(a:List Nat):UK (Pl.toldB (n::a))=some (n,Pl.toldB a):=by
 have e:Pl.toldB (n::a)=Pl.num n++Pl.toldB a:=by simp[Pl.toldB]
 obtain⟨b,c⟩:=Pl.read_num n (by omega) (Pl.toldB a);have d:=Pl.num_len_pos n;unfold UK;rw[e,b,c,xe (by omega)];simp
theorem zW{lo a:Nat}(c:lo<=n)(d:n<=a)(e:n<=2147483647)(b:List Nat):UL lo a (Pl.toldB (n::b))=some (n,Pl.toldB b):=by
 unfold UL;rw[xF e,xi,xd ⟨c,d⟩]
def Ris(l:List (Nat×Nat)):Prop:=(l.map Prod.fst).Pairwise (·<·)
theorem Ris.cons(h:Ris (p::l)):(∀q∈l,p.1<q.1)/\Ris l:=by
 unfold Ris at h;rw[List.map_cons,Xq]at h;exact⟨λq a=>h.1 _ (Xd a),h.2⟩
theorem EO(h:l.length<=2)(d:(l.map Prod.fst).Nodup):Ris (zY l):=by
 match l,h with
 |[],_=>simp[Ris,zY]
 |[a],_=>simp[Ris,zY]
 |[a,b],_=>
  have e:¬a.1=b.1:=by simpa using d
  simp only[Ris,zY];by_cases c:b.1<a.1
  ·simp[c]
  simp[c];omega
theorem nW(d:(l.map Prod.fst).Nodup):Ris (cT l):=by
 obtain⟨f,g⟩:=ZL (aN d);unfold Ris;rw[yi];refine f.imp_of_mem (λ{a b} ha hb h=>?_);rw[g]at ha hb;simp only[bG,Yy,Xs,Xu]at h;rcases h with h|h
 ·exact h
 exfalso
 have c:=Zd d (b:=a.1) (n:=a.2) ha;have e:=Zd d (b:=b.1) (n:=b.2) hb;rw[h.1,e]at c;injection c with c
 omega
theorem uG(b:List Nat):∀(ps:List (Nat×Nat)) (p:Nat) (a:List (Nat×Nat)),Ris ps->(∀q∈ps,p<q.1/\q.1<=2147483647/\q.2<=2147483647)->eU ps.length p a (Pl.toldB (ps.flatMap (λp=>[p.1,p.2])++b))=some (a++ps,Pl.toldB b)
 |[],p,a,_,_=>by simp[eU]
 |q::ps,p,a,hr,hq=>by
  obtain⟨f,d,e⟩:=hq q (by simp);rw[List.length_cons,eU,XU];show((UL (p+1) 2147483647 (Pl.toldB (q.1::(q.2::(ps.flatMap (λp=>[p.1,p.2])++b))))).bind _)=_;rw[zW (by omega) d d,xi];show((UL 0 2147483647 (Pl.toldB (q.2::(ps.flatMap (λp=>[p.1,p.2])++b)))).bind _)=_;rw[zW (Nat.zero_le _) e e,xi];show eU ps.length q.1 (a++[(q.1,q.2)]) (Pl.toldB (ps.flatMap (λp=>[p.1,p.2])++b))=_;rw[uG b ps q.1 _ hr.cons.2 (λr c=>⟨hr.cons.1 r c,(hq r (by simp[c])).2⟩)];simp
theorem Dc{ps:List (Nat×Nat)}(b:ps.length<=2)(d:Ris ps)(c:∀q∈ps,1<=q.1/\q.1<=2147483647/\q.2<=2147483647)(a:List Nat):eR (Pl.toldB (Uf ps++a))=some (ps,Pl.toldB a):=by
 unfold eR Uf;rw[XF,zW (Nat.zero_le _) b (by omega),xi];show eU ps.length 0 [] (Pl.toldB _)=_;rw[uG a ps 0 [] d (λq h=>by have:=c q h;omega)];simp
def kap(l:L):L:={ l with par:=zY l.par }
def Vq(l:L):L:={ kap l with gv:=0 }
theorem LJ(l:List (Nat×Nat)):((zY l).map Prod.snd).sum=(l.map Prod.snd).sum:=by
 unfold zY;split
 ·split
  ·simp;omega
  rfl
 rfl
theorem Gh{l:L}(i:TJ l)(a:L.Ok l){com:Nat}(n:1<=l.place)(r:l.place<=com)(g:∀p∈l.par,1<=p.1)(m:List Nat):cL l.id com (Pl.toldB ((cJ l).tail++m))=some (Vq l,Pl.toldB m):=by
 have t:=a.sum;have s:=a.place;have c:=i.got;have b:=a.got;have d:=a.par.1;have e:(cJ l).tail++m=l.gd::l.ex::l.place::l.free::l.hd::l.sh::l.sc::(Uf (zY l.par)++((if (zY l.par).length=0 then [l.got] else [])++m)):=by
  unfold cJ;simp
 rw[e];unfold cL;rw[zW i.gd a.gd a.gd,xi,zW (Nat.zero_le _) a.ex a.ex,xi,zW n r (by omega),xi,zW (Nat.zero_le _) (by omega) (by omega),xi,zW (Nat.zero_le _) (by omega) (by omega),xi,zW (Nat.zero_le _) (by omega) (by omega),xi,zW (Nat.zero_le _) (by omega) (by omega),xi];rw[Dc (by rw[aG];exact d) (EO d i.keys) (λq k=>by
  rw[iV]at k;exact⟨g q k,a.par.2 q k,i.small q k⟩),xi]
 dsimp only;by_cases f:(zY l.par).length=0
 ·rw[xd f,xd f,List.singleton_append,xF b,xi,xd ⟨c,b⟩];rfl
 rw[xe f,xe f,xi];have j:((zY l.par).map Prod.snd).sum=l.got:=by
  rw[LJ];rcases i.par with h|h
  ·rw[aG,h]at f;simp at f
  exact h.symm
 rw[j,xd ⟨c,b⟩];rfl
def Uc(f:Nat->Option L)(is:List Nat)(sl:List (Option L)):List (Option L):=is.foldl (λsl i=>sl.set i (f i)) sl
theorem Hx(f:Nat->Option L):∀(b:List Nat) (a:List (Option L)),(Uc f b a).length=a.length
 |[],a=>rfl
 |i::b,a=>by
  show(Uc f b (a.set i (f i))).length=_;rw[Hx f b,xl]
theorem Hw(f:Nat->Option L){j:Nat}:∀(a:List Nat) (b:List (Option L)),j<b.length->(Uc f a b)[j]?=if j∈a then some (f j) else b[j]?
 |[],b,_=>by simp[Uc]
 |i::a,b,hj=>by
  show(Uc f a (b.set i (f i)))[j]?=_;rw[Hw f a _ (by rw[xl];exact hj)];by_cases c:j∈a
  ·rw[xd c,xd (by simp[c])]
  rw[xe c];by_cases d:j=i
  ·subst d;rw[xd (by simp)];simp[hj]
  rw[xe (by simp[c,d])];simp[yk d]
theorem OS{ls:List L}{b:List Nat}(h:∀i,i<ls.length->i∈b):Uc (λi=>some (Vq (ls.getD i L0))) b (List.replicate ls.length none)=ls.map (λl=>some (Vq l)):=by
 apply Yj
 intro j;by_cases a:j<ls.length
 ·rw[Hw _ _ _ (by simpa using a),xd (h j a)];simp[Ul,a]
 rw[Xo (by rw[Hx];simp;omega),Xo (by simp;omega)]
variable {x:Nat->Nat}
section
variable {os:List O}{rcs:List (Nat×Nat)}{ls:List L}{td:Nat}
theorem AX(f:∀l∈ls,L.Ok l)(d:Good os ls)(n:Snd os rcs ls)(g:List Nat):∀(is:List Nat) (p:Nat) (h:List (Option L)),(∀i∈is,i<ls.length/\p<(ls.getD i L0).id/\h[i]?=some none)->is.Pairwise (λa b=>(ls.getD a L0).id<(ls.getD b L0).id) ->
  xG ls.length is.length p h (Pl.toldB (is.flatMap (λi=>cJ (ls.getD i L0))++g))=some (Uc (λi=>some (Vq (ls.getD i L0))) is h,Pl.toldB g)
 |[],p,h,_,_=>by simp[xG,Uc]
 |i::is,p,h,hi,hr=>by
  obtain⟨k,x,r⟩:=hi i (by simp);have c:=f _ (zg k);have t:=d.place i k;obtain⟨q,w⟩:=Xq.1 hr;have e:(i::is).flatMap (λi=>cJ (ls.getD i L0))++g=(ls.getD i L0).id::((cJ (ls.getD i L0)).tail++(is.flatMap (λi=>cJ (ls.getD i L0))++g)):=by
   rw[XU];unfold cJ;simp
  rw[List.length_cons,xG,e,zW (by omega) c.id c.id,Option.bind_some];dsimp only;rw[Gh (n.one i k) c (by omega) (by omega) (λp s=>by
   obtain⟨j,y,v,_⟩:=n.fam i k p s;rw[<-v];exact(n.one j (by omega)).id),xi]
  dsimp only;have u:(Vq (ls.getD i L0)).place-1=i:=by show(ls.getD i L0).place-1=i;omega
  rw[u,xd (by rw[Ul,r];rfl),AX f d n g is _ _ (λj m=>⟨(hi j (by simp[m])).1,q j m,by
   rw[Xe];by_cases e:i=j
   ·subst e;have:=q i m;omega
   rw[xe e];exact(hi j (by simp[m])).2.2⟩) w]
  rfl
def wg(ls:List L)(g:L->Nat):List L:=ls.map λx=>{ kap x with gv:=g x }
theorem gU(g:L->Nat):(wg ls g).length=ls.length:=by simp[wg]
theorem jU(g:L->Nat)(n:Nat):Ur n (wg ls g)=Ur n ls:=by
 unfold Ur wg;rw[xam];rfl
theorem cH(g:L->Nat){i:Nat}(a:i<ls.length):(wg ls g).getD i L0={ kap (ls.getD i L0) with gv:=g (ls.getD i L0) }:=by
 simp[wg,Ul,a]
theorem Oc(b:∀i j,i<ls.length->j<ls.length->(ls.getD i L0).id=(ls.getD j L0).id->i=j)(g:L->Nat){n m:Nat}(d:Ur n ls<ls.length):(wg ls g).set (Ur n ls) (Uo ((wg ls g).getD (Ur n ls) L0) m)=wg ls (λx=>g x+if n=x.id then m else 0):=by
 have a:=Z6 d;apply Yj;intro j;by_cases c:j<ls.length
 ·have h:(wg ls (λx=>g x+if n=x.id then m else 0))[j]?=some ((wg ls (λx=>g x+if n=x.id then m else 0)).getD j L0):=by
   rw[Ul,xh (by rw[gU];exact c)];rfl
  have f:(wg ls g)[j]?=some ((wg ls g).getD j L0):=by
   rw[Ul,xh (by rw[gU];exact c)];rfl
  rw[h,cH _ c,Xe];by_cases e:Ur n ls=j
  ·rw[xd e,xd (by rw[gU];exact d),cH _ d,e];rw[e]at a;rw[xd a.symm];rfl
  rw[xe e,f,cH _ c];have:¬n=(ls.getD j L0).id:=λq=>e (b _ _ d c (by rw[a,q]))
  rw[xe this];rfl
 rw[Xo (by rw[xl,gU];omega),Xo (by rw[gU];omega)]
theorem Ob(a:∀i j,i<ls.length->j<ls.length->(ls.getD i L0).id=(ls.getD j L0).id->i=j)(l:L):∀(ps:List (Nat×Nat)) (e:Nat) (g:L->Nat),(∀p∈ps,Ur p.1 ls<ls.length/\(zd ls p.1).gd=l.gd/\(zd ls p.1).place<l.place) ->
  Vd l ps e (wg ls g)=some (wg ls (λx=>g x+(ps.map λp=>if p.1=x.id then p.2 else 0).sum),ps.foldl (λe p=>min e (zd ls p.1).ex) e)
 |[],e,g,_=>by simp[Vd]
 |p::ps,e,g,hp=>by
  obtain⟨b,k,m⟩:=hp p (by simp);have d:=cH g b;have f:((wg ls g).getD (Ur p.1 (wg ls g)) L0).gd=l.gd:=by rw[jU,d];exact k
  have h:((wg ls g).getD (Ur p.1 (wg ls g)) L0).place<l.place:=by rw[jU,d];exact m
  have c:((wg ls g).getD (Ur p.1 (wg ls g)) L0).ex=(zd ls p.1).ex:=by rw[jU,d];rfl
  rw[Vd,xd ⟨by rw[jU,gU];exact b,f,h⟩,c,jU,Oc a g b,Ob a l ps _ _ (λq n=>hp q (by simp[n]))];simp only[List.map_cons,List.sum_cons,Yq,Xj,XD,and_true];congr 1;funext x;omega
theorem Ev(ps:List (Nat×Nat)):UB ls (zY ps)=UB ls ps:=by
 unfold zY;split
 ·split
  ·simp only[UB,Yq,List.foldl_nil];omega
  rfl
 rfl
theorem Ag(f:Nat×Nat->Nat)(l:List (Nat×Nat)):((zY l).map f).sum=(l.map f).sum:=by
 unfold zY;split
 ·split
  ·simp;omega
  rfl
 rfl
theorem RZ(a:Good os ls)(q:Snd os rcs ls){i:Nat}(b:i<ls.length):Ve (wg ls (λx=>Up (ls.take i) x.id)) i=some (wg ls (λx=>Up (ls.take (i+1)) x.id)):=by
 have f:∀n,Up (ls.take (i+1)) n=Up (ls.take i) n+Um (ls.getD i L0) n:=λn=>by
  rw[cA (d:=L0) b];simp[Up]
 obtain⟨y,g⟩:∃y,y=(wg ls (λx=>Up (ls.take i) x.id)).getD i L0:=⟨_,rfl⟩
 have u:y.par=zY (ls.getD i L0).par:=by rw[g,cH _ b];rfl
 have v:y.ex=(ls.getD i L0).ex:=by rw[g,cH _ b];rfl
 have w:y.gd=(ls.getD i L0).gd:=by rw[g,cH _ b];rfl
 have z:y.place=(ls.getD i L0).place:=by rw[g,cH _ b];rfl
 unfold Ve;rw[<-g,u,v];by_cases c:(zY (ls.getD i L0).par).length=0
 ·rw[xd c];have h:(ls.getD i L0).par=[]:=by rw[aG]at c;exact Xn.1 c
  congr 2
  funext x
  rw[f];unfold Um;rw[h];rfl
 rw[xe c];have m:(ls.getD i L0).par≠[]:=λe=>c (by rw[e];rfl)
 rw[Ob a.ids _ _ _ _ (λp h=>by
  rw[iV]at h;obtain⟨j,B,s,t⟩:=q.fam i b p h;have e:Ur p.1 ls=j:=by rw[<-s];exact eG (by omega) (λk A e=>by have:=a.ids k j (by omega) (by omega) e;omega) rfl
  unfold zd;rw[e,w,z];refine⟨by omega,t,?_⟩;rw[a.place j (by omega),a.place i b];omega),xi]
 have r:=q.exp i b m;have l:=Ev (ls:=ls) (ls.getD i L0).par;rw[<-r]at l;unfold UB at l;rw[l,xd rfl];show some (wg ls _)=_;congr 2;funext x;rw[f,Ag];rfl
theorem Oa(a:Good os ls)(b:Snd os rcs ls):∀k i,i+k=ls.length->Vc k i (wg ls (λx=>Up (ls.take i) x.id))=some (ls.map kap)
 |0,i,h=>by
  rw[Vc];congr 1;unfold wg;apply XE;intro x f;obtain⟨j,d,rfl⟩:=xt f;have e:ls.getD j L0=ls[j]:=by simp[Ul,d]
  have c:=b.giv j d;rw[e]at c;rw[Xh (by omega)];show({ kap ls[j] with gv:=Up ls ls[j].id }:L)=_;rw[<-c];rfl
 |k+1,i,h=>by
  rw[Vc,RZ a b (by omega),xi];exact Oa a b k (i+1) (by omega)
theorem Ja(p:∀l∈ls,L.Ok l)(g:ls.length<=30)(f:Good os ls)(q:Snd os rcs ls)(r:List Nat):cF (Pl.toldB (ls.length::ls.length::(UT ls++r)))=some (ls.map kap,Pl.toldB r):=by
 obtain⟨s,n⟩:=bI (x:=λi=>(ls.getD i L0).id) f.ids (ls.length+1) 0 (by have:=fE (λi=>(ls.getD i L0).id) 0 ls.length;omega);have d:∀i,i<ls.length->i∈Zy (λi=>(ls.getD i L0).id) ls.length (ls.length+1) 0:=λi c=>(n i).2 ⟨c,(q.one i c).id⟩
 have k:(Zy (λi=>(ls.getD i L0).id) ls.length (ls.length+1) 0).length=ls.length:=by
  have a:=dS (l:=Zy (λi=>(ls.getD i L0).id) ls.length (ls.length+1) 0) (m:=List.range ls.length) (s.imp (λj e=>by rw[e]at j;exact Yf _ j)) (λi c=>by simp;exact((n i).1 c).1);have b:=dS (l:=List.range ls.length) (m:=Zy (λi=>(ls.getD i L0).id) ls.length (ls.length+1) 0) xan (λi c=>d i (by simpa using c));simp only[List.length_range]at a b;omega
 unfold cF;rw[zW (Nat.zero_le _) g (by omega),Option.bind_some,xF (by omega),Option.bind_some,if_pos rfl];dsimp only;have h:=AX p f q r (Zy (λi=>(ls.getD i L0).id) ls.length (ls.length+1) 0) 0 (List.replicate ls.length none) (λi c=>⟨((n i).1 c).1,((n i).1 c).2,by simp[((n i).1 c).1]⟩) s;rw[k]at h;unfold UT;rw[h,Option.bind_some,OS d];dsimp only;have e:(ls.map (λl=>some (Vq l))).map (λo=>o.getD L0)=wg ls (λx=>Up (ls.take 0) x.id):=by
  unfold wg;simp[Vq,Up]
 rw[e,Oa f q _ 0 (by omega),xi]
def UP(o:O):O:={ o with li:=cT o.li }
theorem CA(n:Nat):Ur n (ls.map kap)=Ur n ls:=by
 unfold Ur;rw[xam];rfl
theorem II(i:Nat):(ls.map kap).getD i L0=kap (ls.getD i L0):=by
 rw[Ul,Ul,xaf]
 cases ls[i]? with
 |none=>rfl
 |some x=>rfl
theorem AW{g:Nat}(c:List Nat):∀(ps:List (Nat×Nat)) (p:Nat) (a:List (Nat×Nat)),Ris ps->(∀q∈ps,p<q.1/\q.1<=2147483647/\1<=q.2/\q.2<=2147483647/\Ur q.1 ls<ls.length/\(zd ls q.1).gd=g)->rQ (ls.map kap) g ps.length p a (Pl.toldB (ps.flatMap (λp=>[p.1,p.2])++c))=some (a++ps,Pl.toldB c)
 |[],p,a,_,_=>by simp[rQ]
 |q::ps,p,a,hr,hq=>by
  obtain⟨j,d,f,e,h,i⟩:=hq q (by simp);rw[List.length_cons,rQ,List.flatMap_cons];show((UL (p+1) 2147483647 (Pl.toldB (q.1::(q.2::(ps.flatMap (λp=>[p.1,p.2])++c))))).bind _)=_;rw[zW (by omega) d d,Option.bind_some];dsimp only;rw[if_pos ⟨by rw[CA,List.length_map];exact h,by rw[CA,II];exact i⟩,zW f e e,Option.bind_some];show rQ (ls.map kap) g ps.length q.1 (a++[(q.1,q.2)]) (Pl.toldB (ps.flatMap (λp=>[p.1,p.2])++c))=_;rw[AW c ps q.1 _ hr.cons.2 (λr b=>⟨hr.cons.1 r b,(hq r (by simp[b])).2⟩)];simp
structure TA(ls:List L)(o:O):Prop where
 id:o.id<=2147483647
 gd:1<=o.gd/\o.gd<=2147483647
 len:1<=o.li.length/\o.li.length<=30
 keys:(o.li.map Prod.fst).Nodup
 line:∀q∈o.li,1<=q.1/\q.1<=2147483647/\1<=q.2/\q.2<=2147483647/\Ur q.1 ls<ls.length/\(zd ls q.1).gd=o.gd
theorem AV{o:O}(a:TA ls o)(b:List Nat):Z9 (ls.map kap) o.gd (Pl.toldB (Uf (cT o.li)++b))=some (cT o.li,Pl.toldB b):=by
 obtain⟨_,d⟩:=ZL (aN a.keys);have f:=bR o.li (aN a.keys);have e:=a.len;unfold Z9 Uf;rw[XF,zW (by omega) (by omega) (by omega),xi];show rQ (ls.map kap) o.gd (cT o.li).length 0 [] (Pl.toldB _)=_;rw[AW b _ 0 [] (nW a.keys) (λq c=>by
  rw[d]at c;have:=a.line q c;exact⟨by omega,this.2⟩)]
 simp
theorem AY(g:∀o∈os,TA ls o)(f:List Nat):∀(is:List Nat) (p:Nat) (c:List O),(∀i∈is,i<os.length/\p<(os.getD i O0).id)->is.Pairwise (λa b=>(os.getD a O0).id<(os.getD b O0).id) ->
  yD (ls.map kap) is.length p c (Pl.toldB (is.flatMap (λi=>cZ (os.getD i O0))++f))=some (c++is.map (λi=>UP (os.getD i O0)),Pl.toldB f)
 |[],p,c,_,_=>by simp[yD]
 |i::is,p,c,hi,hr=>by
  obtain⟨k,n⟩:=hi i (by simp);have d:=g _ (Ik k);obtain⟨l,m⟩:=Xq.1 hr;have e:(i::is).flatMap (λi=>cZ (os.getD i O0))++f=(os.getD i O0).id::(os.getD i O0).gd::(Uf (cT (os.getD i O0).li)++(is.flatMap (λi=>cZ (os.getD i O0))++f)):=by
   rw[XU];unfold cZ;simp
  rw[List.length_cons,yD,e,zW (by omega) d.id d.id,Option.bind_some];dsimp only;rw[zW d.gd.1 d.gd.2 d.gd.2,Option.bind_some];dsimp only;rw[AV d,Option.bind_some];show yD (ls.map kap) is.length (os.getD i O0).id (c++[UP (os.getD i O0)]) (Pl.toldB _)=_;rw[AY g f is _ _ (λj h=>⟨(hi j (by simp[h])).1,l j h⟩) m];simp
def UF(os:List O):List O:=(Zy (λi=>(os.getD i O0).id) os.length (os.length+1) 0).map (λi=>UP (os.getD i O0))
theorem vN{N:Nat}(b:∀i j,i<N->j<N->x i=x j->i=j)(c:∀i,i<N->1<=x i):(Zy x N (N+1) 0).Perm (List.range N):=by
 obtain⟨d,f⟩:=bI (x:=x) b (N+1) 0 (by have:=fE x 0 N;omega);refine(YH (d.imp (λa e=>by rw[e]at a;exact Yf _ a)) xan).2 (λi=>?_);rw[f,xbN];exact⟨λh=>h.1,λh=>⟨h,c i h⟩⟩
theorem qT{β:Type}(f:α->β)(d:α)(l:List α):(List.range l.length).map (λi=>f (l.getD i d))=l.map f:=by
 apply yn
 ·simp
 intro i a b;simp at a;simp[Ul,a]
theorem jL(c:(os.map O.id).Nodup)(a:∀o∈os,1<=o.id):(UF os).Perm (os.map UP):=by
 have:=(vN (x:=λi=>(os.getD i O0).id) (qM c) (λi b=>a _ (Ik b))).map (λi=>UP (os.getD i O0))
 rw[qT UP O0 os]at this;exact this
theorem CV(g:∀o∈os,TA ls o)(e:(os.map O.id).Nodup)(f:∀o∈os,1<=o.id)(a:os.length<=10)(c:List Nat):ZR (ls.map kap) (Pl.toldB (os.length::(UV os++c)))=some (UF os,Pl.toldB c):=by
 obtain⟨j,k⟩:=bI (x:=λi=>(os.getD i O0).id) (qM e) (os.length+1) 0 (by have:=fE (λi=>(os.getD i O0).id) 0 os.length;omega);have d:=(vN (x:=λi=>(os.getD i O0).id) (qM e) (λi b=>f _ (Ik b))).length_eq;rw[List.length_range]at d;unfold ZR;rw[zW (Nat.zero_le _) a (by omega),Option.bind_some];dsimp only;have h:=AY g c (Zy (λi=>(os.getD i O0).id) os.length (os.length+1) 0) 0 [] (λi b=>(k i).1 b) j;rw[d]at h;unfold UV;rw[h];rfl
theorem Ba(d:List Nat):∀(ps:List (Nat×Nat)) (a:Nat×Nat) (c:List (Nat×Nat)),(a::ps).Pairwise (λa b=>bG a b=true)->(∀q∈ps,1<=q.1/\q.1<=2147483647/\1<=q.2/\q.2<=2147483647/\Ur q.1 ls<ls.length)->Dd (ls.map kap) ps.length a c (Pl.toldB (ps.flatMap (λp=>[p.1,p.2])++d))=some (c++ps,Pl.toldB d)
 |[],p,c,_,_=>by simp[Dd]
 |q::ps,p,c,e,hq=>by
  obtain⟨h,f,i,g,j⟩:=hq q (by simp);obtain⟨k,l⟩:=List.pairwise_cons.1 e;rw[List.length_cons,Dd,List.flatMap_cons];show((UL 1 2147483647 (Pl.toldB (q.1::(q.2::(ps.flatMap (λp=>[p.1,p.2])++d))))).bind _)=_;rw[zW h f f,Option.bind_some];dsimp only;rw[zW i g g,Option.bind_some];show(if bG p q=true/\Ur q.1 (ls.map kap)<(ls.map kap).length then Dd (ls.map kap) ps.length q (c++[q]) (Pl.toldB _) else none)=_;rw[if_pos ⟨k q (by simp),by rw[CA,List.length_map];exact j⟩,Ba d ps q _ l (λr e=>hq r (by simp[e]))];simp
theorem JF(a:Rc rcs)(d:Snd os rcs ls)(c:List Nat):dX (ls.map kap) (Pl.toldB (Uf (cT rcs)++c))=some (cT rcs,Pl.toldB c):=by
 obtain⟨f,e⟩:=ZL a.nodup;have h:=bR rcs a.nodup;have g:=a.len;unfold dX Uf;rw[XF,zW (Nat.zero_le _) (by omega) (by omega),xi];show Dd (ls.map kap) (cT rcs).length (0,0) [] (Pl.toldB _)=_;rw[Ba c _ (0,0) [] (Xq.2 ⟨λq b=>by
  rw[e]at b;have:=(d.rcl q b).1;simp only[bG,Yy,Xu];exact Or.inl (by omega),f⟩) (λq b=>by
  rw[e]at b;have:=d.rcl q b;have:=a.fits q b;omega)]
 simp
theorem tY(a:(l.map Prod.fst).Nodup)(n:Nat):(cT l).lookup n=l.lookup n:=by
 obtain⟨f,c⟩:=ZL (aN a);have b:((cT l).map Prod.fst).Nodup:=(nW a).imp (λh e=>by rw[e]at h;exact Yf _ h)
 cases h:l.lookup n with
 |some v=>exact Zd b ((c _).2 (ZX h))
 |none=>
  cases d:(cT l).lookup n with
  |none=>rfl
  |some v=>
   have:=Zd a ((c _).1 (ZX d))
   rw[h]at this;cases this
theorem Cr(b:∀o∈os,(o.li.map Prod.fst).Nodup)(c:(os.map O.id).Nodup)(a:∀o∈os,1<=o.id)(n:Nat):zG (UF os) n=zG os n:=by
 unfold zG;rw[((jL c a).map (λo=>ZW o n)).sum_nat,Ya];congr 1;apply XE;intro o d;show((cT o.li).lookup n).getD 0=(o.li.lookup n).getD 0;rw[tY (b o d)]
theorem IQ{n:Nat}:∀{l:List Nat},n∈l->n<=l.sum
 |x::l,h=>by
  rw[List.sum_cons];rcases xx.1 h with rfl|h
  ·omega
  have:=IQ h;omega
theorem Gv(t:td<=2147483647)(r:∀l∈ls,L.Ok l)(h:ls.length<=30)(a:Good os ls)(s:Snd os rcs ls)(z:Rc rcs)(w:∀o∈os,1<=o.id/\o.gd<=2147483647):zH (US td os rcs ls)=some (td,ls.map kap,UF os,cT rcs):=by
 have F:∀o∈os,TA ls o:=λo b=>by
  obtain⟨s1,s2,E⟩:=s.ord o b;have d:=λp g=>a.mem o b p g
  have q:o.li.length<=30:=by
   have:=dS (l:=o.li.map Prod.fst) (m:=ls.map L.id) (a.keys o b) (λx u=>by
    obtain⟨p,g,rfl⟩:=Xg.1 u;obtain⟨i,c,e⟩:=d p g;rw[<-e];exact Xd (zg c))
   rw[Xl,Xl]at this;omega
  refine⟨a.oid o b,⟨s1,(w o b).2⟩,⟨Yp.2 s2,q⟩,a.keys o b,λp g=>?_⟩;obtain⟨i,c,e⟩:=d p g;have n:=r _ (zg c);have u:Ur p.1 ls=i:=by rw[<-e];exact eG c (λk K e=>by have:=a.ids k i (by omega) c e;omega) rfl
  have J:p.2<=zG os p.1:=by
   have v:ZW o p.1=p.2:=by unfold ZW;rw[Zd (a.keys o b) g];rfl
   rw[<-v];unfold zG;exact IQ (Xd (f:=λo=>ZW o p.1) b)
  have G:=a.hd i c;rw[e]at G;have D:=n.sum;have C:=(s.one i c).id;have v:=n.id;rw[e]at C v;exact⟨C,v,(E p g).1,by omega,by rw[u];exact c,(E p g).2⟩
 have e:UU td os rcs ls=td::(ls.length::ls.length::(UT ls++(os.length::(UV os++(Uf (cT rcs)++[]))))):=by
  unfold UU;simp
 unfold US zH;dsimp only;rw[if_pos rfl,e,zW (Nat.zero_le _) t t,Option.bind_some];dsimp only;rw[Ja r h a s,Option.bind_some];dsimp only;rw[CV F a.oids (λo b=>(w o b).1) a.olen,Option.bind_some];dsimp only;rw[JF z s,Option.bind_some];dsimp only;rw[if_pos ⟨rfl,by
  rw[YF];intro x u;obtain⟨l,H,rfl⟩:=Xg.1 u;obtain⟨j,y,rfl⟩:=xt H;have e:ls.getD j L0=ls[j]:=by simp[Ul,y]
  have A:=(s.one j y).sum;have B:=a.hd j y;rw[e]at A B;unfold TP;rw[Xs,Xu,Xu];refine⟨A,?_⟩;show ls[j].hd=zG (UF os) ls[j].id;rw[Cr a.keys a.oids (λo b=>(w o b).1)];exact B⟩]
end
section
variable {os:List O}{rcs:List (Nat×Nat)}{ls:List L}{td:Nat}
end
open Go.RowKit
section
variable {os:List O}{rcs:List (Nat×Nat)}{ls:List L}{td:Nat}
theorem PA(a:(os.map O.id).Nodup)(b:∀o∈os,1<=o.id):((UF os).map O.id).Nodup:=by
 have h:=((jL a b).map O.id)
 rw[Ya]at h;exact h.nodup_iff.2 a
theorem lC(b:(os.map O.id).Nodup)(a:∀o∈os,1<=o.id){o:O}:o∈UF os↔∃x∈os,UP x=o:=by
 rw[(jL b a).mem_iff,Xg]
theorem DT(c:(os.map O.id).Nodup)(a:∀o∈os,1<=o.id)(n:Nat):(UF os).find? (λo=>o.id==n)=(os.find? (λo=>o.id==n)).map UP:=by
 cases h:os.find? (λo=>o.id==n) with
 |some o=>
  have d:=Yr h
  have b:o.id=n:=by have:=xbH h;simpa using this
  have:=pK (PA c a) ((lC c a).2 ⟨o,d,rfl⟩)
  rw[<-b];exact this
 |none=>
  rw[yj]at h;show _=none;rw[yj];intro o d;obtain⟨x,e,rfl⟩:=(lC c a).1 d;exact h x e
theorem Cm(b:(os.map O.id).Nodup)(a:∀o∈os,1<=o.id)(n:Nat):Z8 (UF os) n=Z8 os n:=by
 unfold Z8;rw[DT b a,Option.map_map];rfl
theorem tW(e:(os.map O.id).Nodup)(c:∀o∈os,1<=o.id)(d:∀o∈os,(o.li.map Prod.fst).Nodup)(a b:Nat):zr (UF os) a b=zr os a b:=by
 unfold zr;rw[DT e c]
 cases h:os.find? (λo=>o.id==a) with
 |none=>rfl
 |some o=>exact tY (d o (Yr h)) b
theorem Oo(c:(os.map O.id).Nodup)(b:∀o∈os,1<=o.id)(n:Nat):(UF os).any (λo=>o.id==n)=os.any (λo=>o.id==n):=by
 rw[xz,Yt,Yt];constructor
 ·rintro⟨o,a,e⟩;obtain⟨x,d,rfl⟩:=(lC c b).1 a;exact⟨x,d,e⟩
 rintro⟨o,a,e⟩;exact⟨UP o,(lC c b).2 ⟨o,a,rfl⟩,e⟩
theorem PC(b:(os.map O.id).Nodup)(a:∀o∈os,1<=o.id):(UF os).length=os.length:=by rw[(jL b a).length_eq,Xl]
theorem FY(c:(os.map O.id).Nodup)(a:∀o∈os,1<=o.id)(b:∀o∈os,(o.li.map Prod.fst).Nodup):Zc (UF os)=Zc os:=by
 unfold Zc;rw[((jL c a).map (λo=>o.li.length)).sum_nat,Ya];congr 1;apply XE;intro o d;exact bR o.li (aN (b o d))
end
section
variable {os:List O}{rcs:List (Nat×Nat)}{ls:List L}{td:Nat}{w:World}{M:Mx}
theorem Mp.same(h:Mp (UF os) (cT rcs) w M)(c:Good os ls)(f:∀o∈os,1<=o.id)(i:Rc rcs):Mp os rcs w M where
 r:=by
  obtain⟨D,l,d⟩:=h.r;obtain⟨_,s⟩:=ZL i.nodup;refine⟨D,l,⟨by rw[d.size,bR rcs i.nodup],λa b j k=>?_,λq g=>?_⟩⟩
  ·rw[d.has a b j k,xz];simp[s]
  obtain⟨p,u,e⟩:=d.keys q g;exact⟨p,(s p).1 u,e⟩
 rc:=i
 o:=by
  obtain⟨D,l,d⟩:=h.o;refine⟨D,l,⟨by rw[d.size,PC c.oids f],λn m=>by rw[d.has n m,Oo c.oids f],λn m=>by rw[d.val n m,Cm c.oids f],λq g=>?_⟩⟩;obtain⟨o,t,e⟩:=d.keys q g;obtain⟨x,v,rfl⟩:=(lC c.oids f).1 t;exact⟨x,v,e⟩
 h:=by
  obtain⟨D,l,d⟩:=h.h;exact⟨D,l,⟨by rw[d.size,FY c.oids f c.keys],λa b j k=>by rw[d.has a b j k,tW c.oids f c.keys],λa b j k=>by rw[d.val a b j k,tW c.oids f c.keys]⟩⟩
 ro:=h.ro
 rh:=h.rh
 oh:=h.oh
theorem PL.same{lg:List UInt8}{Z:Nat->Prop}{f:Nat}(h:PL lg (UF os) (cT rcs) Z w f td ls)(b:Good os ls)(q:∀o∈os,1<=o.id)(d:Rc rcs):PL lg os rcs Z w f td ls:=by
 obtain⟨S,g,lv,i,j,k,l,⟨M,v,p,e,a,c⟩,m,n⟩:=h;exact⟨S,g,lv,i,j,k,l,⟨M,v,p,e,⟨a.store,a.maps.same b q d,a.row,a.len,a.plen,a.lot,a.par,a.nodup,a.today,a.ok,a.room⟩,c⟩,m,n⟩
theorem Kv.same{lg:List UInt8}{B:Nat}{d:World}{Z:Nat->Prop}{c:Nat}(h:Kv B d w Z c ⟨td,UF os,cT rcs,ls,lg⟩)(a:Good os ls)(e:∀o∈os,1<=o.id)(b:Rc rcs):Kv B d w Z c ⟨td,os,rcs,ls,lg⟩:=
 ⟨h.old,h.size,h.two,h.gl,h.pl.same a e b,h.zin,a⟩
end
