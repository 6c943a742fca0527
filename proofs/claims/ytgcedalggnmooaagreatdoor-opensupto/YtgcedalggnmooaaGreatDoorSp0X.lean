import Derived.Test.YtgcedalggnmooaaGreatDoorCm0X
import Derived.Test.YtgcedalggnmooaaGreatDoorKAX
set_option linter.all false
set_option maxRecDepth 100000
namespace Go.Proofs.YtgcedalggnmooaaGreatDoor
theorem nW{α:Type}{lt:α->α->Prop}(d:∀a,¬lt a a)(k:∀a b c,lt a b->lt b c->lt a c):∀{l m:List α},l.Pairwise lt->m.Pairwise lt->(∀x,x∈l↔x∈m)->l=m
 |[],[],_,_,_=>rfl
 |[],y::m,_,_,h=>absurd ((h y).2 (by simp)) (by simp)
 |x::l,[],_,_,h=>absurd ((h x).1 (by simp)) (by simp)
 |x::l,y::m,hl,hm,h=>by
  have i:=Xp.1 hl;have j:=Xp.1 hm;have e:x=y:=by
   rcases xx.1 ((h x).1 (by simp)) with e|e
   ·exact e
   rcases xx.1 ((h y).2 (by simp)) with g|g
   ·exact g.symm
   exact absurd (k _ _ _ (j.1 x e) (i.1 y g)) (d y)
  subst e;rw[nW d k i.2 j.2 (λz=>?_)];constructor
  ·intro f;rcases xx.1 ((h z).1 (by simp[f])) with e|e
   ·subst e;exact absurd (i.1 z f) (d z)
   exact e
  intro f;rcases xx.1 ((h z).2 (by simp[f])) with e|e
  ·subst e;exact absurd (j.1 z f) (d z)
  exact e
theorem CM{x:Nat->Nat}{n:Nat}:∀{k i:Nat},UN x n k=some i->∀j,j<k->n<x j->x i<=x j
 |0,i,h=>by simp[UN]at h
 |k+1,i,h=>by
  intro j q a;rw[UN]at h;split at h
  ·rename_i f
   cases h;by_cases e:j=k
   ·subst e;exact xc _
   cases p:UN x n k with
   |none=>
    exfalso
    have:∀m,UN x n m=none->∀j,j<m->¬n<x j:=by
     intro m;induction m with
     |zero=>intro _ j h;omega
     |succ m ih=>
      intro d j q a;rw[UN]at d;split at d
      ·cases d
      rename_i g;by_cases e:j=m
      ·subst e;exact g ⟨a,λb c=>by rw[d]at c;cases c⟩
      exact ih d j (by omega) a
    exact this k p j (by omega) a
   |some b=>
    have r:=f.2 b p;have s:=CM p j (by omega) a;omega
  rename_i f;by_cases e:j=k
  ·subst e;by_cases l:x j<x i
   ·exact absurd ⟨a,λb c=>by rw[h]at c;cases c;exact l⟩ f
   omega
  exact CM h j (by omega) a
theorem Ez{x:Nat->Nat}{n:Nat}:∀{k:Nat},UN x n k=none->∀j,j<k->¬n<x j
 |0,_,j,h=>by omega
 |k+1,hm,j,hj=>by
  intro d;rw[UN]at hm;split at hm
  ·cases hm
  rename_i a;by_cases e:j=k
  ·subst e;exact a ⟨d,λb c=>by rw[hm]at c;cases c⟩
  exact Ez hm j (by omega) d
theorem bJ{x:Nat->Nat}{N:Nat}(g:∀i j,i<N->j<N->x i=x j->i=j):∀(f n:Nat),BI x n N<=f->(Zx x N f n).Pairwise (λa b=>x a<x b)/\∀i,i∈Zx x N f n↔i<N/\n<x i
 |0,n,hc=>by
  refine⟨by simp[Zx],λi=>⟨by simp[Zx],λ⟨c,d⟩=>?_⟩⟩;have:=pB x d N c;omega
 |f+1,n,hc=>by
  rw[Zx]
  cases l:UN x n N with
  |none=>exact⟨by simp,λi=>⟨by simp,λ⟨c,d⟩=>absurd d (Ez l i c)⟩⟩
  |some k=>
   obtain⟨p,q⟩:=jL l;have t:=CM l;have s:=pB x q N p;obtain⟨m,h⟩:=bJ g f (x k) (by omega);refine⟨Xp.2 ⟨λb r=>((h b).1 r).2,m⟩,λi=>?_⟩;rw[xx,h];constructor
   ·rintro(rfl|⟨c,d⟩)
    ·exact⟨p,q⟩
    exact⟨c,by omega⟩
   rintro⟨c,d⟩;have:=t i c d;by_cases e:x k=x i
   ·exact Or.inl (g i k c p e.symm)
   exact Or.inr ⟨c,by omega⟩
theorem gJ(a:Nat×Nat):¬bH a a=true:=by simp[bH]
theorem CX(a b c:Nat×Nat)(h:bH a b=true)(k:bH b c=true):bH a c=true:=by
 simp only[bH,Yy,Xu,Xv]at *;omega
theorem MT{a b:Nat×Nat}(h:bH a b=false)(c:a≠b):bH b a=true:=by
 obtain⟨f,g⟩:=a;obtain⟨i,j⟩:=b;have d:¬(f=i/\g=j):=λe=>c (by rw[e.1,e.2])
 simp only[bH,xaW,xac,yq,Yy,Xu,Xv]at *;omega
variable {α:Type}
theorem Kw{lt:α->α->Prop}{l:List α}{d:α}(h:l.Pairwise lt){k:Nat}(b:k<l.length):∀q∈l.take k,lt q (l.getD k d):=by
 have a:(l.take k++[l.getD k d]).Pairwise lt:=by rw[<-cC b];exact h.sublist (xad _ _)
 intro q c;exact(XY.1 a).2.2 q c _ (by simp)
theorem tS{p:Nat×Nat}{out:List (Nat×Nat)}(r:out.Pairwise (λa b=>bH a b=true))(v:p ∉ out):∀k,k<=out.length ->
  ((gN p out k).2=false/\(gN p out k).1=out.take k/\∀q∈out.take k,bH q p=true)\/((gN p out k).2=true/\(gN p out k).1.Pairwise (λa b=>bH a b=true)/\(∀q,q∈(gN p out k).1↔q=p\/q∈out.take k)/\∃q∈out.take k,bH p q=true)
 |0,_=>Or.inl ⟨rfl,by simp[gN],by simp⟩
 |k+1,hk=>by
  have f:k<out.length:=by omega
  have n:p≠out.getD k (0,0):=λe=>v (by rw[e];simp[Uv,f])
  have s:=Kw (d:=(0,0)) r f;rw[gN,cC (d:=(0,0)) f];rcases tS r v k (by omega) with ⟨g,i,j⟩|⟨g,i,j,w,t,u⟩
  ·by_cases m:bH p (out.getD k (0,0))=true
   ·rw[xe ⟨m,g⟩];refine Or.inr ⟨rfl,?_,?_,out.getD k (0,0),by simp,m⟩
    ·rw[i];refine XY.2 ⟨XY.2 ⟨r.sublist (xad _ _),by simp,λa l b c=>?_⟩,by simp,λa l b c=>?_⟩
     ·simp at c;subst c;exact j a l
     simp at c;subst c;rcases xw.1 l with h|h
     ·exact s a h
     simp at h;subst h;exact m
    intro q;rw[i];simp only[xw,Xq];constructor
    ·rintro((h|h)|h)
     ·exact Or.inr (Or.inl h)
     ·exact Or.inl h
     exact Or.inr (Or.inr h)
    rintro(h|h|h)
    ·exact Or.inl (Or.inr h)
    ·exact Or.inl (Or.inl h)
    exact Or.inr h
   rw[xg (λe=>m e.1)];refine Or.inl ⟨g,by rw[i],?_⟩;intro q x;rcases xw.1 x with h|h
   ·exact j q h
   simp at h;subst h;exact MT (by simpa using m) n
  rw[xg (λe=>by rw[g]at e;cases e.2)];refine Or.inr ⟨g,?_,?_,w,List.mem_append_left _ t,u⟩
  ·refine XY.2 ⟨i,by simp,λa l b c=>?_⟩;simp at c;subst c;rcases(j a).1 l with h|h
   ·subst h;exact CX _ _ _ u (s w t)
   exact s a h
  intro q;simp only[xw,j,Xq];constructor
  ·rintro((h|h)|h)
   ·exact Or.inl h
   ·exact Or.inr (Or.inl h)
   exact Or.inr (Or.inr h)
  rintro(h|h|h)
  ·exact Or.inl (Or.inl h)
  ·exact Or.inl (Or.inr h)
  exact Or.inr h
variable {p:Nat×Nat}
theorem FF{out:List (Nat×Nat)}(g:out.Pairwise (λa b=>bH a b=true))(i:p ∉ out):(La p out).Pairwise (λa b=>bH a b=true)/\∀q,q∈La p out↔q=p\/q∈out:=by
 unfold La;rcases tS g i out.length (xc _) with ⟨d,e,c⟩|⟨d,e,c,_⟩
 ·rw[d,xg (by simp),e,Xa];rw[Xa]at c;refine⟨XY.2 ⟨g,by simp,λa h b f=>by simp at f;subst f;exact c a h⟩,λq=>?_⟩;simp[or_comm]
 rw[d,xe rfl];rw[Xa]at c;exact⟨e,c⟩
theorem uD{l:List (Nat×Nat)}(g:l.Nodup):∀k,k<=l.length->(wX l k).Pairwise (λa b=>bH a b=true)/\∀q,q∈wX l k↔q∈l.take k
 |0,_=>⟨by simp[wX],λq=>by simp[wX]⟩
 |k+1,hk=>by
  have c:k<l.length:=by omega
  obtain⟨h,f⟩:=uD g k (by omega);have e:l.getD k (0,0) ∉ wX l k:=by
   rw[f];have:=g.sublist (xad (k+1) l);rw[cC (d:=(0,0)) c]at this;intro m;exact(Xx.1 this).2.2 _ m _ (by simp) rfl
  obtain⟨i,j⟩:=FF h e;rw[wX];refine⟨i,λq=>?_⟩;rw[j,f,cC (d:=(0,0)) c];simp[or_comm]
variable {l:List (Nat×Nat)}
theorem ZN(c:l.Nodup):(cV l).Pairwise (λa b=>bH a b=true)/\∀q,q∈cV l↔q∈l:=by
 have:=uD c l.length (xc _)
 rw[Xa]at this;exact this
theorem Io{os:List O}{i:Nat}(h:i<os.length):os.getD i O0∈os:=by simp[Uv,h]
theorem qL{os:List O}(d:(os.map O.id).Nodup):∀i j,i<os.length->j<os.length->(os.getD i O0).id=(os.getD j O0).id->i=j:=by
 intro i j a b c;have:=xbv (i:=i) (j:=j) (h₀:=by simpa using a) (h₁:=by simpa using b) d;refine this.1 ?_
 simpa [Uv,a,b] using c
theorem aQ(h:(l.map Prod.fst).Nodup):l.Nodup:=by
 refine(yi.1 h).imp ?_
 intro a b c e;exact c (by rw[e])
theorem bS(l:List (Nat×Nat))(a:l.Nodup):(cV l).length=l.length:=by
 obtain⟨c,d⟩:=ZN a;have b:(cV l).Nodup:=c.imp (λh e=>by rw[e]at h;exact gJ _ h);exact((YI b a).2 d).length_eq
def TP(l:L):Prop:=1<=l.id/\∀p∈l.par,p.2<=2147483647
structure TQ(os:List O)(ls:List L):Prop where
 lot:∀l∈ls,TP l
 ord:∀o∈os,1<=o.id/\o.gd<=2147483647
theorem Ql:TQ [] []:=⟨λl h=>absurd h (by simp),λo h=>absurd h (by simp)⟩
variable {P:L->Prop}
theorem iD{ls:List L}(h:∀l∈ls,P l)(f:L->L)(c:∀l,P l->P (f l))(i:Nat):∀l∈ls.set i (f (ls.getD i L0)),P l:=by
 intro l a;rcases YD i ls.length with b|b
 ·rcases Xy a with a|rfl
  ·exact h l a
  exact c _ (h _ (zg b))
 rw[yy b]at a;exact h l a
theorem uM{ls:List L}(h:∀l∈ls,P l){x:L}(b:P x):∀l∈ls++[x],P l:=by
 intro l a;rcases xw.1 a with a|a
 ·exact h l a
 simp at a;subst a;exact b
theorem yG{P:L->Prop}(a:∀l n,P l->P (pW l n)):∀(q:List (Nat×Nat)) (ls:List L),(∀l∈ls,P l)->∀l∈Zm ls q,P l
 |[],ls,h=>h
 |p::q,ls,h=>yG a q _ (iD h (λl=>pW l p.2) (λl b=>a l p.2 b) p.1)
theorem JW{rj:List (Nat×Nat)}{os:List O}{td:Nat}{ls:List L}(h:TQ os ls){c:Pl.Cmd}(f:∀n e,c=.ok (n,e)->Pl.mays (Pl.kindsL n) e=true):TQ os (Zi rj td ls c).2.2:=by
 unfold Zi;split
 ·exact h
 ·split<;>exact h
 ·rename_i a b c d;have:=f _ _ rfl;simp[Pl.mays,Pl.kindsL,Pl.mayB]at this;show TQ os (if zx ls a=0 then ls++[Et ls a b c d] else ls);split
  ·exact⟨uM h.lot ⟨by show 1<=a;omega,λp g=>by simp[Et]at g⟩,h.ord⟩
  exact h
 ·split<;>exact h
 ·exact h
 exact h
theorem JX{rj:List (Nat×Nat)}{os:List O}{td:Nat}{ls:List L}(h:TQ os ls)(i:∀l∈ls,L.Ok l){c:Pl.Cmd}(k:∀n r,c=.ok (n,r)->Pl.mays (Pl.kindsL n) r=true):TQ os (aH rj td ls c).2.2:=by
 unfold aH;split
 ·rename_i a b c;have:=k _ _ rfl;simp[Pl.mays,Pl.kindsL,Pl.mayB]at this;show TQ os (aA ls a b c);unfold aA;split
  ·refine⟨uM (iD h.lot (λl=>zF l c) (λl d=>d) _) ⟨by show 1<=b;omega,λp j=>?_⟩,h.ord⟩;simp only[UJ,Xq]at j;subst j;show c<=2147483647;omega
  exact h
 ·rename_i a b c;have:=k _ _ rfl;simp[Pl.mays,Pl.kindsL,Pl.mayB]at this;show TQ os (ZI ls a b c);unfold ZI;split
  ·rename_i g;have f:UB a ls<ls.length/\UB b ls<ls.length:=by
    unfold zS at g;by_cases f:UB a ls<ls.length/\UB b ls<ls.length
    ·exact f
    rw[xg f]at g;omega
   have m:UB b ls≠UB a ls:=by
    unfold zS at g;rw[xe f]at g;intro e;rw[xe (Or.inl e.symm)]at g;omega
   have s:=iD h.lot (λl=>zF l (zd ls a).free) (λl d=>d) (UB a ls);have q:=iD s (λl=>zF l (zd ls b).free) (λl d=>d) (UB b ls);rw[zQ m]at q;refine⟨uM q ⟨by show 1<=c;omega,λp j=>?_⟩,h.ord⟩;have t:=(i _ (zg f.1)).sum;have u:=(i _ (zg f.2)).sum;simp only[UJ,xx,XN,YB]at j;rcases j with rfl|rfl
   ·show(ls.getD (UB a ls) L0).free<=2147483647;omega
   show(ls.getD (UB b ls) L0).free<=2147483647;omega
  exact h
 ·rename_i a b;show TQ os (Zw ls a b);unfold Zw;split
  ·exact⟨iD h.lot (λl=>gT l b) (λl d=>d) _,h.ord⟩
  exact h
 exact JW h k
theorem JU{os:List O}{ls:List L}(h:TQ os ls)(g:L->Nat->L)(c:∀l n,(g l n).id=l.id/\(g l n).par=l.par)(a:Nat):TQ (os.filter (λo=>o.id != a)) (ls.map (dH g os a)):=by
 refine⟨λl d=>?_,λo e=>h.ord o (XW.1 e).1⟩;obtain⟨l',b,rfl⟩:=Xg.1 d;have:=h.lot l' b;unfold dH;split
 ·rename_i n _;obtain⟨f,i⟩:=c { l' with hd:=l'.hd-n } n;refine⟨by rw[f];exact this.1,?_⟩;rw[i];exact this.2
 exact this
theorem JV{rj:List (Nat×Nat)}{os:List O}{td:Nat}{ls:List L}(h:TQ os ls)(g:∀l∈ls,L.Ok l){c:Pl.Cmd}(i:∀n j,c=.ok (n,j)->Pl.mays (Pl.kindsL n) j=true):TQ (ZP rj td os ls c).2.2.1 (ZP rj td os ls c).2.2.2:=by
 unfold ZP;split
 ·rename_i a b c d f;have:=i _ _ rfl;simp[Pl.mays,Pl.kindsL,Pl.mayB]at this;show TQ (yA rj os td ls a b c d f) (sZ rj os td ls a b c d f);unfold yA sZ;split
  ·refine⟨yG (λl n k=>k) _ _ h.lot,λo e=>?_⟩;rcases xw.1 e with e|e
   ·exact h.ord o e
   simp only[Xq]at e;subst e;exact⟨by show 1<=a;omega,by show b<=2147483647;omega⟩
  exact h
 ·exact JU h Zj (λl n=>⟨rfl,rfl⟩) _
 ·exact JU h Zt (λl n=>⟨rfl,rfl⟩) _
 exact JX h g i
theorem Ly(l:List UInt8):∀n a,Pl.cmd l=.ok (n,a)->Pl.mays (Pl.kindsL n) a=true:=by
 intro n a h;rw[dL]at h;split at h
 ·cases h
 split at h
 ·rename_i b
  cases h;exact b
 cases h
theorem Bm{rj:List (Nat×Nat)}{os:List O}{td:Nat}{ls:List L}(h:TQ os ls)(a:∀l∈ls,L.Ok l)(l:List UInt8):TQ (zO rj td os ls (Pl.cmd l)).2.2.1 (zO rj td os ls (Pl.cmd l)).2.2.2.2:=by
 have b:=Ly l;generalize Pl.cmd l=c at b;unfold zO;split
 ·exact h
 ·exact h
 exact JV h a b
def Uw(l:L)(n:Nat):Nat:=(l.par.map λp=>if p.1=n then p.2 else 0).sum
def Uz(ls:List L)(n:Nat):Nat:=(ls.map λl=>Uw l n).sum
def UL(ls:List L)(ps:List (Nat×Nat)):Nat:=ps.foldl (λe p=>min e (zd ls p.1).ex) 2147483647
structure TR(l:L):Prop where
 id:1<=l.id
 gd:1<=l.gd
 got:1<=l.got
 sum:l.got=l.free+l.hd+l.sh+l.sc+l.gv
 keys:(l.par.map Prod.fst).Nodup
 small:∀p∈l.par,p.2<=2147483647
 par:l.par=[]\/l.got=(l.par.map Prod.snd).sum
structure Snd(os:List O)(rj:List (Nat×Nat))(ls:List L):Prop where
 one:∀i,i<ls.length->TR (ls.getD i L0)
 fam:∀i,i<ls.length->∀p∈(ls.getD i L0).par,∃j,j<i/\(ls.getD j L0).id=p.1/\(ls.getD j L0).gd=(ls.getD i L0).gd
 exp:∀i,i<ls.length->(ls.getD i L0).par≠[]->(ls.getD i L0).ex=UL ls (ls.getD i L0).par
 giv:∀i,i<ls.length->(ls.getD i L0).gv=Uz ls (ls.getD i L0).id
 ord:∀o∈os,1<=o.gd/\o.li≠[]/\∀p∈o.li,1<=p.2/\(zd ls p.1).gd=o.gd
 rcl:∀p∈rj,1<=p.1/\1<=p.2/\UB p.1 ls<ls.length
theorem wB{ls ls':List L}(g:ls'.length=ls.length)(h:∀i,i<ls.length->(ls'.getD i L0).id=(ls.getD i L0).id)(n:Nat):UB n ls'=UB n ls:=by
 have j:ls'.map L.id=ls.map L.id:=yn (by simp[g]) (λi d f=>by
  have c:i<ls'.length:=by simpa using d
  have b:i<ls.length:=by simpa using f
  have:=h i b
  simpa [Uv,c,b] using this)
 have e:∀l:List L,UB n l=(l.map L.id).findIdx (λx=>x==n):=λl=>by
  induction l with
  |nil=>rfl
  |cons a l ih=>unfold UB at ih ⊢;simp[xaE,ih]
 rw[e,e,j]
structure Lqq(l l':L):Prop where
 id:l'.id=l.id
 gd:l'.gd=l.gd
 ex:l'.ex=l.ex
 got:l'.got=l.got
 par:l'.par=l.par
theorem Lqq.refl(l:L):Lqq l l:=⟨rfl,rfl,rfl,rfl,rfl⟩
theorem Oa{β:Type}{ls ls':List L}(e:ls'.length=ls.length)(f:L->β)(h:∀i,i<ls.length->f (ls'.getD i L0)=f (ls.getD i L0)):ls'.map f=ls.map f:=yn (by simp[e]) (λi c d=>by
 have b:i<ls'.length:=by simpa using c
 have a:i<ls.length:=by simpa using d
 have:=h i a
 simpa [Uv,b,a] using this)
variable {n:Nat}
section
variable {os:List O}{rj:List (Nat×Nat)}{ls ls':List L}
theorem CC(b:ls'.length=ls.length)(h:∀i,i<ls.length->Lqq (ls.getD i L0) (ls'.getD i L0))(n:Nat):(zd ls' n).gd=(zd ls n).gd/\(zd ls' n).ex=(zd ls n).ex:=by
 unfold zd;rw[wB b (λi a=>(h i a).id)];rcases YD (UB n ls) ls.length with a|a
 ·exact⟨(h _ a).gd,(h _ a).ex⟩
 rw[Uv,Uv,Xo a,Xo (by omega)];exact⟨rfl,rfl⟩
theorem SN(a:ls'.length=ls.length)(h:∀i,i<ls.length->Lqq (ls.getD i L0) (ls'.getD i L0))(ps:List (Nat×Nat)):UL ls' ps=UL ls ps:=by
 unfold UL;congr 1;funext e p;rw[(CC a h p.1).2]
theorem Snd.keep(h:Snd os rj ls)(e:ls'.length=ls.length)(c:∀i,i<ls.length->Lqq (ls.getD i L0) (ls'.getD i L0)/\(ls'.getD i L0).gv=(ls.getD i L0).gv/\(ls'.getD i L0).free+(ls'.getD i L0).hd+(ls'.getD i L0).sh+(ls'.getD i L0).sc=(ls.getD i L0).free+(ls.getD i L0).hd+(ls.getD i L0).sh+(ls.getD i L0).sc):Snd os rj ls':={
 one:=λi b=>by
  rw[e]at b;have a:=h.one i b;obtain⟨q,g,s⟩:=c i b;exact⟨by rw[q.id];exact a.id,by rw[q.gd];exact a.gd,by rw[q.got];exact a.got,by rw[q.got,a.sum,g];omega,by rw[q.par];exact a.keys,by rw[q.par];exact a.small,by rw[q.par,q.got];exact a.par⟩
 fam:=λi b p d=>by
  rw[e]at b;rw[(c i b).1.par]at d;obtain⟨j,k,m,f⟩:=h.fam i b p d;exact⟨j,k,by rw[(c j (by omega)).1.id];exact m,by rw[(c j (by omega)).1.gd,(c i b).1.gd];exact f⟩
 exp:=λi b d=>by
  rw[e]at b;rw[(c i b).1.par]at d ⊢;rw[(c i b).1.ex,SN e (λi b=>(c i b).1)];exact h.exp i b d
 giv:=λi b=>by
  rw[e]at b;rw[(c i b).2.1,(c i b).1.id,h.giv i b];unfold Uz;rw[Oa e (λl=>Uw l (ls.getD i L0).id) (λj n=>by unfold Uw;rw[(c j n).1.par])]
 ord:=λo r=>by
  obtain⟨k,m,f⟩:=h.ord o r;exact⟨k,m,λp d=>⟨(f p d).1,by rw[(CC e (λi b=>(c i b).1) p.1).1];exact(f p d).2⟩⟩
 rcl:=λp d=>by
  obtain⟨k,m,f⟩:=h.rcl p d;exact⟨k,m,by rw[e,wB e (λi b=>(c i b).1.id)];exact f⟩}
theorem Ja{x:L}(h:UB n ls<ls.length):UB n (ls++[x])=UB n ls/\zd (ls++[x]) n=zd ls n:=by
 have e:UB n (ls++[x])=UB n ls:=by
  unfold UB at h ⊢;rw[List.findIdx_append,xe h]
 refine⟨e,?_⟩;unfold zd;rw[e,Uv,Uv,Xk h]
theorem Mg(a:∀i j,i<ls.length->j<ls.length->(ls.getD i L0).id=(ls.getD j L0).id->i=j){j:Nat}(b:j<ls.length):UB (ls.getD j L0).id ls=j:=eJ b (λk c e=>by have:=a k j (by omega) b e;omega) rfl
theorem vV{l:L}(h:∀p∈l.par,p.1≠n):Uw l n=0:=by
 unfold Uw;have:l.par.map (λp=>if p.1=n then p.2 else 0)=l.par.map (λ_=>0):=XE (λp a=>by rw[xg (h p a)]);rw[this];generalize l.par=ps;induction ps with
 |nil=>rfl
 |cons p ps ih=>rw[List.map_cons,List.sum_cons,ih]
theorem Ea{n:Nat}:∀{l:List L},(∀x∈l,Uw x n=0)->Uz l n=0
 |[],_=>rfl
 |x::l,h=>by
  unfold Uz;rw[List.map_cons,List.sum_cons,h x (by simp)];have:=Ea (n:=n) (l:=l) (λy a=>h y (by simp[a]));unfold Uz at this;rw[this]
theorem Ph(l:List L)(x:L)(n:Nat):Uz (l++[x]) n=Uz l n+Uw x n:=by simp[Uz]
theorem Snd.app(h:Snd os rj ls)(E:∀i j,i<ls.length->j<ls.length->(ls.getD i L0).id=(ls.getD j L0).id->i=j)(F:∀o∈os,∀p∈o.li,UB p.1 ls<ls.length){x:L}(z:ls'.length=ls.length)
  (J:∀i,i<ls.length->Lqq (ls.getD i L0) (ls'.getD i L0)/\(ls'.getD i L0).gv=(ls.getD i L0).gv+Uw x (ls.getD i L0).id/\(ls'.getD i L0).got=(ls'.getD i L0).free+(ls'.getD i L0).hd+(ls'.getD i L0).sh+(ls'.getD i L0).sc+(ls'.getD i L0).gv)
  (R:TR x) (N:x.gv=0) (A:¬UB x.id ls<ls.length) (v:∀p∈x.par,UB p.1 ls<ls.length/\(zd ls p.1).gd=x.gd) (D:x.par≠[]->x.ex=UL ls x.par):Snd os rj (ls'++[x]):=by
 have f:∀i,i<ls.length->(ls'++[x]).getD i L0=ls'.getD i L0:=λi t=>by rw[Uv,Uv,Xk (by omega)]
 have y:(ls'++[x]).getD ls.length L0=x:=by simp[Uv,<-z]
 have r:(ls'++[x]).length=ls.length+1:=by simp[z]
 have m:=λi t=>(J i t).1
 have B:∀n,UB n ls<ls.length->UB n (ls'++[x])=UB n ls/\(zd (ls'++[x]) n).gd=(zd ls n).gd/\(zd (ls'++[x]) n).ex=(zd ls n).ex:=λn Q=>by
  have e:=wB z (λi t=>(m i t).id) n;obtain⟨a,b⟩:=Ja (ls:=ls') (x:=x) (n:=n) (by rw[e,z];exact Q);have c:=CC z m n;exact⟨by rw[a,e],by rw[b,c.1],by rw[b,c.2]⟩
 have H:∀i,i<ls.length->∀p∈(ls.getD i L0).par,UB p.1 ls<ls.length:=λi t p k=>by
  obtain⟨j,u,w,_⟩:=h.fam i t p k;rw[<-w,Mg E (by omega)];omega
 have G:∀ps:List (Nat×Nat),(∀p∈ps,UB p.1 ls<ls.length)->UL (ls'++[x]) ps=UL ls ps:=λps=>by
  unfold UL;generalize 2147483647=e;induction ps generalizing e with
  |nil=>intro _;rfl
  |cons p ps ih=>
   intro k;rw[Yq,Yq,(B p.1 (k p (by simp))).2.2];exact ih _ (λq J=>k q (by simp[J]))
 refine⟨λi t=>?_,λi t p k=>?_,λi t k=>?_,λi t=>?_,λo P=>?_,λp k=>?_⟩
 ·rw[r]at t;by_cases e:i=ls.length
  ·subst e;rw[y];exact R
  have d:i<ls.length:=by omega
  rw[f i d];obtain⟨q,g,s⟩:=J i d;have a:=h.one i d;exact⟨by rw[q.id];exact a.id,by rw[q.gd];exact a.gd,by rw[q.got];exact a.got,s,by rw[q.par];exact a.keys,by rw[q.par];exact a.small,by rw[q.par,q.got];exact a.par⟩
 ·rw[r]at t;by_cases e:i=ls.length
  ·subst e;rw[y]at k ⊢;obtain⟨u,w⟩:=v p k;refine⟨UB p.1 ls,u,?_,?_⟩
   ·rw[f _ u,(m _ u).id];exact Zu u
   rw[f _ u,(m _ u).gd];exact w
  have d:i<ls.length:=by omega
  rw[f i d,(m i d).par]at k;obtain⟨j,u,w,C⟩:=h.fam i d p k;exact⟨j,u,by rw[f j (by omega),(m j (by omega)).id];exact w,by rw[f j (by omega),f i d,(m j (by omega)).gd,(m i d).gd];exact C⟩
 ·rw[r]at t;by_cases e:i=ls.length
  ·subst e;rw[y]at k ⊢;rw[G _ (λp k=>(v p k).1)];exact D k
  have d:i<ls.length:=by omega
  rw[f i d,(m i d).par]at k ⊢;rw[(m i d).ex,G _ (H i d)];exact h.exp i d k
 ·have M:∀n,Uz (ls'++[x]) n=Uz ls n+Uw x n:=λn=>by
   rw[Ph];unfold Uz;rw[Oa z (λl=>Uw l n) (λj K=>by unfold Uw;rw[(m j K).par])]
  rw[M];rw[r]at t;by_cases e:i=ls.length
  ·subst e;rw[y,N,vV (λp k e=>A (by rw[<-e];exact(v p k).1)),Ea (λl z=>vV (λp k e=>?_))];obtain⟨j,K,rfl⟩:=xt z;have:=H j K p (by simpa [Uv,K] using k);rw[e]at this;exact A this
  have d:i<ls.length:=by omega
  rw[f i d,(J i d).2.1,(m i d).id,h.giv i d]
 ·obtain⟨u,w,C⟩:=h.ord o P;exact⟨u,w,λp k=>⟨(C p k).1,by rw[(B p.1 (F o P p k)).2.1];exact(C p k).2⟩⟩
 obtain⟨u,w,C⟩:=h.rcl p k;exact⟨u,w,by rw[r,(B p.1 C).1];omega⟩
end
theorem Pg{l:L}(h:l.par=[])(n:Nat):Uw l n=0:=by unfold Uw;rw[h];rfl
theorem DX{os:List O}{ls:List L}(h:Good os ls):∀o∈os,∀p∈o.li,UB p.1 ls<ls.length:=λo b p c=>by
 obtain⟨i,a,e⟩:=h.mem o b p c;rw[<-e,Mg h.ids a];exact a
theorem EM{ls:List L}(h:zx ls n=0):¬UB n ls<ls.length:=λa=>by unfold zx at h;rw[xe a]at h;cases h
section
variable {os:List O}{rj:List (Nat×Nat)}{ls:List L}
theorem Snd.receive(h:Snd os rj ls)(e:Good os ls){a b c d:Nat}(g:1<=a)(j:1<=b)(k:1<=c):Snd os rj (if zx ls a=0 then ls++[Et ls a b c d] else ls):=by
 split
 ·rename_i m;exact h.app e.ids (DX e) rfl (λi l=>⟨Lqq.refl _,by rw[Pg rfl];omega,(h.one i l).sum⟩) ⟨g,j,k,by show c=c+0+0+0+0;omega,by simp[Et],by simp[Et],Or.inl rfl⟩ rfl (EM m) (λp f=>by simp[Et]at f) (λf=>absurd rfl f)
 exact h
theorem Dp{m c:Nat}(h:zU ls n m c=0):UB n ls<ls.length/\zx ls m=0/\c<=(ls.getD (UB n ls) L0).free:=by
 unfold zU at h;split at h
 ·rename_i b;split at h
  ·rename_i a;split at h
   ·cases h
   exact⟨b,a,by omega⟩
  rename_i a;exact absurd h a
 cases h
theorem Pd(l:L)(n:Nat):Lqq l (zF l n):=⟨rfl,rfl,rfl,rfl,rfl⟩
theorem Snd.split(h:Snd os rj ls)(a:Good os ls)(r:∀l∈ls,L.Ok l){n m c:Nat}(w:1<=m)(u:1<=c)(f:c<=2147483647):Snd os rj (aA ls n m c):=by
 unfold aA;split
 ·rename_i s;obtain⟨d,t,z⟩:=Dp s;have v:=Zu d;have A:=(r _ (zg d)).ex;refine h.app a.ids (DX a) (xd ..) (λi j=>?_) ⟨w,(h.one _ d).gd,u,by show c=c+0+0+0+0;omega,by simp[UJ],by intro p b;simp only[UJ,Xq]at b;subst b;exact f,Or.inr (by simp[UJ])⟩ rfl (EM t) (λp b=>?_) (λ_=>?_)
  ·have x:=(h.one i j).sum;by_cases e:i=UB n ls
   ·subst e;rw[Za j];refine⟨Pd _ _,by simp[zF,Uw,UJ],?_⟩;show(ls.getD (UB n ls) L0).got=(ls.getD (UB n ls) L0).free-c+(ls.getD (UB n ls) L0).hd+(ls.getD (UB n ls) L0).sh+(ls.getD (UB n ls) L0).sc+((ls.getD (UB n ls) L0).gv+c);omega
   rw[zQ e];refine⟨Lqq.refl _,?_,x⟩;have k:¬(ls.getD (UB n ls) L0).id=(ls.getD i L0).id:=λq=>e (a.ids i _ j d q.symm)
   have y:∀(g m:Nat),Uw (UJ ls m (ls.getD (UB n ls) L0).gd (ls.getD (UB n ls) L0).ex c [((ls.getD (UB n ls) L0).id,g)]) (ls.getD i L0).id=0:=λg m=>vV (λp b=>by simp only[UJ,Xq]at b;subst b;exact k)
   rw[y];rfl
  ·simp only[UJ,Xq]at b;subst b;have e:UB (ls.getD (UB n ls) L0).id ls=UB n ls:=Mg a.ids d;exact⟨by show UB (ls.getD (UB n ls) L0).id ls<_;rw[e];exact d,by show(zd ls (ls.getD (UB n ls) L0).id).gd=(ls.getD (UB n ls) L0).gd;unfold zd;rw[e]⟩
  show(ls.getD (UB n ls) L0).ex=min 2147483647 (zd ls (ls.getD (UB n ls) L0).id).ex;unfold zd;rw[Mg a.ids d];omega
 exact h
theorem Snd.fin(h:Snd os rj ls)(d:Good os ls)(g:L->Nat->L)(j:∀l n,Lqq l (g l n)/\(g l n).gv=l.gv/\(g l n).free+(g l n).hd+(g l n).sh+(g l n).sc=l.free+l.hd+l.sh+l.sc+n)(a:Nat):Snd (os.filter (λo=>o.id != a)) rj (ls.map (dH g os a)):=by
 have b:Snd os rj (ls.map (dH g os a)):=h.keep (Xl ..) (λi f=>by
  have e:(ls.map (dH g os a)).getD i L0=dH g os a (ls.getD i L0):=by simp[Uv,f]
  rw[e];unfold dH
  cases k:zr os a (ls.getD i L0).id with
  |none=>exact⟨Lqq.refl _,rfl,rfl⟩
  |some n=>
   have m:n<=(ls.getD i L0).hd:=by rw[d.hd i f];exact kW k
   obtain⟨c,q,r⟩:=j { ls.getD i L0 with hd:=(ls.getD i L0).hd-n } n;refine⟨⟨c.id,c.gd,c.ex,c.got,c.par⟩,q,?_⟩;rw[r];show(ls.getD i L0).free+((ls.getD i L0).hd-n)+(ls.getD i L0).sh+(ls.getD i L0).sc+n=_;omega)
 exact⟨b.one,b.fam,b.exp,b.giv,λo p=>b.ord o (XW.1 p).1,b.rcl⟩
end
theorem xD(h:n<=2147483647)(a:List Nat):UU (Pl.toldB (n::a))=some (n,Pl.toldB a):=by
 have e:Pl.toldB (n::a)=Pl.num n++Pl.toldB a:=by simp[Pl.toldB]
 obtain⟨b,c⟩:=Pl.read_num n (by omega) (Pl.toldB a);have d:=Pl.num_len_pos n;unfold UU;rw[e,b,c,xg (by omega)];simp
theorem zX{lo a:Nat}(c:lo<=n)(d:n<=a)(e:n<=2147483647)(b:List Nat):UV lo a (Pl.toldB (n::b))=some (n,Pl.toldB b):=by
 unfold UV;rw[xD e,xk,xe ⟨c,d⟩]
def Ris(l:List (Nat×Nat)):Prop:=(l.map Prod.fst).Pairwise (·<·)
theorem Ris.cons(h:Ris (p::l)):(∀q∈l,p.1<q.1)/\Ris l:=by
 unfold Ris at h;rw[List.map_cons,Xp]at h;exact⟨λq a=>h.1 _ (Xe a),h.2⟩
theorem EL(h:l.length<=2)(d:(l.map Prod.fst).Nodup):Ris (zW l):=by
 match l,h with
 |[],_=>simp[Ris,zW]
 |[a],_=>simp[Ris,zW]
 |[a,b],_=>
  have e:¬a.1=b.1:=by simpa using d
  simp only[Ris,zW];by_cases c:b.1<a.1
  ·simp[c]
  simp[c];omega
theorem nV(d:(l.map Prod.fst).Nodup):Ris (cV l):=by
 obtain⟨f,g⟩:=ZN (aQ d);unfold Ris;rw[yi];refine f.imp_of_mem (λ{a b} ha hb h=>?_);rw[g]at ha hb;simp only[bH,Yy,Xu,Xv]at h;rcases h with h|h
 ·exact h
 exfalso
 have c:=Zd d (b:=a.1) (n:=a.2) ha;have e:=Zd d (b:=b.1) (n:=b.2) hb;rw[h.1,e]at c;injection c with c
 omega
theorem uF(b:List Nat):∀(ps:List (Nat×Nat)) (p:Nat) (a:List (Nat×Nat)),Ris ps->(∀q∈ps,p<q.1/\q.1<=2147483647/\q.2<=2147483647)->eX ps.length p a (Pl.toldB (ps.flatMap (λp=>[p.1,p.2])++b))=some (a++ps,Pl.toldB b)
 |[],p,a,_,_=>by simp[eX]
 |q::ps,p,a,hr,hq=>by
  obtain⟨f,d,e⟩:=hq q (by simp);rw[List.length_cons,eX,XT];show((UV (p+1) 2147483647 (Pl.toldB (q.1::(q.2::(ps.flatMap (λp=>[p.1,p.2])++b))))).bind _)=_;rw[zX (by omega) d d,xk];show((UV 0 2147483647 (Pl.toldB (q.2::(ps.flatMap (λp=>[p.1,p.2])++b)))).bind _)=_;rw[zX (Nat.zero_le _) e e,xk];show eX ps.length q.1 (a++[(q.1,q.2)]) (Pl.toldB (ps.flatMap (λp=>[p.1,p.2])++b))=_;rw[uF b ps q.1 _ hr.cons.2 (λr c=>⟨hr.cons.1 r c,(hq r (by simp[c])).2⟩)];simp
theorem Da{ps:List (Nat×Nat)}(b:ps.length<=2)(d:Ris ps)(c:∀q∈ps,1<=q.1/\q.1<=2147483647/\q.2<=2147483647)(a:List Nat):eU (Pl.toldB (Up ps++a))=some (ps,Pl.toldB a):=by
 unfold eU Up;rw[XF,zX (Nat.zero_le _) b (by omega),xk];show eX ps.length 0 [] (Pl.toldB _)=_;rw[uF a ps 0 [] d (λq h=>by have:=c q h;omega)];simp
def kap(l:L):L:={ l with par:=zW l.par }
def VA(l:L):L:={ kap l with gv:=0 }
theorem LM(l:List (Nat×Nat)):((zW l).map Prod.snd).sum=(l.map Prod.snd).sum:=by
 unfold zW;split
 ·split
  ·simp;omega
  rfl
 rfl
theorem Gj{l:L}(i:TR l)(a:L.Ok l){com:Nat}(n:1<=l.place)(r:l.place<=com)(g:∀p∈l.par,1<=p.1)(m:List Nat):cN l.id com (Pl.toldB ((cL l).tail++m))=some (VA l,Pl.toldB m):=by
 have t:=a.sum;have s:=a.place;have c:=i.got;have b:=a.got;have d:=a.par.1;have e:(cL l).tail++m=l.gd::l.ex::l.place::l.free::l.hd::l.sh::l.sc::(Up (zW l.par)++((if (zW l.par).length=0 then [l.got] else [])++m)):=by
  unfold cL;simp
 rw[e];unfold cN;rw[zX i.gd a.gd a.gd,xk,zX (Nat.zero_le _) a.ex a.ex,xk,zX n r (by omega),xk,zX (Nat.zero_le _) (by omega) (by omega),xk,zX (Nat.zero_le _) (by omega) (by omega),xk,zX (Nat.zero_le _) (by omega) (by omega),xk,zX (Nat.zero_le _) (by omega) (by omega),xk];rw[Da (by rw[aI];exact d) (EL d i.keys) (λq k=>by
  rw[iX]at k;exact⟨g q k,a.par.2 q k,i.small q k⟩),xk]
 dsimp only;by_cases f:(zW l.par).length=0
 ·rw[xe f,xe f,List.singleton_append,xD b,xk,xe ⟨c,b⟩];rfl
 rw[xg f,xg f,xk];have j:((zW l.par).map Prod.snd).sum=l.got:=by
  rw[LM];rcases i.par with h|h
  ·rw[aI,h]at f;simp at f
  exact h.symm
 rw[j,xe ⟨c,b⟩];rfl
def Um(f:Nat->Option L)(is:List Nat)(sl:List (Option L)):List (Option L):=is.foldl (λsl i=>sl.set i (f i)) sl
theorem Ia(f:Nat->Option L):∀(b:List Nat) (a:List (Option L)),(Um f b a).length=a.length
 |[],a=>rfl
 |i::b,a=>by
  show(Um f b (a.set i (f i))).length=_;rw[Ia f b,xd]
theorem Hz(f:Nat->Option L){j:Nat}:∀(a:List Nat) (b:List (Option L)),j<b.length->(Um f a b)[j]?=if j∈a then some (f j) else b[j]?
 |[],b,_=>by simp[Um]
 |i::a,b,hj=>by
  show(Um f a (b.set i (f i)))[j]?=_;rw[Hz f a _ (by rw[xd];exact hj)];by_cases c:j∈a
  ·rw[xe c,xe (by simp[c])]
  rw[xg c];by_cases d:j=i
  ·subst d;rw[xe (by simp)];simp[hj]
  rw[xg (by simp[c,d])];simp[XZ d]
theorem OY{ls:List L}{b:List Nat}(h:∀i,i<ls.length->i∈b):Um (λi=>some (VA (ls.getD i L0))) b (List.replicate ls.length none)=ls.map (λl=>some (VA l)):=by
 apply Yj
 intro j;by_cases a:j<ls.length
 ·rw[Hz _ _ _ (by simpa using a),xe (h j a)];simp[Uv,a]
 rw[Xo (by rw[Ia];simp;omega),Xo (by simp;omega)]
variable {x:Nat->Nat}
section
variable {os:List O}{rj:List (Nat×Nat)}{ls:List L}{td:Nat}
theorem AW(f:∀l∈ls,L.Ok l)(d:Good os ls)(n:Snd os rj ls)(g:List Nat):∀(is:List Nat) (p:Nat) (h:List (Option L)),(∀i∈is,i<ls.length/\p<(ls.getD i L0).id/\h[i]?=some none)->is.Pairwise (λa b=>(ls.getD a L0).id<(ls.getD b L0).id) ->
  xE ls.length is.length p h (Pl.toldB (is.flatMap (λi=>cL (ls.getD i L0))++g))=some (Um (λi=>some (VA (ls.getD i L0))) is h,Pl.toldB g)
 |[],p,h,_,_=>by simp[xE,Um]
 |i::is,p,h,hi,hr=>by
  obtain⟨k,x,r⟩:=hi i (by simp);have c:=f _ (zg k);have t:=d.place i k;obtain⟨q,w⟩:=Xp.1 hr;have e:(i::is).flatMap (λi=>cL (ls.getD i L0))++g=(ls.getD i L0).id::((cL (ls.getD i L0)).tail++(is.flatMap (λi=>cL (ls.getD i L0))++g)):=by
   rw[XT];unfold cL;simp
  rw[List.length_cons,xE,e,zX (by omega) c.id c.id,Option.bind_some];dsimp only;rw[Gj (n.one i k) c (by omega) (by omega) (λp s=>by
   obtain⟨j,y,v,_⟩:=n.fam i k p s;rw[<-v];exact(n.one j (by omega)).id),xk]
  dsimp only;have u:(VA (ls.getD i L0)).place-1=i:=by show(ls.getD i L0).place-1=i;omega
  rw[u,xe (by rw[Uv,r];rfl),AW f d n g is _ _ (λj m=>⟨(hi j (by simp[m])).1,q j m,by
   rw[Xd];by_cases e:i=j
   ·subst e;have:=q i m;omega
   rw[xg e];exact(hi j (by simp[m])).2.2⟩) w]
  rfl
def wg(ls:List L)(g:L->Nat):List L:=ls.map λx=>{ kap x with gv:=g x }
theorem gV(g:L->Nat):(wg ls g).length=ls.length:=by simp[wg]
theorem jV(g:L->Nat)(n:Nat):UB n (wg ls g)=UB n ls:=by
 unfold UB wg;rw[xam];rfl
theorem cI(g:L->Nat){i:Nat}(a:i<ls.length):(wg ls g).getD i L0={ kap (ls.getD i L0) with gv:=g (ls.getD i L0) }:=by
 simp[wg,Uv,a]
theorem Ol(b:∀i j,i<ls.length->j<ls.length->(ls.getD i L0).id=(ls.getD j L0).id->i=j)(g:L->Nat){n m:Nat}(d:UB n ls<ls.length):(wg ls g).set (UB n ls) (Uy ((wg ls g).getD (UB n ls) L0) m)=wg ls (λx=>g x+if n=x.id then m else 0):=by
 have a:=Zu d;apply Yj;intro j;by_cases c:j<ls.length
 ·have h:(wg ls (λx=>g x+if n=x.id then m else 0))[j]?=some ((wg ls (λx=>g x+if n=x.id then m else 0)).getD j L0):=by
   rw[Uv,xi (by rw[gV];exact c)];rfl
  have f:(wg ls g)[j]?=some ((wg ls g).getD j L0):=by
   rw[Uv,xi (by rw[gV];exact c)];rfl
  rw[h,cI _ c,Xd];by_cases e:UB n ls=j
  ·rw[xe e,xe (by rw[gV];exact d),cI _ d,e];rw[e]at a;rw[xe a.symm];rfl
  rw[xg e,f,cI _ c];have:¬n=(ls.getD j L0).id:=λq=>e (b _ _ d c (by rw[a,q]))
  rw[xg this];rfl
 rw[Xo (by rw[xd,gV];omega),Xo (by rw[gV];omega)]
theorem Oj(a:∀i j,i<ls.length->j<ls.length->(ls.getD i L0).id=(ls.getD j L0).id->i=j)(l:L):∀(ps:List (Nat×Nat)) (e:Nat) (g:L->Nat),(∀p∈ps,UB p.1 ls<ls.length/\(zd ls p.1).gd=l.gd/\(zd ls p.1).place<l.place) ->
  Vn l ps e (wg ls g)=some (wg ls (λx=>g x+(ps.map λp=>if p.1=x.id then p.2 else 0).sum),ps.foldl (λe p=>min e (zd ls p.1).ex) e)
 |[],e,g,_=>by simp[Vn]
 |p::ps,e,g,hp=>by
  obtain⟨b,k,m⟩:=hp p (by simp);have d:=cI g b;have f:((wg ls g).getD (UB p.1 (wg ls g)) L0).gd=l.gd:=by rw[jV,d];exact k
  have h:((wg ls g).getD (UB p.1 (wg ls g)) L0).place<l.place:=by rw[jV,d];exact m
  have c:((wg ls g).getD (UB p.1 (wg ls g)) L0).ex=(zd ls p.1).ex:=by rw[jV,d];rfl
  rw[Vn,xe ⟨by rw[jV,gV];exact b,f,h⟩,c,jV,Ol a g b,Oj a l ps _ _ (λq n=>hp q (by simp[n]))];simp only[List.map_cons,List.sum_cons,Yq,Xj,XD,and_true];congr 1;funext x;omega
theorem Es(ps:List (Nat×Nat)):UL ls (zW ps)=UL ls ps:=by
 unfold zW;split
 ·split
  ·simp only[UL,Yq,List.foldl_nil];omega
  rfl
 rfl
theorem Ae(f:Nat×Nat->Nat)(l:List (Nat×Nat)):((zW l).map f).sum=(l.map f).sum:=by
 unfold zW;split
 ·split
  ·simp;omega
  rfl
 rfl
theorem Sj(a:Good os ls)(q:Snd os rj ls){i:Nat}(b:i<ls.length):Vo (wg ls (λx=>Uz (ls.take i) x.id)) i=some (wg ls (λx=>Uz (ls.take (i+1)) x.id)):=by
 have f:∀n,Uz (ls.take (i+1)) n=Uz (ls.take i) n+Uw (ls.getD i L0) n:=λn=>by
  rw[cC (d:=L0) b];simp[Uz]
 obtain⟨y,g⟩:∃y,y=(wg ls (λx=>Uz (ls.take i) x.id)).getD i L0:=⟨_,rfl⟩
 have u:y.par=zW (ls.getD i L0).par:=by rw[g,cI _ b];rfl
 have v:y.ex=(ls.getD i L0).ex:=by rw[g,cI _ b];rfl
 have w:y.gd=(ls.getD i L0).gd:=by rw[g,cI _ b];rfl
 have z:y.place=(ls.getD i L0).place:=by rw[g,cI _ b];rfl
 unfold Vo;rw[<-g,u,v];by_cases c:(zW (ls.getD i L0).par).length=0
 ·rw[xe c];have h:(ls.getD i L0).par=[]:=by rw[aI]at c;exact Xn.1 c
  congr 2
  funext x
  rw[f];unfold Uw;rw[h];rfl
 rw[xg c];have m:(ls.getD i L0).par≠[]:=λe=>c (by rw[e];rfl)
 rw[Oj a.ids _ _ _ _ (λp h=>by
  rw[iX]at h;obtain⟨j,B,s,t⟩:=q.fam i b p h;have e:UB p.1 ls=j:=by rw[<-s];exact eJ (by omega) (λk A e=>by have:=a.ids k j (by omega) (by omega) e;omega) rfl
  unfold zd;rw[e,w,z];refine⟨by omega,t,?_⟩;rw[a.place j (by omega),a.place i b];omega),xk]
 have r:=q.exp i b m;have l:=Es (ls:=ls) (ls.getD i L0).par;rw[<-r]at l;unfold UL at l;rw[l,xe rfl];show some (wg ls _)=_;congr 2;funext x;rw[f,Ae];rfl
theorem Oi(a:Good os ls)(b:Snd os rj ls):∀k i,i+k=ls.length->Vm k i (wg ls (λx=>Uz (ls.take i) x.id))=some (ls.map kap)
 |0,i,h=>by
  rw[Vm];congr 1;unfold wg;apply XE;intro x f;obtain⟨j,d,rfl⟩:=xt f;have e:ls.getD j L0=ls[j]:=by simp[Uv,d]
  have c:=b.giv j d;rw[e]at c;rw[Xh (by omega)];show({ kap ls[j] with gv:=Uz ls ls[j].id }:L)=_;rw[<-c];rfl
 |k+1,i,h=>by
  rw[Vm,Sj a b (by omega),xk];exact Oi a b k (i+1) (by omega)
theorem Jd(p:∀l∈ls,L.Ok l)(g:ls.length<=30)(f:Good os ls)(q:Snd os rj ls)(r:List Nat):cG (Pl.toldB (ls.length::ls.length::(Vd ls++r)))=some (ls.map kap,Pl.toldB r):=by
 obtain⟨s,n⟩:=bJ (x:=λi=>(ls.getD i L0).id) f.ids (ls.length+1) 0 (by have:=fH (λi=>(ls.getD i L0).id) 0 ls.length;omega);have d:∀i,i<ls.length->i∈Zx (λi=>(ls.getD i L0).id) ls.length (ls.length+1) 0:=λi c=>(n i).2 ⟨c,(q.one i c).id⟩
 have k:(Zx (λi=>(ls.getD i L0).id) ls.length (ls.length+1) 0).length=ls.length:=by
  have a:=dV (l:=Zx (λi=>(ls.getD i L0).id) ls.length (ls.length+1) 0) (m:=List.range ls.length) (s.imp (λj e=>by rw[e]at j;exact Yf _ j)) (λi c=>by simp;exact((n i).1 c).1);have b:=dV (l:=List.range ls.length) (m:=Zx (λi=>(ls.getD i L0).id) ls.length (ls.length+1) 0) xan (λi c=>d i (by simpa using c));simp only[List.length_range]at a b;omega
 unfold cG;rw[zX (Nat.zero_le _) g (by omega),Option.bind_some,xD (by omega),Option.bind_some,if_pos rfl];dsimp only;have h:=AW p f q r (Zx (λi=>(ls.getD i L0).id) ls.length (ls.length+1) 0) 0 (List.replicate ls.length none) (λi c=>⟨((n i).1 c).1,((n i).1 c).2,by simp[((n i).1 c).1]⟩) s;rw[k]at h;unfold Vd;rw[h,Option.bind_some,OY d];dsimp only;have e:(ls.map (λl=>some (VA l))).map (λo=>o.getD L0)=wg ls (λx=>Uz (ls.take 0) x.id):=by
  unfold wg;simp[VA,Uz]
 rw[e,Oi f q _ 0 (by omega),xk]
def UZ(o:O):O:={ o with li:=cV o.li }
theorem Cy(n:Nat):UB n (ls.map kap)=UB n ls:=by
 unfold UB;rw[xam];rfl
theorem IL(i:Nat):(ls.map kap).getD i L0=kap (ls.getD i L0):=by
 rw[Uv,Uv,xaf]
 cases ls[i]? with
 |none=>rfl
 |some x=>rfl
theorem AV{g:Nat}(c:List Nat):∀(ps:List (Nat×Nat)) (p:Nat) (a:List (Nat×Nat)),Ris ps->(∀q∈ps,p<q.1/\q.1<=2147483647/\1<=q.2/\q.2<=2147483647/\UB q.1 ls<ls.length/\(zd ls q.1).gd=g)->rO (ls.map kap) g ps.length p a (Pl.toldB (ps.flatMap (λp=>[p.1,p.2])++c))=some (a++ps,Pl.toldB c)
 |[],p,a,_,_=>by simp[rO]
 |q::ps,p,a,hr,hq=>by
  obtain⟨j,d,f,e,h,i⟩:=hq q (by simp);rw[List.length_cons,rO,List.flatMap_cons];show((UV (p+1) 2147483647 (Pl.toldB (q.1::(q.2::(ps.flatMap (λp=>[p.1,p.2])++c))))).bind _)=_;rw[zX (by omega) d d,Option.bind_some];dsimp only;rw[if_pos ⟨by rw[Cy,List.length_map];exact h,by rw[Cy,IL];exact i⟩,zX f e e,Option.bind_some];show rO (ls.map kap) g ps.length q.1 (a++[(q.1,q.2)]) (Pl.toldB (ps.flatMap (λp=>[p.1,p.2])++c))=_;rw[AV c ps q.1 _ hr.cons.2 (λr b=>⟨hr.cons.1 r b,(hq r (by simp[b])).2⟩)];simp
structure TJ(ls:List L)(o:O):Prop where
 id:o.id<=2147483647
 gd:1<=o.gd/\o.gd<=2147483647
 len:1<=o.li.length/\o.li.length<=30
 keys:(o.li.map Prod.fst).Nodup
 line:∀q∈o.li,1<=q.1/\q.1<=2147483647/\1<=q.2/\q.2<=2147483647/\UB q.1 ls<ls.length/\(zd ls q.1).gd=o.gd
theorem AU{o:O}(a:TJ ls o)(b:List Nat):aD (ls.map kap) o.gd (Pl.toldB (Up (cV o.li)++b))=some (cV o.li,Pl.toldB b):=by
 obtain⟨_,d⟩:=ZN (aQ a.keys);have f:=bS o.li (aQ a.keys);have e:=a.len;unfold aD Up;rw[XF,zX (by omega) (by omega) (by omega),xk];show rO (ls.map kap) o.gd (cV o.li).length 0 [] (Pl.toldB _)=_;rw[AV b _ 0 [] (nV a.keys) (λq c=>by
  rw[d]at c;have:=a.line q c;exact⟨by omega,this.2⟩)]
 simp
theorem AX(g:∀o∈os,TJ ls o)(f:List Nat):∀(is:List Nat) (p:Nat) (c:List O),(∀i∈is,i<os.length/\p<(os.getD i O0).id)->is.Pairwise (λa b=>(os.getD a O0).id<(os.getD b O0).id) ->
  yB (ls.map kap) is.length p c (Pl.toldB (is.flatMap (λi=>dA (os.getD i O0))++f))=some (c++is.map (λi=>UZ (os.getD i O0)),Pl.toldB f)
 |[],p,c,_,_=>by simp[yB]
 |i::is,p,c,hi,hr=>by
  obtain⟨k,n⟩:=hi i (by simp);have d:=g _ (Io k);obtain⟨l,m⟩:=Xp.1 hr;have e:(i::is).flatMap (λi=>dA (os.getD i O0))++f=(os.getD i O0).id::(os.getD i O0).gd::(Up (cV (os.getD i O0).li)++(is.flatMap (λi=>dA (os.getD i O0))++f)):=by
   rw[XT];unfold dA;simp
  rw[List.length_cons,yB,e,zX (by omega) d.id d.id,Option.bind_some];dsimp only;rw[zX d.gd.1 d.gd.2 d.gd.2,Option.bind_some];dsimp only;rw[AU d,Option.bind_some];show yB (ls.map kap) is.length (os.getD i O0).id (c++[UZ (os.getD i O0)]) (Pl.toldB _)=_;rw[AX g f is _ _ (λj h=>⟨(hi j (by simp[h])).1,l j h⟩) m];simp
def UP(os:List O):List O:=(Zx (λi=>(os.getD i O0).id) os.length (os.length+1) 0).map (λi=>UZ (os.getD i O0))
theorem vL{N:Nat}(b:∀i j,i<N->j<N->x i=x j->i=j)(c:∀i,i<N->1<=x i):(Zx x N (N+1) 0).Perm (List.range N):=by
 obtain⟨d,f⟩:=bJ (x:=x) b (N+1) 0 (by have:=fH x 0 N;omega);refine(YI (d.imp (λa e=>by rw[e]at a;exact Yf _ a)) xan).2 (λi=>?_);rw[f,xbN];exact⟨λh=>h.1,λh=>⟨h,c i h⟩⟩
theorem qS{β:Type}(f:α->β)(d:α)(l:List α):(List.range l.length).map (λi=>f (l.getD i d))=l.map f:=by
 apply yn
 ·simp
 intro i a b;simp at a;simp[Uv,a]
theorem jN(c:(os.map O.id).Nodup)(a:∀o∈os,1<=o.id):(UP os).Perm (os.map UZ):=by
 have:=(vL (x:=λi=>(os.getD i O0).id) (qL c) (λi b=>a _ (Io b))).map (λi=>UZ (os.getD i O0))
 rw[qS UZ O0 os]at this;exact this
theorem CT(g:∀o∈os,TJ ls o)(e:(os.map O.id).Nodup)(f:∀o∈os,1<=o.id)(a:os.length<=10)(c:List Nat):ZT (ls.map kap) (Pl.toldB (os.length::(Vf os++c)))=some (UP os,Pl.toldB c):=by
 obtain⟨j,k⟩:=bJ (x:=λi=>(os.getD i O0).id) (qL e) (os.length+1) 0 (by have:=fH (λi=>(os.getD i O0).id) 0 os.length;omega);have d:=(vL (x:=λi=>(os.getD i O0).id) (qL e) (λi b=>f _ (Io b))).length_eq;rw[List.length_range]at d;unfold ZT;rw[zX (Nat.zero_le _) a (by omega),Option.bind_some];dsimp only;have h:=AX g c (Zx (λi=>(os.getD i O0).id) os.length (os.length+1) 0) 0 [] (λi b=>(k i).1 b) j;rw[d]at h;unfold Vf;rw[h];rfl
theorem AZ(d:List Nat):∀(ps:List (Nat×Nat)) (a:Nat×Nat) (c:List (Nat×Nat)),(a::ps).Pairwise (λa b=>bH a b=true)->(∀q∈ps,1<=q.1/\q.1<=2147483647/\1<=q.2/\q.2<=2147483647/\UB q.1 ls<ls.length)->Db (ls.map kap) ps.length a c (Pl.toldB (ps.flatMap (λp=>[p.1,p.2])++d))=some (c++ps,Pl.toldB d)
 |[],p,c,_,_=>by simp[Db]
 |q::ps,p,c,e,hq=>by
  obtain⟨h,f,i,g,j⟩:=hq q (by simp);obtain⟨k,l⟩:=List.pairwise_cons.1 e;rw[List.length_cons,Db,List.flatMap_cons];show((UV 1 2147483647 (Pl.toldB (q.1::(q.2::(ps.flatMap (λp=>[p.1,p.2])++d))))).bind _)=_;rw[zX h f f,Option.bind_some];dsimp only;rw[zX i g g,Option.bind_some];show(if bH p q=true/\UB q.1 (ls.map kap)<(ls.map kap).length then Db (ls.map kap) ps.length q (c++[q]) (Pl.toldB _) else none)=_;rw[if_pos ⟨k q (by simp),by rw[Cy,List.length_map];exact j⟩,AZ d ps q _ l (λr e=>hq r (by simp[e]))];simp
theorem JI(a:Rc rj)(d:Snd os rj ls)(c:List Nat):eA (ls.map kap) (Pl.toldB (Up (cV rj)++c))=some (cV rj,Pl.toldB c):=by
 obtain⟨f,e⟩:=ZN a.nodup;have h:=bS rj a.nodup;have g:=a.len;unfold eA Up;rw[XF,zX (Nat.zero_le _) (by omega) (by omega),xk];show Db (ls.map kap) (cV rj).length (0,0) [] (Pl.toldB _)=_;rw[AZ c _ (0,0) [] (Xp.2 ⟨λq b=>by
  rw[e]at b;have:=(d.rcl q b).1;simp only[bH,Yy,Xv];exact Or.inl (by omega),f⟩) (λq b=>by
  rw[e]at b;have:=d.rcl q b;have:=a.fits q b;omega)]
 simp
theorem tX(a:(l.map Prod.fst).Nodup)(n:Nat):(cV l).lookup n=l.lookup n:=by
 obtain⟨f,c⟩:=ZN (aQ a);have b:((cV l).map Prod.fst).Nodup:=(nV a).imp (λh e=>by rw[e]at h;exact Yf _ h)
 cases h:l.lookup n with
 |some v=>exact Zd b ((c _).2 (ZY h))
 |none=>
  cases d:(cV l).lookup n with
  |none=>rfl
  |some v=>
   have:=Zd a ((c _).1 (ZY d))
   rw[h]at this;cases this
theorem Cq(b:∀o∈os,(o.li.map Prod.fst).Nodup)(c:(os.map O.id).Nodup)(a:∀o∈os,1<=o.id)(n:Nat):zH (UP os) n=zH os n:=by
 unfold zH;rw[((jN c a).map (λo=>ZW o n)).sum_nat,Ya];congr 1;apply XE;intro o d;show((cV o.li).lookup n).getD 0=(o.li.lookup n).getD 0;rw[tX (b o d)]
theorem IU{n:Nat}:∀{l:List Nat},n∈l->n<=l.sum
 |x::l,h=>by
  rw[List.sum_cons];rcases xx.1 h with rfl|h
  ·omega
  have:=IU h;omega
theorem Gx(t:td<=2147483647)(r:∀l∈ls,L.Ok l)(h:ls.length<=30)(a:Good os ls)(s:Snd os rj ls)(z:Rc rj)(w:∀o∈os,1<=o.id/\o.gd<=2147483647):zI (Vc td os rj ls)=some (td,ls.map kap,UP os,cV rj):=by
 have F:∀o∈os,TJ ls o:=λo b=>by
  obtain⟨s1,s2,E⟩:=s.ord o b;have d:=λp g=>a.mem o b p g
  have q:o.li.length<=30:=by
   have:=dV (l:=o.li.map Prod.fst) (m:=ls.map L.id) (a.keys o b) (λx u=>by
    obtain⟨p,g,rfl⟩:=Xg.1 u;obtain⟨i,c,e⟩:=d p g;rw[<-e];exact Xe (zg c))
   rw[Xl,Xl]at this;omega
  refine⟨a.oid o b,⟨s1,(w o b).2⟩,⟨Yp.2 s2,q⟩,a.keys o b,λp g=>?_⟩;obtain⟨i,c,e⟩:=d p g;have n:=r _ (zg c);have u:UB p.1 ls=i:=by rw[<-e];exact eJ c (λk K e=>by have:=a.ids k i (by omega) c e;omega) rfl
  have J:p.2<=zH os p.1:=by
   have v:ZW o p.1=p.2:=by unfold ZW;rw[Zd (a.keys o b) g];rfl
   rw[<-v];unfold zH;exact IU (Xe (f:=λo=>ZW o p.1) b)
  have G:=a.hd i c;rw[e]at G;have D:=n.sum;have C:=(s.one i c).id;have v:=n.id;rw[e]at C v;exact⟨C,v,(E p g).1,by omega,by rw[u];exact c,(E p g).2⟩
 have e:Ve td os rj ls=td::(ls.length::ls.length::(Vd ls++(os.length::(Vf os++(Up (cV rj)++[]))))):=by
  unfold Ve;simp
 unfold Vc zI;dsimp only;rw[if_pos rfl,e,zX (Nat.zero_le _) t t,Option.bind_some];dsimp only;rw[Jd r h a s,Option.bind_some];dsimp only;rw[CT F a.oids (λo b=>(w o b).1) a.olen,Option.bind_some];dsimp only;rw[JI z s,Option.bind_some];dsimp only;rw[if_pos ⟨rfl,by
  rw[YG];intro x u;obtain⟨l,H,rfl⟩:=Xg.1 u;obtain⟨j,y,rfl⟩:=xt H;have e:ls.getD j L0=ls[j]:=by simp[Uv,y]
  have A:=(s.one j y).sum;have B:=a.hd j y;rw[e]at A B;unfold TY;rw[Xu,Xv,Xv];refine⟨A,?_⟩;show ls[j].hd=zH (UP os) ls[j].id;rw[Cq a.keys a.oids (λo b=>(w o b).1)];exact B⟩]
end
section
variable {os:List O}{rj:List (Nat×Nat)}{ls:List L}{td:Nat}
end
open Go.RowKit
section
variable {os:List O}{rj:List (Nat×Nat)}{ls:List L}{td:Nat}
theorem PK(a:(os.map O.id).Nodup)(b:∀o∈os,1<=o.id):((UP os).map O.id).Nodup:=by
 have h:=((jN a b).map O.id)
 rw[Ya]at h;exact h.nodup_iff.2 a
theorem lB(b:(os.map O.id).Nodup)(a:∀o∈os,1<=o.id){o:O}:o∈UP os↔∃x∈os,UZ x=o:=by
 rw[(jN b a).mem_iff,Xg]
theorem DQ(c:(os.map O.id).Nodup)(a:∀o∈os,1<=o.id)(n:Nat):(UP os).find? (λo=>o.id==n)=(os.find? (λo=>o.id==n)).map UZ:=by
 cases h:os.find? (λo=>o.id==n) with
 |some o=>
  have d:=Yr h
  have b:o.id=n:=by have:=xbH h;simpa using this
  have:=pK (PK c a) ((lB c a).2 ⟨o,d,rfl⟩)
  rw[<-b];exact this
 |none=>
  rw[yj]at h;show _=none;rw[yj];intro o d;obtain⟨x,e,rfl⟩:=(lB c a).1 d;exact h x e
theorem Ck(b:(os.map O.id).Nodup)(a:∀o∈os,1<=o.id)(n:Nat):aC (UP os) n=aC os n:=by
 unfold aC;rw[DQ b a,Option.map_map];rfl
theorem tV(e:(os.map O.id).Nodup)(c:∀o∈os,1<=o.id)(d:∀o∈os,(o.li.map Prod.fst).Nodup)(a b:Nat):zr (UP os) a b=zr os a b:=by
 unfold zr;rw[DQ e c]
 cases h:os.find? (λo=>o.id==a) with
 |none=>rfl
 |some o=>exact tX (d o (Yr h)) b
theorem Ox(c:(os.map O.id).Nodup)(b:∀o∈os,1<=o.id)(n:Nat):(UP os).any (λo=>o.id==n)=os.any (λo=>o.id==n):=by
 rw[xz,Yt,Yt];constructor
 ·rintro⟨o,a,e⟩;obtain⟨x,d,rfl⟩:=(lB c b).1 a;exact⟨x,d,e⟩
 rintro⟨o,a,e⟩;exact⟨UZ o,(lB c b).2 ⟨o,a,rfl⟩,e⟩
theorem PM(b:(os.map O.id).Nodup)(a:∀o∈os,1<=o.id):(UP os).length=os.length:=by rw[(jN b a).length_eq,Xl]
theorem Ga(c:(os.map O.id).Nodup)(a:∀o∈os,1<=o.id)(b:∀o∈os,(o.li.map Prod.fst).Nodup):Zc (UP os)=Zc os:=by
 unfold Zc;rw[((jN c a).map (λo=>o.li.length)).sum_nat,Ya];congr 1;apply XE;intro o d;exact bS o.li (aQ (b o d))
end
section
variable {os:List O}{rj:List (Nat×Nat)}{ls:List L}{td:Nat}{w:World}{M:Mx}
theorem Mp.same(h:Mp (UP os) (cV rj) w M)(c:Good os ls)(f:∀o∈os,1<=o.id)(i:Rc rj):Mp os rj w M:={
 r:=by
  obtain⟨D,l,d⟩:=h.r;obtain⟨_,s⟩:=ZN i.nodup;refine⟨D,l,⟨by rw[d.size,bS rj i.nodup],λa b j k=>?_,λq g=>?_⟩⟩
  ·rw[d.has a b j k,xz];simp[s]
  obtain⟨p,u,e⟩:=d.keys q g;exact⟨p,(s p).1 u,e⟩
 rc:=i
 o:=by
  obtain⟨D,l,d⟩:=h.o;refine⟨D,l,⟨by rw[d.size,PM c.oids f],λn m=>by rw[d.has n m,Ox c.oids f],λn m=>by rw[d.val n m,Ck c.oids f],λq g=>?_⟩⟩;obtain⟨o,t,e⟩:=d.keys q g;obtain⟨x,v,rfl⟩:=(lB c.oids f).1 t;exact⟨x,v,e⟩
 h:=by
  obtain⟨D,l,d⟩:=h.h;exact⟨D,l,⟨by rw[d.size,Ga c.oids f c.keys],λa b j k=>by rw[d.has a b j k,tV c.oids f c.keys],λa b j k=>by rw[d.val a b j k,tV c.oids f c.keys]⟩⟩
 ro:=h.ro
 rh:=h.rh
 oh:=h.oh}
theorem PL.same{lg:List UInt8}{Z:Nat->Prop}{f:Nat}(h:PL lg (UP os) (cV rj) Z w f td ls)(b:Good os ls)(q:∀o∈os,1<=o.id)(d:Rc rj):PL lg os rj Z w f td ls:=by
 obtain⟨S,g,lv,i,j,k,l,⟨M,v,p,e,a,c⟩,m,n⟩:=h;exact⟨S,g,lv,i,j,k,l,⟨M,v,p,e,⟨a.store,a.maps.same b q d,a.row,a.len,a.plen,a.lot,a.par,a.nodup,a.today,a.ok,a.room⟩,c⟩,m,n⟩
theorem Kv.same{lg:List UInt8}{B:Nat}{d:World}{Z:Nat->Prop}{c:Nat}(h:Kv B d w Z c ⟨td,UP os,cV rj,ls,lg⟩)(a:Good os ls)(e:∀o∈os,1<=o.id)(b:Rc rj):Kv B d w Z c ⟨td,os,rj,ls,lg⟩:=
 ⟨h.old,h.size,h.two,h.gl,h.pl.same a e b,h.zin,a⟩
end
