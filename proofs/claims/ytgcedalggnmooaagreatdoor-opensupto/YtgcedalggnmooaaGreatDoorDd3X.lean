import Derived.Test.YtgcedalggnmooaaGreatDoorRiX
import Derived.Test.YtgcedalggnmooaaGreatDoorOy0X
set_option linter.all false
set_option maxRecDepth 100000
set_option maxHeartbeats 1600000
namespace Go.Proofs.YtgcedalggnmooaaGreatDoor
def ZJ(ns:List Nat):List L:=UH (Vo ns).ls (Vo ns).ls.length
structure TE(b:List UInt8)(ns:List Nat)(ls:List L):Prop where
 num:b=13::Pl.toldB ns
 pl:UG (Vo ns).ls
 bad:(Vo ns).left.2=false
 left:(Vo ns).left.1=[]
 com:(Vo ns).com=(Vo ns).k
 td:(Vo ns).td<=2147483647
 len:(ZJ ns).length<=30
 nm:NumP (ZJ ns)
 fam:Ug (ZJ ns).length 0 (ZJ ns)=some ls
 bal:Qz ls
 ord:yC ls (Vo ns).os (Vo ns).rcs
 st:US (Vo ns).td (Vo ns).os (Vo ns).rcs ls=b
theorem eL(ls:List L)(i:Nat)(a:i<ls.length):(ls.map UJ).getD i L0=UJ (ls.getD i L0):=by simp[Ul,a]
theorem xC(ls:List L)(n:Nat):Ur n (ls.map UJ)=Ur n ls:=by
 unfold Ur;rw[xam];rfl
variable {l0 ls ms:List L}
theorem qU{n:Nat}(h:Ur n ls<ls.length):zd (ls.map UJ) n=UJ (zd ls n):=by
 unfold zd;rw[xC,eL _ _ h]
theorem Hu(ls:List L)(a:∀l∈ls,l.ex<=2147483647){ps:List (Nat×Nat)}(c:ps≠[])(b:∀p∈ps,Ur p.1 ls<ls.length):Ua ls ps 2147483648=UB ls ps:=by
 cases ps with
 |nil=>exact absurd rfl c
 |cons p ps=>
  unfold Ua UB;rw[Yq,Yq];have:(zd ls p.1).ex<=2147483647:=a _ (zg (b p (by simp)));congr 1;omega
theorem MG(o:O)(a:(o.li.map Prod.fst).Nodup):cZ (UP o)=cZ o:=by
 unfold cZ UP;dsimp only;rw[gY (nV (nW a))]
theorem rD{b:List UInt8}{td:Nat}{os:List O}{rcs:List (Nat×Nat)}(h:zH b=some (td,ls,os,rcs)):TE b (UU td os rcs ls) ls/\(Vo (UU td os rcs ls)).td=td/\(Vo (UU td os rcs ls)).os=os/\(Vo (UU td os rcs ls)).rcs=rcs/\Tu td os rcs ls:=by
 obtain⟨hN,hb⟩:=lI h;have a:=hN.good;have T:∀i,i<ls.length->1<=(ls.getD i L0).id:=λi c=>(hN.snd.one i c).id
 have B:∀o∈os,1<=o.id:=λo r=>(hN.sml.ord o r).1
 have v:=tZ a.ids T;have z:∀i,i<ls.length->Ris (ls.getD i L0).par:=λi c=>by
  have e:(ls.map kap).getD i L0=ls.getD i L0:=by rw[hN.kap]
  rw[II]at e;have e2:zY (ls.getD i L0).par=(ls.getD i L0).par:=YA L.par e;rw[<-e2];exact EO (hN.ok _ (zg c)).par.1 (hN.snd.one i c).keys
 have X:∀x∈ls,Ris x.par:=λx A=>by
  obtain⟨i,c,rfl⟩:=xt A;have e:ls.getD i L0=ls[i]:=by simp[Ul,c]
  rw[<-e];exact z i c
 have W:∀o∈os,Ris o.li:=λo r=>by
  rw[<-hN.os]at r;obtain⟨x,A,rfl⟩:=(lC a.oids B).1 r;exact nW (a.keys x A)
 have a4:UV os=os.flatMap cZ:=by
  conv=>rhs;rw[<-hN.os]
  unfold UF UV;rw[xaM];obtain⟨_,q2⟩:=bI (x:=λi=>(os.getD i O0).id) (qM a.oids) (os.length+1) 0 (by have:=fE (λi=>(os.getD i O0).id) 0 os.length;omega);have:∀(N:List Nat),(∀i∈N,i<os.length)->N.flatMap (λi=>cZ (os.getD i O0))=N.flatMap (λi=>cZ (UP (os.getD i O0))):=λN=>by
   induction N with
   |nil=>intro _;rfl
   |cons i N ih=>
    intro E;rw[XU,XU,ih (λj d=>E j (by simp[d])),MG _ (a.keys _ (Ik (E i (by simp))))]
  exact this _ (λi c=>((q2 i).1 c).1)
 have g:=Np (td:=td) (os:=os) (rcs:=rcs) (ls:=ls) (by rw[v.length_eq]) (λx A=>X x (v.mem_iff.1 A)) a4 W hN.rcs;have a3:ls.Nodup:=by
  rw[yc,Xz];intro i j c d a7 e;have:=a.ids i j c d (by simp[Ul,c,d,e]);omega
 obtain⟨p1,p2⟩:=MN (v.map UJ) a3 a.place;have u:ZJ (UU td os rcs ls)=ls.map UJ:=by unfold ZJ;rw[g];exact p2
 have t:(ls.map UJ).length=ls.length:=Xl ..;have F:∀i j,i<(ls.map UJ).length->j<(ls.map UJ).length->((ls.map UJ).getD i L0).id=((ls.map UJ).getD j L0).id->i=j:=λi j c d e=>by
  rw[t]at c d;rw[eL _ _ c,eL _ _ d]at e;exact a.ids i j c d e
 have C:∀i,i<(ls.map UJ).length->((ls.map UJ).getD i L0).place=i+1:=λi c=>by
  rw[t]at c;rw[eL _ _ c];exact a.place i c
 have G:∀j,j<ls.length->Ur (ls.getD j L0).id ls=j:=λj d=>eG d (λk hk e=>by have:=a.ids k j (by omega) d e;omega) rfl
 have Q:∀l∈ls,l.ex<=2147483647:=λl hl=>(hN.ok l hl).ex
 have R:∀l∈ls.map UJ,l.ex<=2147483647:=λl hl=>by
  obtain⟨x,A,rfl⟩:=Xg.1 hl;exact Q x A
 have a6:wy (ls.map UJ) 0=ls.map UJ:=by
  unfold wy wq;have:(ls.map UJ).map (λx=>({ x with gv:=Up ((ls.map UJ).take 0) x.id,got:=if x.place<=0 then tP x else x.got }:L))=(ls.map UJ).map id:=by
   apply XE
   intro x A;obtain⟨j,d,rfl⟩:=xt A;have a1:j<ls.length:=by simpa using d
   have m:=C j d;have e:(ls.map UJ).getD j L0=(ls.map UJ)[j]:=by simp[Ul,a1]
   rw[e]at m;rw[xe (by omega)];have K:((ls.map UJ)[j]).gv=0:=by simp[UJ]
   generalize (ls.map UJ)[j]=y at K
   cases y;simp only at K
   subst K;rfl
  rw[this,xau]
 have P:∀j,0<=j->j<(ls.map UJ).length->Tp (ls.map UJ) j:=λj _ d=>by
  rw[t]at d;have w:((ls.map UJ).getD j L0).par=(ls.getD j L0).par:=by rw[eL _ _ d];rfl
  have D:∀p∈(ls.getD j L0).par,oB (ls.map UJ) ((ls.map UJ).getD j L0) p:=λp m=>by
   obtain⟨k,k1,k2,k3⟩:=hN.snd.fam j d p m;have hk:Ur p.1 ls=k:=by rw[<-k2];exact G k (by omega)
   have H:Ur p.1 ls<ls.length:=by omega
   refine⟨by rw[xC,t];exact H,(hN.snd.one j d).small p m,?_,?_⟩
   ·rw[qU H,eL _ _ d];show(ls.getD (Ur p.1 ls) L0).gd=_;rw[hk];exact k3
   rw[qU H,eL _ _ d];show(ls.getD (Ur p.1 ls) L0).place<(ls.getD j L0).place;rw[hk,a.place k (by omega),a.place j d];omega
  refine⟨by rw[w];exact(hN.ok _ (zg d)).par.1,by rw[w];exact z j d,λp m=>D p (by rw[w]at m;exact m),λJ=>?_⟩;rw[w]at J ⊢;rw[Hu _ R J (λp m=>(D p m).1),eL _ _ d];show UB (ls.map UJ) _=(ls.getD j L0).ex;rw[hN.snd.exp j d J];unfold UB;have:∀(ps:List (Nat×Nat)) (e:Nat),(∀p∈ps,Ur p.1 ls<ls.length)->ps.foldl (λe p=>min e (zd (ls.map UJ) p.1).ex) e=ps.foldl (λe p=>min e (zd ls p.1).ex) e:=λps=>by
   induction ps with
   |nil=>intro e _;rfl
   |cons p ps ih=>
    intro e E;rw[Yq,Yq,qU (E p (by simp))];exact ih _ (λq hq=>E q (by simp[hq]))
  exact this _ _ (λp m=>by have:=(D p m).1;rw[xC,t]at this;exact this)
 have a0:∀n,Up (ls.map UJ) n=Up ls n:=λn=>by unfold Up;rw[Ya];rfl
 have S:wy (ls.map UJ) (ls.map UJ).length=ls:=by
  unfold wy wq;rw[Xa,Ya];have:ls.map ((λx=>({ x with gv:=Up (ls.map UJ) x.id,got:=if x.place<=(ls.map UJ).length then tP x else x.got }:L))∘UJ)=ls.map id:=by
   apply XE
   intro x A;obtain⟨j,d,rfl⟩:=xt A;have e:ls.getD j L0=ls[j]:=by simp[Ul,d]
   have m:=a.place j d;have K:=hN.snd.giv j d;have M:=(hN.snd.one j d).par;rw[e]at m K M;show({ UJ ls[j] with gv:=Up (ls.map UJ) ls[j].id,got:=if ls[j].place<=(ls.map UJ).length then tP (UJ ls[j]) else (UJ ls[j]).got }:L)=ls[j];rw[a0,<-K,xd (by rw[t];omega)];have hq:tP (UJ ls[j])=ls[j].got:=by
    unfold tP UJ;dsimp only;by_cases Z:ls[j].par.length=0
    ·rw[xd Z,xd Z]
    rw[xe Z];rcases M with M|M
    ·exact absurd (by rw[M];rfl) Z
    exact M.symm
   rw[hq];rfl
  rw[this,xau]
 obtain⟨f1,_⟩:=Hz (ls:=ls.map UJ) F C (ls.map UJ).length 0 (by omega);refine⟨⟨hb,by rw[g];exact p1,by rw[g],by rw[g],by rw[g],by rw[g];exact hN.td,by rw[u,t];exact hN.room,?_,?_,λi c=>?_,?_,?_⟩,by rw[g],by rw[g],by rw[g],hN⟩
 ·rw[u];intro i c;rw[t]at c;rw[eL _ _ c,xC];have s:=hN.ok _ (zg c);have a5:=s.sum;have r:=hN.snd.one i c;refine⟨⟨r.id,s.id⟩,⟨r.gd,s.gd⟩,s.ex,by show(ls.getD i L0).free<=_;omega,by show(ls.getD i L0).hd<=_;omega,by show(ls.getD i L0).sh<=_;omega,by show(ls.getD i L0).sc<=_;omega,?_,G i c⟩;have hq:=s.got;show(if (ls.getD i L0).par.length=0 then (ls.getD i L0).got else 0)<=_;split<;>omega
 ·rw[u];have:=f1 P;rw[a6,S]at this;exact this
 ·have s:=hN.ok _ (zg c);have a5:=s.sum;have r:=hN.snd.one i c;exact⟨s.got,by omega,r.got,r.sum⟩
 ·rw[g];refine⟨a.olen,hN.rc.len,λo r=>?_,λi c=>(a.hd i c).symm,λp m=>?_,?_⟩
  ·obtain⟨s1,s2,s3⟩:=hN.snd.ord o r;refine⟨⟨B o r,a.oid o r⟩,⟨s1,(hN.sml.ord o r).2⟩,W o r,s2,λp m=>?_⟩;obtain⟨i,c,e⟩:=a.mem o r p m;have a2:=hN.ok _ (zg c);have a8:p.2<=zG os p.1:=by
    have h2:ZW o p.1=p.2:=by unfold ZW;rw[Zd (a.keys o r) m];rfl
    rw[<-h2];unfold zG;exact IQ (Xd (f:=λo=>ZW o p.1) r)
   have E:=a.hd i c;rw[e]at E;have:=a2.sum;refine⟨by rw[<-e,G i c];exact c,⟨(s3 p m).1,by omega⟩,(s3 p m).2⟩
  ·obtain⟨r1,r2,r3⟩:=hN.snd.rcl p m;exact⟨r3,r2,(hN.rc.fits p m).2⟩
  have:=(ZL hN.rc.nodup).1
  rw[hN.rcs]at this;exact this
 rw[g];exact hb.symm
variable {s:List Nat×Bool}
theorem eP(h:(Vf s).2.2=false):s.2=false/\s.1=(Vf s).1::(Vf s).2.1:=by
 obtain⟨l,b⟩:=s
 cases l with
 |nil=>cases h
 |cons n r=>exact⟨h,rfl⟩
theorem DA(h:(Vm s).2.2=false):s.2=false/\s.1=(Vm s).1::(Vm s).2.1:=by
 unfold Vm at h ⊢;split at h
 ·cases h
 rename_i a;rw[xe a];exact eP h
theorem KL(s:List Nat×Bool):∀k,(Vl s k).2.2=false->s.2=false/\s.1=(Vl s k).1.flatMap (λp=>[p.1,p.2])++(Vl s k).2.1
 |0,h=>⟨h,rfl⟩
 |k+1,h=>by
  have e:(Vf (Vf (Vl s k).2).2).2.2=false:=h;obtain⟨a,b⟩:=eP e;obtain⟨c,d⟩:=eP a;obtain⟨c1,c2⟩:=KL s k c;refine⟨c1,?_⟩;show s.1=((Vl s k).1++[((Vf (Vl s k).2).1,(Vf (Vf (Vl s k).2).2).1)]).flatMap (λp=>[p.1,p.2])++(Vf (Vf (Vl s k).2).2).2.1;rw[c2,d,b];simp
theorem xX(h:(jS s).2.2=false):s.2=false/\s.1=Uf (jS s).1++(jS s).2.1:=by
 obtain⟨a,b⟩:=KL (Vm s).2 (Vm s).1 h;obtain⟨c,d⟩:=DA a;refine⟨c,?_⟩;have e:(jS s).1.length=(Vm s).1:=lN _ _;rw[d,b];unfold Uf;rw[e];rfl
theorem KI(s:List Nat×Bool):∀k,(Vi s k).2=false->s.2=false/\s.1=(List.range k).map (Vn s)++(Vi s k).1
 |0,h=>⟨h,rfl⟩
 |k+1,h=>by
  obtain⟨a,b⟩:=eP (s:=Vi s k) h;obtain⟨c,d⟩:=KI s k a;refine⟨c,?_⟩;rw[d,b,Yz,yz];simp[Vn,Vi]
def Mq(x:L):List Nat:=[x.id,x.gd,x.ex,x.place,x.free,x.hd,x.sh,x.sc]++Uf x.par++(if x.par.length=0 then [x.got] else [])
def Jp(o:O):List Nat:=[o.id,o.gd]++Uf o.li
theorem Qr(h:(Vh s).2.2=false):s.2=false/\s.1=Mq (Vj s)++(Vh s).2.1:=by
 have hF:(Vg s).2.2=false/\(Vg s).2.1=(if (Vg s).1.length=0 then [(Vh s).1] else [])++(Vh s).2.1:=by
  unfold Vh at h ⊢;by_cases a:(Vg s).1.length=0
  ·rw[xd a]at h;rw[xd a,xd a];obtain⟨b,c⟩:=eP h;exact⟨b,by rw[c];rfl⟩
  rw[xe a]at h;rw[xe a,xe a];exact⟨h,rfl⟩
 obtain⟨d,f⟩:=xX (s:=Vi s 8) hF.1;obtain⟨c1,c2⟩:=KI s 8 d;refine⟨c1,?_⟩;rw[c2,f];show _=Mq (Vj s)++(Vh s).2.1;have e:(jS (Vi s 8)).2.1=(Vg s).2.1:=rfl;rw[e,hF.2];show(List.range 8).map (Vn s)++(Uf (Vg s).1++_)=_;unfold Mq Vj;simp[Yz]
theorem Nm(s:List Nat×Bool)(k:Nat)(h:(eV s k).2.2=false):s.2=false/\s.1=(eV s k).1.flatMap Mq++(eV s k).2.1:=by
 induction k with
 |zero=>exact⟨h,rfl⟩
 |succ k ih=>
  rw[eV]at h ⊢;generalize eV s k=q at h ih ⊢;obtain⟨a,b⟩:=Qr (s:=q.2) h;obtain⟨c,d⟩:=ih a;refine⟨c,?_⟩;dsimp only;rw[d,b,List.flatMap_append,List.flatMap_singleton,List.append_assoc]
theorem nY(s:List Nat×Bool):∀k,(eV s k).1.length=k/\∀x∈(eV s k).1,x.gv=0
 |0=>⟨rfl,λx a=>by cases a⟩
 |k+1=>by
  obtain⟨b,c⟩:=nY s k;refine⟨by rw[eV,xb,b];rfl,λx a=>?_⟩;rcases xw.1 a with a|a
  ·exact c x a
  simp only[Xp]at a;subst a;rfl
theorem Qs(h:(Vk s).2.2=false):s.2=false/\s.1=Jp (Vk s).1++(Vk s).2.1:=by
 obtain⟨a,b⟩:=xX (s:=(Vf (Vf s).2).2) h;obtain⟨c,d⟩:=eP a;obtain⟨c1,c2⟩:=eP c;refine⟨c1,?_⟩;rw[c2,d,b];rfl
theorem EW(s:List Nat×Bool):∀k,(gK s k).2.2=false->s.2=false/\s.1=(gK s k).1.flatMap Jp++(gK s k).2.1
 |0,h=>⟨h,rfl⟩
 |k+1,h=>by
  obtain⟨a,b⟩:=Qs (s:=(gK s k).2) h;obtain⟨c,d⟩:=EW s k a;refine⟨c,?_⟩;show s.1=((gK s k).1++[(Vk (gK s k).2).1]).flatMap Jp++(Vk (gK s k).2).2.1;rw[d,b];simp
theorem xV(s:List Nat×Bool):∀k,(gK s k).1.length=k
 |0=>rfl
 |k+1=>by rw[gK,xb,xV s k];rfl
variable {ns:List Nat}
theorem Qt(h:(Vo ns).left.2=false):ns=(Vo ns).td::(Vo ns).com::(Vo ns).k::((Vo ns).ls.flatMap Mq++((Vo ns).os.length::((Vo ns).os.flatMap Jp++(Uf (Vo ns).rcs++(Vo ns).left.1))))/\(Vo ns).ls.length=(Vo ns).k/\∀x∈(Vo ns).ls,x.gv=0:=by
 unfold Vo at h ⊢;dsimp only at h ⊢;generalize r:Vf (ns,false)=a at *;generalize t:Vf a.2=b at *;generalize u:Vm b.2=c at *;generalize hd:eV c.2 c.1=d at *;generalize v:Vm d.2=e at *;generalize i:gK e.2 e.1=f at *;generalize w:jS f.2=g at *;obtain⟨D,g2⟩:=xX (s:=f.2) (by rw[w];exact h);obtain⟨C,q⟩:=EW e.2 e.1 (by rw[i];exact D);obtain⟨B,p⟩:=DA (s:=d.2) (by rw[v];exact C);obtain⟨A,n⟩:=Nm c.2 c.1 (by rw[hd];exact B);obtain⟨c1,c2⟩:=DA (s:=b.2) (by rw[u];exact A);obtain⟨z,m⟩:=eP (s:=a.2) (by rw[t];exact c1);obtain⟨E,l⟩:=eP (s:=(ns,false)) (by rw[r];exact z);rw[w]at g2;rw[i,g2]at q;rw[v,q]at p;rw[hd,p]at n;rw[u,n]at c2;rw[t,c2]at m;rw[r,m]at l;have y:=xV e.2 e.1;rw[i]at y;have j:=nY c.2 c.1;rw[hd]at j;refine⟨?_,j.1,j.2⟩;rw[y];exact l
theorem Kh{f:Nat->Nat}:∀{E M:List Nat},E.Nodup->(∀x∈E,x∈M)->(E.map f).sum<=(M.map f).sum
 |[],M,_,_=>by simp
 |x::E,M,hn,hs=>by
  have a:=XP.1 hn;have d:=hs x (by simp);have g:=Kh (f:=f) (E:=E) (M:=M.erase x) a.2 (λy b=>(xaV (λe=>a.1 (by rw[<-e];exact b))).2 (hs y (by simp[b])));have c:=((List.perm_cons_erase d).map f).sum_nat;rw[List.map_cons,List.sum_cons]at c ⊢;omega
theorem nI{x:Nat->Nat}{N:Nat}:∀(f n:Nat),(Zy x N f n).Pairwise (λa b=>x a<x b)/\∀i∈Zy x N f n,i<N/\n<x i
 |0,n=>⟨by simp[Zy],λi c=>by simp[Zy]at c⟩
 |f+1,n=>by
  rw[Zy]
  cases g:UD x n N with
  |none=>exact⟨by simp,λi c=>by simp at c⟩
  |some k=>
   obtain⟨j,l⟩:=jJ g;obtain⟨h,d⟩:=nI f (x k);refine⟨Xq.2 ⟨λb e=>(d b e).2,h⟩,λi c=>?_⟩;rcases xx.1 c with rfl|c
   ·exact⟨j,l⟩
   have:=d i c
   exact⟨this.1,by omega⟩
theorem fK{α:Type}(f:α->List Nat):∀l:List α,(l.flatMap f).length=(l.map λx=>(f x).length).sum
 |[]=>rfl
 |x::l=>by rw[XU,xb,fK f l,List.map_cons,List.sum_cons]
theorem CP{os:List O}(D:(UV os).length=(os.flatMap Jp).length)(n:∀o∈os,(cZ o).length=(Jp o).length):(os.map O.id).Nodup:=by
 obtain⟨s,F⟩:=nI (x:=λi=>(os.getD i O0).id) (N:=os.length) (os.length+1) 0;have p:(Zy (λi=>(os.getD i O0).id) os.length (os.length+1) 0).Nodup:=s.imp (λd e=>by rw[e]at d;exact Yf _ d);have z:(UV os).length=((Zy (λi=>(os.getD i O0).id) os.length (os.length+1) 0).map (λi=>(cZ (os.getD i O0)).length)).sum:=by
  unfold UV;rw[fK]
 have A:(os.flatMap Jp).length=((List.range os.length).map (λi=>(cZ (os.getD i O0)).length)).sum:=by
  rw[fK,<-qT (λo=>(Jp o).length) O0 os];congr 1;apply XE;intro i g;exact(n _ (Ik (by simpa using g))).symm
 have c:∀i,i<os.length->i∈Zy (λi=>(os.getD i O0).id) os.length (os.length+1) 0:=λi g=>by
  by_cases v:i∈Zy (λi=>(os.getD i O0).id) os.length (os.length+1) 0
  ·exact v
  exfalso
  have:=Kh (f:=λi=>(cZ (os.getD i O0)).length) (E:=i::Zy (λi=>(os.getD i O0).id) os.length (os.length+1) 0) (M:=List.range os.length) (XP.2 ⟨v,p⟩) (λy r=>by
   rcases xx.1 r with rfl|r
   ·simpa using g
   simpa using (F y r).1)
  rw[List.map_cons,List.sum_cons,<-A,<-D,z]at this;have w:1<=(cZ (os.getD i O0)).length:=by unfold cZ;simp
  omega
 rw[yc,Xz];intro i j g C B e;have h:i<os.length:=by simpa using g
 have k:j<os.length:=by simpa using C
 have G:(os.getD i O0).id=(os.getD j O0).id:=by simpa [Ul,h,k] using e
 obtain⟨a,t,l⟩:=xt (c i h);obtain⟨b,u,m⟩:=xt (c j k);rcases Nat.lt_trichotomy a b with q|q|q
 ·have:=Xz.1 s a b t u q
  rw[l,m]at this;omega
 ·subst q;rw[l]at m;omega
 have:=Xz.1 s b a u t q
 rw[l,m]at this;omega
theorem IY(x:L):(cJ x).length=9+2*x.par.length+(if x.par.length=0 then 1 else 0):=by
 unfold cJ Uf;rw[aG];simp only[xb,List.length_cons,XB,fS,aG];split<;>simp<;>omega
theorem Mr(x:L):(Mq x).length=9+2*x.par.length+(if x.par.length=0 then 1 else 0):=by
 unfold Mq Uf;simp only[xb,List.length_cons,XB,fS];split<;>simp<;>omega
theorem Jo(o:O)(a:(o.li.map Prod.fst).Nodup):(cZ o).length=(Jp o).length:=by
 unfold cZ Jp Uf;simp only[xb,List.length_cons,XB,fS,bR _ (aN a)]
theorem Nr{a b:List Nat}(d:∀n∈a,n<9223372036854775808)(e:∀n∈b,n<9223372036854775808)(h:Pl.toldB a=Pl.toldB b):a=b:=by
 have c:=Pl.nums_told a d;rw[h,Pl.nums_told b e]at c;exact(xq c).symm
theorem FN{x:L}(a:L.Ok x)(e:∀p∈x.par,p.2<=2147483647):∀n∈cJ x,n<=2147483647:=by
 intro n b;have j:=a.sum;have i:=a.place;have k:=a.got;have f:=a.id;have g:=a.gd;have h:=a.ex;have d:=a.par;unfold cJ Uf at b;simp only[xw,xx,XM,YB,YS]at b;rcases b with (b|b)|b
 ·omega
 ·rcases b with b|⟨p,c,b⟩
  ·rw[aG]at b;omega
  rw[iV]at c;have:=d.2 p c;have:=e p c;omega
 split at b
 ·simp at b;omega
 simp at b
structure TD(ns:List Nat)(ls:List L):Prop where
 pl:UG (Vo ns).ls
 bad:(Vo ns).left.2=false
 td:(Vo ns).td<=2147483647
 len:(ZJ ns).length<=30
 nm:NumP (ZJ ns)
 fam:Ug (ZJ ns).length 0 (ZJ ns)=some ls
 bal:Qz ls
 ord:yC ls (Vo ns).os (Vo ns).rcs
structure TF(ns:List Nat)(ls:List L):Prop where
 ok:∀l∈ls,L.Ok l
 len:ls.length<=30
 fam:Fam ls
 rc:Rc (Vo ns).rcs
 li:∀o∈(Vo ns).os,o.li.length<=30
 small:∀n∈UU (Vo ns).td (Vo ns).os (Vo ns).rcs ls,n<=2147483647
 ris:∀l∈ls,zY l.par=l.par
theorem gA(h:TD ns ls):TF ns ls/\((∀n∈ns,n<9223372036854775808)->(Vo ns).left.1=[]->∀b,b=13::Pl.toldB ns->US (Vo ns).td (Vo ns).os (Vo ns).rcs ls=b->zH b=some ((Vo ns).td,ls,UF (Vo ns).os,(Vo ns).rcs)):=by
 obtain⟨d2,d0,c8⟩:=Qt h.bad;obtain⟨a8,S⟩:=CY h.pl (Vo ns).ls.length (xc _);have G:=h.fam;have F:=h.nm;have d4:=h.len;have b6:ZJ ns=UH (Vo ns).ls (Vo ns).ls.length:=rfl;rw[<-b6]at a8 S;have b0:∀i,i<(ZJ ns).length->((ZJ ns).getD i L0).gv=0:=λi c=>c8 _ (S i (by omega)).1
 have t:∀i,i<(ZJ ns).length->((ZJ ns).getD i L0).place=i+1:=λi c=>(S i (by omega)).2
 have b7:(ZJ ns).length=(Vo ns).k:=by rw[a8,d0]
 have a7:(ZJ ns).Perm (Vo ns).ls:=by
  have e5:(ZJ ns).Nodup:=by
   rw[yc,Xz];intro i j c z e3 e;have a1:=t i c;have a2:=t j z;have e1:(ZJ ns).getD i L0=(ZJ ns)[i]:=by simp[Ul,c]
   have e2:(ZJ ns).getD j L0=(ZJ ns)[j]:=by simp[Ul,z]
   rw[e1,e]at a1;rw[e2]at a2;omega
  have e0:∀x∈ZJ ns,x∈(Vo ns).ls:=λx B=>by
   obtain⟨i,c,rfl⟩:=xt B;have e1:(ZJ ns).getD i L0=(ZJ ns)[i]:=by simp[Ul,c]
   rw[<-e1];exact(S i (by omega)).1
  have u:(Vo ns).ls.Perm (ZJ ns):=by
   have:∀(l:List L) (N:Nat),(l.filter (λx=>decide (1<=x.place/\x.place<=N))).Perm (UH l N):=λl N=>by
    induction N with
    |zero=>
     have:l.filter (λx=>decide (1<=x.place/\x.place<=0))=[]:=by
      rw[List.filter_eq_nil_iff];intro x _;simp;omega
     rw[this];exact YT _
    |succ N ih=>
     have e:UH l (N+1)=UH l N++l.filter (λx=>x.place==N+1):=by unfold UH;rw[Yz,Yo];simp
     rw[e];refine List.Perm.trans ?_ (ih.append_right _)
     clear ih e;induction l with
     |nil=>exact YT _
     |cons x l ih=>
      rw[Yd,Yd,Yd];by_cases K:x.place=N+1
      ·rw[xd (by simp;omega),xe (by simp;omega),xd (by simp[K])];exact(ih.cons x).trans List.perm_middle.symm
      by_cases h2:1<=x.place/\x.place<=N
      ·rw[xd (by simp;omega),xd (by simpa using h2),xe (by simp;omega)];exact ih.cons x
      rw[xe (by simp;omega),xe (by simpa using h2),xe (by simp;omega)];exact ih
   have K:=this (Vo ns).ls (Vo ns).ls.length;have h2:((Vo ns).ls.filter (λx=>decide (1<=x.place/\x.place<=(Vo ns).ls.length))).length=(Vo ns).ls.length:=by rw[K.length_eq];exact a8
   have h3:(Vo ns).ls.filter (λx=>decide (1<=x.place/\x.place<=(Vo ns).ls.length))=(Vo ns).ls:=xaZ.2 (List.length_filter_eq_length_iff.1 h2);rw[h3]at K;exact K
  exact u.symm
 have P:∀i j,i<(ZJ ns).length->j<(ZJ ns).length->((ZJ ns).getD i L0).id=((ZJ ns).getD j L0).id->i=j:=λi j c z e=>by
  have a:=(F i c).2.2.2.2.2.2.2.2;have b:=(F j z).2.2.2.2.2.2.2.2;rw[e]at a;omega
 have d6:wy (ZJ ns) 0=ZJ ns:=by
  unfold wy wq;have:(ZJ ns).map (λx=>({ x with gv:=Up ((ZJ ns).take 0) x.id,got:=if x.place<=0 then tP x else x.got }:L))=(ZJ ns).map id:=by
   apply XE
   intro x B;obtain⟨j,z,rfl⟩:=xt B;have e:(ZJ ns).getD j L0=(ZJ ns)[j]:=by simp[Ul,z]
   have r:=t j z;have hg:=b0 j z;rw[e]at r hg;rw[xe (by omega)];generalize (ZJ ns)[j]=y at hg
   cases y;simp only at hg
   subst hg;rfl
  rw[this,xau]
 obtain⟨f1,f2⟩:=Hz (ls:=ZJ ns) P t (ZJ ns).length 0 (by omega);rw[d6]at f1 f2;have T:∀j,0<=j->j<(ZJ ns).length->Tp (ZJ ns) j:=by
  by_cases hc:∀j,0<=j->j<(ZJ ns).length->Tp (ZJ ns) j
  ·exact hc
  rw[f2 hc]at G;cases G
 rw[f1 T]at G;have R:ls=wy (ZJ ns) (ZJ ns).length:=(xq G).symm;have H:ls.length=(ZJ ns).length:=by rw[R];unfold wy;rw[jV]
 have f:∀i,i<ls.length->ls.getD i L0={ (ZJ ns).getD i L0 with gv:=Up (ZJ ns) ((ZJ ns).getD i L0).id,got:=tP ((ZJ ns).getD i L0) }:=λi c=>by
  rw[R];unfold wy;rw[mI _ _ (by omega),Xa,xd (by rw[t i (by omega)];omega)]
 have w:∀n,Ur n ls=Ur n (ZJ ns):=λn=>by rw[R];unfold wy;rw[EZ]
 have X:∀n,(zd ls n).gd=(zd (ZJ ns) n).gd/\(zd ls n).place=(zd (ZJ ns) n).place/\(zd ls n).ex=(zd (ZJ ns) n).ex:=λn=>by
  unfold zd;rw[w];rcases YD (Ur n (ZJ ns)) ls.length with q|q
  ·rw[f _ q];exact⟨rfl,rfl,rfl⟩
  have z1:ls.getD (Ur n (ZJ ns)) L0=L0:=by rw[Ul,Xo (by omega)];rfl
  have z2:(ZJ ns).getD (Ur n (ZJ ns)) L0=L0:=by rw[Ul,Xo (by omega)];rfl
  rw[z1,z2];exact⟨rfl,rfl,rfl⟩
 have b1:∀n,Up ls n=Up (ZJ ns) n:=λn=>by
  rw[R];unfold wy wq Up;rw[Ya];rfl
 have M:∀i j,i<ls.length->j<ls.length->(ls.getD i L0).id=(ls.getD j L0).id->i=j:=λi j c z e=>by
  rw[f i c,f j z]at e;exact P i j (by omega) (by omega) e
 have u:∀i,i<ls.length->(ls.getD i L0).place=i+1:=λi c=>by rw[f i c];exact t i (by omega)
 have C:∀n,Ur n ls<ls.length->n<=2147483647/\1<=n:=λn g=>by
  have e:=Z6 g;have hq:=(F (Ur n ls) (by omega)).1;rw[f _ g]at e;have e':((ZJ ns).getD (Ur n ls) L0).id=n:=e;rw[e']at hq;exact⟨hq.2,hq.1⟩
 have s:∀i,i<ls.length->(ls.getD i L0).par=((ZJ ns).getD i L0).par:=λi c=>by rw[f i c]
 have hF:∀i,i<ls.length->Tp (ZJ ns) i:=λi c=>T i (Nat.zero_le _) (by omega)
 have b4:∀i,i<ls.length->L.Ok (ls.getD i L0):=λi c=>by
  have g:=F i (by omega);have hb:=h.bal i c;have r:=u i c;refine⟨?_,?_,?_,by omega,by omega,hb.1,by rw[s i c];exact(hF i c).len,λp hq=>?_⟩
  ·rw[f i c];exact g.1.2
  ·rw[f i c];exact g.2.1.2
  ·rw[f i c];exact g.2.2.1
  rw[s i c]at hq;have:=((hF i c).fam p hq).1;exact(C p.1 (by rw[w,H];exact this)).1
 have Z:∀l∈ls,L.Ok l:=λl hl=>by
  obtain⟨j,z,rfl⟩:=xt hl;have e:ls.getD j L0=ls[j]:=by simp[Ul,z]
  rw[<-e];exact b4 j z
 have d:=h.ord;have v:∀o∈(Vo ns).os,(o.li.map Prod.fst).Nodup:=λo A=>nU (d.ord o A).ris
 have a0:∀i,i<ls.length->∀p∈(ls.getD i L0).par,p.2<=2147483647:=λi c p r=>by
  rw[s i c]at r;exact((hF i c).fam p r).2.1
 have J:∀o∈(Vo ns).os,o.li.length<=30:=λo A=>by
  have:=dS (l:=o.li.map Prod.fst) (m:=ls.map L.id) (v o A) (λx B=>by
   obtain⟨p,r,rfl⟩:=Xg.1 B;have c:=((d.ord o A).line p r).1;rw[<-Z6 c];exact Xd (zg c))
  rw[Xl,Xl]at this;omega
 have Q:∀n∈UU (Vo ns).td (Vo ns).os (Vo ns).rcs ls,n<=2147483647:=λn g=>by
  have e6:=h.td;have d7:=d.olen;have d8:=d.rlen;have D:(Vo ns).rcs.Nodup:=d.up.imp (λh e=>by rw[e]at h;exact gI _ h);unfold UU at g;simp only[xw,xx,XM,YB]at g;rcases g with (((g|g)|g)|g)|g
  ·omega
  ·unfold UT at g;obtain⟨i,c,g⟩:=YS.1 g;have E:=((nI (x:=λi=>(ls.getD i L0).id) (N:=ls.length) (ls.length+1) 0).2 i c).1;have:=FN (b4 i E) (a0 i E) n g;omega
  ·omega
  ·unfold UV at g;obtain⟨i,c,g⟩:=YS.1 g;have E:=((nI (x:=λi=>((Vo ns).os.getD i O0).id) (N:=(Vo ns).os.length) ((Vo ns).os.length+1) 0).2 i c).1;have A:=d.ord _ (Ik E);have e4:=J _ (Ik E);unfold cZ Uf at g;simp only[xw,xx,XM,YB,YS]at g;rcases g with g|g
   ·have:=A.id;have:=A.gd;omega
   rcases g with g|⟨p,r,g⟩
   ·rw[bR _ (aN (v _ (Ik E)))]at g;omega
   rw[(ZL (aN (v _ (Ik E)))).2]at r;have B:=A.line p r;have:=(C p.1 B.1).1;omega
  unfold Uf at g;simp only[xx,YS,XM,YB]at g;rcases g with g|⟨p,r,g⟩
  ·rw[bR _ D]at g;omega
  rw[(ZL D).2]at r;have B:=d.rc p r;have:=(C p.1 B.1).1;omega
 have D:(Vo ns).rcs.Nodup:=d.up.imp (λh e=>by rw[e]at h;exact gI _ h);have b8:Rc (Vo ns).rcs:=⟨D,d.rlen,λp r=>⟨(C p.1 (d.rc p r).1).1,(d.rc p r).2.2⟩⟩
 have a3:∀l∈ls,zY l.par=l.par:=λl hl=>by
  obtain⟨j,z,rfl⟩:=xt hl;have e:ls.getD j L0=ls[j]:=by simp[Ul,z]
  have hr:=(hF j z).ris;rw[<-s j z,e]at hr;exact iW hr
 have d3:∀i,i<ls.length->∀p∈(ls.getD i L0).par,∃j,j<i/\(ls.getD j L0).id=p.1:=λi c p r=>by
  rw[s i c]at r;obtain⟨k1,_,k2,k3⟩:=(hF i c).fam p r;have hk:Ur p.1 ls<ls.length:=by rw[w,H];exact k1
  refine⟨Ur p.1 ls,?_,Z6 hk⟩;unfold zd at k3;rw[t _ k1,t i (by omega)]at k3;rw[w];omega
 refine⟨⟨Z,by omega,⟨M,d3⟩,b8,J,Q,a3⟩,λd5 a5 b b3 c5=>?_⟩;have c7:UU (Vo ns).td (Vo ns).os (Vo ns).rcs ls=ns:=by
  apply Nr (λn g=>by have:=Q n g;omega) d5
  have K:=c5;rw[b3]at K;unfold US at K;exact(xaS K).2
 have d9:(UT ls).length=((Vo ns).ls.flatMap Mq).length:=by
  have r:=tZ M (λi c=>by rw[f i c];exact(F i (by omega)).1.1);rw[Bq,fK,fK,(r.map (λx=>(cJ x).length)).sum_nat,<-(a7.map (λx=>(Mq x).length)).sum_nat];congr 1;apply yn (by simp[H]);intro i K h2;have c:i<ls.length:=by simpa using K
  have c9:i<(ZJ ns).length:=by omega
  have e1:ls.getD i L0=ls[i]:=by simp[Ul,c]
  have e2:(ZJ ns).getD i L0=(ZJ ns)[i]:=by simp[Ul,c9]
  have b5:=s i c;rw[e1,e2]at b5;simp only[xaN];rw[IY,Mr,b5]
 have c6:(UV (Vo ns).os).length=((Vo ns).os.flatMap Jp).length:=by
  have e:=YA List.length c7;conv at e=>rhs;rw[d2]
  unfold UU at e;rw[a5]at e;simp only[xb,List.length_cons,XB,Uf,fS,bR _ D]at e;omega
 have a6:=CP c6 (λo A=>Jo o (v o A));have a4:Good (Vo ns).os ls:=⟨M,u,a6,λo A=>(d.ord o A).id.2,d.olen,v,λo A p r=>⟨Ur p.1 ls,((d.ord o A).line p r).1,Z6 ((d.ord o A).line p r).1⟩,λi c=>(d.hd i c).symm⟩
 have a9:∀l∈ZJ ns,l.ex<=2147483647:=λl hl=>by
  obtain⟨j,z,rfl⟩:=xt hl;have e:(ZJ ns).getD j L0=(ZJ ns)[j]:=by simp[Ul,z]
  rw[<-e];exact(F j z).2.2.1
 have d1:∀ps,UB ls ps=UB (ZJ ns) ps:=λps=>by
  unfold UB;congr 1;funext e p;rw[(X p.1).2.2]
 have b9:Snd (Vo ns).os (Vo ns).rcs ls:=by
  refine⟨λi c=>?_,λi c p r=>?_,λi c r=>?_,λi c=>?_,λo A=>?_,λp r=>?_⟩
  ·have g:=F i (by omega);have hb:=h.bal i c;refine⟨by rw[f i c];exact g.1.1,by rw[f i c];exact g.2.1.1,hb.2.2.1,hb.2.2.2,by rw[s i c];exact nU (hF i c).ris,a0 i c,?_⟩;rw[s i c];by_cases h0:((ZJ ns).getD i L0).par=[]
   ·exact Or.inl h0
   refine Or.inr ?_
   rw[f i c];show tP _=_;unfold tP;rw[xe (λe=>h0 (Xn.1 e))]
  ·rw[s i c]at r;obtain⟨k1,_,k2,k3⟩:=(hF i c).fam p r;have hk:Ur p.1 ls<ls.length:=by rw[w,H];exact k1
   refine⟨Ur p.1 ls,?_,Z6 hk,?_⟩
   ·unfold zd at k3;rw[t _ k1,t i (by omega)]at k3;rw[w];omega
   have:=(X p.1).1
   unfold zd at this;rw[this,f i c];exact k2
  ·rw[s i c]at r ⊢;rw[d1,<-Hu _ a9 r (λp hq=>((hF i c).fam p hq).1),(hF i c).exp r,f i c]
  ·rw[b1,f i c]
  ·have B:=d.ord o A;exact⟨B.gd.1,B.ne,λp r=>⟨(B.line p r).2.1.1,(B.line p r).2.2⟩⟩
  have B:=d.rc p r;exact⟨(C p.1 B.1).2,B.2.1,B.1⟩
 have W:=Gv h.td Z (by omega) a4 b9 b8 (λo A=>⟨(d.ord o A).id.1,(d.ord o A).gd.2⟩);have b2:ls.map kap=ls:=by
  have:ls.map kap=ls.map id:=XE (λl hl=>by
   unfold kap;rw[a3 l hl];rfl)
  rw[this,xau]
 rw[c5,b2,gY d.up]at W;exact W
def bare(l:L):L:={ l with got:=0,gv:=0 }
variable {B N i:Nat}
theorem DJ{x:L}(h:bare x=bare (ls.getD i L0)):(ls.set i x).map bare=ls.map bare:=by
 apply yn (by simp)
 intro j b a;simp only[xaN,List.getElem_set];by_cases e:i=j
 ·subst e;rw[xd rfl,h];simp at a;simp[Ul,a]
 rw[xe e]
theorem vB(h:ls.map bare=ms.map bare)(i:Nat):bare (ls.getD i L0)=bare (ms.getD i L0):=by
 have e:=YA (λl=>l.getD i (bare L0)) h;have q:∀l:List L,(l.map bare).getD i (bare L0)=bare (l.getD i L0):=λl=>by
  rcases YD i l.length with a|a
  ·simp[Ul,a]
  rw[Ul,Ul,Xo (by simpa using a),Xo a];rfl
 simp only[q]at e;exact e
theorem nE(h:ls.map bare=ms.map bare):ls.length=ms.length:=by simpa using YA List.length h
theorem kK{a b:L}(h:bare a=bare b):a.id=b.id/\a.gd=b.gd/\a.ex=b.ex/\a.place=b.place/\a.free=b.free/\a.hd=b.hd/\a.sh=b.sh/\a.sc=b.sc/\a.par=b.par:=by
 cases a;cases b
 simp only[bare,L.mk.injEq]at h;simp_all
theorem Lm(h:ls.map bare=ms.map bare)(n:Nat):Ur n ls=Ur n ms:=by
 have q:∀l:List L,Ur n (l.map bare)=Ur n l:=λl=>by
  unfold Ur;rw[xam];rfl
 rw[<-q ls,h,q ms]
theorem Ln(h:ls.map bare=ms.map bare){x:L}(c:x∈ls):∃m∈ms,bare x=bare m:=by
 obtain⟨i,b,rfl⟩:=xt c;have d:=nE h;have e:=vB h i;have a:ls.getD i L0=ls[i]:=by simp[Ul,b]
 rw[a]at e;exact⟨_,zg (by omega),e⟩
theorem NumP.mem(h:NumP ls){x:L}(c:x∈ls):x.ex<=2147483647/\x.free<=2147483647/\x.hd<=2147483647/\x.sh<=2147483647/\x.sc<=2147483647:=by
 obtain⟨i,a,rfl⟩:=xt c;have b:ls.getD i L0=ls[i]:=by simp[Ul,a]
 have:=h i a
 rw[b]at this;exact⟨this.2.2.1,this.2.2.2.1,this.2.2.2.2.1,this.2.2.2.2.2.1,this.2.2.2.2.2.2.1⟩
theorem DX(l:L):∀(ps:List (Nat×Nat)) (u g:Nat) (ls:List L) (r:List L×Nat×Nat),Uh l ps u g ls=some r->r.1.map bare=ls.map bare/\(∀M,(∀x∈ls,x.gv<=M)->∀x∈r.1,x.gv<=M+ps.length*2147483647)/\(∀B,(∀x∈ls,x.got<B)->∀x∈r.1,x.got<B)/\r.2.2<=g+ps.length*2147483647
 |[],u,g,ls,r,h=>by
  simp only[Uh,Xj]at h;subst h;exact⟨rfl,λM h x a=>xj (h x a) (Nat.le_add_right _ _),λB h=>h,by simp⟩
 |p::ps,u,g,ls,r,h=>by
  rw[Uh]at h;split at h
  ·next b=>
   obtain⟨i,j,k,m⟩:=DX l ps _ _ _ r h;have f:=zg b.1;refine⟨i.trans (DJ rfl),λM e x a=>?_,λB d=>k B (λx a=>?_),?_⟩
   ·have:=j (M+p.2) (λy c=>by
     rcases Xy c with c|rfl
     ·have:=e y c;omega
     have:=e _ f;simp only[Un];omega) x a
    have:=b.2.1
    simp only[List.length_cons];omega
   ·rcases Xy a with a|rfl
    ·exact d x a
    have:=d _ f;exact this
   have:=b.2.1
   simp only[List.length_cons];omega
  cases h
theorem LP{ls':List L}(q:i<ls.length)(h:Ui ls i=some ls'):ls'.map bare=ls.map bare/\(∀M,(∀x∈ls,x.gv<=M)->∀x∈ls',x.gv<=M+4294967294)/\((∀x∈ls,x.got<9223372036854775808)->∀x∈ls',x.got<9223372036854775808):=by
 unfold Ui at h;split at h
 ·next m=>
  cases e:Uh (ls.getD i L0) (ls.getD i L0).par 2147483648 0 ls with
  |none=>rw[e]at h;cases h
  |some r=>
   rw[e]at h;simp only[xi]at h;obtain⟨c,k,f,p⟩:=DX _ _ _ _ _ _ e;have g:=m.1;have d:∀M,(∀x∈ls,x.gv<=M)->∀x∈r.1,x.gv<=M+4294967294:=λM b x a=>by
    have:=k M b x a
    have:(ls.getD i L0).par.length*2147483647<=2*2147483647:=xaj _ g
    omega
   have j:=nE c;split at h
   ·cases h;exact⟨c,d,f _⟩
   split at h
   ·cases h;have n:r.1.getD i L0∈r.1:=zg (by omega)
    refine⟨(DJ (ls:=r.1) (i:=i) (by rfl)).trans c,λM b x a=>?_,λl x a=>?_⟩
    ·rcases Xy a with a|rfl
     ·exact d M b x a
     have:=d M b _ n;exact this
    rcases Xy a with a|rfl
    ·exact f _ l x a
    have:(ls.getD i L0).par.length*2147483647<=2*2147483647:=xaj _ g
    show r.2.2<_;omega
   cases h
 cases h
structure FmI(l0:List L)(R:Option (List L))(i:Nat)(ls:List L):Prop where
 le:i<=l0.length
 fin:Ug (l0.length-i) i ls=R
 bare:ls.map bare=l0.map bare
 gvn:∀x∈ls,x.gv<=i*4294967294
 got:∀x∈ls,x.got<9223372036854775808
variable {R:Option (List L)}
theorem FmI.step{ls':List L}(h:FmI l0 R i ls)(f:i<l0.length)(a:Ui ls i=some ls'):FmI l0 R (i+1) ls':=by
 have j:=nE h.bare;obtain⟨b,c,d⟩:=LP (by omega) a;refine⟨f,?_,b.trans h.bare,λx g=>?_,d h.got⟩
 ·have:=h.fin
  have e:l0.length-i=(l0.length-(i+1))+1:=by omega
  rw[e,Ug,a]at this;exact this
 have:=c _ h.gvn x g
 omega
theorem FmI.none{a ls:List L}{R:Option (List L)}{i:Nat}(h:FmI a R i ls)(c:i<a.length)(b:Ui ls i=none):R=none:=by
 have:=h.fin
 have e:a.length-i=(a.length-(i+1))+1:=by omega
 rw[e,Ug,b]at this;exact this.symm
theorem FmI.done(h:FmI l0 R l0.length ls):R=some ls:=by
 have:=h.fin
 rw[YL,Ug]at this;exact this.symm
theorem KM(h:∀n∈s.1,n<B)(b:0<B)(f:s.1.length<=N):(jS s).1.length<=N/\∀p∈(jS s).1,p.1<B/\p.2<B:=by
 obtain⟨c1,c2,c3⟩:=gT h b f;have g:∀k,∀p∈(Vl (Vm s).2 k).1,p.1<B/\p.2<B:=λk=>by
  induction k with
  |zero=>intro p a;cases a
  |succ k ih=>
   intro p a;obtain⟨d,i⟩:=rH c2 b c3 k;have c:=Ze d b;have e:=Ze c.2 b;rcases xw.1 a with a|a
   ·exact ih p a
   simp only[Xp]at a;subst a;exact⟨c.1,e.1⟩
 exact⟨by unfold jS;rw[lN];exact c1,g _⟩
theorem KK{s:List Nat×Bool}{B N:Nat}(h:∀n∈s.1,n<B)(b:0<B)(e:s.1.length<=N):∀k,∀o∈(gK s k).1,o.id<B/\o.gd<B/\o.li.length<=N/\∀p∈o.li,p.1<B/\p.2<B
 |0,o,a=>by cases a
 |k+1,o,a=>by
  rcases xw.1 a with a|a
  ·exact KK h b e k o a
  simp only[Xp]at a;subst a;obtain⟨g,i⟩:=xW h b e k;have c:=Ze g b;have d:=Ze c.2 b;have j:=ZZ (gK s k).2;have l:=ZZ (Vf (gK s k).2).2;obtain⟨f,g2⟩:=KM d.2 b (show(Vf (Vf (gK s k).2).2).2.1.length<=N by omega);exact⟨c.1,d.1,f,g2⟩
theorem KJ{s:List Nat×Bool}{B N:Nat}(h:∀n∈s.1,n<B)(b:0<B)(c:s.1.length<=N):∀k,∀x∈(eV s k).1,x.par.length<=N/\∀p∈x.par,p.1<B/\p.2<B
 |0,o,a=>by cases a
 |k+1,o,a=>by
  rcases xw.1 a with a|a
  ·exact KJ h b c k o a
  simp only[Xp]at a;subst a;obtain⟨d,e⟩:=Dz h b c k;have:=KG d b e;exact this.2.2.2
structure Ta(ns:List Nat):Prop where
 ls:∀x∈(Vo ns).ls,x.par.length<=4194304/\∀p∈x.par,p.1<9223372036854775808/\p.2<9223372036854775808
 ll:(Vo ns).ls.length<=4194304
 os:∀o∈(Vo ns).os,o.id<9223372036854775808/\o.gd<9223372036854775808/\o.li.length<=4194304/\∀p∈o.li,p.1<9223372036854775808/\p.2<9223372036854775808
 ol:(Vo ns).os.length<=4194304
 rc:(Vo ns).rcs.length<=4194304/\∀p∈(Vo ns).rcs,p.1<9223372036854775808/\p.2<9223372036854775808
 td:(Vo ns).td<9223372036854775808
 gz:∀x∈(Vo ns).ls,x.gv=0
theorem Sd(h:∀n∈ns,n<9223372036854775808)(k:ns.length<=4194304):Ta ns:=by
 have g:0<9223372036854775808:=by omega
 obtain⟨B,i⟩:∃B,B=9223372036854775808:=⟨_,rfl⟩
 obtain⟨N,j⟩:∃N,N=4194304:=⟨_,rfl⟩
 rw[<-i]at g h;rw[<-j]at k;have a:=Ze (s:=(ns,false)) h g;have l:(Vf (ns,false)).2.1.length<=N:=xj (ZZ (ns,false)) k;have b:=Ze a.2 g;have m:(Vf (Vf (ns,false)).2).2.1.length<=N:=xj (ZZ _) l;have c:=gT b.2 g m;have d:=Dz c.2.1 g c.2.2 (Vm (Vf (Vf (ns,false)).2).2).1;have e:=gT d.1 g d.2;have f:=xW e.2.1 g e.2.2 (Vm (eV (Vm (Vf (Vf (ns,false)).2).2).2 (Vm (Vf (Vf (ns,false)).2).2).1).2).1;have p:=KJ c.2.1 g c.2.2 (Vm (Vf (Vf (ns,false)).2).2).1;have g2:=KK e.2.1 g e.2.2 (Vm (eV (Vm (Vf (Vf (ns,false)).2).2).2 (Vm (Vf (Vf (ns,false)).2).2).1).2).1;have q:=KM f.1 g f.2;have r:=xj (Nat.le_of_eq (nY (Vm (Vf (Vf (ns,false)).2).2).2 (Vm (Vf (Vf (ns,false)).2).2).1).1) c.1;have t:=xj (Nat.le_of_eq (xV (Vm (eV (Vm (Vf (Vf (ns,false)).2).2).2 (Vm (Vf (Vf (ns,false)).2).2).1).2).2 (Vm (eV (Vm (Vf (Vf (ns,false)).2).2).2 (Vm (Vf (Vf (ns,false)).2).2).1).2).1)) e.1;have u:=(nY (Vm (Vf (Vf (ns,false)).2).2).2 (Vm (Vf (Vf (ns,false)).2).2).1).2;subst i j;exact⟨p,r,g2,t,q,a.1,u⟩
theorem EP{t:List UInt8}(m:Pl.nums t=some ns){td:Nat}{ls:List L}{os:List O}{rcs:List (Nat×Nat)}(h:zH (13::t)=some (td,ls,os,rcs)):TD ns ls/\(Vo ns).left.1=[]/\(Vo ns).com=(Vo ns).k/\US td os rcs ls=13::t/\(Vo ns).td=td/\(Vo ns).os=os/\(Vo ns).rcs=rcs/\Tu td os rcs ls:=by
 obtain⟨a,b,c,d,j⟩:=rD h;have e:ns=UU td os rcs ls:=by
  have p:=a.num;have l:TD (UU td os rcs ls) ls:=⟨a.pl,a.bad,a.td,a.len,a.nm,a.fam,a.bal,a.ord⟩
  have i:=(gA l).1.small;rw[b,c,d]at i;have g:=Pl.nums_told (UU td os rcs ls) (λn f=>YX (i n f) (by omega));rw[<-(xaS p).2,m]at g;exact xq g
 subst e;exact⟨⟨a.pl,a.bad,a.td,a.len,a.nm,a.fam,a.bal,a.ord⟩,a.left,a.com,by have:=a.st;rw[b,c,d]at this;exact this,b,c,d,j⟩
