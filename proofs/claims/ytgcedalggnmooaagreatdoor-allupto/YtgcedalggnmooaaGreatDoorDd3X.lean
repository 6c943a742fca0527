import Derived.Test.YtgcedalggnmooaaGreatDoorRiX
import Derived.Test.YtgcedalggnmooaaGreatDoorOy0X
set_option linter.all false
set_option maxRecDepth 100000
set_option maxHeartbeats 6400000
namespace Go.Proofs.YtgcedalggnmooaaGreatDoor
open Tryz
def ZF(ns:List Nat):List L:=WC (Xn ns).ls (Xn ns).ls.length
structure Vq(b:List UInt8)(ns:List Nat)(ls:List L):Prop where
 num:b=13::Pl.toldB ns
 pl:WB (Xn ns).ls
 bad:(Xn ns).left.2=false
 left:(Xn ns).left.1=[]
 com:(Xn ns).com=(Xn ns).k
 td:(Xn ns).td<=2147483647
 len:(ZF ns).length<=30
 nm:NumP (ZF ns)
 fam:VX (ZF ns).length 0 (ZF ns)=some ls
 bal:Sc ls
 ord:yO ls (Xn ns).os (Xn ns).rj
 st:WO (Xn ns).td (Xn ns).os (Xn ns).rj ls=b
def eW(ls:List L)(i:Nat)(a:i<ls.length):(ls.map WE).getD i L0=WE (ls.getD i L0):=by simp[Wc,a]
def xP(ls:List L)(n:Nat):Wj n (ls.map WE)=Wj n ls:=by
 unfold Wj;rw[xaP];rfl
variable {l0 ls ms:List L}
def rK{n:Nat}(h:Wj n ls<ls.length):zi (ls.map WE) n=WE (zi ls n):=by
 unfold zi;rw[xP,eW _ _ h]
def IV(ls:List L)(a:∀l∈ls,l.ex<=2147483647){ps:List (Nat×Nat)}(c:ps≠[])(b:∀p∈ps,Wj p.1 ls<ls.length):VR ls ps 2147483648=Wv ls ps:=by
 cases ps with
 |nil=>exact absurd rfl c
 |cons p ps=>
  unfold VR Wv;rw[YA,YA];have:(zi ls p.1).ex<=2147483647:=a _ (zf (b p (by simp)));congr 1;omega
def NP(o:O)(a:(o.li.map Prod.fst).Nodup):bV (WL o)=bV o:=by
 unfold bV WL;dsimp only;rw[iH (oL (oM a))]
def rT{b:List UInt8}{td:Nat}{os:List O}{rj:List (Nat×Nat)}(h:zE b=some (td,ls,os,rj)):Vq b (WS td os rj ls) ls/\(Xn (WS td os rj ls)).td=td/\(Xn (WS td os rj ls)).os=os/\(Xn (WS td os rj ls)).rj=rj/\Vf td os rj ls:=by
 obtain⟨hN,hb⟩:=lV h;have a:=hN.good;have T:∀i,i<ls.length->1<=(ls.getD i L0).id:=λi c=>(hN.snd.one i c).id
 have B:∀o∈os,1<=o.id:=λo r=>(hN.sml.ord o r).1
 have v:=uN a.ids T;have z:∀i,i<ls.length->Ris (ls.getD i L0).par:=λi c=>by
  have e:(ls.map kap).getD i L0=ls.getD i L0:=by rw[hN.kap]
  rw[JJ]at e;have e2:zT (ls.getD i L0).par=(ls.getD i L0).par:=YK L.par e;rw[<-e2];exact Ft (hN.ok _ (zf c)).par.1 (hN.snd.one i c).keys
 have X:∀x∈ls,Ris x.par:=λx A=>by
  obtain⟨i,c,rfl⟩:=xw A;have e:ls.getD i L0=ls[i]:=by simp[Wc,c]
  rw[<-e];exact z i c
 have W:∀o∈os,Ris o.li:=λo r=>by
  rw[<-hN.os]at r;obtain⟨x,A,rfl⟩:=(QY a.oids B).1 r;exact oM (a.keys x A)
 have a4:WT os=os.flatMap bV:=by
  conv=>rhs;rw[<-hN.os]
  unfold WA WT;rw[xaQ];obtain⟨_,q2⟩:=Zf (x:=λi=>(os.getD i O0).id) (eS a.oids) (os.length+1) 0 (by have:=bK (λi=>(os.getD i O0).id) 0 os.length;omega);have:∀(N:List Nat),(∀i∈N,i<os.length)->N.flatMap (λi=>bV (os.getD i O0))=N.flatMap (λi=>bV (WL (os.getD i O0))):=λN=>by
   induction N with
   |nil=>intro _;rfl
   |cons i N ih=>
    intro E;rw[yb,yb,ih (λj d=>E j (by simp[d])),NP _ (a.keys _ (CO (E i (by simp))))]
  exact this _ (λi c=>((q2 i).1 c).1)
 have g:=OM (td:=td) (os:=os) (rj:=rj) (ls:=ls) (by rw[v.length_eq]) (λx A=>X x (v.mem_iff.1 A)) a4 W hN.rj;have a3:ls.Nodup:=by
  rw[yt,XX];intro i j c d a7 e;have:=a.ids i j c d (by simp[Wc,c,d,e]);omega
 obtain⟨p1,p2⟩:=Oa (v.map WE) a3 a.place;have u:ZF (WS td os rj ls)=ls.map WE:=by unfold ZF;rw[g];exact p2
 have t:(ls.map WE).length=ls.length:=List.length_map ..;have F:∀i j,i<(ls.map WE).length->j<(ls.map WE).length->((ls.map WE).getD i L0).id=((ls.map WE).getD j L0).id->i=j:=λi j c d e=>by
  rw[t]at c d;rw[eW _ _ c,eW _ _ d]at e;exact a.ids i j c d e
 have C:∀i,i<(ls.map WE).length->((ls.map WE).getD i L0).place=i+1:=λi c=>by
  rw[t]at c;rw[eW _ _ c];exact a.place i c
 have G:∀j,j<ls.length->Wj (ls.getD j L0).id ls=j:=λj d=>fV d (λk hk e=>by have:=a.ids k j (by omega) d e;omega) rfl
 have Q:∀l∈ls,l.ex<=2147483647:=λl hl=>(hN.ok l hl).ex
 have R:∀l∈ls.map WE,l.ex<=2147483647:=λl hl=>by
  obtain⟨x,A,rfl⟩:=Xz.1 hl;exact Q x A
 have a6:wy (ls.map WE) 0=ls.map WE:=by
  unfold wy wq;have:(ls.map WE).map (λx=>({ x with gv:=Wh ((ls.map WE).take 0) x.id,got:=if x.place<=0 then uE x else x.got }:L))=(ls.map WE).map id:=by
   apply ye
   intro x A;obtain⟨j,d,rfl⟩:=xw A;have a1:j<ls.length:=by simpa using d
   have m:=C j d;have e:(ls.map WE).getD j L0=(ls.map WE)[j]:=by simp[Wc,a1]
   rw[e]at m;rw[xg (by omega)];have K:((ls.map WE)[j]).gv=0:=by simp[WE]
   generalize (ls.map WE)[j]=y at K
   cases y;simp only at K
   subst K;rfl
  rw[this,xba]
 have P:∀j,0<=j->j<(ls.map WE).length->UZ (ls.map WE) j:=λj _ d=>by
  rw[t]at d;have w:((ls.map WE).getD j L0).par=(ls.getD j L0).par:=by rw[eW _ _ d];rfl
  have D:∀p∈(ls.getD j L0).par,oQ (ls.map WE) ((ls.map WE).getD j L0) p:=λp m=>by
   obtain⟨k,k1,k2,k3⟩:=hN.snd.fam j d p m;have hk:Wj p.1 ls=k:=by rw[<-k2];exact G k (by omega)
   have H:Wj p.1 ls<ls.length:=by omega
   refine⟨by rw[xP,t];exact H,(hN.snd.one j d).small p m,?_,?_⟩
   ·rw[rK H,eW _ _ d];show(ls.getD (Wj p.1 ls) L0).gd=_;rw[hk];exact k3
   rw[rK H,eW _ _ d];show(ls.getD (Wj p.1 ls) L0).place<(ls.getD j L0).place;rw[hk,a.place k (by omega),a.place j d];omega
  refine⟨by rw[w];exact(hN.ok _ (zf d)).par.1,by rw[w];exact z j d,λp m=>D p (by rw[w]at m;exact m),λJ=>?_⟩;rw[w]at J ⊢;rw[IV _ R J (λp m=>(D p m).1),eW _ _ d];show Wv (ls.map WE) _=(ls.getD j L0).ex;rw[hN.snd.exp j d J];unfold Wv;have:∀(ps:List (Nat×Nat)) (e:Nat),(∀p∈ps,Wj p.1 ls<ls.length)->ps.foldl (λe p=>min e (zi (ls.map WE) p.1).ex) e=ps.foldl (λe p=>min e (zi ls p.1).ex) e:=λps=>by
   induction ps with
   |nil=>intro e _;rfl
   |cons p ps ih=>
    intro e E;rw[YA,YA,rK (E p (by simp))];exact ih _ (λq hq=>E q (by simp[hq]))
  exact this _ _ (λp m=>by have:=(D p m).1;rw[xP,t]at this;exact this)
 have a0:∀n,Wh (ls.map WE) n=Wh ls n:=λn=>by unfold Wh;rw[xac];rfl
 have S:wy (ls.map WE) (ls.map WE).length=ls:=by
  unfold wy wq;rw[Xs,xac];have:ls.map ((λx=>({ x with gv:=Wh (ls.map WE) x.id,got:=if x.place<=(ls.map WE).length then uE x else x.got }:L))∘WE)=ls.map id:=by
   apply ye
   intro x A;obtain⟨j,d,rfl⟩:=xw A;have e:ls.getD j L0=ls[j]:=by simp[Wc,d]
   have m:=a.place j d;have K:=hN.snd.giv j d;have M:=(hN.snd.one j d).par;rw[e]at m K M;show({ WE ls[j] with gv:=Wh (ls.map WE) ls[j].id,got:=if ls[j].place<=(ls.map WE).length then uE (WE ls[j]) else (WE ls[j]).got }:L)=ls[j];rw[a0,<-K,xh (by rw[t];omega)];have hq:uE (WE ls[j])=ls[j].got:=by
    unfold uE WE;dsimp only;by_cases Z:ls[j].par.length=0
    ·rw[xh Z,xh Z]
    rw[xg Z];rcases M with M|M
    ·exact absurd (by rw[M];rfl) Z
    exact M.symm
   rw[hq];rfl
  rw[this,xba]
 obtain⟨f1,_⟩:=Jb (ls:=ls.map WE) F C (ls.map WE).length 0 (by omega);refine⟨⟨hb,by rw[g];exact p1,by rw[g],by rw[g],by rw[g],by rw[g];exact hN.td,by rw[u,t];exact hN.room,?_,?_,λi c=>?_,?_,?_⟩,by rw[g],by rw[g],by rw[g],hN⟩
 ·rw[u];intro i c;rw[t]at c;rw[eW _ _ c,xP];have s:=hN.ok _ (zf c);have a5:=s.sum;have r:=hN.snd.one i c;refine⟨⟨r.id,s.id⟩,⟨r.gd,s.gd⟩,s.ex,by show(ls.getD i L0).free<=_;omega,by show(ls.getD i L0).hd<=_;omega,by show(ls.getD i L0).sh<=_;omega,by show(ls.getD i L0).sc<=_;omega,?_,G i c⟩;have hq:=s.got;show(if (ls.getD i L0).par.length=0 then (ls.getD i L0).got else 0)<=_;split<;>omega
 ·rw[u];have:=f1 P;rw[a6,S]at this;exact this
 ·have s:=hN.ok _ (zf c);have a5:=s.sum;have r:=hN.snd.one i c;exact⟨s.got,by omega,r.got,r.sum⟩
 ·rw[g];refine⟨a.olen,hN.rc.len,λo r=>?_,λi c=>(a.hd i c).symm,λp m=>?_,?_⟩
  ·obtain⟨s1,s2,s3⟩:=hN.snd.ord o r;refine⟨⟨B o r,a.oid o r⟩,⟨s1,(hN.sml.ord o r).2⟩,W o r,s2,λp m=>?_⟩;obtain⟨i,c,e⟩:=a.mem o r p m;have a2:=hN.ok _ (zf c);have a8:p.2<=zD os p.1:=by
    have h2:ZV o p.1=p.2:=by unfold ZV;rw[zN (a.keys o r) m];rfl
    rw[<-h2];unfold zD;exact JR (Xu (f:=λo=>ZV o p.1) r)
   have E:=a.hd i c;rw[e]at E;have:=a2.sum;refine⟨by rw[<-e,G i c];exact c,⟨(s3 p m).1,by omega⟩,(s3 p m).2⟩
  ·obtain⟨r1,r2,r3⟩:=hN.snd.rcl p m;exact⟨r3,r2,(hN.rc.fits p m).2⟩
  have:=(zZ hN.rc.nodup).1
  rw[hN.rj]at this;exact this
 rw[g];exact hb.symm
variable {s:List Nat×Bool}
def eY(h:(Xe s).2.2=false):s.2=false/\s.1=(Xe s).1::(Xe s).2.1:=by
 obtain⟨l,b⟩:=s
 cases l with
 |nil=>cases h
 |cons n r=>exact⟨h,rfl⟩
def Ed(h:(Xl s).2.2=false):s.2=false/\s.1=(Xl s).1::(Xl s).2.1:=by
 unfold Xl at h ⊢;split at h
 ·cases h
 rename_i a;rw[xg a];exact eY h
def LW(s:List Nat×Bool):∀k,(Xk s k).2.2=false->s.2=false/\s.1=(Xk s k).1.flatMap (λp=>[p.1,p.2])++(Xk s k).2.1
 |0,h=>⟨h,rfl⟩
 |k+1,h=>by
  have e:(Xe (Xe (Xk s k).2).2).2.2=false:=h;obtain⟨a,b⟩:=eY e;obtain⟨c,d⟩:=eY a;obtain⟨c1,c2⟩:=LW s k c;refine⟨c1,?_⟩;show s.1=((Xk s k).1++[((Xe (Xk s k).2).1,(Xe (Xe (Xk s k).2).2).1)]).flatMap (λp=>[p.1,p.2])++(Xe (Xe (Xk s k).2).2).2.1;rw[c2,d,b];simp
def yJ(h:(kF s).2.2=false):s.2=false/\s.1=VW (kF s).1++(kF s).2.1:=by
 obtain⟨a,b⟩:=LW (Xl s).2 (Xl s).1 h;obtain⟨c,d⟩:=Ed a;refine⟨c,?_⟩;have e:(kF s).1.length=(Xl s).1:=mA _ _;rw[d,b];unfold VW;rw[e];rfl
def LS(s:List Nat×Bool):∀k,(Xh s k).2=false->s.2=false/\s.1=(List.range k).map (Xm s)++(Xh s k).1
 |0,h=>⟨h,rfl⟩
 |k+1,h=>by
  obtain⟨a,b⟩:=eY (s:=Xh s k) h;obtain⟨c,d⟩:=LS s k a;refine⟨c,?_⟩;rw[d,b,YU,Yq];simp[Xm,Xh]
def ND(x:L):List Nat:=[x.id,x.gd,x.ex,x.place,x.free,x.hd,x.sh,x.sc]++VW x.par++(if x.par.length=0 then [x.got] else [])
def Kw(o:O):List Nat:=[o.id,o.gd]++VW o.li
def RR(h:(Xg s).2.2=false):s.2=false/\s.1=ND (Xi s)++(Xg s).2.1:=by
 have hF:(Xf s).2.2=false/\(Xf s).2.1=(if (Xf s).1.length=0 then [(Xg s).1] else [])++(Xg s).2.1:=by
  unfold Xg at h ⊢;by_cases a:(Xf s).1.length=0
  ·rw[xh a]at h;rw[xh a,xh a];obtain⟨b,c⟩:=eY h;exact⟨b,by rw[c];rfl⟩
  rw[xg a]at h;rw[xg a,xg a];exact⟨h,rfl⟩
 obtain⟨d,f⟩:=yJ (s:=Xh s 8) hF.1;obtain⟨c1,c2⟩:=LS s 8 d;refine⟨c1,?_⟩;rw[c2,f];show _=ND (Xi s)++(Xg s).2.1;have e:(kF (Xh s 8)).2.1=(Xf s).2.1:=rfl;rw[e,hF.2];show(List.range 8).map (Xm s)++(VW (Xf s).1++_)=_;unfold ND Xi;simp[YU]
def OJ(s:List Nat×Bool)(k:Nat)(h:(fD s k).2.2=false):s.2=false/\s.1=(fD s k).1.flatMap ND++(fD s k).2.1:=by
 induction k with
 |zero=>exact⟨h,rfl⟩
 |succ k ih=>
  rw[fD]at h ⊢;generalize fD s k=q at h ih ⊢;obtain⟨a,b⟩:=RR (s:=q.2) h;obtain⟨c,d⟩:=ih a;refine⟨c,?_⟩;dsimp only;rw[d,b,List.flatMap_append,List.flatMap_singleton,List.append_assoc]
def oN(s:List Nat×Bool):∀k,(fD s k).1.length=k/\∀x∈(fD s k).1,x.gv=0
 |0=>⟨rfl,λx a=>by cases a⟩
 |k+1=>by
  obtain⟨b,c⟩:=oN s k;refine⟨by rw[fD,xc,b];rfl,λx a=>?_⟩;rcases xx.1 a with a|a
  ·exact c x a
  simp only[XN]at a;subst a;rfl
def RS(h:(Xj s).2.2=false):s.2=false/\s.1=Kw (Xj s).1++(Xj s).2.1:=by
 obtain⟨a,b⟩:=yJ (s:=(Xe (Xe s).2).2) h;obtain⟨c,d⟩:=eY a;obtain⟨c1,c2⟩:=eY c;refine⟨c1,?_⟩;rw[c2,d,b];rfl
def FA(s:List Nat×Bool):∀k,(gS s k).2.2=false->s.2=false/\s.1=(gS s k).1.flatMap Kw++(gS s k).2.1
 |0,h=>⟨h,rfl⟩
 |k+1,h=>by
  obtain⟨a,b⟩:=RS (s:=(gS s k).2) h;obtain⟨c,d⟩:=FA s k a;refine⟨c,?_⟩;show s.1=((gS s k).1++[(Xj (gS s k).2).1]).flatMap Kw++(Xj (gS s k).2).2.1;rw[d,b];simp
def yH(s:List Nat×Bool):∀k,(gS s k).1.length=k
 |0=>rfl
 |k+1=>by rw[gS,xc,yH s k];rfl
variable {ns:List Nat}
def RT(h:(Xn ns).left.2=false):ns=(Xn ns).td::(Xn ns).com::(Xn ns).k::((Xn ns).ls.flatMap ND++((Xn ns).os.length::((Xn ns).os.flatMap Kw++(VW (Xn ns).rj++(Xn ns).left.1))))/\(Xn ns).ls.length=(Xn ns).k/\∀x∈(Xn ns).ls,x.gv=0:=by
 unfold Xn at h ⊢;dsimp only at h ⊢;generalize r:Xe (ns,false)=a at *;generalize t:Xe a.2=b at *;generalize u:Xl b.2=c at *;generalize hd:fD c.2 c.1=d at *;generalize v:Xl d.2=e at *;generalize i:gS e.2 e.1=f at *;generalize w:kF f.2=g at *;obtain⟨D,g2⟩:=yJ (s:=f.2) (by rw[w];exact h);obtain⟨C,q⟩:=FA e.2 e.1 (by rw[i];exact D);obtain⟨B,p⟩:=Ed (s:=d.2) (by rw[v];exact C);obtain⟨A,n⟩:=OJ c.2 c.1 (by rw[hd];exact B);obtain⟨c1,c2⟩:=Ed (s:=b.2) (by rw[u];exact A);obtain⟨z,m⟩:=eY (s:=a.2) (by rw[t];exact c1);obtain⟨E,l⟩:=eY (s:=(ns,false)) (by rw[r];exact z);rw[w]at g2;rw[i,g2]at q;rw[v,q]at p;rw[hd,p]at n;rw[u,n]at c2;rw[t,c2]at m;rw[r,m]at l;have y:=yH e.2 e.1;rw[i]at y;have j:=oN c.2 c.1;rw[hd]at j;refine⟨?_,j.1,j.2⟩;rw[y];exact l
def LC{f:Nat->Nat}:∀{E M:List Nat},E.Nodup->(∀x∈E,x∈M)->(E.map f).sum<=(M.map f).sum
 |[],M,_,_=>by simp
 |x::E,M,hn,hs=>by
  have a:=yj.1 hn;have d:=hs x (by simp);have g:=LC (f:=f) (E:=E) (M:=M.erase x) a.2 (λy b=>(xbD (λe=>a.1 (by rw[<-e];exact b))).2 (hs y (by simp[b])));have c:=((List.perm_cons_erase d).map f).sum_nat;rw[Xv,XZ]at c ⊢;omega
def nX{x:Nat->Nat}{N:Nat}:∀(f n:Nat),(Zb x N f n).Pairwise (λa b=>x a<x b)/\∀i∈Zb x N f n,i<N/\n<x i
 |0,n=>⟨by simp[Zb],λi c=>by simp[Zb]at c⟩
 |f+1,n=>by
  rw[Zb]
  cases g:Wx x n N with
  |none=>exact⟨by simp,λi c=>by simp at c⟩
  |some k=>
   obtain⟨j,l⟩:=jW g;obtain⟨h,d⟩:=nX f (x k);refine⟨XE.2 ⟨λb e=>(d b e).2,h⟩,λi c=>?_⟩;rcases xz.1 c with rfl|c
   ·exact⟨j,l⟩
   have:=d i c
   exact⟨this.1,by omega⟩
def fP{α:Type}(f:α->List Nat):∀l:List α,(l.flatMap f).length=(l.map λx=>(f x).length).sum
 |[]=>rfl
 |x::l=>by rw[yb,xc,fP f l,Xv,XZ]
def Dv{os:List O}(D:(WT os).length=(os.flatMap Kw).length)(n:∀o∈os,(bV o).length=(Kw o).length):(os.map O.id).Nodup:=by
 obtain⟨s,F⟩:=nX (x:=λi=>(os.getD i O0).id) (N:=os.length) (os.length+1) 0;have p:(Zb (λi=>(os.getD i O0).id) os.length (os.length+1) 0).Nodup:=s.imp (λd e=>by rw[e]at d;exact Yr _ d);have z:(WT os).length=((Zb (λi=>(os.getD i O0).id) os.length (os.length+1) 0).map (λi=>(bV (os.getD i O0)).length)).sum:=by
  unfold WT;rw[fP]
 have A:(os.flatMap Kw).length=((List.range os.length).map (λi=>(bV (os.getD i O0)).length)).sum:=by
  rw[fP,<-rJ (λo=>(Kw o).length) O0 os];congr 1;apply ye;intro i g;exact(n _ (CO (by simpa using g))).symm
 have c:∀i,i<os.length->i∈Zb (λi=>(os.getD i O0).id) os.length (os.length+1) 0:=λi g=>by
  by_cases v:i∈Zb (λi=>(os.getD i O0).id) os.length (os.length+1) 0
  ·exact v
  exfalso
  have:=LC (f:=λi=>(bV (os.getD i O0)).length) (E:=i::Zb (λi=>(os.getD i O0).id) os.length (os.length+1) 0) (M:=List.range os.length) (yj.2 ⟨v,p⟩) (λy r=>by
   rcases xz.1 r with rfl|r
   ·simpa using g
   simpa using (F y r).1)
  rw[Xv,XZ,<-A,<-D,z]at this;have w:1<=(bV (os.getD i O0)).length:=by unfold bV;simp
  omega
 rw[yt,XX];intro i j g C B e;have h:i<os.length:=by simpa using g
 have k:j<os.length:=by simpa using C
 have G:(os.getD i O0).id=(os.getD j O0).id:=by simpa [Wc,h,k] using e
 obtain⟨a,t,l⟩:=xw (c i h);obtain⟨b,u,m⟩:=xw (c j k);rcases Nat.lt_trichotomy a b with q|q|q
 ·have:=XX.1 s a b t u q
  rw[l,m]at this;omega
 ·subst q;rw[l]at m;omega
 have:=XX.1 s b a u t q
 rw[l,m]at this;omega
def JY(x:L):(bU x).length=9+2*x.par.length+(if x.par.length=0 then 1 else 0):=by
 unfold bU VW;rw[ZN];simp only[xc,List.length_cons,XO,gA,ZN];split<;>simp<;>omega
def NE(x:L):(ND x).length=9+2*x.par.length+(if x.par.length=0 then 1 else 0):=by
 unfold ND VW;simp only[xc,List.length_cons,XO,gA];split<;>simp<;>omega
def Ks(o:O)(a:(o.li.map Prod.fst).Nodup):(bV o).length=(Kw o).length:=by
 unfold bV Kw VW;simp only[xc,List.length_cons,XO,gA,dB _ (Z6 a)]
def OO{a b:List Nat}(d:∀n∈a,n<9223372036854775808)(e:∀n∈b,n<9223372036854775808)(h:Pl.toldB a=Pl.toldB b):a=b:=by
 have c:=Pl.nums_told a d;rw[h,Pl.nums_told b e]at c;exact(xt c).symm
def Gz{x:L}(a:L.Ok x)(e:∀p∈x.par,p.2<=2147483647):∀n∈bU x,n<=2147483647:=by
 intro n b;have j:=a.sum;have i:=a.place;have k:=a.got;have f:=a.id;have g:=a.gd;have h:=a.ex;have d:=a.par;unfold bU VW at b;simp only[xx,xz,yf,xah,YH]at b;rcases b with (b|b)|b
 ·omega
 ·rcases b with b|⟨p,c,b⟩
  ·rw[ZN]at b;omega
  rw[gK]at c;have:=d.2 p c;have:=e p c;omega
 split at b
 ·simp at b;omega
 simp at b
structure Vp(ns:List Nat)(ls:List L):Prop where
 pl:WB (Xn ns).ls
 bad:(Xn ns).left.2=false
 td:(Xn ns).td<=2147483647
 len:(ZF ns).length<=30
 nm:NumP (ZF ns)
 fam:VX (ZF ns).length 0 (ZF ns)=some ls
 bal:Sc ls
 ord:yO ls (Xn ns).os (Xn ns).rj
structure Vr(ns:List Nat)(ls:List L):Prop where
 ok:∀l∈ls,L.Ok l
 len:ls.length<=30
 fam:Fam ls
 rc:Rc (Xn ns).rj
 li:∀o∈(Xn ns).os,o.li.length<=30
 small:∀n∈WS (Xn ns).td (Xn ns).os (Xn ns).rj ls,n<=2147483647
 ris:∀l∈ls,zT l.par=l.par
def gJ(h:Vp ns ls):Vr ns ls/\((∀n∈ns,n<9223372036854775808)->(Xn ns).left.1=[]->∀b,b=13::Pl.toldB ns->WO (Xn ns).td (Xn ns).os (Xn ns).rj ls=b->zE b=some ((Xn ns).td,ls,WA (Xn ns).os,(Xn ns).rj)):=by
 obtain⟨d2,d0,c8⟩:=RT h.bad;obtain⟨a8,S⟩:=DD h.pl (Xn ns).ls.length (xe _);have G:=h.fam;have F:=h.nm;have d4:=h.len;have b6:ZF ns=WC (Xn ns).ls (Xn ns).ls.length:=rfl;rw[<-b6]at a8 S;have b0:∀i,i<(ZF ns).length->((ZF ns).getD i L0).gv=0:=λi c=>c8 _ (S i (by omega)).1
 have t:∀i,i<(ZF ns).length->((ZF ns).getD i L0).place=i+1:=λi c=>(S i (by omega)).2
 have b7:(ZF ns).length=(Xn ns).k:=by rw[a8,d0]
 have a7:(ZF ns).Perm (Xn ns).ls:=by
  have e5:(ZF ns).Nodup:=by
   rw[yt,XX];intro i j c z e3 e;have a1:=t i c;have a2:=t j z;have e1:(ZF ns).getD i L0=(ZF ns)[i]:=by simp[Wc,c]
   have e2:(ZF ns).getD j L0=(ZF ns)[j]:=by simp[Wc,z]
   rw[e1,e]at a1;rw[e2]at a2;omega
  have e0:∀x∈ZF ns,x∈(Xn ns).ls:=λx B=>by
   obtain⟨i,c,rfl⟩:=xw B;have e1:(ZF ns).getD i L0=(ZF ns)[i]:=by simp[Wc,c]
   rw[<-e1];exact(S i (by omega)).1
  have u:(Xn ns).ls.Perm (ZF ns):=by
   have:∀(l:List L) (N:Nat),(l.filter (λx=>decide (1<=x.place/\x.place<=N))).Perm (WC l N):=λl N=>by
    induction N with
    |zero=>
     have:l.filter (λx=>decide (1<=x.place/\x.place<=0))=[]:=by
      rw[List.filter_eq_nil_iff];intro x _;simp;omega
     rw[this];exact YP _
    |succ N ih=>
     have e:WC l (N+1)=WC l N++l.filter (λx=>x.place==N+1):=by unfold WC;rw[YU,yw];simp
     rw[e];refine List.Perm.trans ?_ (ih.append_right _)
     clear ih e;induction l with
     |nil=>exact YP _
     |cons x l ih=>
      rw[YE,YE,YE];by_cases K:x.place=N+1
      ·rw[xh (by simp;omega),xg (by simp;omega),xh (by simp[K])];exact(ih.cons x).trans List.perm_middle.symm
      by_cases h2:1<=x.place/\x.place<=N
      ·rw[xh (by simp;omega),xh (by simpa using h2),xg (by simp;omega)];exact ih.cons x
      rw[xg (by simp;omega),xg (by simpa using h2),xg (by simp;omega)];exact ih
   have K:=this (Xn ns).ls (Xn ns).ls.length;have h2:((Xn ns).ls.filter (λx=>decide (1<=x.place/\x.place<=(Xn ns).ls.length))).length=(Xn ns).ls.length:=by rw[K.length_eq];exact a8
   have h3:(Xn ns).ls.filter (λx=>decide (1<=x.place/\x.place<=(Xn ns).ls.length))=(Xn ns).ls:=xbG.2 (List.length_filter_eq_length_iff.1 h2);rw[h3]at K;exact K
  exact u.symm
 have P:∀i j,i<(ZF ns).length->j<(ZF ns).length->((ZF ns).getD i L0).id=((ZF ns).getD j L0).id->i=j:=λi j c z e=>by
  have a:=(F i c).2.2.2.2.2.2.2.2;have b:=(F j z).2.2.2.2.2.2.2.2;rw[e]at a;omega
 have d6:wy (ZF ns) 0=ZF ns:=by
  unfold wy wq;have:(ZF ns).map (λx=>({ x with gv:=Wh ((ZF ns).take 0) x.id,got:=if x.place<=0 then uE x else x.got }:L))=(ZF ns).map id:=by
   apply ye
   intro x B;obtain⟨j,z,rfl⟩:=xw B;have e:(ZF ns).getD j L0=(ZF ns)[j]:=by simp[Wc,z]
   have r:=t j z;have hg:=b0 j z;rw[e]at r hg;rw[xg (by omega)];generalize (ZF ns)[j]=y at hg
   cases y;simp only at hg
   subst hg;rfl
  rw[this,xba]
 obtain⟨f1,f2⟩:=Jb (ls:=ZF ns) P t (ZF ns).length 0 (by omega);rw[d6]at f1 f2;have T:∀j,0<=j->j<(ZF ns).length->UZ (ZF ns) j:=by
  by_cases hc:∀j,0<=j->j<(ZF ns).length->UZ (ZF ns) j
  ·exact hc
  rw[f2 hc]at G;cases G
 rw[f1 T]at G;have R:ls=wy (ZF ns) (ZF ns).length:=(xt G).symm;have H:ls.length=(ZF ns).length:=by rw[R];unfold wy;rw[kI]
 have f:∀i,i<ls.length->ls.getD i L0={ (ZF ns).getD i L0 with gv:=Wh (ZF ns) ((ZF ns).getD i L0).id,got:=uE ((ZF ns).getD i L0) }:=λi c=>by
  rw[R];unfold wy;rw[mX _ _ (by omega),Xs,xh (by rw[t i (by omega)];omega)]
 have w:∀n,Wj n ls=Wj n (ZF ns):=λn=>by rw[R];unfold wy;rw[FG]
 have X:∀n,(zi ls n).gd=(zi (ZF ns) n).gd/\(zi ls n).place=(zi (ZF ns) n).place/\(zi ls n).ex=(zi (ZF ns) n).ex:=λn=>by
  unfold zi;rw[w];rcases xai (Wj n (ZF ns)) ls.length with q|q
  ·rw[f _ q];exact⟨rfl,rfl,rfl⟩
  have z1:ls.getD (Wj n (ZF ns)) L0=L0:=by rw[Wc,XJ (by omega)];rfl
  have z2:(ZF ns).getD (Wj n (ZF ns)) L0=L0:=by rw[Wc,XJ (by omega)];rfl
  rw[z1,z2];exact⟨rfl,rfl,rfl⟩
 have b1:∀n,Wh ls n=Wh (ZF ns) n:=λn=>by
  rw[R];unfold wy wq Wh;rw[xac];rfl
 have M:∀i j,i<ls.length->j<ls.length->(ls.getD i L0).id=(ls.getD j L0).id->i=j:=λi j c z e=>by
  rw[f i c,f j z]at e;exact P i j (by omega) (by omega) e
 have u:∀i,i<ls.length->(ls.getD i L0).place=i+1:=λi c=>by rw[f i c];exact t i (by omega)
 have C:∀n,Wj n ls<ls.length->n<=2147483647/\1<=n:=λn g=>by
  have e:=aS g;have hq:=(F (Wj n ls) (by omega)).1;rw[f _ g]at e;have e':((ZF ns).getD (Wj n ls) L0).id=n:=e;rw[e']at hq;exact⟨hq.2,hq.1⟩
 have s:∀i,i<ls.length->(ls.getD i L0).par=((ZF ns).getD i L0).par:=λi c=>by rw[f i c]
 have hF:∀i,i<ls.length->UZ (ZF ns) i:=λi c=>T i (Nat.zero_le _) (by omega)
 have b4:∀i,i<ls.length->L.Ok (ls.getD i L0):=λi c=>by
  have g:=F i (by omega);have hb:=h.bal i c;have r:=u i c;refine⟨?_,?_,?_,by omega,by omega,hb.1,by rw[s i c];exact(hF i c).len,λp hq=>?_⟩
  ·rw[f i c];exact g.1.2
  ·rw[f i c];exact g.2.1.2
  ·rw[f i c];exact g.2.2.1
  rw[s i c]at hq;have:=((hF i c).fam p hq).1;exact(C p.1 (by rw[w,H];exact this)).1
 have Z:∀l∈ls,L.Ok l:=λl hl=>by
  obtain⟨j,z,rfl⟩:=xw hl;have e:ls.getD j L0=ls[j]:=by simp[Wc,z]
  rw[<-e];exact b4 j z
 have d:=h.ord;have v:∀o∈(Xn ns).os,(o.li.map Prod.fst).Nodup:=λo A=>oK (d.ord o A).ris
 have a0:∀i,i<ls.length->∀p∈(ls.getD i L0).par,p.2<=2147483647:=λi c p r=>by
  rw[s i c]at r;exact((hF i c).fam p r).2.1
 have J:∀o∈(Xn ns).os,o.li.length<=30:=λo A=>by
  have:=ZH (l:=o.li.map Prod.fst) (m:=ls.map L.id) (v o A) (λx B=>by
   obtain⟨p,r,rfl⟩:=Xz.1 B;have c:=((d.ord o A).line p r).1;rw[<-aS c];exact Xu (zf c))
  rw[List.length_map,List.length_map]at this;omega
 have Q:∀n∈WS (Xn ns).td (Xn ns).os (Xn ns).rj ls,n<=2147483647:=λn g=>by
  have e6:=h.td;have d7:=d.olen;have d8:=d.rlen;have D:(Xn ns).rj.Nodup:=d.up.imp (λh e=>by rw[e]at h;exact dN _ h);unfold WS at g;simp only[xx,xz,yf,xah]at g;rcases g with (((g|g)|g)|g)|g
  ·omega
  ·unfold WR at g;obtain⟨i,c,g⟩:=YH.1 g;have E:=((nX (x:=λi=>(ls.getD i L0).id) (N:=ls.length) (ls.length+1) 0).2 i c).1;have:=Gz (b4 i E) (a0 i E) n g;omega
  ·omega
  ·unfold WT at g;obtain⟨i,c,g⟩:=YH.1 g;have E:=((nX (x:=λi=>((Xn ns).os.getD i O0).id) (N:=(Xn ns).os.length) ((Xn ns).os.length+1) 0).2 i c).1;have A:=d.ord _ (CO E);have e4:=J _ (CO E);unfold bV VW at g;simp only[xx,xz,yf,xah,YH]at g;rcases g with g|g
   ·have:=A.id;have:=A.gd;omega
   rcases g with g|⟨p,r,g⟩
   ·rw[dB _ (Z6 (v _ (CO E)))]at g;omega
   rw[(zZ (Z6 (v _ (CO E)))).2]at r;have B:=A.line p r;have:=(C p.1 B.1).1;omega
  unfold VW at g;simp only[xz,YH,yf,xah]at g;rcases g with g|⟨p,r,g⟩
  ·rw[dB _ D]at g;omega
  rw[(zZ D).2]at r;have B:=d.rc p r;have:=(C p.1 B.1).1;omega
 have D:(Xn ns).rj.Nodup:=d.up.imp (λh e=>by rw[e]at h;exact dN _ h);have b8:Rc (Xn ns).rj:=⟨D,d.rlen,λp r=>⟨(C p.1 (d.rc p r).1).1,(d.rc p r).2.2⟩⟩
 have a3:∀l∈ls,zT l.par=l.par:=λl hl=>by
  obtain⟨j,z,rfl⟩:=xw hl;have e:ls.getD j L0=ls[j]:=by simp[Wc,z]
  have hr:=(hF j z).ris;rw[<-s j z,e]at hr;exact jG hr
 have d3:∀i,i<ls.length->∀p∈(ls.getD i L0).par,∃j,j<i/\(ls.getD j L0).id=p.1:=λi c p r=>by
  rw[s i c]at r;obtain⟨k1,_,k2,k3⟩:=(hF i c).fam p r;have hk:Wj p.1 ls<ls.length:=by rw[w,H];exact k1
  refine⟨Wj p.1 ls,?_,aS hk⟩;unfold zi at k3;rw[t _ k1,t i (by omega)]at k3;rw[w];omega
 refine⟨⟨Z,by omega,⟨M,d3⟩,b8,J,Q,a3⟩,λd5 a5 b b3 c5=>?_⟩;have c7:WS (Xn ns).td (Xn ns).os (Xn ns).rj ls=ns:=by
  apply OO (λn g=>by have:=Q n g;omega) d5
  have K:=c5;rw[b3]at K;unfold WO at K;exact(xbA K).2
 have d9:(WR ls).length=((Xn ns).ls.flatMap ND).length:=by
  have r:=uN M (λi c=>by rw[f i c];exact(F i (by omega)).1.1);rw[BY,fP,fP,(r.map (λx=>(bU x).length)).sum_nat,<-(a7.map (λx=>(ND x).length)).sum_nat];congr 1;apply YZ (by simp[H]);intro i K h2;have c:i<ls.length:=by simpa using K
  have c9:i<(ZF ns).length:=by omega
  have e1:ls.getD i L0=ls[i]:=by simp[Wc,c]
  have e2:(ZF ns).getD i L0=(ZF ns)[i]:=by simp[Wc,c9]
  have b5:=s i c;rw[e1,e2]at b5;simp only[xbu];rw[JY,NE,b5]
 have c6:(WT (Xn ns).os).length=((Xn ns).os.flatMap Kw).length:=by
  have e:=YK List.length c7;conv at e=>rhs;rw[d2]
  unfold WS at e;rw[a5]at e;simp only[xc,List.length_cons,XO,VW,gA,dB _ D]at e;omega
 have a6:=Dv c6 (λo A=>Ks o (v o A));have a4:Good (Xn ns).os ls:=⟨M,u,a6,λo A=>(d.ord o A).id.2,d.olen,v,λo A p r=>⟨Wj p.1 ls,((d.ord o A).line p r).1,aS ((d.ord o A).line p r).1⟩,λi c=>(d.hd i c).symm⟩
 have a9:∀l∈ZF ns,l.ex<=2147483647:=λl hl=>by
  obtain⟨j,z,rfl⟩:=xw hl;have e:(ZF ns).getD j L0=(ZF ns)[j]:=by simp[Wc,z]
  rw[<-e];exact(F j z).2.2.1
 have d1:∀ps,Wv ls ps=Wv (ZF ns) ps:=λps=>by
  unfold Wv;congr 1;funext e p;rw[(X p.1).2.2]
 have b9:Vu (Xn ns).os (Xn ns).rj ls:=by
  refine⟨λi c=>?_,λi c p r=>?_,λi c r=>?_,λi c=>?_,λo A=>?_,λp r=>?_⟩
  ·have g:=F i (by omega);have hb:=h.bal i c;refine⟨by rw[f i c];exact g.1.1,by rw[f i c];exact g.2.1.1,hb.2.2.1,hb.2.2.2,by rw[s i c];exact oK (hF i c).ris,a0 i c,?_⟩;rw[s i c];by_cases h0:((ZF ns).getD i L0).par=[]
   ·exact Or.inl h0
   refine Or.inr ?_
   rw[f i c];show uE _=_;unfold uE;rw[xg (λe=>h0 (XD.1 e))]
  ·rw[s i c]at r;obtain⟨k1,_,k2,k3⟩:=(hF i c).fam p r;have hk:Wj p.1 ls<ls.length:=by rw[w,H];exact k1
   refine⟨Wj p.1 ls,?_,aS hk,?_⟩
   ·unfold zi at k3;rw[t _ k1,t i (by omega)]at k3;rw[w];omega
   have:=(X p.1).1
   unfold zi at this;rw[this,f i c];exact k2
  ·rw[s i c]at r ⊢;rw[d1,<-IV _ a9 r (λp hq=>((hF i c).fam p hq).1),(hF i c).exp r,f i c]
  ·rw[b1,f i c]
  ·have B:=d.ord o A;exact⟨B.gd.1,B.ne,λp r=>⟨(B.line p r).2.1.1,(B.line p r).2.2⟩⟩
  have B:=d.rc p r;exact⟨(C p.1 B.1).2,B.2.1,B.1⟩
 have W:=Ho h.td Z (by omega) a4 b9 b8 (λo A=>⟨(d.ord o A).id.1,(d.ord o A).gd.2⟩);have b2:ls.map kap=ls:=by
  have:ls.map kap=ls.map id:=ye (λl hl=>by
   unfold kap;rw[a3 l hl];rfl)
  rw[this,xba]
 rw[c5,b2,iH d.up]at W;exact W
def bare(l:L):L:={ l with got:=0,gv:=0 }
variable {B N i:Nat}
def El{x:L}(h:bare x=bare (ls.getD i L0)):(ls.set i x).map bare=ls.map bare:=by
 apply YZ (by simp)
 intro j b a;simp only[xbu,List.getElem_set];by_cases e:i=j
 ·subst e;rw[xh rfl,h];simp at a;simp[Wc,a]
 rw[xg e]
def vR(h:ls.map bare=ms.map bare)(i:Nat):bare (ls.getD i L0)=bare (ms.getD i L0):=by
 have e:=YK (λl=>l.getD i (bare L0)) h;have q:∀l:List L,(l.map bare).getD i (bare L0)=bare (l.getD i L0):=λl=>by
  rcases xai i l.length with a|a
  ·simp[Wc,a]
  rw[Wc,Wc,XJ (by simpa using a),XJ a];rfl
 simp only[q]at e;exact e
def nS(h:ls.map bare=ms.map bare):ls.length=ms.length:=by simpa using YK List.length h
def kW{a b:L}(h:bare a=bare b):a.id=b.id/\a.gd=b.gd/\a.ex=b.ex/\a.place=b.place/\a.free=b.free/\a.hd=b.hd/\a.sh=b.sh/\a.sc=b.sc/\a.par=b.par:=by
 cases a;cases b
 simp only[bare,L.mk.injEq]at h;simp_all
def Mz(h:ls.map bare=ms.map bare)(n:Nat):Wj n ls=Wj n ms:=by
 have q:∀l:List L,Wj n (l.map bare)=Wj n l:=λl=>by
  unfold Wj;rw[xaP];rfl
 rw[<-q ls,h,q ms]
def MA(h:ls.map bare=ms.map bare){x:L}(c:x∈ls):∃m∈ms,bare x=bare m:=by
 obtain⟨i,b,rfl⟩:=xw c;have d:=nS h;have e:=vR h i;have a:ls.getD i L0=ls[i]:=by simp[Wc,b]
 rw[a]at e;exact⟨_,zf (by omega),e⟩
def NumP.mem(h:NumP ls){x:L}(c:x∈ls):x.ex<=2147483647/\x.free<=2147483647/\x.hd<=2147483647/\x.sh<=2147483647/\x.sc<=2147483647:=by
 obtain⟨i,a,rfl⟩:=xw c;have b:ls.getD i L0=ls[i]:=by simp[Wc,a]
 have:=h i a
 rw[b]at this;exact⟨this.2.2.1,this.2.2.2.1,this.2.2.2.2.1,this.2.2.2.2.2.1,this.2.2.2.2.2.2.1⟩
def ED(l:L):∀(ps:List (Nat×Nat)) (u g:Nat) (ls:List L) (r:List L×Nat×Nat),VY l ps u g ls=some r->r.1.map bare=ls.map bare/\(∀M,(∀x∈ls,x.gv<=M)->∀x∈r.1,x.gv<=M+ps.length*2147483647)/\(∀B,(∀x∈ls,x.got<B)->∀x∈r.1,x.got<B)/\r.2.2<=g+ps.length*2147483647
 |[],u,g,ls,r,h=>by
  simp only[VY,XC]at h;subst h;exact⟨rfl,λM h x a=>xj (h x a) (xcg _ _),λB h=>h,by simp⟩
 |p::ps,u,g,ls,r,h=>by
  rw[VY]at h;split at h
  ·next b=>
   obtain⟨i,j,k,m⟩:=ED l ps _ _ _ r h;have f:=zf b.1;refine⟨i.trans (El rfl),λM e x a=>?_,λB d=>k B (λx a=>?_),?_⟩
   ·have:=j (M+p.2) (λy c=>by
     rcases XU c with c|rfl
     ·have:=e y c;omega
     have:=e _ f;simp only[Wf];omega) x a
    have:=b.2.1
    simp only[List.length_cons];omega
   ·rcases XU a with a|rfl
    ·exact d x a
    have:=d _ f;exact this
   have:=b.2.1
   simp only[List.length_cons];omega
  cases h
def Na{b:List L}(s:i<ls.length)(h:VZ ls i=some b):b.map bare=ls.map bare/\(∀M,(∀x∈ls,x.gv<=M)->∀x∈b,x.gv<=M+4294967294)/\((∀x∈ls,x.got<9223372036854775808)->∀x∈b,x.got<9223372036854775808):=by
 unfold VZ at h;split at h
 ·next n=>
  cases e:VY (ls.getD i L0) (ls.getD i L0).par 2147483648 0 ls with
  |none=>rw[e]at h;cases h
  |some r=>
   rw[e]at h;simp only[xk]at h;obtain⟨d,l,g,q⟩:=ED _ _ _ _ _ _ e;have j:=n.1;have f:∀M,(∀x∈ls,x.gv<=M)->∀x∈r.1,x.gv<=M+4294967294:=λM c x a=>by
    have:=l M c x a
    have:(ls.getD i L0).par.length*2147483647<=2*2147483647:=xas _ j
    omega
   have k:=nS d;split at h
   ·cases h;exact⟨d,f,g _⟩
   split at h
   ·cases h;have p:r.1.getD i L0∈r.1:=zf (by omega)
    refine⟨(El (ls:=r.1) (i:=i) (by rfl)).trans d,λM c x a=>?_,λm x a=>?_⟩
    ·rcases XU a with a|rfl
     ·exact f M c x a
     have:=f M c _ p;exact this
    rcases XU a with a|rfl
    ·exact g _ m x a
    have:(ls.getD i L0).par.length*2147483647<=2*2147483647:=xas _ j
    show r.2.2<_;omega
   cases h
 cases h
structure FmI(l0:List L)(R:Option (List L))(i:Nat)(ls:List L):Prop where
 le:i<=l0.length
 fin:VX (l0.length-i) i ls=R
 bare:ls.map bare=l0.map bare
 gvn:∀x∈ls,x.gv<=i*4294967294
 got:∀x∈ls,x.got<9223372036854775808
variable {R:Option (List L)}
def FmI.step{a:List L}(h:FmI l0 R i ls)(g:i<l0.length)(b:VZ ls i=some a):FmI l0 R (i+1) a:=by
 have k:=nS h.bare;obtain⟨c,d,f⟩:=Na (by omega) b;refine⟨g,?_,c.trans h.bare,λx j=>?_,f h.got⟩
 ·have:=h.fin
  have e:l0.length-i=(l0.length-(i+1))+1:=by omega
  rw[e,VX,b]at this;exact this
 have:=d _ h.gvn x j
 omega
def FmI.none{a ls:List L}{R:Option (List L)}{i:Nat}(h:FmI a R i ls)(c:i<a.length)(b:VZ ls i=none):R=none:=by
 have:=h.fin
 have e:a.length-i=(a.length-(i+1))+1:=by omega
 rw[e,VX,b]at this;exact this.symm
def FmI.done(h:FmI l0 R l0.length ls):R=some ls:=by
 have:=h.fin
 rw[xap,VX]at this;exact this.symm
def LX(h:∀n∈s.1,n<B)(b:0<B)(f:s.1.length<=N):(kF s).1.length<=N/\∀p∈(kF s).1,p.1<B/\p.2<B:=by
 obtain⟨c1,c2,c3⟩:=iA h b f;have g:∀k,∀p∈(Xk (Xl s).2 k).1,p.1<B/\p.2<B:=λk=>by
  induction k with
  |zero=>intro p a;cases a
  |succ k ih=>
   intro p a;obtain⟨d,i⟩:=rX c2 b c3 k;have c:=zY d b;have e:=zY c.2 b;rcases xx.1 a with a|a
   ·exact ih p a
   simp only[XN]at a;subst a;exact⟨c.1,e.1⟩
 exact⟨by unfold kF;rw[mA];exact c1,g _⟩
def LV{s:List Nat×Bool}{B N:Nat}(h:∀n∈s.1,n<B)(b:0<B)(e:s.1.length<=N):∀k,∀o∈(gS s k).1,o.id<B/\o.gd<B/\o.li.length<=N/\∀p∈o.li,p.1<B/\p.2<B
 |0,o,a=>by cases a
 |k+1,o,a=>by
  rcases xx.1 a with a|a
  ·exact LV h b e k o a
  simp only[XN]at a;subst a;obtain⟨g,i⟩:=yI h b e k;have c:=zY g b;have d:=zY c.2 b;have j:=ZZ (gS s k).2;have l:=ZZ (Xe (gS s k).2).2;obtain⟨f,g2⟩:=LX d.2 b (show(Xe (Xe (gS s k).2).2).2.1.length<=N by omega);exact⟨c.1,d.1,f,g2⟩
def LU{s:List Nat×Bool}{B N:Nat}(h:∀n∈s.1,n<B)(b:0<B)(c:s.1.length<=N):∀k,∀x∈(fD s k).1,x.par.length<=N/\∀p∈x.par,p.1<B/\p.2<B
 |0,o,a=>by cases a
 |k+1,o,a=>by
  rcases xx.1 a with a|a
  ·exact LU h b c k o a
  simp only[XN]at a;subst a;obtain⟨d,e⟩:=Ec h b c k;have:=LR d b e;exact this.2.2.2
structure UK(ns:List Nat):Prop where
 ls:∀x∈(Xn ns).ls,x.par.length<=4194304/\∀p∈x.par,p.1<9223372036854775808/\p.2<9223372036854775808
 ll:(Xn ns).ls.length<=4194304
 os:∀o∈(Xn ns).os,o.id<9223372036854775808/\o.gd<9223372036854775808/\o.li.length<=4194304/\∀p∈o.li,p.1<9223372036854775808/\p.2<9223372036854775808
 ol:(Xn ns).os.length<=4194304
 rc:(Xn ns).rj.length<=4194304/\∀p∈(Xn ns).rj,p.1<9223372036854775808/\p.2<9223372036854775808
 td:(Xn ns).td<9223372036854775808
 gz:∀x∈(Xn ns).ls,x.gv=0
def TN(h:∀n∈ns,n<9223372036854775808)(k:ns.length<=4194304):UK ns:=by
 have g:0<9223372036854775808:=by omega
 obtain⟨B,i⟩:∃B,B=9223372036854775808:=⟨_,rfl⟩
 obtain⟨N,j⟩:∃N,N=4194304:=⟨_,rfl⟩
 rw[<-i]at g h;rw[<-j]at k;have a:=zY (s:=(ns,false)) h g;have l:(Xe (ns,false)).2.1.length<=N:=xj (ZZ (ns,false)) k;have b:=zY a.2 g;have m:(Xe (Xe (ns,false)).2).2.1.length<=N:=xj (ZZ _) l;have c:=iA b.2 g m;have d:=Ec c.2.1 g c.2.2 (Xl (Xe (Xe (ns,false)).2).2).1;have e:=iA d.1 g d.2;have f:=yI e.2.1 g e.2.2 (Xl (fD (Xl (Xe (Xe (ns,false)).2).2).2 (Xl (Xe (Xe (ns,false)).2).2).1).2).1;have p:=LU c.2.1 g c.2.2 (Xl (Xe (Xe (ns,false)).2).2).1;have g2:=LV e.2.1 g e.2.2 (Xl (fD (Xl (Xe (Xe (ns,false)).2).2).2 (Xl (Xe (Xe (ns,false)).2).2).1).2).1;have q:=LX f.1 g f.2;have r:=xj (xcn (oN (Xl (Xe (Xe (ns,false)).2).2).2 (Xl (Xe (Xe (ns,false)).2).2).1).1) c.1;have t:=xj (xcn (yH (Xl (fD (Xl (Xe (Xe (ns,false)).2).2).2 (Xl (Xe (Xe (ns,false)).2).2).1).2).2 (Xl (fD (Xl (Xe (Xe (ns,false)).2).2).2 (Xl (Xe (Xe (ns,false)).2).2).1).2).1)) e.1;have u:=(oN (Xl (Xe (Xe (ns,false)).2).2).2 (Xl (Xe (Xe (ns,false)).2).2).1).2;subst i j;exact⟨p,r,g2,t,q,a.1,u⟩
variable {t:List UInt8}
def Fv(m:Pl.nums t=some ns){td:Nat}{ls:List L}{os:List O}{rj:List (Nat×Nat)}(h:zE (13::t)=some (td,ls,os,rj)):Vp ns ls/\(Xn ns).left.1=[]/\(Xn ns).com=(Xn ns).k/\WO td os rj ls=13::t/\(Xn ns).td=td/\(Xn ns).os=os/\(Xn ns).rj=rj/\Vf td os rj ls:=by
 obtain⟨a,b,c,d,j⟩:=rT h;have e:ns=WS td os rj ls:=by
  have p:=a.num;have l:Vp (WS td os rj ls) ls:=⟨a.pl,a.bad,a.td,a.len,a.nm,a.fam,a.bal,a.ord⟩
  have i:=(gJ l).1.small;rw[b,c,d]at i;have g:=Pl.nums_told (WS td os rj ls) (λn f=>xaC (i n f) (by omega));rw[<-(xbA p).2,m]at g;exact xt g
 subst e;exact⟨⟨a.pl,a.bad,a.td,a.len,a.nm,a.fam,a.bal,a.ord⟩,a.left,a.com,by have:=a.st;rw[b,c,d]at this;exact this,b,c,d,j⟩
open Go.RowKit
def Ff{xs:List (L×Value)}(h:xs.map Prod.fst=ls):Rj xs↔WB ls:=by
 subst h;unfold Rj WB WD;simp only[List.length_map,Xs];have e:∀q,((xs.map Prod.fst).filter (λx=>x.place==q+1)).length=(xs.filter (λx=>x.1.place==q+1)).length:=λq=>by
  rw[xcq,List.length_map];rfl
 constructor
 ·intro h q a;rw[e];exact h q a
 intro h q a;rw[<-e];exact h q a
def NZ{xs:List (L×Value)}(h:xs.map Prod.fst=(Xn ns).ls):(sF xs xs.length).map Prod.fst=ZF ns:=by
 rw[NY];unfold ZF WC;rw[<-h,List.length_map]
section
variable {w0 W:World}{S td:Nat}{v:Value}{xs:List (L×Value)}{ov:Value}{os:List O}{lvs:List Value}{rv:Value}{rj:List (Nat×Nat)}
def RW.toV(h:RW w0 W S td v xs ov os lvs rv rj)(m:∀l∈xs.map Prod.fst,L.Ok l)(j:(xs.map Prod.fst).length<=30)(f:Fam (xs.map Prod.fst))(n:Rc rj)(p:td<=2147483647)(k:∀l∈xs.map Prod.fst,zT l.par=l.par):∃ro,RV os rj ro W S v td ⟨#[]⟩ (xs.map Prod.snd) (xs.map Prod.fst)/\∀g,OB ro g->w0.heap.size<=g:=by
 refine⟨⟨ov,lvs,rv,xs.map Prod.snd,(xs.map Prod.fst).map (λl=>zT l.par)⟩,⟨h.box,?_,by simp,⟨rfl,rfl⟩,⟨zF h.orow (Nat.zero_le _),h.llen,λi b=>zF (h.lin i b) (Nat.zero_le _),⟨zF h.rrow (Nat.zero_le _),by simp,λi b=>?_,λg c=>⟨?_,?_⟩⟩⟩,p,m,j,f,n⟩,λg c=>?_⟩
 ·have:=zF h.row (Nat.zero_le w0.heap.size)
  rw[List.length_map];exact zF h.row (Nat.zero_le _)
 ·simp only[List.length_map]at b;have d:(xs.map Prod.snd).getD i default=(xs[i]).2:=by simp[Wc,b]
  have q:((xs.map Prod.fst).map (λl=>zT l.par)).getD i []=(xs[i]).1.par:=by
   simp only[Wc,xaH,xi b,xag,XQ];exact k _ (Xu (yy b))
  show Prs _ _ ((xs.map Prod.snd).getD i default) (((xs.map Prod.fst).map (λl=>zT l.par)).getD i []);rw[d,q];exact rF (h.frm _ (yy b))
 ·rintro⟨i,b,e⟩;have a:i<lvs.length:=b;have d:lvs.getD i default=lvs[i]:=by simp[Wc,a]
  change (lvs.getD i default).ownBlock=some g at e
  rw[d]at e;exact(h.apt g c).1 _ (yy a) e
 ·rintro⟨i,b,e⟩;have a:i<(xs.map Prod.snd).length:=b;have d:(xs.map Prod.snd).getD i default=(xs.map Prod.snd)[i]:=by simp[Wc,xi a]
  change ((xs.map Prod.snd).getD i default).ownBlock=some g at e
  rw[d]at e;exact(h.apt g c).2 _ (yy a) e
 rcases c with c|⟨i,b,c⟩|c|⟨i,b,c⟩
 ·exact(h.orow.lt g c).1
 ·have a:i<lvs.length:=b;exact((h.lin i (by rw[<-h.llen];exact a)).lt g c).1
 ·exact(h.rrow.lt g c).1
 have a:i<xs.length:=by simpa using b
 change ((xs.map Prod.snd).getD i default).ownBlock=some g at c
 have d:(xs.map Prod.snd).getD i default=(xs[i]).2:=by simp[Wc,a]
 rw[d]at c;exact((h.frm _ (yy a)).lt g c).1
end
def RZ{xs a:List (L×Value)}(K:∀x∈xs,Wl x)(h:a.map Prod.snd=xs.map Prod.snd)(H:(a.map Prod.fst).map bare=(xs.map Prod.fst).map bare)(J:∀l∈a.map Prod.fst,l.gv<9223372036854775808/\l.got<9223372036854775808):∀y∈a,Wl y:=by
 intro y M;obtain⟨i,d,rfl⟩:=xw M;have P:a.length=xs.length:=by simpa using YK List.length h
 have f:i<xs.length:=by omega
 have e:=K _ (yy f);have E:a[i].2=xs[i].2:=by
  have:=YK (λl=>l.getD i default) h
  simpa [Wc,d,f] using this
 have g:=vR H i;have F:(a.map Prod.fst).getD i L0=a[i].1:=by simp[Wc,d]
 have G:(xs.map Prod.fst).getD i L0=xs[i].1:=by simp[Wc,f]
 rw[F,G]at g;obtain⟨j,k,m,n,p,q,r,s,_⟩:=kW g;have b:=J _ (Xu (yy d));obtain⟨⟨t,v,w,z,N,A,B,C,D,u⟩,c⟩:=e;refine⟨⟨?_,?_,?_,?_,b.2,?_,?_,?_,?_,b.1⟩,?_⟩
 ·rw[j];exact t
 ·rw[k];exact v
 ·rw[m];exact w
 ·rw[n];exact z
 ·rw[p];exact A
 ·rw[q];exact B
 ·rw[r];exact C
 ·rw[s];exact D
 rw[E];exact c
def Vw(w:World)(b:ByteArray)(e:Ending)(w':World):Prop:=Below w.heap.size w w'/\match zE b.data.toList with
 |some (td,ls,os,rj)=>∃S,e=.returned (.tuple #[.pointer (some ⟨S,0,none⟩),.bool true])/\RI os rj (λk=>w.heap.size<=k) w' S td ⟨#[]⟩ ls
 |none=>∃p,e=.returned (.tuple #[p,.bool false])
variable {b:ByteArray}
def cU{w w':World}{e:Ending}{p:Value}(a:Below w.heap.size w w')(d:zE b.data.toList=none)(c:e=.returned (.tuple #[p,.bool false])):Vw w b e w':=by
 unfold Vw;rw[d];exact⟨a,p,c⟩
def Jo(b:ByteArray)(d:0<b.size):b.data.toList=b[0]::b.data.toList.drop 1:=by
 have a:b.data.toList.length=b.size:=by simp
 cases h:b.data.toList with
 |nil=>rw[h]at a;simp at a;omega
 |cons c t=>
  have:b[0]=c:=by
   have e:b[0]=b.data.toList[0]'(by omega):=rfl;rw[e];simp[h]
  rw[this];rfl
def uV{l:List UInt8}(h:l.getD 0 0≠13):zE l=none:=by
 cases e:zE l with
 |none=>rfl
 |some s=>
  obtain⟨td,ls,os,rj⟩:=s;have:=(rT e).1.num;rw[this]at h;simp at h
def BW(b:ByteArray)(h:b.size=0\/∃a:0<b.size,b[0]≠13)(w:World):Calls prog 59 #[.string b] w (Vw w b):=by
 rcases h with h|⟨a,h⟩
 ·have e:b=⟨#[]⟩:=by
   cases b with|mk d=>have:d.size=0:=h;rw[Array.size_eq_zero_iff]at this;rw[this]
  subst e;go_enter func59,ntmps59;go_wp2_with fail;go_ret2;exact cU (xm _ _) (uV (by decide)) rfl
 have c:=fX b a;have f:zE b.data.toList=none:=uV (by rw[Jo b a];exact h);have g:((b[0].toNat:Int) != 13)=true:=by rw[Yh];intro e;exact h (ya.1 (by have:=Int.ofNat.inj e;exact this))
 go_enter func59,ntmps59;go_wp2_with fail;go_ret2;exact cU (xm _ _) f rfl
def BJ(h:Pl.nums t=none):zE (13::t)=none:=by
 cases e:zE (13::t) with
 |none=>rfl
 |some s=>
  obtain⟨td,ls,os,rj⟩:=s;obtain⟨a,f,g,i,_⟩:=rT e;have d:=(gJ ⟨a.pl,a.bad,a.td,a.len,a.nm,a.fam,a.bal,a.ord⟩).1.small;rw[f,g,i]at d;have c:=Pl.nums_told (WS td os rj ls) (λn b=>xaC (d n b) (by omega));rw[<-(xbA a.num).2,h]at c
  cases c
def Rp(a:b.data.toList=13::t)(m:Pl.nums t=some ns)(h:∀ls,Vp ns ls->(Xn ns).left.1=[]->(Xn ns).com=(Xn ns).k->WO (Xn ns).td (Xn ns).os (Xn ns).rj ls=b.data.toList->False):zE b.data.toList=none:=by
 cases e:zE b.data.toList with
 |none=>rfl
 |some s=>
  obtain⟨td,ls,os,rj⟩:=s;rw[a]at e;obtain⟨c,d,f,g,i,j,l,_⟩:=Fv m e;exact(h ls c d f (by rw[i,j,l,g,a])).elim
def Rq(f:b.data.toList=13::t)(j:Pl.nums t=some ns)(i:∀n∈ns,n<9223372036854775808)(h:Vp ns ls)(r:(Xn ns).left.1=[])(d:WO (Xn ns).td (Xn ns).os (Xn ns).rj ls=b.data.toList):zE b.data.toList=some ((Xn ns).td,ls,(Xn ns).os,(Xn ns).rj):=by
 obtain⟨q,hd⟩:=gJ h;have a:b.data.toList=13::Pl.toldB ns:=by
  have l:=Pl.nums_told (WS (Xn ns).td (Xn ns).os (Xn ns).rj ls) (λn g=>xaC (q.small n g) (by omega));have m:13::Pl.toldB (WS (Xn ns).td (Xn ns).os (Xn ns).rj ls)=13::t:=by rw[<-f];exact d
  rw[(xbA m).2,j]at l;have e:=xt l;rw[f,<-(xbA m).2,<-e]
 have k:=hd i r _ a d;have c:=k;rw[f]at c;obtain⟨_,_,_,_,_,p,_,_⟩:=Fv j c;rw[k,<-p]
def NI{w:World}{a:Option Addr}{cap:Nat}(h:w.ownsRow B 3 1 (.slice a ns.length cap) ns.length (I ns))(l:0<w.heap.size):∃D b,D<w.heap.size/\ns.length<=cap/\(0<ns.length->a=some ⟨D,b,none⟩/\∀j,j<ns.length->w.cell? ⟨D,b+j,none⟩=some (.int .i64 (ns.getD j 0:Nat))):=by
 rcases h.2 with ⟨d,n⟩|⟨g,c,e,d,m,i,f,_⟩
 ·exact⟨0,0,l,by omega,λp=>by omega⟩
 injection d with e1 e2 e3
 subst e1 e3;refine⟨g,0,zc i,f,λ_=>⟨rfl,λj k=>?_⟩⟩;have:=h.cellAt j (by simp[I];omega);rw[Yz,this];simp[I,xi k,Wc]
def Ls(b:ByteArray)(hs:b.size<=4194304)(h0:0<b.size)(d9:b[0]=13)(w:World)(i2:0<w.heap.size):Calls prog 59 #[.string b] w (Vw w b):=by
 have i7:=fX b h0;have hc:((b[0].toNat:Int) != 13)=false:=by rw[d9];rfl
 have P:b.data.toList=13::b.data.toList.drop 1:=(Jo b h0).trans (by rw[d9])
 cases B:Pl.nums (b.data.toList.drop 1) with
 |none=>
  have HR:Ha (zE b.data.toList=none):=by unfold Ha;rw[P];exact BJ B
  have H2:=zb (mQ (b.extract 1 b.size) (by rw[aW];omega) (by rw[ZA];exact B));clear B P;go_enter func59,ntmps59;go_wp2_with fail;refine(H2.o _).mono ?_
  rintro e w2 ⟨M,rfl⟩;go_wp2_with fail;go_ret2;exact cU M HR.o rfl
 |some ns=>
  have f2:ns.length<=4194304:=xj (Pl.nums_len _ _ _ (xe _) B) (by rw[XM];simp;omega);have a8:=zb (Pl.nums_lt _ _ _ (xe _) B);have d:=zb (TN a8.o f2);have E:=zb (Rp P B);have g7:=zb (λls=>Rq (ls:=ls) P B a8.o);have H2:=zb (fY (b.extract 1 b.size) (by rw[aW];omega) ns (by rw[ZA];exact B));clear B P;go_enter func59,ntmps59;go_wp2_with fail;refine(H2.o _).mono ?_
  rintro e w2 ⟨M,a,cap,rfl,ho⟩;obtain⟨D,i3,hD,a4,e9⟩:=NI ho (xl i2 M.size);have HT:=zb (LN w2 D i3 cap a ns a4 hD e9 a8.o f2);have G:=zb M;clear ho e9 a4 hD M H2;generalize i0:ns.length=n1 at *;clear i0;go_wp2_with fail;refine(HT.o).mono ?_
  rintro e w3 ⟨S,x,xs,rfl,e0,W,f8,c,f⟩;have HX:=zb c;have b1:Ha (Below w.heap.size w w3):=G.o.trans (e0.mono G.o.size)
  cases x with
  |false=>
   have HR:Ha (zE b.data.toList=none):=E.o (λls h1 h2 h3 _=>by
    have:=c.2 ⟨(Ff W).2 h1.pl,h1.bad,h2,h3⟩
    cases this)
   clear f c HX HT;go_wp2_with fail;go_ret2;exact cU b1.o HR.o rfl
  |true=>
   obtain⟨f4,f5,f6,i1⟩:=c.1 rfl;obtain⟨v,ov,lvs,rv,h⟩:=f rfl;have k:Ha ((sF xs xs.length).map Prod.fst=ZF ns):=NZ W;have b2:Ha (∀y∈sF xs xs.length,Wl y):=λy hy=>f8 y (xM y hy)
   have X:Ha (∀l∈ZF ns,(l.par.length<=4194304/\∀p∈l.par,p.1<9223372036854775808/\p.2<9223372036854775808)/\l.gv=0):=λl hl=>by
    have:l∈(Xn ns).ls:=by
     rw[<-k.o]at hl;obtain⟨y,hy,rfl⟩:=Xz.1 hl;rw[<-W];exact Xu (xM y hy)
    exact⟨d.o.ls l this,d.o.gz l this⟩
   have d3:=zb ((Ff W).1 f4);have g5:=zb f5;have g6:=zb f6;have d0:Ha ((ZF ns).length=(Xn ns).ls.length):=(DD d3.o _ (xe _)).1;clear W f8 c f HX HT f4 f5 f6 i1 e0;generalize sF xs xs.length=xs0 at *;obtain⟨td,s⟩:=Ww ((Xn ns).td);rw[<-s.o]at h;obtain⟨l0,r⟩:=Ww (ZF ns);rw[<-r.o]at k X d0;obtain⟨N,HN⟩:=Ww xs0.length;have a2:N=l0.length:=by rw[HN.o,<-k.o,List.length_map]
   have h5:N<=4194304:=by rw[a2,d0.o];exact d.o.ll
   obtain⟨va,vc,hv⟩:=zj h.row;rw[<-HN.o]at hv;subst hv;have i5:td<9223372036854775808:=by rw[s.o];exact d.o.td
   have c0:w3.cell? ⟨S,0,none⟩=some (.int .i64 td):=by rw[za h.box];rfl
   have c1:w3.cell? ⟨S,1,none⟩=some (.slice va N vc):=by rw[za h.box];rfl
   have h6:=zc h.box;have d5:=zb h;have d1:=zb (Bn h b2.o (by rw[<-HN.o];exact h5));clear h;by_cases h1:td<=2147483647
   ·have t1:decide ((2147483647:Int)<(td:Int))=false:=xy (by omega);by_cases h2:N<=30
    ·have t2:decide ((30:Int)<(N:Int))=false:=xy (by omega);go_wp2_with fail;refine(d1.o).mono ?_
     rintro e w4 ⟨⟨y,rfl,hy⟩,e5⟩;rw[k.o]at hy;have HY:=zb hy;have d4:=zb (d5.o.below e5);obtain⟨R,HR⟩:=Ww (VX l0.length 0 l0);clear c0 c1 t1 t2 d1 e5 d5 h6 hy;go_wp2_with fail;go_loopw [5,7] (λi4 ii wr=>∃(i:Nat) (z:Bool) (A:List (L×Value)),i<=N/\ii=.int .i64 i/\i4=.bool z/\RW w2 wr S td (.slice va N vc) A ov (Xn ns).os lvs rv (Xn ns).rj/\A.map Prod.snd=xs0.map Prod.snd/\(z=true->NumP l0/\FmI l0 R i (A.map Prod.fst))/\(z=false->¬NumP l0\/R=none)) (λ_ ii _=>N-(intOf ii).toNat)
     case atStart=>
      refine⟨0,y,xs0,by omega,rfl,rfl,d4.o,rfl,λe=>⟨HY.o.1 e,⟨Nat.zero_le _,by rw[xbK,k.o];exact HR.o.symm,by rw[k.o],λx c=>by rw[k.o]at c;have:=(X.o x c).2;omega,λx c=>?_⟩⟩,λe=>Or.inl (λB=>by have:=HY.o.2 B;rw[e]at this;cases this)⟩;obtain⟨q,hq,rfl⟩:=Xz.1 c;exact(b2.o q hq).1.2.2.2.2.1
     clear d4 HY;obtain⟨i,z,A,hi,rfl,rfl,f,b7,g1,g2⟩:=hrel;have c1:wr.cell? ⟨S,1,none⟩=some (.slice va N vc):=by rw[za f.box];rfl
     have i6:=zc f.box;have i8:A.length=N:=by
      have:=YK List.length b7
      simp only[List.length_map]at this;rw[this,HN.o]
     have F:=zb f;have b0:=zb b7;have d8:=zb g1;have a7:Ha (Below w.heap.size w wr):=G.o.trans (f.bel.mono G.o.size);have g3:Ha (z=false->zE b.data.toList=none):=λez=>E.o (λls q1 _ _ _=>by
      rcases g2 ez with q|q
      ·exact q (by rw[r.o];exact q1.nm)
      have:=q1.fam
      rw[<-r.o,<-HR.o,q]at this
      cases this)
     clear f b7 g1 g2
     cases z with
     |false=>
      by_cases h9:i<N
      all_goals
       have f1:decide ((i:Int)<(N:Int))=decide (i<N):=by simp
       have hr:=g3.o rfl
       first
       |(have b5:(i:Int)<(N:Int):=by omega)
       |(have b5:¬(i:Int)<(N:Int):=by omega)
       clear f1;have Z:=zb hr;clear hr;go_wp2_with fail;go_ret2;exact cU a7.o Z.o rfl
     |true=>
      obtain⟨a5,u⟩:=d8.o rfl;have f0:i*4294967294<=30*4294967294:=xas _ (by omega);have b3:Ha (∀y∈A,Wl y):=RZ b2.o b0.o (by rw[u.bare,k.o]) (λl hl=>⟨by have:=u.gvn l hl;omega,u.got l hl⟩);have a1:Ha (∀x∈A,∃m∈l0,bare x.1=bare m):=λx c=>MA u.bare (Xu c)
      have c9:Ha (∀x∈A,x.1.gv<=30*4294967294):=λx c=>xj (u.gvn _ (Xu c)) f0
      have C:=zb u;have J:=zb a5;clear u a5 d8 f0;by_cases h9:i<N
      ·have b5:(i:Int)<(N:Int):=by omega
       have HF:=zb (Gf F.o b3.o (by omega) (λx c=>by
        obtain⟨m,hm,e⟩:=a1.o x c;rw[(kW e).2.2.2.2.2.2.2.2];exact(X.o m hm).1) (λx c=>xj (c9.o x c) (by decide)) (λx c=>by
        obtain⟨m,hm,e⟩:=a1.o x c;rw[(kW e).2.2.1];exact(J.o.mem hm).1) i (by omega))
       obtain⟨Q,HQ⟩:=Ww (VZ (A.map Prod.fst) i);rw[<-HQ.o]at HF;go_wp2_with fail;refine(HF.o).mono ?_
       intro e w5 hP;unfold PE at hP
       cases Q with
       |some ls' =>
        obtain⟨rfl,c5,h8,b4,T⟩:=hP;have a9:=zb T;clear T HF c1;go_wp2_with fail;go_roundw
        case rel=>exact⟨i+1,true,c5,by omega,by go_num,rfl,a9.o,b4.trans b0.o,λ_=>⟨J.o,by rw[h8];exact C.o.step (by omega) HQ.o.symm⟩,λe=>by cases e⟩
        simp[intOf];omega
       |none=>
        obtain⟨rfl,c5,b4,T⟩:=hP;have a9:=zb T;clear T HF c1;go_wp2_with fail;go_roundw
        case rel=>exact⟨i+1,false,c5,by omega,by go_num,rfl,a9.o,b4.trans b0.o,(λe=>by cases e),λ_=>Or.inr (C.o.none (by omega) HQ.o.symm)⟩
        simp[intOf];omega
      obtain rfl:i=N:=by omega
      have b5:¬(i:Int)<(i:Int):=by omega
      have c7:=zb (Ae F.o b3.o (by omega) (λx c=>by
       obtain⟨m,hm,e⟩:=a1.o x c;have q:=J.o.mem hm;have g:=c9.o x c;obtain⟨_,_,_,_,e1,e2,e3,e4,_⟩:=kW e;rw[e1,e2,e3,e4];exact⟨q.2.1,q.2.2.1,q.2.2.2.1,q.2.2.2.2,by omega⟩))
      have d2:=zb (λ(wx:World) (c:Below wr.heap.size wr wx)=>DA (F.o.below c) b3.o (by omega) (λj hj=>by
       rw[Mz C.o.bare,(kW (vR C.o.bare j)).1];exact(J.o j (by rw[<-nS C.o.bare];exact hj)).2.2.2.2.2.2.2.2) d.o.ol d.o.os d.o.rc.1 d.o.rc.2)
      have c8:Ha (R=some (A.map Prod.fst)):=by
       have:=C.o
       rw[a2]at this;exact this.done
      have Z:Ha (∀ls,Vp ns ls->ls=A.map Prod.fst):=λls q=>by
       have:=q.fam
       rw[<-r.o,<-HR.o,c8.o]at this;exact(xt this).symm
      go_wp2_with fail;refine(c7.o).mono ?_
      rintro e w5 ⟨⟨x1,rfl,f9⟩,e6⟩;have a6:=zb e6;clear c7 e6;go_wp2_with fail;refine(d2.o w5 a6.o).mono ?_
      rintro e w6 ⟨⟨x2,rfl,g0⟩,e7⟩;have c6:Ha (Below wr.heap.size wr w6):=a6.o.trans (e7.mono a6.o.size);have H:Ha (Below w.heap.size w w6):=a7.o.trans (c6.o.mono a7.o.size);have d7:=zb f9;have a0:=zb g0;clear d2 e7 f9 g0;by_cases b9:x1=true/\x2=true
      ·obtain⟨rfl,rfl⟩:=b9;have HC:Ha (Vp ns (A.map Prod.fst)):=⟨d3.o,g5.o,by rw[<-s.o];exact h1,by rw[<-r.o,<-a2];exact h2,by rw[<-r.o];exact J.o,by rw[<-r.o,<-HR.o];exact c8.o,d7.o.1 rfl,a0.o.1 rfl⟩
       have t:=zb (gJ HC.o).1;obtain⟨ro,b6,f3⟩:=(F.o.below c6.o).toV t.o.ok t.o.len t.o.fam t.o.rc h1 t.o.ris;have g8:=zb b6;have g4:=zb f3;have d6:Ha (w2.heap.size<=S/\∀g,(Value.slice va i vc).ownBlock=some g->w2.heap.size<=g):=⟨F.o.slo,λg hg=>(F.o.row.lt g hg).1⟩
       have g9:=zb (BZ b6 ⟨λo ho=>(a0.o.1 rfl).ord o ho |>.id.2,(a0.o.1 rfl).olen,t.o.li⟩ (λn B=>by rw[s.o]at B;exact xaC (t.o.small n B) (by omega)) (λl hl p hp=>by
        obtain⟨q,hq,rfl⟩:=Xz.1 hl;obtain⟨m,hm,e⟩:=a1.o q hq;rw[(kW e).2.2.2.2.2.2.2.2]at hp;exact((X.o m hm).1.2 p hp).2) (λo ho=>(d.o.os o ho).2.2.2) d.o.rc.2)
       clear b6 f3;go_wp2_with fail;refine(g9.o).mono ?_
       rintro e w7 ⟨e8,rfl⟩;go_wp2_with fail;go_ret2;have f7:Below w.heap.size w w7:=H.o.trans (e8.mono H.o.size);have b8:w.heap.size<=w2.heap.size:=G.o.size;show Vw w b (.returned (.tuple #[.pointer (some ⟨S,0,none⟩),.bool (WO td (Xn ns).os (Xn ns).rj (A.map Prod.fst)==b.toList)])) w7;rw[yd];by_cases a3:WO td (Xn ns).os (Xn ns).rj (A.map Prod.fst)=b.data.toList
       ·rw[Yi.2 a3];have hr:=g7.o (A.map Prod.fst) HC.o g6.o (by rw[<-s.o];exact a3);unfold Vw;rw[hr,<-s.o];exact⟨f7,S,rfl,_,_,ro,g8.o.below e8,xj b8 d6.o.1,λg hg=>xj b8 (d6.o.2 g hg),λg hg=>xj b8 (g4.o g hg)⟩
       rw[xr.2 a3];exact cU f7 (E.o (λls q _ _ h4=>a3 (by rw[s.o,<-Z.o ls q];exact h4))) rfl
      have K:Ha (zE b.data.toList=none):=E.o (λls q _ _ _=>b9 (by
       have e:=Z.o ls q;subst e;exact⟨d7.o.2 q.bal,a0.o.2 q.ord⟩))
      have h7:x1=false\/(x1=true/\x2=false):=by
       cases x1<;>cases x2<;>simp_all
      clear b9;rcases h7 with rfl|⟨rfl,rfl⟩
      all_goals
       go_wp2_with fail;go_ret2
       exact cU H.o K.o rfl
    have t2:decide ((30:Int)<(N:Int))=true:=Xt (by omega);have K:Ha (zE b.data.toList=none):=E.o (λls q _ _ _=>h2 (by rw[a2,r.o];exact q.len));go_wp2_with fail;go_ret2;exact cU b1.o K.o rfl
   have t1:decide ((2147483647:Int)<(td:Int))=true:=Xt (by omega);have K:Ha (zE b.data.toList=none):=E.o (λls q _ _ _=>h1 (by rw[s.o];exact q.td));go_wp2_with fail;go_ret2;exact cU b1.o K.o rfl
