import Derived.Test.YtgcedalggnmooaaGreatDoorRiX
import Derived.Test.YtgcedalggnmooaaGreatDoorOy0X
set_option linter.all false
set_option maxRecDepth 100000
set_option maxHeartbeats 1600000
namespace Go.Proofs.YtgcedalggnmooaaGreatDoor
def ZL(ns:List Nat):List L:=UR (Vy ns).ls (Vy ns).ls.length
structure TN(b:List UInt8)(ns:List Nat)(ls:List L):Prop where
 num:b=13::Pl.toldB ns
 pl:UQ (Vy ns).ls
 bad:(Vy ns).left.2=false
 left:(Vy ns).left.1=[]
 com:(Vy ns).com=(Vy ns).k
 td:(Vy ns).td<=2147483647
 len:(ZL ns).length<=30
 nm:NumP (ZL ns)
 fam:Uq (ZL ns).length 0 (ZL ns)=some ls
 bal:QH ls
 ord:xZ ls (Vy ns).os (Vy ns).rj
 st:Vc (Vy ns).td (Vy ns).os (Vy ns).rj ls=b
theorem eP(ls:List L)(i:Nat)(a:i<ls.length):(ls.map UT).getD i L0=UT (ls.getD i L0):=by simp[Uv,a]
theorem xA(ls:List L)(n:Nat):UB n (ls.map UT)=UB n ls:=by
 unfold UB;rw[xam];rfl
variable {l0 ls ms:List L}
theorem qT{n:Nat}(h:UB n ls<ls.length):zd (ls.map UT) n=UT (zd ls n):=by
 unfold zd;rw[xA,eP _ _ h]
theorem Hx(ls:List L)(a:∀l∈ls,l.ex<=2147483647){ps:List (Nat×Nat)}(c:ps≠[])(b:∀p∈ps,UB p.1 ls<ls.length):Uk ls ps 2147483648=UL ls ps:=by
 cases ps with
 |nil=>exact absurd rfl c
 |cons p ps=>
  unfold Uk UL;rw[Yq,Yq];have:(zd ls p.1).ex<=2147483647:=a _ (zg (b p (by simp)));congr 1;omega
theorem MK(o:O)(a:(o.li.map Prod.fst).Nodup):dA (UZ o)=dA o:=by
 unfold dA UZ;dsimp only;rw[gZ (nU (nV a))]
theorem rC{b:List UInt8}{td:Nat}{os:List O}{rj:List (Nat×Nat)}(h:zI b=some (td,ls,os,rj)):TN b (Ve td os rj ls) ls/\(Vy (Ve td os rj ls)).td=td/\(Vy (Ve td os rj ls)).os=os/\(Vy (Ve td os rj ls)).rj=rj/\TC td os rj ls:=by
 obtain⟨hN,hb⟩:=lH h;have a:=hN.good;have T:∀i,i<ls.length->1<=(ls.getD i L0).id:=λi c=>(hN.snd.one i c).id
 have B:∀o∈os,1<=o.id:=λo r=>(hN.sml.ord o r).1
 have v:=tY a.ids T;have z:∀i,i<ls.length->Ris (ls.getD i L0).par:=λi c=>by
  have e:(ls.map kap).getD i L0=ls.getD i L0:=by rw[hN.kap]
  rw[IL]at e;have e2:zW (ls.getD i L0).par=(ls.getD i L0).par:=YA L.par e;rw[<-e2];exact EL (hN.ok _ (zg c)).par.1 (hN.snd.one i c).keys
 have X:∀x∈ls,Ris x.par:=λx A=>by
  obtain⟨i,c,rfl⟩:=xt A;have e:ls.getD i L0=ls[i]:=by simp[Uv,c]
  rw[<-e];exact z i c
 have W:∀o∈os,Ris o.li:=λo r=>by
  rw[<-hN.os]at r;obtain⟨x,A,rfl⟩:=(lB a.oids B).1 r;exact nV (a.keys x A)
 have a4:Vf os=os.flatMap dA:=by
  conv=>rhs;rw[<-hN.os]
  unfold UP Vf;rw[xaM];obtain⟨_,q2⟩:=bJ (x:=λi=>(os.getD i O0).id) (qL a.oids) (os.length+1) 0 (by have:=fH (λi=>(os.getD i O0).id) 0 os.length;omega);have:∀(N:List Nat),(∀i∈N,i<os.length)->N.flatMap (λi=>dA (os.getD i O0))=N.flatMap (λi=>dA (UZ (os.getD i O0))):=λN=>by
   induction N with
   |nil=>intro _;rfl
   |cons i N ih=>
    intro E;rw[XT,XT,ih (λj d=>E j (by simp[d])),MK _ (a.keys _ (Io (E i (by simp))))]
  exact this _ (λi c=>((q2 i).1 c).1)
 have g:=Nv (td:=td) (os:=os) (rj:=rj) (ls:=ls) (by rw[v.length_eq]) (λx A=>X x (v.mem_iff.1 A)) a4 W hN.rj;have a3:ls.Nodup:=by
  rw[yc,Xz];intro i j c d a7 e;have:=a.ids i j c d (by simp[Uv,c,d,e]);omega
 obtain⟨p1,p2⟩:=MS (v.map UT) a3 a.place;have u:ZL (Ve td os rj ls)=ls.map UT:=by unfold ZL;rw[g];exact p2
 have t:(ls.map UT).length=ls.length:=Xl ..;have F:∀i j,i<(ls.map UT).length->j<(ls.map UT).length->((ls.map UT).getD i L0).id=((ls.map UT).getD j L0).id->i=j:=λi j c d e=>by
  rw[t]at c d;rw[eP _ _ c,eP _ _ d]at e;exact a.ids i j c d e
 have C:∀i,i<(ls.map UT).length->((ls.map UT).getD i L0).place=i+1:=λi c=>by
  rw[t]at c;rw[eP _ _ c];exact a.place i c
 have G:∀j,j<ls.length->UB (ls.getD j L0).id ls=j:=λj d=>eJ d (λk hk e=>by have:=a.ids k j (by omega) d e;omega) rfl
 have Q:∀l∈ls,l.ex<=2147483647:=λl hl=>(hN.ok l hl).ex
 have R:∀l∈ls.map UT,l.ex<=2147483647:=λl hl=>by
  obtain⟨x,A,rfl⟩:=Xg.1 hl;exact Q x A
 have a6:wy (ls.map UT) 0=ls.map UT:=by
  unfold wy wq;have:(ls.map UT).map (λx=>({ x with gv:=Uz ((ls.map UT).take 0) x.id,got:=if x.place<=0 then tO x else x.got }:L))=(ls.map UT).map id:=by
   apply XE
   intro x A;obtain⟨j,d,rfl⟩:=xt A;have a1:j<ls.length:=by simpa using d
   have m:=C j d;have e:(ls.map UT).getD j L0=(ls.map UT)[j]:=by simp[Uv,a1]
   rw[e]at m;rw[xg (by omega)];have K:((ls.map UT)[j]).gv=0:=by simp[UT]
   generalize (ls.map UT)[j]=y at K
   cases y;simp only at K
   subst K;rfl
  rw[this,xau]
 have P:∀j,0<=j->j<(ls.map UT).length->Tx (ls.map UT) j:=λj _ d=>by
  rw[t]at d;have w:((ls.map UT).getD j L0).par=(ls.getD j L0).par:=by rw[eP _ _ d];rfl
  have D:∀p∈(ls.getD j L0).par,oA (ls.map UT) ((ls.map UT).getD j L0) p:=λp m=>by
   obtain⟨k,k1,k2,k3⟩:=hN.snd.fam j d p m;have hk:UB p.1 ls=k:=by rw[<-k2];exact G k (by omega)
   have H:UB p.1 ls<ls.length:=by omega
   refine⟨by rw[xA,t];exact H,(hN.snd.one j d).small p m,?_,?_⟩
   ·rw[qT H,eP _ _ d];show(ls.getD (UB p.1 ls) L0).gd=_;rw[hk];exact k3
   rw[qT H,eP _ _ d];show(ls.getD (UB p.1 ls) L0).place<(ls.getD j L0).place;rw[hk,a.place k (by omega),a.place j d];omega
  refine⟨by rw[w];exact(hN.ok _ (zg d)).par.1,by rw[w];exact z j d,λp m=>D p (by rw[w]at m;exact m),λJ=>?_⟩;rw[w]at J ⊢;rw[Hx _ R J (λp m=>(D p m).1),eP _ _ d];show UL (ls.map UT) _=(ls.getD j L0).ex;rw[hN.snd.exp j d J];unfold UL;have:∀(ps:List (Nat×Nat)) (e:Nat),(∀p∈ps,UB p.1 ls<ls.length)->ps.foldl (λe p=>min e (zd (ls.map UT) p.1).ex) e=ps.foldl (λe p=>min e (zd ls p.1).ex) e:=λps=>by
   induction ps with
   |nil=>intro e _;rfl
   |cons p ps ih=>
    intro e E;rw[Yq,Yq,qT (E p (by simp))];exact ih _ (λq hq=>E q (by simp[hq]))
  exact this _ _ (λp m=>by have:=(D p m).1;rw[xA,t]at this;exact this)
 have a0:∀n,Uz (ls.map UT) n=Uz ls n:=λn=>by unfold Uz;rw[Ya];rfl
 have S:wy (ls.map UT) (ls.map UT).length=ls:=by
  unfold wy wq;rw[Xa,Ya];have:ls.map ((λx=>({ x with gv:=Uz (ls.map UT) x.id,got:=if x.place<=(ls.map UT).length then tO x else x.got }:L))∘UT)=ls.map id:=by
   apply XE
   intro x A;obtain⟨j,d,rfl⟩:=xt A;have e:ls.getD j L0=ls[j]:=by simp[Uv,d]
   have m:=a.place j d;have K:=hN.snd.giv j d;have M:=(hN.snd.one j d).par;rw[e]at m K M;show({ UT ls[j] with gv:=Uz (ls.map UT) ls[j].id,got:=if ls[j].place<=(ls.map UT).length then tO (UT ls[j]) else (UT ls[j]).got }:L)=ls[j];rw[a0,<-K,xe (by rw[t];omega)];have hq:tO (UT ls[j])=ls[j].got:=by
    unfold tO UT;dsimp only;by_cases Z:ls[j].par.length=0
    ·rw[xe Z,xe Z]
    rw[xg Z];rcases M with M|M
    ·exact absurd (by rw[M];rfl) Z
    exact M.symm
   rw[hq];rfl
  rw[this,xau]
 obtain⟨f1,_⟩:=Ic (ls:=ls.map UT) F C (ls.map UT).length 0 (by omega);refine⟨⟨hb,by rw[g];exact p1,by rw[g],by rw[g],by rw[g],by rw[g];exact hN.td,by rw[u,t];exact hN.room,?_,?_,λi c=>?_,?_,?_⟩,by rw[g],by rw[g],by rw[g],hN⟩
 ·rw[u];intro i c;rw[t]at c;rw[eP _ _ c,xA];have s:=hN.ok _ (zg c);have a5:=s.sum;have r:=hN.snd.one i c;refine⟨⟨r.id,s.id⟩,⟨r.gd,s.gd⟩,s.ex,by show(ls.getD i L0).free<=_;omega,by show(ls.getD i L0).hd<=_;omega,by show(ls.getD i L0).sh<=_;omega,by show(ls.getD i L0).sc<=_;omega,?_,G i c⟩;have hq:=s.got;show(if (ls.getD i L0).par.length=0 then (ls.getD i L0).got else 0)<=_;split<;>omega
 ·rw[u];have:=f1 P;rw[a6,S]at this;exact this
 ·have s:=hN.ok _ (zg c);have a5:=s.sum;have r:=hN.snd.one i c;exact⟨s.got,by omega,r.got,r.sum⟩
 ·rw[g];refine⟨a.olen,hN.rc.len,λo r=>?_,λi c=>(a.hd i c).symm,λp m=>?_,?_⟩
  ·obtain⟨s1,s2,s3⟩:=hN.snd.ord o r;refine⟨⟨B o r,a.oid o r⟩,⟨s1,(hN.sml.ord o r).2⟩,W o r,s2,λp m=>?_⟩;obtain⟨i,c,e⟩:=a.mem o r p m;have a2:=hN.ok _ (zg c);have a8:p.2<=zH os p.1:=by
    have h2:ZW o p.1=p.2:=by unfold ZW;rw[Zd (a.keys o r) m];rfl
    rw[<-h2];unfold zH;exact IU (Xe (f:=λo=>ZW o p.1) r)
   have E:=a.hd i c;rw[e]at E;have:=a2.sum;refine⟨by rw[<-e,G i c];exact c,⟨(s3 p m).1,by omega⟩,(s3 p m).2⟩
  ·obtain⟨r1,r2,r3⟩:=hN.snd.rcl p m;exact⟨r3,r2,(hN.rc.fits p m).2⟩
  have:=(ZN hN.rc.nodup).1
  rw[hN.rj]at this;exact this
 rw[g];exact hb.symm
variable {s:List Nat×Bool}
theorem eS(h:(Vp s).2.2=false):s.2=false/\s.1=(Vp s).1::(Vp s).2.1:=by
 obtain⟨l,b⟩:=s
 cases l with
 |nil=>cases h
 |cons n r=>exact⟨h,rfl⟩
theorem Dz(h:(Vw s).2.2=false):s.2=false/\s.1=(Vw s).1::(Vw s).2.1:=by
 unfold Vw at h ⊢;split at h
 ·cases h
 rename_i a;rw[xg a];exact eS h
theorem KO(s:List Nat×Bool):∀k,(Vv s k).2.2=false->s.2=false/\s.1=(Vv s k).1.flatMap (λp=>[p.1,p.2])++(Vv s k).2.1
 |0,h=>⟨h,rfl⟩
 |k+1,h=>by
  have e:(Vp (Vp (Vv s k).2).2).2.2=false:=h;obtain⟨a,b⟩:=eS e;obtain⟨c,d⟩:=eS a;obtain⟨c1,c2⟩:=KO s k c;refine⟨c1,?_⟩;show s.1=((Vv s k).1++[((Vp (Vv s k).2).1,(Vp (Vp (Vv s k).2).2).1)]).flatMap (λp=>[p.1,p.2])++(Vp (Vp (Vv s k).2).2).2.1;rw[c2,d,b];simp
theorem xU(h:(jT s).2.2=false):s.2=false/\s.1=Up (jT s).1++(jT s).2.1:=by
 obtain⟨a,b⟩:=KO (Vw s).2 (Vw s).1 h;obtain⟨c,d⟩:=Dz a;refine⟨c,?_⟩;have e:(jT s).1.length=(Vw s).1:=lM _ _;rw[d,b];unfold Up;rw[e];rfl
theorem KL(s:List Nat×Bool):∀k,(Vs s k).2=false->s.2=false/\s.1=(List.range k).map (Vx s)++(Vs s k).1
 |0,h=>⟨h,rfl⟩
 |k+1,h=>by
  obtain⟨a,b⟩:=eS (s:=Vs s k) h;obtain⟨c,d⟩:=KL s k a;refine⟨c,?_⟩;rw[d,b,Yz,yz];simp[Vx,Vs]
def Mu(x:L):List Nat:=[x.id,x.gd,x.ex,x.place,x.free,x.hd,x.sh,x.sc]++Up x.par++(if x.par.length=0 then [x.got] else [])
def Js(o:O):List Nat:=[o.id,o.gd]++Up o.li
theorem Qz(h:(Vr s).2.2=false):s.2=false/\s.1=Mu (Vt s)++(Vr s).2.1:=by
 have hF:(Vq s).2.2=false/\(Vq s).2.1=(if (Vq s).1.length=0 then [(Vr s).1] else [])++(Vr s).2.1:=by
  unfold Vr at h ⊢;by_cases a:(Vq s).1.length=0
  ·rw[xe a]at h;rw[xe a,xe a];obtain⟨b,c⟩:=eS h;exact⟨b,by rw[c];rfl⟩
  rw[xg a]at h;rw[xg a,xg a];exact⟨h,rfl⟩
 obtain⟨d,f⟩:=xU (s:=Vs s 8) hF.1;obtain⟨c1,c2⟩:=KL s 8 d;refine⟨c1,?_⟩;rw[c2,f];show _=Mu (Vt s)++(Vr s).2.1;have e:(jT (Vs s 8)).2.1=(Vq s).2.1:=rfl;rw[e,hF.2];show(List.range 8).map (Vx s)++(Up (Vq s).1++_)=_;unfold Mu Vt;simp[Yz]
theorem Ns(s:List Nat×Bool)(k:Nat)(h:(eY s k).2.2=false):s.2=false/\s.1=(eY s k).1.flatMap Mu++(eY s k).2.1:=by
 induction k with
 |zero=>exact⟨h,rfl⟩
 |succ k ih=>
  rw[eY]at h ⊢;generalize eY s k=q at h ih ⊢;obtain⟨a,b⟩:=Qz (s:=q.2) h;obtain⟨c,d⟩:=ih a;refine⟨c,?_⟩;dsimp only;rw[d,b,List.flatMap_append,List.flatMap_singleton,List.append_assoc]
theorem nX(s:List Nat×Bool):∀k,(eY s k).1.length=k/\∀x∈(eY s k).1,x.gv=0
 |0=>⟨rfl,λx a=>by cases a⟩
 |k+1=>by
  obtain⟨b,c⟩:=nX s k;refine⟨by rw[eY,xb,b];rfl,λx a=>?_⟩;rcases xw.1 a with a|a
  ·exact c x a
  simp only[Xq]at a;subst a;rfl
theorem QA(h:(Vu s).2.2=false):s.2=false/\s.1=Js (Vu s).1++(Vu s).2.1:=by
 obtain⟨a,b⟩:=xU (s:=(Vp (Vp s).2).2) h;obtain⟨c,d⟩:=eS a;obtain⟨c1,c2⟩:=eS c;refine⟨c1,?_⟩;rw[c2,d,b];rfl
theorem EU(s:List Nat×Bool):∀k,(gL s k).2.2=false->s.2=false/\s.1=(gL s k).1.flatMap Js++(gL s k).2.1
 |0,h=>⟨h,rfl⟩
 |k+1,h=>by
  obtain⟨a,b⟩:=QA (s:=(gL s k).2) h;obtain⟨c,d⟩:=EU s k a;refine⟨c,?_⟩;show s.1=((gL s k).1++[(Vu (gL s k).2).1]).flatMap Js++(Vu (gL s k).2).2.1;rw[d,b];simp
theorem xQ(s:List Nat×Bool):∀k,(gL s k).1.length=k
 |0=>rfl
 |k+1=>by rw[gL,xb,xQ s k];rfl
variable {ns:List Nat}
theorem QB(h:(Vy ns).left.2=false):ns=(Vy ns).td::(Vy ns).com::(Vy ns).k::((Vy ns).ls.flatMap Mu++((Vy ns).os.length::((Vy ns).os.flatMap Js++(Up (Vy ns).rj++(Vy ns).left.1))))/\(Vy ns).ls.length=(Vy ns).k/\∀x∈(Vy ns).ls,x.gv=0:=by
 unfold Vy at h ⊢;dsimp only at h ⊢;generalize r:Vp (ns,false)=a at *;generalize t:Vp a.2=b at *;generalize u:Vw b.2=c at *;generalize hd:eY c.2 c.1=d at *;generalize v:Vw d.2=e at *;generalize i:gL e.2 e.1=f at *;generalize w:jT f.2=g at *;obtain⟨D,g2⟩:=xU (s:=f.2) (by rw[w];exact h);obtain⟨C,q⟩:=EU e.2 e.1 (by rw[i];exact D);obtain⟨B,p⟩:=Dz (s:=d.2) (by rw[v];exact C);obtain⟨A,n⟩:=Ns c.2 c.1 (by rw[hd];exact B);obtain⟨c1,c2⟩:=Dz (s:=b.2) (by rw[u];exact A);obtain⟨z,m⟩:=eS (s:=a.2) (by rw[t];exact c1);obtain⟨E,l⟩:=eS (s:=(ns,false)) (by rw[r];exact z);rw[w]at g2;rw[i,g2]at q;rw[v,q]at p;rw[hd,p]at n;rw[u,n]at c2;rw[t,c2]at m;rw[r,m]at l;have y:=xQ e.2 e.1;rw[i]at y;have j:=nX c.2 c.1;rw[hd]at j;refine⟨?_,j.1,j.2⟩;rw[y];exact l
theorem Kk{f:Nat->Nat}:∀{E M:List Nat},E.Nodup->(∀x∈E,x∈M)->(E.map f).sum<=(M.map f).sum
 |[],M,_,_=>by simp
 |x::E,M,hn,hs=>by
  have a:=XP.1 hn;have d:=hs x (by simp);have g:=Kk (f:=f) (E:=E) (M:=M.erase x) a.2 (λy b=>(xaV (λe=>a.1 (by rw[<-e];exact b))).2 (hs y (by simp[b])));have c:=((List.perm_cons_erase d).map f).sum_nat;rw[List.map_cons,List.sum_cons]at c ⊢;omega
theorem nJ{x:Nat->Nat}{N:Nat}:∀(f n:Nat),(Zx x N f n).Pairwise (λa b=>x a<x b)/\∀i∈Zx x N f n,i<N/\n<x i
 |0,n=>⟨by simp[Zx],λi c=>by simp[Zx]at c⟩
 |f+1,n=>by
  rw[Zx]
  cases g:UN x n N with
  |none=>exact⟨by simp,λi c=>by simp at c⟩
  |some k=>
   obtain⟨j,l⟩:=jL g;obtain⟨h,d⟩:=nJ f (x k);refine⟨Xp.2 ⟨λb e=>(d b e).2,h⟩,λi c=>?_⟩;rcases xx.1 c with rfl|c
   ·exact⟨j,l⟩
   have:=d i c
   exact⟨this.1,by omega⟩
theorem fM{α:Type}(f:α->List Nat):∀l:List α,(l.flatMap f).length=(l.map λx=>(f x).length).sum
 |[]=>rfl
 |x::l=>by rw[XT,xb,fM f l,List.map_cons,List.sum_cons]
theorem CN{os:List O}(D:(Vf os).length=(os.flatMap Js).length)(n:∀o∈os,(dA o).length=(Js o).length):(os.map O.id).Nodup:=by
 obtain⟨s,F⟩:=nJ (x:=λi=>(os.getD i O0).id) (N:=os.length) (os.length+1) 0;have p:(Zx (λi=>(os.getD i O0).id) os.length (os.length+1) 0).Nodup:=s.imp (λd e=>by rw[e]at d;exact Yf _ d);have z:(Vf os).length=((Zx (λi=>(os.getD i O0).id) os.length (os.length+1) 0).map (λi=>(dA (os.getD i O0)).length)).sum:=by
  unfold Vf;rw[fM]
 have A:(os.flatMap Js).length=((List.range os.length).map (λi=>(dA (os.getD i O0)).length)).sum:=by
  rw[fM,<-qS (λo=>(Js o).length) O0 os];congr 1;apply XE;intro i g;exact(n _ (Io (by simpa using g))).symm
 have c:∀i,i<os.length->i∈Zx (λi=>(os.getD i O0).id) os.length (os.length+1) 0:=λi g=>by
  by_cases v:i∈Zx (λi=>(os.getD i O0).id) os.length (os.length+1) 0
  ·exact v
  exfalso
  have:=Kk (f:=λi=>(dA (os.getD i O0)).length) (E:=i::Zx (λi=>(os.getD i O0).id) os.length (os.length+1) 0) (M:=List.range os.length) (XP.2 ⟨v,p⟩) (λy r=>by
   rcases xx.1 r with rfl|r
   ·simpa using g
   simpa using (F y r).1)
  rw[List.map_cons,List.sum_cons,<-A,<-D,z]at this;have w:1<=(dA (os.getD i O0)).length:=by unfold dA;simp
  omega
 rw[yc,Xz];intro i j g C B e;have h:i<os.length:=by simpa using g
 have k:j<os.length:=by simpa using C
 have G:(os.getD i O0).id=(os.getD j O0).id:=by simpa [Uv,h,k] using e
 obtain⟨a,t,l⟩:=xt (c i h);obtain⟨b,u,m⟩:=xt (c j k);rcases Nat.lt_trichotomy a b with q|q|q
 ·have:=Xz.1 s a b t u q
  rw[l,m]at this;omega
 ·subst q;rw[l]at m;omega
 have:=Xz.1 s b a u t q
 rw[l,m]at this;omega
theorem Jb(x:L):(cL x).length=9+2*x.par.length+(if x.par.length=0 then 1 else 0):=by
 unfold cL Up;rw[aI];simp only[xb,List.length_cons,XB,fU,aI];split<;>simp<;>omega
theorem Mv(x:L):(Mu x).length=9+2*x.par.length+(if x.par.length=0 then 1 else 0):=by
 unfold Mu Up;simp only[xb,List.length_cons,XB,fU];split<;>simp<;>omega
theorem Jr(o:O)(a:(o.li.map Prod.fst).Nodup):(dA o).length=(Js o).length:=by
 unfold dA Js Up;simp only[xb,List.length_cons,XB,fU,bS _ (aQ a)]
theorem Ny{a b:List Nat}(d:∀n∈a,n<9223372036854775808)(e:∀n∈b,n<9223372036854775808)(h:Pl.toldB a=Pl.toldB b):a=b:=by
 have c:=Pl.nums_told a d;rw[h,Pl.nums_told b e]at c;exact(xr c).symm
theorem FL{x:L}(a:L.Ok x)(e:∀p∈x.par,p.2<=2147483647):∀n∈cL x,n<=2147483647:=by
 intro n b;have j:=a.sum;have i:=a.place;have k:=a.got;have f:=a.id;have g:=a.gd;have h:=a.ex;have d:=a.par;unfold cL Up at b;simp only[xw,xx,XN,YB,YS]at b;rcases b with (b|b)|b
 ·omega
 ·rcases b with b|⟨p,c,b⟩
  ·rw[aI]at b;omega
  rw[iX]at c;have:=d.2 p c;have:=e p c;omega
 split at b
 ·simp at b;omega
 simp at b
structure TM(ns:List Nat)(ls:List L):Prop where
 pl:UQ (Vy ns).ls
 bad:(Vy ns).left.2=false
 td:(Vy ns).td<=2147483647
 len:(ZL ns).length<=30
 nm:NumP (ZL ns)
 fam:Uq (ZL ns).length 0 (ZL ns)=some ls
 bal:QH ls
 ord:xZ ls (Vy ns).os (Vy ns).rj
structure TO(ns:List Nat)(ls:List L):Prop where
 ok:∀l∈ls,L.Ok l
 len:ls.length<=30
 fam:Fam ls
 rc:Rc (Vy ns).rj
 li:∀o∈(Vy ns).os,o.li.length<=30
 small:∀n∈Ve (Vy ns).td (Vy ns).os (Vy ns).rj ls,n<=2147483647
 ris:∀l∈ls,zW l.par=l.par
theorem gB(h:TM ns ls):TO ns ls/\((∀n∈ns,n<9223372036854775808)->(Vy ns).left.1=[]->∀b,b=13::Pl.toldB ns->Vc (Vy ns).td (Vy ns).os (Vy ns).rj ls=b->zI b=some ((Vy ns).td,ls,UP (Vy ns).os,(Vy ns).rj)):=by
 obtain⟨d2,d0,c8⟩:=QB h.bad;obtain⟨a8,S⟩:=CW h.pl (Vy ns).ls.length (xc _);have G:=h.fam;have F:=h.nm;have d4:=h.len;have b6:ZL ns=UR (Vy ns).ls (Vy ns).ls.length:=rfl;rw[<-b6]at a8 S;have b0:∀i,i<(ZL ns).length->((ZL ns).getD i L0).gv=0:=λi c=>c8 _ (S i (by omega)).1
 have t:∀i,i<(ZL ns).length->((ZL ns).getD i L0).place=i+1:=λi c=>(S i (by omega)).2
 have b7:(ZL ns).length=(Vy ns).k:=by rw[a8,d0]
 have a7:(ZL ns).Perm (Vy ns).ls:=by
  have e5:(ZL ns).Nodup:=by
   rw[yc,Xz];intro i j c z e3 e;have a1:=t i c;have a2:=t j z;have e1:(ZL ns).getD i L0=(ZL ns)[i]:=by simp[Uv,c]
   have e2:(ZL ns).getD j L0=(ZL ns)[j]:=by simp[Uv,z]
   rw[e1,e]at a1;rw[e2]at a2;omega
  have e0:∀x∈ZL ns,x∈(Vy ns).ls:=λx B=>by
   obtain⟨i,c,rfl⟩:=xt B;have e1:(ZL ns).getD i L0=(ZL ns)[i]:=by simp[Uv,c]
   rw[<-e1];exact(S i (by omega)).1
  have u:(Vy ns).ls.Perm (ZL ns):=by
   have:∀(l:List L) (N:Nat),(l.filter (λx=>decide (1<=x.place/\x.place<=N))).Perm (UR l N):=λl N=>by
    induction N with
    |zero=>
     have:l.filter (λx=>decide (1<=x.place/\x.place<=0))=[]:=by
      rw[List.filter_eq_nil_iff];intro x _;simp;omega
     rw[this];exact YT _
    |succ N ih=>
     have e:UR l (N+1)=UR l N++l.filter (λx=>x.place==N+1):=by unfold UR;rw[Yz,Yo];simp
     rw[e];refine List.Perm.trans ?_ (ih.append_right _)
     clear ih e;induction l with
     |nil=>exact YT _
     |cons x l ih=>
      rw[Yd,Yd,Yd];by_cases K:x.place=N+1
      ·rw[xe (by simp;omega),xg (by simp;omega),xe (by simp[K])];exact(ih.cons x).trans List.perm_middle.symm
      by_cases h2:1<=x.place/\x.place<=N
      ·rw[xe (by simp;omega),xe (by simpa using h2),xg (by simp;omega)];exact ih.cons x
      rw[xg (by simp;omega),xg (by simpa using h2),xg (by simp;omega)];exact ih
   have K:=this (Vy ns).ls (Vy ns).ls.length;have h2:((Vy ns).ls.filter (λx=>decide (1<=x.place/\x.place<=(Vy ns).ls.length))).length=(Vy ns).ls.length:=by rw[K.length_eq];exact a8
   have h3:(Vy ns).ls.filter (λx=>decide (1<=x.place/\x.place<=(Vy ns).ls.length))=(Vy ns).ls:=xaZ.2 (List.length_filter_eq_length_iff.1 h2);rw[h3]at K;exact K
  exact u.symm
 have P:∀i j,i<(ZL ns).length->j<(ZL ns).length->((ZL ns).getD i L0).id=((ZL ns).getD j L0).id->i=j:=λi j c z e=>by
  have a:=(F i c).2.2.2.2.2.2.2.2;have b:=(F j z).2.2.2.2.2.2.2.2;rw[e]at a;omega
 have d6:wy (ZL ns) 0=ZL ns:=by
  unfold wy wq;have:(ZL ns).map (λx=>({ x with gv:=Uz ((ZL ns).take 0) x.id,got:=if x.place<=0 then tO x else x.got }:L))=(ZL ns).map id:=by
   apply XE
   intro x B;obtain⟨j,z,rfl⟩:=xt B;have e:(ZL ns).getD j L0=(ZL ns)[j]:=by simp[Uv,z]
   have r:=t j z;have hg:=b0 j z;rw[e]at r hg;rw[xg (by omega)];generalize (ZL ns)[j]=y at hg
   cases y;simp only at hg
   subst hg;rfl
  rw[this,xau]
 obtain⟨f1,f2⟩:=Ic (ls:=ZL ns) P t (ZL ns).length 0 (by omega);rw[d6]at f1 f2;have T:∀j,0<=j->j<(ZL ns).length->Tx (ZL ns) j:=by
  by_cases hc:∀j,0<=j->j<(ZL ns).length->Tx (ZL ns) j
  ·exact hc
  rw[f2 hc]at G;cases G
 rw[f1 T]at G;have R:ls=wy (ZL ns) (ZL ns).length:=(xr G).symm;have H:ls.length=(ZL ns).length:=by rw[R];unfold wy;rw[jW]
 have f:∀i,i<ls.length->ls.getD i L0={ (ZL ns).getD i L0 with gv:=Uz (ZL ns) ((ZL ns).getD i L0).id,got:=tO ((ZL ns).getD i L0) }:=λi c=>by
  rw[R];unfold wy;rw[mJ _ _ (by omega),Xa,xe (by rw[t i (by omega)];omega)]
 have w:∀n,UB n ls=UB n (ZL ns):=λn=>by rw[R];unfold wy;rw[EX]
 have X:∀n,(zd ls n).gd=(zd (ZL ns) n).gd/\(zd ls n).place=(zd (ZL ns) n).place/\(zd ls n).ex=(zd (ZL ns) n).ex:=λn=>by
  unfold zd;rw[w];rcases YD (UB n (ZL ns)) ls.length with q|q
  ·rw[f _ q];exact⟨rfl,rfl,rfl⟩
  have z1:ls.getD (UB n (ZL ns)) L0=L0:=by rw[Uv,Xo (by omega)];rfl
  have z2:(ZL ns).getD (UB n (ZL ns)) L0=L0:=by rw[Uv,Xo (by omega)];rfl
  rw[z1,z2];exact⟨rfl,rfl,rfl⟩
 have b1:∀n,Uz ls n=Uz (ZL ns) n:=λn=>by
  rw[R];unfold wy wq Uz;rw[Ya];rfl
 have M:∀i j,i<ls.length->j<ls.length->(ls.getD i L0).id=(ls.getD j L0).id->i=j:=λi j c z e=>by
  rw[f i c,f j z]at e;exact P i j (by omega) (by omega) e
 have u:∀i,i<ls.length->(ls.getD i L0).place=i+1:=λi c=>by rw[f i c];exact t i (by omega)
 have C:∀n,UB n ls<ls.length->n<=2147483647/\1<=n:=λn g=>by
  have e:=Zu g;have hq:=(F (UB n ls) (by omega)).1;rw[f _ g]at e;have e':((ZL ns).getD (UB n ls) L0).id=n:=e;rw[e']at hq;exact⟨hq.2,hq.1⟩
 have s:∀i,i<ls.length->(ls.getD i L0).par=((ZL ns).getD i L0).par:=λi c=>by rw[f i c]
 have hF:∀i,i<ls.length->Tx (ZL ns) i:=λi c=>T i (Nat.zero_le _) (by omega)
 have b4:∀i,i<ls.length->L.Ok (ls.getD i L0):=λi c=>by
  have g:=F i (by omega);have hb:=h.bal i c;have r:=u i c;refine⟨?_,?_,?_,by omega,by omega,hb.1,by rw[s i c];exact(hF i c).len,λp hq=>?_⟩
  ·rw[f i c];exact g.1.2
  ·rw[f i c];exact g.2.1.2
  ·rw[f i c];exact g.2.2.1
  rw[s i c]at hq;have:=((hF i c).fam p hq).1;exact(C p.1 (by rw[w,H];exact this)).1
 have Z:∀l∈ls,L.Ok l:=λl hl=>by
  obtain⟨j,z,rfl⟩:=xt hl;have e:ls.getD j L0=ls[j]:=by simp[Uv,z]
  rw[<-e];exact b4 j z
 have d:=h.ord;have v:∀o∈(Vy ns).os,(o.li.map Prod.fst).Nodup:=λo A=>nT (d.ord o A).ris
 have a0:∀i,i<ls.length->∀p∈(ls.getD i L0).par,p.2<=2147483647:=λi c p r=>by
  rw[s i c]at r;exact((hF i c).fam p r).2.1
 have J:∀o∈(Vy ns).os,o.li.length<=30:=λo A=>by
  have:=dV (l:=o.li.map Prod.fst) (m:=ls.map L.id) (v o A) (λx B=>by
   obtain⟨p,r,rfl⟩:=Xg.1 B;have c:=((d.ord o A).line p r).1;rw[<-Zu c];exact Xe (zg c))
  rw[Xl,Xl]at this;omega
 have Q:∀n∈Ve (Vy ns).td (Vy ns).os (Vy ns).rj ls,n<=2147483647:=λn g=>by
  have e6:=h.td;have d7:=d.olen;have d8:=d.rlen;have D:(Vy ns).rj.Nodup:=d.up.imp (λh e=>by rw[e]at h;exact gJ _ h);unfold Ve at g;simp only[xw,xx,XN,YB]at g;rcases g with (((g|g)|g)|g)|g
  ·omega
  ·unfold Vd at g;obtain⟨i,c,g⟩:=YS.1 g;have E:=((nJ (x:=λi=>(ls.getD i L0).id) (N:=ls.length) (ls.length+1) 0).2 i c).1;have:=FL (b4 i E) (a0 i E) n g;omega
  ·omega
  ·unfold Vf at g;obtain⟨i,c,g⟩:=YS.1 g;have E:=((nJ (x:=λi=>((Vy ns).os.getD i O0).id) (N:=(Vy ns).os.length) ((Vy ns).os.length+1) 0).2 i c).1;have A:=d.ord _ (Io E);have e4:=J _ (Io E);unfold dA Up at g;simp only[xw,xx,XN,YB,YS]at g;rcases g with g|g
   ·have:=A.id;have:=A.gd;omega
   rcases g with g|⟨p,r,g⟩
   ·rw[bS _ (aQ (v _ (Io E)))]at g;omega
   rw[(ZN (aQ (v _ (Io E)))).2]at r;have B:=A.line p r;have:=(C p.1 B.1).1;omega
  unfold Up at g;simp only[xx,YS,XN,YB]at g;rcases g with g|⟨p,r,g⟩
  ·rw[bS _ D]at g;omega
  rw[(ZN D).2]at r;have B:=d.rc p r;have:=(C p.1 B.1).1;omega
 have D:(Vy ns).rj.Nodup:=d.up.imp (λh e=>by rw[e]at h;exact gJ _ h);have b8:Rc (Vy ns).rj:=⟨D,d.rlen,λp r=>⟨(C p.1 (d.rc p r).1).1,(d.rc p r).2.2⟩⟩
 have a3:∀l∈ls,zW l.par=l.par:=λl hl=>by
  obtain⟨j,z,rfl⟩:=xt hl;have e:ls.getD j L0=ls[j]:=by simp[Uv,z]
  have hr:=(hF j z).ris;rw[<-s j z,e]at hr;exact iY hr
 have d3:∀i,i<ls.length->∀p∈(ls.getD i L0).par,∃j,j<i/\(ls.getD j L0).id=p.1:=λi c p r=>by
  rw[s i c]at r;obtain⟨k1,_,k2,k3⟩:=(hF i c).fam p r;have hk:UB p.1 ls<ls.length:=by rw[w,H];exact k1
  refine⟨UB p.1 ls,?_,Zu hk⟩;unfold zd at k3;rw[t _ k1,t i (by omega)]at k3;rw[w];omega
 refine⟨⟨Z,by omega,⟨M,d3⟩,b8,J,Q,a3⟩,λd5 a5 b b3 c5=>?_⟩;have c7:Ve (Vy ns).td (Vy ns).os (Vy ns).rj ls=ns:=by
  apply Ny (λn g=>by have:=Q n g;omega) d5
  have K:=c5;rw[b3]at K;unfold Vc at K;exact(xaS K).2
 have d9:(Vd ls).length=((Vy ns).ls.flatMap Mu).length:=by
  have r:=tY M (λi c=>by rw[f i c];exact(F i (by omega)).1.1);rw[Bq,fM,fM,(r.map (λx=>(cL x).length)).sum_nat,<-(a7.map (λx=>(Mu x).length)).sum_nat];congr 1;apply yn (by simp[H]);intro i K h2;have c:i<ls.length:=by simpa using K
  have c9:i<(ZL ns).length:=by omega
  have e1:ls.getD i L0=ls[i]:=by simp[Uv,c]
  have e2:(ZL ns).getD i L0=(ZL ns)[i]:=by simp[Uv,c9]
  have b5:=s i c;rw[e1,e2]at b5;simp only[xaN];rw[Jb,Mv,b5]
 have c6:(Vf (Vy ns).os).length=((Vy ns).os.flatMap Js).length:=by
  have e:=YA List.length c7;conv at e=>rhs;rw[d2]
  unfold Ve at e;rw[a5]at e;simp only[xb,List.length_cons,XB,Up,fU,bS _ D]at e;omega
 have a6:=CN c6 (λo A=>Jr o (v o A));have a4:Good (Vy ns).os ls:=⟨M,u,a6,λo A=>(d.ord o A).id.2,d.olen,v,λo A p r=>⟨UB p.1 ls,((d.ord o A).line p r).1,Zu ((d.ord o A).line p r).1⟩,λi c=>(d.hd i c).symm⟩
 have a9:∀l∈ZL ns,l.ex<=2147483647:=λl hl=>by
  obtain⟨j,z,rfl⟩:=xt hl;have e:(ZL ns).getD j L0=(ZL ns)[j]:=by simp[Uv,z]
  rw[<-e];exact(F j z).2.2.1
 have d1:∀ps,UL ls ps=UL (ZL ns) ps:=λps=>by
  unfold UL;congr 1;funext e p;rw[(X p.1).2.2]
 have b9:Snd (Vy ns).os (Vy ns).rj ls:=by
  refine⟨λi c=>?_,λi c p r=>?_,λi c r=>?_,λi c=>?_,λo A=>?_,λp r=>?_⟩
  ·have g:=F i (by omega);have hb:=h.bal i c;refine⟨by rw[f i c];exact g.1.1,by rw[f i c];exact g.2.1.1,hb.2.2.1,hb.2.2.2,by rw[s i c];exact nT (hF i c).ris,a0 i c,?_⟩;rw[s i c];by_cases h0:((ZL ns).getD i L0).par=[]
   ·exact Or.inl h0
   refine Or.inr ?_
   rw[f i c];show tO _=_;unfold tO;rw[xg (λe=>h0 (Xn.1 e))]
  ·rw[s i c]at r;obtain⟨k1,_,k2,k3⟩:=(hF i c).fam p r;have hk:UB p.1 ls<ls.length:=by rw[w,H];exact k1
   refine⟨UB p.1 ls,?_,Zu hk,?_⟩
   ·unfold zd at k3;rw[t _ k1,t i (by omega)]at k3;rw[w];omega
   have:=(X p.1).1
   unfold zd at this;rw[this,f i c];exact k2
  ·rw[s i c]at r ⊢;rw[d1,<-Hx _ a9 r (λp hq=>((hF i c).fam p hq).1),(hF i c).exp r,f i c]
  ·rw[b1,f i c]
  ·have B:=d.ord o A;exact⟨B.gd.1,B.ne,λp r=>⟨(B.line p r).2.1.1,(B.line p r).2.2⟩⟩
  have B:=d.rc p r;exact⟨(C p.1 B.1).2,B.2.1,B.1⟩
 have W:=Gx h.td Z (by omega) a4 b9 b8 (λo A=>⟨(d.ord o A).id.1,(d.ord o A).gd.2⟩);have b2:ls.map kap=ls:=by
  have:ls.map kap=ls.map id:=XE (λl hl=>by
   unfold kap;rw[a3 l hl];rfl)
  rw[this,xau]
 rw[c5,b2,gZ d.up]at W;exact W
def bare(l:L):L:={ l with got:=0,gv:=0 }
variable {B N i:Nat}
theorem DH{x:L}(h:bare x=bare (ls.getD i L0)):(ls.set i x).map bare=ls.map bare:=by
 apply yn (by simp)
 intro j b a;simp only[xaN,List.getElem_set];by_cases e:i=j
 ·subst e;rw[xe rfl,h];simp at a;simp[Uv,a]
 rw[xg e]
theorem uZ(h:ls.map bare=ms.map bare)(i:Nat):bare (ls.getD i L0)=bare (ms.getD i L0):=by
 have e:=YA (λl=>l.getD i (bare L0)) h;have q:∀l:List L,(l.map bare).getD i (bare L0)=bare (l.getD i L0):=λl=>by
  rcases YD i l.length with a|a
  ·simp[Uv,a]
  rw[Uv,Uv,Xo (by simpa using a),Xo a];rfl
 simp only[q]at e;exact e
theorem nF(h:ls.map bare=ms.map bare):ls.length=ms.length:=by simpa using YA List.length h
theorem kK{a b:L}(h:bare a=bare b):a.id=b.id/\a.gd=b.gd/\a.ex=b.ex/\a.place=b.place/\a.free=b.free/\a.hd=b.hd/\a.sh=b.sh/\a.sc=b.sc/\a.par=b.par:=by
 cases a;cases b
 simp only[bare,L.mk.injEq]at h;simp_all
theorem Lp(h:ls.map bare=ms.map bare)(n:Nat):UB n ls=UB n ms:=by
 have q:∀l:List L,UB n (l.map bare)=UB n l:=λl=>by
  unfold UB;rw[xam];rfl
 rw[<-q ls,h,q ms]
theorem Lr(h:ls.map bare=ms.map bare){x:L}(c:x∈ls):∃m∈ms,bare x=bare m:=by
 obtain⟨i,b,rfl⟩:=xt c;have d:=nF h;have e:=uZ h i;have a:ls.getD i L0=ls[i]:=by simp[Uv,b]
 rw[a]at e;exact⟨_,zg (by omega),e⟩
theorem NumP.mem(h:NumP ls){x:L}(c:x∈ls):x.ex<=2147483647/\x.free<=2147483647/\x.hd<=2147483647/\x.sh<=2147483647/\x.sc<=2147483647:=by
 obtain⟨i,a,rfl⟩:=xt c;have b:ls.getD i L0=ls[i]:=by simp[Uv,a]
 have:=h i a
 rw[b]at this;exact⟨this.2.2.1,this.2.2.2.1,this.2.2.2.2.1,this.2.2.2.2.2.1,this.2.2.2.2.2.2.1⟩
theorem DU(l:L):∀(ps:List (Nat×Nat)) (u g:Nat) (ls:List L) (r:List L×Nat×Nat),Ur l ps u g ls=some r->r.1.map bare=ls.map bare/\(∀M,(∀x∈ls,x.gv<=M)->∀x∈r.1,x.gv<=M+ps.length*2147483647)/\(∀B,(∀x∈ls,x.got<B)->∀x∈r.1,x.got<B)/\r.2.2<=g+ps.length*2147483647
 |[],u,g,ls,r,h=>by
  simp only[Ur,Xj]at h;subst h;exact⟨rfl,λM h x a=>xj (h x a) (Nat.le_add_right _ _),λB h=>h,by simp⟩
 |p::ps,u,g,ls,r,h=>by
  rw[Ur]at h;split at h
  ·next b=>
   obtain⟨i,j,k,m⟩:=DU l ps _ _ _ r h;have f:=zg b.1;refine⟨i.trans (DH rfl),λM e x a=>?_,λB d=>k B (λx a=>?_),?_⟩
   ·have:=j (M+p.2) (λy c=>by
     rcases Xy c with c|rfl
     ·have:=e y c;omega
     have:=e _ f;simp only[Ux];omega) x a
    have:=b.2.1
    simp only[List.length_cons];omega
   ·rcases Xy a with a|rfl
    ·exact d x a
    have:=d _ f;exact this
   have:=b.2.1
   simp only[List.length_cons];omega
  cases h
theorem LS{ls':List L}(q:i<ls.length)(h:Us ls i=some ls'):ls'.map bare=ls.map bare/\(∀M,(∀x∈ls,x.gv<=M)->∀x∈ls',x.gv<=M+4294967294)/\((∀x∈ls,x.got<9223372036854775808)->∀x∈ls',x.got<9223372036854775808):=by
 unfold Us at h;split at h
 ·next m=>
  cases e:Ur (ls.getD i L0) (ls.getD i L0).par 2147483648 0 ls with
  |none=>rw[e]at h;cases h
  |some r=>
   rw[e]at h;simp only[xk]at h;obtain⟨c,k,f,p⟩:=DU _ _ _ _ _ _ e;have g:=m.1;have d:∀M,(∀x∈ls,x.gv<=M)->∀x∈r.1,x.gv<=M+4294967294:=λM b x a=>by
    have:=k M b x a
    have:(ls.getD i L0).par.length*2147483647<=2*2147483647:=xaj _ g
    omega
   have j:=nF c;split at h
   ·cases h;exact⟨c,d,f _⟩
   split at h
   ·cases h;have n:r.1.getD i L0∈r.1:=zg (by omega)
    refine⟨(DH (ls:=r.1) (i:=i) (by rfl)).trans c,λM b x a=>?_,λl x a=>?_⟩
    ·rcases Xy a with a|rfl
     ·exact d M b x a
     have:=d M b _ n;exact this
    rcases Xy a with a|rfl
    ·exact f _ l x a
    have:(ls.getD i L0).par.length*2147483647<=2*2147483647:=xaj _ g
    show r.2.2<_;omega
   cases h
 cases h
structure FmI(l0:List L)(R:Option (List L))(i:Nat)(ls:List L):Prop where
 le:i<=l0.length
 fin:Uq (l0.length-i) i ls=R
 bare:ls.map bare=l0.map bare
 gvn:∀x∈ls,x.gv<=i*4294967294
 got:∀x∈ls,x.got<9223372036854775808
variable {R:Option (List L)}
theorem FmI.step{ls':List L}(h:FmI l0 R i ls)(f:i<l0.length)(a:Us ls i=some ls'):FmI l0 R (i+1) ls':=by
 have j:=nF h.bare;obtain⟨b,c,d⟩:=LS (by omega) a;refine⟨f,?_,b.trans h.bare,λx g=>?_,d h.got⟩
 ·have:=h.fin
  have e:l0.length-i=(l0.length-(i+1))+1:=by omega
  rw[e,Uq,a]at this;exact this
 have:=c _ h.gvn x g
 omega
theorem FmI.none{a ls:List L}{R:Option (List L)}{i:Nat}(h:FmI a R i ls)(c:i<a.length)(b:Us ls i=none):R=none:=by
 have:=h.fin
 have e:a.length-i=(a.length-(i+1))+1:=by omega
 rw[e,Uq,b]at this;exact this.symm
theorem FmI.done(h:FmI l0 R l0.length ls):R=some ls:=by
 have:=h.fin
 rw[YM,Uq]at this;exact this.symm
theorem KP(h:∀n∈s.1,n<B)(b:0<B)(f:s.1.length<=N):(jT s).1.length<=N/\∀p∈(jT s).1,p.1<B/\p.2<B:=by
 obtain⟨c1,c2,c3⟩:=gU h b f;have g:∀k,∀p∈(Vv (Vw s).2 k).1,p.1<B/\p.2<B:=λk=>by
  induction k with
  |zero=>intro p a;cases a
  |succ k ih=>
   intro p a;obtain⟨d,i⟩:=rG c2 b c3 k;have c:=Ze d b;have e:=Ze c.2 b;rcases xw.1 a with a|a
   ·exact ih p a
   simp only[Xq]at a;subst a;exact⟨c.1,e.1⟩
 exact⟨by unfold jT;rw[lM];exact c1,g _⟩
theorem KN{s:List Nat×Bool}{B N:Nat}(h:∀n∈s.1,n<B)(b:0<B)(e:s.1.length<=N):∀k,∀o∈(gL s k).1,o.id<B/\o.gd<B/\o.li.length<=N/\∀p∈o.li,p.1<B/\p.2<B
 |0,o,a=>by cases a
 |k+1,o,a=>by
  rcases xw.1 a with a|a
  ·exact KN h b e k o a
  simp only[Xq]at a;subst a;obtain⟨g,i⟩:=xT h b e k;have c:=Ze g b;have d:=Ze c.2 b;have j:=Z4 (gL s k).2;have l:=Z4 (Vp (gL s k).2).2;obtain⟨f,g2⟩:=KP d.2 b (show(Vp (Vp (gL s k).2).2).2.1.length<=N by omega);exact⟨c.1,d.1,f,g2⟩
theorem KM{s:List Nat×Bool}{B N:Nat}(h:∀n∈s.1,n<B)(b:0<B)(c:s.1.length<=N):∀k,∀x∈(eY s k).1,x.par.length<=N/\∀p∈x.par,p.1<B/\p.2<B
 |0,o,a=>by cases a
 |k+1,o,a=>by
  rcases xw.1 a with a|a
  ·exact KM h b c k o a
  simp only[Xq]at a;subst a;obtain⟨d,e⟩:=Dy h b c k;have:=KK d b e;exact this.2.2.2
structure Ti(ns:List Nat):Prop where
 ls:∀x∈(Vy ns).ls,x.par.length<=4194304/\∀p∈x.par,p.1<9223372036854775808/\p.2<9223372036854775808
 ll:(Vy ns).ls.length<=4194304
 os:∀o∈(Vy ns).os,o.id<9223372036854775808/\o.gd<9223372036854775808/\o.li.length<=4194304/\∀p∈o.li,p.1<9223372036854775808/\p.2<9223372036854775808
 ol:(Vy ns).os.length<=4194304
 rc:(Vy ns).rj.length<=4194304/\∀p∈(Vy ns).rj,p.1<9223372036854775808/\p.2<9223372036854775808
 td:(Vy ns).td<9223372036854775808
 gz:∀x∈(Vy ns).ls,x.gv=0
theorem Sm(h:∀n∈ns,n<9223372036854775808)(k:ns.length<=4194304):Ti ns:=by
 have g:0<9223372036854775808:=by omega
 obtain⟨B,i⟩:∃B,B=9223372036854775808:=⟨_,rfl⟩
 obtain⟨N,j⟩:∃N,N=4194304:=⟨_,rfl⟩
 rw[<-i]at g h;rw[<-j]at k;have a:=Ze (s:=(ns,false)) h g;have l:(Vp (ns,false)).2.1.length<=N:=xj (Z4 (ns,false)) k;have b:=Ze a.2 g;have m:(Vp (Vp (ns,false)).2).2.1.length<=N:=xj (Z4 _) l;have c:=gU b.2 g m;have d:=Dy c.2.1 g c.2.2 (Vw (Vp (Vp (ns,false)).2).2).1;have e:=gU d.1 g d.2;have f:=xT e.2.1 g e.2.2 (Vw (eY (Vw (Vp (Vp (ns,false)).2).2).2 (Vw (Vp (Vp (ns,false)).2).2).1).2).1;have p:=KM c.2.1 g c.2.2 (Vw (Vp (Vp (ns,false)).2).2).1;have g2:=KN e.2.1 g e.2.2 (Vw (eY (Vw (Vp (Vp (ns,false)).2).2).2 (Vw (Vp (Vp (ns,false)).2).2).1).2).1;have q:=KP f.1 g f.2;have r:=xj (Nat.le_of_eq (nX (Vw (Vp (Vp (ns,false)).2).2).2 (Vw (Vp (Vp (ns,false)).2).2).1).1) c.1;have t:=xj (Nat.le_of_eq (xQ (Vw (eY (Vw (Vp (Vp (ns,false)).2).2).2 (Vw (Vp (Vp (ns,false)).2).2).1).2).2 (Vw (eY (Vw (Vp (Vp (ns,false)).2).2).2 (Vw (Vp (Vp (ns,false)).2).2).1).2).1)) e.1;have u:=(nX (Vw (Vp (Vp (ns,false)).2).2).2 (Vw (Vp (Vp (ns,false)).2).2).1).2;subst i j;exact⟨p,r,g2,t,q,a.1,u⟩
theorem EN{t:List UInt8}(m:Pl.nums t=some ns){td:Nat}{ls:List L}{os:List O}{rj:List (Nat×Nat)}(h:zI (13::t)=some (td,ls,os,rj)):TM ns ls/\(Vy ns).left.1=[]/\(Vy ns).com=(Vy ns).k/\Vc td os rj ls=13::t/\(Vy ns).td=td/\(Vy ns).os=os/\(Vy ns).rj=rj/\TC td os rj ls:=by
 obtain⟨a,b,c,d,j⟩:=rC h;have e:ns=Ve td os rj ls:=by
  have p:=a.num;have l:TM (Ve td os rj ls) ls:=⟨a.pl,a.bad,a.td,a.len,a.nm,a.fam,a.bal,a.ord⟩
  have i:=(gB l).1.small;rw[b,c,d]at i;have g:=Pl.nums_told (Ve td os rj ls) (λn f=>YX (i n f) (by omega));rw[<-(xaS p).2,m]at g;exact xr g
 subst e;exact⟨⟨a.pl,a.bad,a.td,a.len,a.nm,a.fam,a.bal,a.ord⟩,a.left,a.com,by have:=a.st;rw[b,c,d]at this;exact this,b,c,d,j⟩
