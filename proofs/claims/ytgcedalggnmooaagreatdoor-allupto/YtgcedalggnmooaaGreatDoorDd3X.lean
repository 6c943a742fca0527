import Derived.Test.YtgcedalggnmooaaGreatDoorRiX
import Derived.Test.YtgcedalggnmooaaGreatDoorOy0X
set_option linter.all false
set_option maxRecDepth 100000
set_option maxHeartbeats 1600000
namespace Go.Proofs.YtgcedalggnmooaaGreatDoor
open Option renaming some->Y
def ZL(ns:List Nat):List L:=Xi (XS ns).ls (XS ns).ls.length
structure VX(b:List UInt8)(ns:List Nat)(ls:List L):Prop where
 num:b=13::Pl.toldB ns
 pl:Xh (XS ns).ls
 bad:(XS ns).left.2=false
 left:(XS ns).left.1=[]
 com:(XS ns).com=(XS ns).k
 td:(XS ns).td<=2147483647
 len:(ZL ns).length<=30
 nm:NumP (ZL ns)
 fam:WD (ZL ns).length 0 (ZL ns)=Y ls
 bal:SM ls
 ord:Aa ls (XS ns).os (XS ns).rj
 st:Xu (XS ns).td (XS ns).os (XS ns).rj ls=b
def eZ(ls:List L)(i:Nat)(a:i<ls.length):(ls.map Xk).getD i L0=Xk (ls.getD i L0):=by simp[WI,a]
def yD(ls:List L)(n:Nat):WO n (ls.map Xk)=WO n ls:=by
 unfold WO;rw[xbt];rfl
variable {l0 ls ms:List L}
def rO{n:Nat}(h:WO n ls<ls.length):zg (ls.map Xk) n=Xk (zg ls n):=by
 unfold zg;rw[yD,eZ _ _ h]
def Jq(ls:List L)(a:∀l∈ls,l.ex<=2147483647){ps:List (Nat×Nat)}(c:ps≠[])(b:∀p∈ps,WO p.1 ls<ls.length):Wx ls ps 2147483648=Xb ls ps:=by
 cases ps with
 |nil=>exact absurd rfl c
 |cons p ps=>
  unfold Wx Xb;rw[YS,YS];have:(zg ls p.1).ex<=2147483647:=a _ (zf (b p (by simp)));congr 1;omega
def Oz(o:O)(a:(o.li.map Prod.fst).Nodup):cA (Xr o)=cA o:=by
 unfold cA Xr;dsimp only;rw[iK (oO (oP a))]
def rW{b:List UInt8}{td:Nat}{os:List O}{rj:List (Nat×Nat)}(h:zE b=Y (td,ls,os,rj)):VX b (Xx td os rj ls) ls/\(XS (Xx td os rj ls)).td=td/\(XS (Xx td os rj ls)).os=os/\(XS (Xx td os rj ls)).rj=rj/\VM td os rj ls:=by
 obtain⟨hN,hb⟩:=lY h;have a:=hN.good;have T:∀i,i<ls.length->1<=(ls.getD i L0).id:=λi c=>(hN.snd.one i c).id
 have B:∀o∈os,1<=o.id:=λo r=>(hN.sml.ord o r).1
 have v:=uU a.ids T;have z:∀i,i<ls.length->Ris (ls.getD i L0).par:=λi c=>by
  have e:(ls.map kap).getD i L0=ls.getD i L0:=by rw[hN.kap]
  rw[Ke]at e;have e2:zV (ls.getD i L0).par=(ls.getD i L0).par:=xas L.par e;rw[<-e2];exact FM (hN.ok _ (zf c)).par.1 (hN.snd.one i c).keys
 have X:∀x∈ls,Ris x.par:=λx A=>by
  obtain⟨i,c,rfl⟩:=xw A;have e:ls.getD i L0=ls[i]:=by simp[WI,c]
  rw[<-e];exact z i c
 have W:∀o∈os,Ris o.li:=λo r=>by
  rw[<-hN.os]at r;obtain⟨x,A,rfl⟩:=(lS a.oids B).1 r;exact oP (a.keys x A)
 have a4:Xy os=os.flatMap cA:=by
  conv=>rhs;rw[<-hN.os]
  unfold Xg Xy;rw[xbu];obtain⟨_,q2⟩:=Zk (x:=λi=>(os.getD i O0).id) (eV a.oids) (os.length+1) 0 (by have:=bN (λi=>(os.getD i O0).id) 0 os.length;omega);have:∀(N:List Nat),(∀i∈N,i<os.length)->N.flatMap (λi=>cA (os.getD i O0))=N.flatMap (λi=>cA (Xr (os.getD i O0))):=λN=>by
   induction N with
   |nil=>intro _;rfl
   |cons i N ih=>
    intro E;rw[Yl,Yl,ih (λj d=>E j (by simp[d])),Oz _ (a.keys _ (Da (E i (by simp))))]
  exact this _ (λi c=>((q2 i).1 c).1)
 have g:=Pp (td:=td) (os:=os) (rj:=rj) (ls:=ls) (by rw[v.length_eq]) (λx A=>X x (v.mem_iff.1 A)) a4 W hN.rj;have a3:ls.Nodup:=by
  rw[Yu,Ye];intro i j c d a7 e;have:=a.ids i j c d (by simp[WI,c,d,e]);omega
 obtain⟨p1,p2⟩:=OM (v.map Xk) a3 a.place;have u:ZL (Xx td os rj ls)=ls.map Xk:=by unfold ZL;rw[g];exact p2
 have t:(ls.map Xk).length=ls.length:=List.length_map ..;have F:∀i j,i<(ls.map Xk).length->j<(ls.map Xk).length->((ls.map Xk).getD i L0).id=((ls.map Xk).getD j L0).id->i=j:=λi j c d e=>by
  rw[t]at c d;rw[eZ _ _ c,eZ _ _ d]at e;exact a.ids i j c d e
 have C:∀i,i<(ls.map Xk).length->((ls.map Xk).getD i L0).place=i+1:=λi c=>by
  rw[t]at c;rw[eZ _ _ c];exact a.place i c
 have G:∀j,j<ls.length->WO (ls.getD j L0).id ls=j:=λj d=>eR d (λk hk e=>by have:=a.ids k j (by omega) d e;omega) rfl
 have Q:∀l∈ls,l.ex<=2147483647:=λl hl=>(hN.ok l hl).ex
 have R:∀l∈ls.map Xk,l.ex<=2147483647:=λl hl=>by
  obtain⟨x,A,rfl⟩:=yc.1 hl;exact Q x A
 have a6:wy (ls.map Xk) 0=ls.map Xk:=by
  unfold wy wq;have:(ls.map Xk).map (λx=>({ x with gv:=WM ((ls.map Xk).take 0) x.id,got:=if x.place<=0 then uJ x else x.got }:L))=(ls.map Xk).map id:=by
   apply Yj
   intro x A;obtain⟨j,d,rfl⟩:=xw A;have a1:j<ls.length:=by simpa using d
   have m:=C j d;have e:(ls.map Xk).getD j L0=(ls.map Xk)[j]:=by simp[WI,a1]
   rw[e]at m;rw[xg (by omega)];have K:((ls.map Xk)[j]).gv=0:=by simp[Xk]
   generalize (ls.map Xk)[j]=y at K
   cases y;simp only at K
   subst K;rfl
  rw[this,xbE]
 have P:∀j,0<=j->j<(ls.map Xk).length->VG (ls.map Xk) j:=λj _ d=>by
  rw[t]at d;have w:((ls.map Xk).getD j L0).par=(ls.getD j L0).par:=by rw[eZ _ _ d];rfl
  have D:∀p∈(ls.getD j L0).par,oT (ls.map Xk) ((ls.map Xk).getD j L0) p:=λp m=>by
   obtain⟨k,k1,k2,k3⟩:=hN.snd.fam j d p m;have hk:WO p.1 ls=k:=by rw[<-k2];exact G k (by omega)
   have H:WO p.1 ls<ls.length:=by omega
   refine⟨by rw[yD,t];exact H,(hN.snd.one j d).small p m,?_,?_⟩
   ·rw[rO H,eZ _ _ d];show(ls.getD (WO p.1 ls) L0).gd=_;rw[hk];exact k3
   rw[rO H,eZ _ _ d];show(ls.getD (WO p.1 ls) L0).place<(ls.getD j L0).place;rw[hk,a.place k (by omega),a.place j d];omega
  refine⟨by rw[w];exact(hN.ok _ (zf d)).par.1,by rw[w];exact z j d,λp m=>D p (by rw[w]at m;exact m),λJ=>?_⟩;rw[w]at J ⊢;rw[Jq _ R J (λp m=>(D p m).1),eZ _ _ d];show Xb (ls.map Xk) _=(ls.getD j L0).ex;rw[hN.snd.exp j d J];unfold Xb;have:∀(ps:List (Nat×Nat)) (e:Nat),(∀p∈ps,WO p.1 ls<ls.length)->ps.foldl (λe p=>min e (zg (ls.map Xk) p.1).ex) e=ps.foldl (λe p=>min e (zg ls p.1).ex) e:=λps=>by
   induction ps with
   |nil=>intro e _;rfl
   |cons p ps ih=>
    intro e E;rw[YS,YS,rO (E p (by simp))];exact ih _ (λq hq=>E q (by simp[hq]))
  exact this _ _ (λp m=>by have:=(D p m).1;rw[yD,t]at this;exact this)
 have a0:∀n,WM (ls.map Xk) n=WM ls n:=λn=>by unfold WM;rw[xai];rfl
 have S:wy (ls.map Xk) (ls.map Xk).length=ls:=by
  unfold wy wq;rw[XZ,xai];have:ls.map ((λx=>({ x with gv:=WM (ls.map Xk) x.id,got:=if x.place<=(ls.map Xk).length then uJ x else x.got }:L))∘Xk)=ls.map id:=by
   apply Yj
   intro x A;obtain⟨j,d,rfl⟩:=xw A;have e:ls.getD j L0=ls[j]:=by simp[WI,d]
   have m:=a.place j d;have K:=hN.snd.giv j d;have M:=(hN.snd.one j d).par;rw[e]at m K M;show({ Xk ls[j] with gv:=WM (ls.map Xk) ls[j].id,got:=if ls[j].place<=(ls.map Xk).length then uJ (Xk ls[j]) else (Xk ls[j]).got }:L)=ls[j];rw[a0,<-K,xh (by rw[t];omega)];have hq:uJ (Xk ls[j])=ls[j].got:=by
    unfold uJ Xk;dsimp only;by_cases Z:ls[j].par.length=0
    ·rw[xh Z,xh Z]
    rw[xg Z];rcases M with M|M
    ·exact absurd (by rw[M];rfl) Z
    exact M.symm
   rw[hq];rfl
  rw[this,xbE]
 obtain⟨f1,_⟩:=Jw (ls:=ls.map Xk) F C (ls.map Xk).length 0 (by omega);refine⟨⟨hb,by rw[g];exact p1,by rw[g],by rw[g],by rw[g],by rw[g];exact hN.td,by rw[u,t];exact hN.room,?_,?_,λi c=>?_,?_,?_⟩,by rw[g],by rw[g],by rw[g],hN⟩
 ·rw[u];intro i c;rw[t]at c;rw[eZ _ _ c,yD];have s:=hN.ok _ (zf c);have a5:=s.sum;have r:=hN.snd.one i c;refine⟨⟨r.id,s.id⟩,⟨r.gd,s.gd⟩,s.ex,by show(ls.getD i L0).free<=_;omega,by show(ls.getD i L0).hd<=_;omega,by show(ls.getD i L0).sh<=_;omega,by show(ls.getD i L0).sc<=_;omega,?_,G i c⟩;have hq:=s.got;show(if (ls.getD i L0).par.length=0 then (ls.getD i L0).got else 0)<=_;split<;>omega
 ·rw[u];have:=f1 P;rw[a6,S]at this;exact this
 ·have s:=hN.ok _ (zf c);have a5:=s.sum;have r:=hN.snd.one i c;exact⟨s.got,by omega,r.got,r.sum⟩
 ·rw[g];refine⟨a.olen,hN.rc.len,λo r=>?_,λi c=>(a.hd i c).symm,λp m=>?_,?_⟩
  ·obtain⟨s1,s2,s3⟩:=hN.snd.ord o r;refine⟨⟨B o r,a.oid o r⟩,⟨s1,(hN.sml.ord o r).2⟩,W o r,s2,λp m=>?_⟩;obtain⟨i,c,e⟩:=a.mem o r p m;have a2:=hN.ok _ (zf c);have a8:p.2<=zD os p.1:=by
    have h2:ZZ o p.1=p.2:=by unfold ZZ;rw[zR (a.keys o r) m];rfl
    rw[<-h2];unfold zD;exact Km (yb (f:=λo=>ZZ o p.1) r)
   have E:=a.hd i c;rw[e]at E;have:=a2.sum;refine⟨by rw[<-e,G i c];exact c,⟨(s3 p m).1,by omega⟩,(s3 p m).2⟩
  ·obtain⟨r1,r2,r3⟩:=hN.snd.rcl p m;exact⟨r3,r2,(hN.rc.fits p m).2⟩
  have:=(zX hN.rc.nodup).1
  rw[hN.rj]at this;exact this
 rw[g];exact hb.symm
variable {s:List Nat×Bool}
def fC(h:(XJ s).2.2=false):s.2=false/\s.1=(XJ s).1::(XJ s).2.1:=by
 obtain⟨l,b⟩:=s
 cases l with
 |nil=>cases h
 |cons n r=>exact⟨h,rfl⟩
def Eu(h:(XQ s).2.2=false):s.2=false/\s.1=(XQ s).1::(XQ s).2.1:=by
 unfold XQ at h ⊢;split at h
 ·cases h
 rename_i a;rw[xg a];exact fC h
def Mz(s:List Nat×Bool):∀k,(XP s k).2.2=false->s.2=false/\s.1=(XP s k).1.flatMap (λp=>[p.1,p.2])++(XP s k).2.1
 |0,h=>⟨h,rfl⟩
 |k+1,h=>by
  have e:(XJ (XJ (XP s k).2).2).2.2=false:=h;obtain⟨a,b⟩:=fC e;obtain⟨c,d⟩:=fC a;obtain⟨c1,c2⟩:=Mz s k c;refine⟨c1,?_⟩;show s.1=((XP s k).1++[((XJ (XP s k).2).1,(XJ (XJ (XP s k).2).2).1)]).flatMap (λp=>[p.1,p.2])++(XJ (XJ (XP s k).2).2).2.1;rw[c2,d,b];simp
def yV(h:(kI s).2.2=false):s.2=false/\s.1=WC (kI s).1++(kI s).2.1:=by
 obtain⟨a,b⟩:=Mz (XQ s).2 (XQ s).1 h;obtain⟨c,d⟩:=Eu a;refine⟨c,?_⟩;have e:(kI s).1.length=(XQ s).1:=mD _ _;rw[d,b];unfold WC;rw[e];rfl
def Mv(s:List Nat×Bool):∀k,(XM s k).2=false->s.2=false/\s.1=(List.range k).map (XR s)++(XM s k).1
 |0,h=>⟨h,rfl⟩
 |k+1,h=>by
  obtain⟨a,b⟩:=fC (s:=XM s k) h;obtain⟨c,d⟩:=Mv s k a;refine⟨c,?_⟩;rw[d,b,xaC,YZ];simp[XR,XM]
def Oj(x:L):List Nat:=[x.id,x.gd,x.ex,x.place,x.free,x.hd,x.sh,x.sc]++WC x.par++(if x.par.length=0 then [x.got] else [])
def Le(o:O):List Nat:=[o.id,o.gd]++WC o.li
def SE(h:(XL s).2.2=false):s.2=false/\s.1=Oj (XN s)++(XL s).2.1:=by
 have hF:(XK s).2.2=false/\(XK s).2.1=(if (XK s).1.length=0 then [(XL s).1] else [])++(XL s).2.1:=by
  unfold XL at h ⊢;by_cases a:(XK s).1.length=0
  ·rw[xh a]at h;rw[xh a,xh a];obtain⟨b,c⟩:=fC h;exact⟨b,by rw[c];rfl⟩
  rw[xg a]at h;rw[xg a,xg a];exact⟨h,rfl⟩
 obtain⟨d,f⟩:=yV (s:=XM s 8) hF.1;obtain⟨c1,c2⟩:=Mv s 8 d;refine⟨c1,?_⟩;rw[c2,f];show _=Oj (XN s)++(XL s).2.1;have e:(kI (XM s 8)).2.1=(XK s).2.1:=rfl;rw[e,hF.2];show(List.range 8).map (XR s)++(WC (XK s).1++_)=_;unfold Oj XN;simp[xaC]
def Pm(s:List Nat×Bool)(k:Nat)(h:(fI s k).2.2=false):s.2=false/\s.1=(fI s k).1.flatMap Oj++(fI s k).2.1:=by
 induction k with
 |zero=>exact⟨h,rfl⟩
 |succ k ih=>
  rw[fI]at h ⊢;generalize fI s k=q at h ih ⊢;obtain⟨a,b⟩:=SE (s:=q.2) h;obtain⟨c,d⟩:=ih a;refine⟨c,?_⟩;dsimp only;rw[d,b,List.flatMap_append,List.flatMap_singleton,List.append_assoc]
def oQ(s:List Nat×Bool):∀k,(fI s k).1.length=k/\∀x∈(fI s k).1,x.gv=0
 |0=>⟨rfl,λx a=>by cases a⟩
 |k+1=>by
  obtain⟨b,c⟩:=oQ s k;refine⟨by rw[fI,xc,b];rfl,λx a=>?_⟩;rcases xx.1 a with a|a
  ·exact c x a
  simp only[yp]at a;subst a;rfl
def SF(h:(XO s).2.2=false):s.2=false/\s.1=Le (XO s).1++(XO s).2.1:=by
 obtain⟨a,b⟩:=yV (s:=(XJ (XJ s).2).2) h;obtain⟨c,d⟩:=fC a;obtain⟨c1,c2⟩:=fC c;refine⟨c1,?_⟩;rw[c2,d,b];rfl
def FW(s:List Nat×Bool):∀k,(gV s k).2.2=false->s.2=false/\s.1=(gV s k).1.flatMap Le++(gV s k).2.1
 |0,h=>⟨h,rfl⟩
 |k+1,h=>by
  obtain⟨a,b⟩:=SF (s:=(gV s k).2) h;obtain⟨c,d⟩:=FW s k a;refine⟨c,?_⟩;show s.1=((gV s k).1++[(XO (gV s k).2).1]).flatMap Le++(XO (gV s k).2).2.1;rw[d,b];simp
def yT(s:List Nat×Bool):∀k,(gV s k).1.length=k
 |0=>rfl
 |k+1=>by rw[gV,xc,yT s k];rfl
variable {ns:List Nat}
def SG(h:(XS ns).left.2=false):ns=(XS ns).td::(XS ns).com::(XS ns).k::((XS ns).ls.flatMap Oj++((XS ns).os.length::((XS ns).os.flatMap Le++(WC (XS ns).rj++(XS ns).left.1))))/\(XS ns).ls.length=(XS ns).k/\∀x∈(XS ns).ls,x.gv=0:=by
 unfold XS at h ⊢;dsimp only at h ⊢;generalize r:XJ (ns,false)=a at *;generalize t:XJ a.2=b at *;generalize u:XQ b.2=c at *;generalize hd:fI c.2 c.1=d at *;generalize v:XQ d.2=e at *;generalize i:gV e.2 e.1=f at *;generalize w:kI f.2=g at *;obtain⟨D,g2⟩:=yV (s:=f.2) (by rw[w];exact h);obtain⟨C,q⟩:=FW e.2 e.1 (by rw[i];exact D);obtain⟨B,p⟩:=Eu (s:=d.2) (by rw[v];exact C);obtain⟨A,n⟩:=Pm c.2 c.1 (by rw[hd];exact B);obtain⟨c1,c2⟩:=Eu (s:=b.2) (by rw[u];exact A);obtain⟨z,m⟩:=fC (s:=a.2) (by rw[t];exact c1);obtain⟨E,l⟩:=fC (s:=(ns,false)) (by rw[r];exact z);rw[w]at g2;rw[i,g2]at q;rw[v,q]at p;rw[hd,p]at n;rw[u,n]at c2;rw[t,c2]at m;rw[r,m]at l;have y:=yT e.2 e.1;rw[i]at y;have j:=oQ c.2 c.1;rw[hd]at j;refine⟨?_,j.1,j.2⟩;rw[y];exact l
def Me{f:Nat->Nat}:∀{E M:List Nat},E.Nodup->(∀x∈E,x∈M)->(E.map f).sum<=(M.map f).sum
 |[],M,_,_=>by simp
 |x::E,M,hn,hs=>by
  have a:=Yq.1 hn;have d:=hs x (by simp);have g:=Me (f:=f) (E:=E) (M:=M.erase x) a.2 (λy b=>(xci (λe=>a.1 (by rw[<-e];exact b))).2 (hs y (by simp[b])));have c:=((List.perm_cons_erase d).map f).sum_nat;rw[XY,Yf]at c ⊢;omega
def oA{x:Nat->Nat}{N:Nat}:∀(f n:Nat),(Zf x N f n).Pairwise (λa b=>x a<x b)/\∀i∈Zf x N f n,i<N/\n<x i
 |0,n=>⟨by simp[Zf],λi c=>by simp[Zf]at c⟩
 |f+1,n=>by
  rw[Zf]
  cases g:Xd x n N with
  |none=>exact⟨by simp,λi c=>by simp at c⟩
  |some k=>
   obtain⟨j,l⟩:=jY g;obtain⟨h,d⟩:=oA f (x k);refine⟨ym.2 ⟨λb e=>(d b e).2,h⟩,λi c=>?_⟩;rcases xz.1 c with rfl|c
   ·exact⟨j,l⟩
   have:=d i c
   exact⟨this.1,by omega⟩
def fU{α:Type}(f:α->List Nat):∀l:List α,(l.flatMap f).length=(l.map λx=>(f x).length).sum
 |[]=>rfl
 |x::l=>by rw[Yl,xc,fU f l,XY,Yf]
def DK{os:List O}(D:(Xy os).length=(os.flatMap Le).length)(n:∀o∈os,(cA o).length=(Le o).length):(os.map O.id).Nodup:=by
 obtain⟨s,F⟩:=oA (x:=λi=>(os.getD i O0).id) (N:=os.length) (os.length+1) 0;have p:(Zf (λi=>(os.getD i O0).id) os.length (os.length+1) 0).Nodup:=s.imp (λd e=>by rw[e]at d;exact xaa _ d);have z:(Xy os).length=((Zf (λi=>(os.getD i O0).id) os.length (os.length+1) 0).map (λi=>(cA (os.getD i O0)).length)).sum:=by
  unfold Xy;rw[fU]
 have A:(os.flatMap Le).length=((List.range os.length).map (λi=>(cA (os.getD i O0)).length)).sum:=by
  rw[fU,<-rN (λo=>(Le o).length) O0 os];congr 1;apply Yj;intro i g;exact(n _ (Da (by simpa using g))).symm
 have c:∀i,i<os.length->i∈Zf (λi=>(os.getD i O0).id) os.length (os.length+1) 0:=λi g=>by
  by_cases v:i∈Zf (λi=>(os.getD i O0).id) os.length (os.length+1) 0
  ·exact v
  exfalso
  have:=Me (f:=λi=>(cA (os.getD i O0)).length) (E:=i::Zf (λi=>(os.getD i O0).id) os.length (os.length+1) 0) (M:=List.range os.length) (Yq.2 ⟨v,p⟩) (λy r=>by
   rcases xz.1 r with rfl|r
   ·simpa using g
   simpa using (F y r).1)
  rw[XY,Yf,<-A,<-D,z]at this;have w:1<=(cA (os.getD i O0)).length:=by unfold cA;simp
  omega
 rw[Yu,Ye];intro i j g C B e;have h:i<os.length:=by simpa using g
 have k:j<os.length:=by simpa using C
 have G:(os.getD i O0).id=(os.getD j O0).id:=by simpa [WI,h,k] using e
 obtain⟨a,t,l⟩:=xw (c i h);obtain⟨b,u,m⟩:=xw (c j k);rcases Nat.lt_trichotomy a b with q|q|q
 ·have:=Ye.1 s a b t u q
  rw[l,m]at this;omega
 ·subst q;rw[l]at m;omega
 have:=Ye.1 s b a u t q
 rw[l,m]at this;omega
def KI(x:L):(bZ x).length=9+2*x.par.length+(if x.par.length=0 then 1 else 0):=by
 unfold bZ WC;rw[ZS];simp only[xc,List.length_cons,yx,gD,ZS];split<;>simp<;>omega
def Ol(x:L):(Oj x).length=9+2*x.par.length+(if x.par.length=0 then 1 else 0):=by
 unfold Oj WC;simp only[xc,List.length_cons,yx,gD];split<;>simp<;>omega
def Lc(o:O)(a:(o.li.map Prod.fst).Nodup):(cA o).length=(Le o).length:=by
 unfold cA Le WC;simp only[xc,List.length_cons,yx,gD,bG _ (ZO a)]
def Pr{a b:List Nat}(d:∀n∈a,n<9223372036854775808)(e:∀n∈b,n<9223372036854775808)(h:Pl.toldB a=Pl.toldB b):a=b:=by
 have c:=Pl.nums_told a d;rw[h,Pl.nums_told b e]at c;exact(xt c).symm
def GU{x:L}(a:L.Ok x)(e:∀p∈x.par,p.2<=2147483647):∀n∈bZ x,n<=2147483647:=by
 intro n b;have j:=a.sum;have i:=a.place;have k:=a.got;have f:=a.id;have g:=a.gd;have h:=a.ex;have d:=a.par;unfold bZ WC at b;simp only[xx,xz,Yp,xaN,xao]at b;rcases b with (b|b)|b
 ·omega
 ·rcases b with b|⟨p,c,b⟩
  ·rw[ZS]at b;omega
  rw[gN]at c;have:=d.2 p c;have:=e p c;omega
 split at b
 ·simp at b;omega
 simp at b
structure VW(ns:List Nat)(ls:List L):Prop where
 pl:Xh (XS ns).ls
 bad:(XS ns).left.2=false
 td:(XS ns).td<=2147483647
 len:(ZL ns).length<=30
 nm:NumP (ZL ns)
 fam:WD (ZL ns).length 0 (ZL ns)=Y ls
 bal:SM ls
 ord:Aa ls (XS ns).os (XS ns).rj
structure VY(ns:List Nat)(ls:List L):Prop where
 ok:∀l∈ls,L.Ok l
 len:ls.length<=30
 fam:Fam ls
 rc:Rc (XS ns).rj
 li:∀o∈(XS ns).os,o.li.length<=30
 small:∀n∈Xx (XS ns).td (XS ns).os (XS ns).rj ls,n<=2147483647
 ris:∀l∈ls,zV l.par=l.par
def gM(h:VW ns ls):VY ns ls/\((∀n∈ns,n<9223372036854775808)->(XS ns).left.1=[]->∀b,b=13::Pl.toldB ns->Xu (XS ns).td (XS ns).os (XS ns).rj ls=b->zE b=Y ((XS ns).td,ls,Xg (XS ns).os,(XS ns).rj)):=by
 obtain⟨d2,d0,c8⟩:=SG h.bad;obtain⟨a8,S⟩:=DS h.pl (XS ns).ls.length (xe _);have G:=h.fam;have F:=h.nm;have d4:=h.len;have b6:ZL ns=Xi (XS ns).ls (XS ns).ls.length:=rfl;rw[<-b6]at a8 S;have b0:∀i,i<(ZL ns).length->((ZL ns).getD i L0).gv=0:=λi c=>c8 _ (S i (by omega)).1
 have t:∀i,i<(ZL ns).length->((ZL ns).getD i L0).place=i+1:=λi c=>(S i (by omega)).2
 have b7:(ZL ns).length=(XS ns).k:=by rw[a8,d0]
 have a7:(ZL ns).Perm (XS ns).ls:=by
  have e5:(ZL ns).Nodup:=by
   rw[Yu,Ye];intro i j c z e3 e;have a1:=t i c;have a2:=t j z;have e1:(ZL ns).getD i L0=(ZL ns)[i]:=by simp[WI,c]
   have e2:(ZL ns).getD j L0=(ZL ns)[j]:=by simp[WI,z]
   rw[e1,e]at a1;rw[e2]at a2;omega
  have e0:∀x∈ZL ns,x∈(XS ns).ls:=λx B=>by
   obtain⟨i,c,rfl⟩:=xw B;have e1:(ZL ns).getD i L0=(ZL ns)[i]:=by simp[WI,c]
   rw[<-e1];exact(S i (by omega)).1
  have u:(XS ns).ls.Perm (ZL ns):=by
   have:∀(l:List L) (N:Nat),(l.filter (λx=>decide (1<=x.place/\x.place<=N))).Perm (Xi l N):=λl N=>by
    induction N with
    |zero=>
     have:l.filter (λx=>decide (1<=x.place/\x.place<=0))=[]:=by
      rw[List.filter_eq_nil_iff];intro x _;simp;omega
     rw[this];exact xax _
    |succ N ih=>
     have e:Xi l (N+1)=Xi l N++l.filter (λx=>x.place==N+1):=by unfold Xi;rw[xaC,YA];simp
     rw[e];refine List.Perm.trans ?_ (ih.append_right _)
     clear ih e;induction l with
     |nil=>exact xax _
     |cons x l ih=>
      rw[xan,xan,xan];by_cases K:x.place=N+1
      ·rw[xh (by simp;omega),xg (by simp;omega),xh (by simp[K])];exact(ih.cons x).trans List.perm_middle.symm
      by_cases h2:1<=x.place/\x.place<=N
      ·rw[xh (by simp;omega),xh (by simpa using h2),xg (by simp;omega)];exact ih.cons x
      rw[xg (by simp;omega),xg (by simpa using h2),xg (by simp;omega)];exact ih
   have K:=this (XS ns).ls (XS ns).ls.length;have h2:((XS ns).ls.filter (λx=>decide (1<=x.place/\x.place<=(XS ns).ls.length))).length=(XS ns).ls.length:=by rw[K.length_eq];exact a8
   have h3:(XS ns).ls.filter (λx=>decide (1<=x.place/\x.place<=(XS ns).ls.length))=(XS ns).ls:=xcl.2 (List.length_filter_eq_length_iff.1 h2);rw[h3]at K;exact K
  exact u.symm
 have P:∀i j,i<(ZL ns).length->j<(ZL ns).length->((ZL ns).getD i L0).id=((ZL ns).getD j L0).id->i=j:=λi j c z e=>by
  have a:=(F i c).2.2.2.2.2.2.2.2;have b:=(F j z).2.2.2.2.2.2.2.2;rw[e]at a;omega
 have d6:wy (ZL ns) 0=ZL ns:=by
  unfold wy wq;have:(ZL ns).map (λx=>({ x with gv:=WM ((ZL ns).take 0) x.id,got:=if x.place<=0 then uJ x else x.got }:L))=(ZL ns).map id:=by
   apply Yj
   intro x B;obtain⟨j,z,rfl⟩:=xw B;have e:(ZL ns).getD j L0=(ZL ns)[j]:=by simp[WI,z]
   have r:=t j z;have hg:=b0 j z;rw[e]at r hg;rw[xg (by omega)];generalize (ZL ns)[j]=y at hg
   cases y;simp only at hg
   subst hg;rfl
  rw[this,xbE]
 obtain⟨f1,f2⟩:=Jw (ls:=ZL ns) P t (ZL ns).length 0 (by omega);rw[d6]at f1 f2;have T:∀j,0<=j->j<(ZL ns).length->VG (ZL ns) j:=by
  by_cases hc:∀j,0<=j->j<(ZL ns).length->VG (ZL ns) j
  ·exact hc
  rw[f2 hc]at G;cases G
 rw[f1 T]at G;have R:ls=wy (ZL ns) (ZL ns).length:=(xt G).symm;have H:ls.length=(ZL ns).length:=by rw[R];unfold wy;rw[kL]
 have f:∀i,i<ls.length->ls.getD i L0={ (ZL ns).getD i L0 with gv:=WM (ZL ns) ((ZL ns).getD i L0).id,got:=uJ ((ZL ns).getD i L0) }:=λi c=>by
  rw[R];unfold wy;rw[nA _ _ (by omega),XZ,xh (by rw[t i (by omega)];omega)]
 have w:∀n,WO n ls=WO n (ZL ns):=λn=>by rw[R];unfold wy;rw[Ga]
 have X:∀n,(zg ls n).gd=(zg (ZL ns) n).gd/\(zg ls n).place=(zg (ZL ns) n).place/\(zg ls n).ex=(zg (ZL ns) n).ex:=λn=>by
  unfold zg;rw[w];rcases xaI (WO n (ZL ns)) ls.length with q|q
  ·rw[f _ q];exact⟨rfl,rfl,rfl⟩
  have z1:ls.getD (WO n (ZL ns)) L0=L0:=by rw[WI,yo (by omega)];rfl
  have z2:(ZL ns).getD (WO n (ZL ns)) L0=L0:=by rw[WI,yo (by omega)];rfl
  rw[z1,z2];exact⟨rfl,rfl,rfl⟩
 have b1:∀n,WM ls n=WM (ZL ns) n:=λn=>by
  rw[R];unfold wy wq WM;rw[xai];rfl
 have M:∀i j,i<ls.length->j<ls.length->(ls.getD i L0).id=(ls.getD j L0).id->i=j:=λi j c z e=>by
  rw[f i c,f j z]at e;exact P i j (by omega) (by omega) e
 have u:∀i,i<ls.length->(ls.getD i L0).place=i+1:=λi c=>by rw[f i c];exact t i (by omega)
 have C:∀n,WO n ls<ls.length->n<=2147483647/\1<=n:=λn g=>by
  have e:=aD g;have hq:=(F (WO n ls) (by omega)).1;rw[f _ g]at e;have e':((ZL ns).getD (WO n ls) L0).id=n:=e;rw[e']at hq;exact⟨hq.2,hq.1⟩
 have s:∀i,i<ls.length->(ls.getD i L0).par=((ZL ns).getD i L0).par:=λi c=>by rw[f i c]
 have hF:∀i,i<ls.length->VG (ZL ns) i:=λi c=>T i (Nat.zero_le _) (by omega)
 have b4:∀i,i<ls.length->L.Ok (ls.getD i L0):=λi c=>by
  have g:=F i (by omega);have hb:=h.bal i c;have r:=u i c;refine⟨?_,?_,?_,by omega,by omega,hb.1,by rw[s i c];exact(hF i c).len,λp hq=>?_⟩
  ·rw[f i c];exact g.1.2
  ·rw[f i c];exact g.2.1.2
  ·rw[f i c];exact g.2.2.1
  rw[s i c]at hq;have:=((hF i c).fam p hq).1;exact(C p.1 (by rw[w,H];exact this)).1
 have Z:∀l∈ls,L.Ok l:=λl hl=>by
  obtain⟨j,z,rfl⟩:=xw hl;have e:ls.getD j L0=ls[j]:=by simp[WI,z]
  rw[<-e];exact b4 j z
 have d:=h.ord;have v:∀o∈(XS ns).os,(o.li.map Prod.fst).Nodup:=λo A=>oN (d.ord o A).ris
 have a0:∀i,i<ls.length->∀p∈(ls.getD i L0).par,p.2<=2147483647:=λi c p r=>by
  rw[s i c]at r;exact((hF i c).fam p r).2.1
 have J:∀o∈(XS ns).os,o.li.length<=30:=λo A=>by
  have:=ZN (l:=o.li.map Prod.fst) (m:=ls.map L.id) (v o A) (λx B=>by
   obtain⟨p,r,rfl⟩:=yc.1 B;have c:=((d.ord o A).line p r).1;rw[<-aD c];exact yb (zf c))
  rw[List.length_map,List.length_map]at this;omega
 have Q:∀n∈Xx (XS ns).td (XS ns).os (XS ns).rj ls,n<=2147483647:=λn g=>by
  have e6:=h.td;have d7:=d.olen;have d8:=d.rlen;have D:(XS ns).rj.Nodup:=d.up.imp (λh e=>by rw[e]at h;exact dP _ h);unfold Xx at g;simp only[xx,xz,Yp,xaN]at g;rcases g with (((g|g)|g)|g)|g
  ·omega
  ·unfold Xw at g;obtain⟨i,c,g⟩:=xao.1 g;have E:=((oA (x:=λi=>(ls.getD i L0).id) (N:=ls.length) (ls.length+1) 0).2 i c).1;have:=GU (b4 i E) (a0 i E) n g;omega
  ·omega
  ·unfold Xy at g;obtain⟨i,c,g⟩:=xao.1 g;have E:=((oA (x:=λi=>((XS ns).os.getD i O0).id) (N:=(XS ns).os.length) ((XS ns).os.length+1) 0).2 i c).1;have A:=d.ord _ (Da E);have e4:=J _ (Da E);unfold cA WC at g;simp only[xx,xz,Yp,xaN,xao]at g;rcases g with g|g
   ·have:=A.id;have:=A.gd;omega
   rcases g with g|⟨p,r,g⟩
   ·rw[bG _ (ZO (v _ (Da E)))]at g;omega
   rw[(zX (ZO (v _ (Da E)))).2]at r;have B:=A.line p r;have:=(C p.1 B.1).1;omega
  unfold WC at g;simp only[xz,xao,Yp,xaN]at g;rcases g with g|⟨p,r,g⟩
  ·rw[bG _ D]at g;omega
  rw[(zX D).2]at r;have B:=d.rc p r;have:=(C p.1 B.1).1;omega
 have D:(XS ns).rj.Nodup:=d.up.imp (λh e=>by rw[e]at h;exact dP _ h);have b8:Rc (XS ns).rj:=⟨D,d.rlen,λp r=>⟨(C p.1 (d.rc p r).1).1,(d.rc p r).2.2⟩⟩
 have a3:∀l∈ls,zV l.par=l.par:=λl hl=>by
  obtain⟨j,z,rfl⟩:=xw hl;have e:ls.getD j L0=ls[j]:=by simp[WI,z]
  have hr:=(hF j z).ris;rw[<-s j z,e]at hr;exact jJ hr
 have d3:∀i,i<ls.length->∀p∈(ls.getD i L0).par,∃j,j<i/\(ls.getD j L0).id=p.1:=λi c p r=>by
  rw[s i c]at r;obtain⟨k1,_,k2,k3⟩:=(hF i c).fam p r;have hk:WO p.1 ls<ls.length:=by rw[w,H];exact k1
  refine⟨WO p.1 ls,?_,aD hk⟩;unfold zg at k3;rw[t _ k1,t i (by omega)]at k3;rw[w];omega
 refine⟨⟨Z,by omega,⟨M,d3⟩,b8,J,Q,a3⟩,λd5 a5 b b3 c5=>?_⟩;have c7:Xx (XS ns).td (XS ns).os (XS ns).rj ls=ns:=by
  apply Pr (λn g=>by have:=Q n g;omega) d5
  have K:=c5;rw[b3]at K;unfold Xu at K;exact(xcf K).2
 have d9:(Xw ls).length=((XS ns).ls.flatMap Oj).length:=by
  have r:=uU M (λi c=>by rw[f i c];exact(F i (by omega)).1.1);rw[Cj,fU,fU,(r.map (λx=>(bZ x).length)).sum_nat,<-(a7.map (λx=>(Oj x).length)).sum_nat];congr 1;apply YT (by simp[H]);intro i K h2;have c:i<ls.length:=by simpa using K
  have c9:i<(ZL ns).length:=by omega
  have e1:ls.getD i L0=ls[i]:=by simp[WI,c]
  have e2:(ZL ns).getD i L0=(ZL ns)[i]:=by simp[WI,c9]
  have b5:=s i c;rw[e1,e2]at b5;simp only[xca];rw[KI,Ol,b5]
 have c6:(Xy (XS ns).os).length=((XS ns).os.flatMap Le).length:=by
  have e:=xas List.length c7;conv at e=>rhs;rw[d2]
  unfold Xx at e;rw[a5]at e;simp only[xc,List.length_cons,yx,WC,gD,bG _ D]at e;omega
 have a6:=DK c6 (λo A=>Lc o (v o A));have a4:Good (XS ns).os ls:=⟨M,u,a6,λo A=>(d.ord o A).id.2,d.olen,v,λo A p r=>⟨WO p.1 ls,((d.ord o A).line p r).1,aD ((d.ord o A).line p r).1⟩,λi c=>(d.hd i c).symm⟩
 have a9:∀l∈ZL ns,l.ex<=2147483647:=λl hl=>by
  obtain⟨j,z,rfl⟩:=xw hl;have e:(ZL ns).getD j L0=(ZL ns)[j]:=by simp[WI,z]
  rw[<-e];exact(F j z).2.2.1
 have d1:∀ps,Xb ls ps=Xb (ZL ns) ps:=λps=>by
  unfold Xb;congr 1;funext e p;rw[(X p.1).2.2]
 have b9:Snd (XS ns).os (XS ns).rj ls:=by
  refine⟨λi c=>?_,λi c p r=>?_,λi c r=>?_,λi c=>?_,λo A=>?_,λp r=>?_⟩
  ·have g:=F i (by omega);have hb:=h.bal i c;refine⟨by rw[f i c];exact g.1.1,by rw[f i c];exact g.2.1.1,hb.2.2.1,hb.2.2.2,by rw[s i c];exact oN (hF i c).ris,a0 i c,?_⟩;rw[s i c];by_cases h0:((ZL ns).getD i L0).par=[]
   ·exact Or.inl h0
   refine Or.inr ?_
   rw[f i c];show uJ _=_;unfold uJ;rw[xg (λe=>h0 (yl.1 e))]
  ·rw[s i c]at r;obtain⟨k1,_,k2,k3⟩:=(hF i c).fam p r;have hk:WO p.1 ls<ls.length:=by rw[w,H];exact k1
   refine⟨WO p.1 ls,?_,aD hk,?_⟩
   ·unfold zg at k3;rw[t _ k1,t i (by omega)]at k3;rw[w];omega
   have:=(X p.1).1
   unfold zg at this;rw[this,f i c];exact k2
  ·rw[s i c]at r ⊢;rw[d1,<-Jq _ a9 r (λp hq=>((hF i c).fam p hq).1),(hF i c).exp r,f i c]
  ·rw[b1,f i c]
  ·have B:=d.ord o A;exact⟨B.gd.1,B.ne,λp r=>⟨(B.line p r).2.1.1,(B.line p r).2.2⟩⟩
  have B:=d.rc p r;exact⟨(C p.1 B.1).2,B.2.1,B.1⟩
 have W:=Il h.td Z (by omega) a4 b9 b8 (λo A=>⟨(d.ord o A).id.1,(d.ord o A).gd.2⟩);have b2:ls.map kap=ls:=by
  have:ls.map kap=ls.map id:=Yj (λl hl=>by
   unfold kap;rw[a3 l hl];rfl)
  rw[this,xbE]
 rw[c5,b2,iK d.up]at W;exact W
def bare(l:L):L:={ l with got:=0,gv:=0 }
variable {B N i:Nat}
def ED{x:L}(h:bare x=bare (ls.getD i L0)):(ls.set i x).map bare=ls.map bare:=by
 apply YT (by simp)
 intro j b a;simp only[xca,List.getElem_set];by_cases e:i=j
 ·subst e;rw[xh rfl,h];simp at a;simp[WI,a]
 rw[xg e]
def vY(h:ls.map bare=ms.map bare)(i:Nat):bare (ls.getD i L0)=bare (ms.getD i L0):=by
 have e:=xas (λl=>l.getD i (bare L0)) h;have q:∀l:List L,(l.map bare).getD i (bare L0)=bare (l.getD i L0):=λl=>by
  rcases xaI i l.length with a|a
  ·simp[WI,a]
  rw[WI,WI,yo (by simpa using a),yo a];rfl
 simp only[q]at e;exact e
def nV(h:ls.map bare=ms.map bare):ls.length=ms.length:=by simpa using xas List.length h
def kZ{a b:L}(h:bare a=bare b):a.id=b.id/\a.gd=b.gd/\a.ex=b.ex/\a.place=b.place/\a.free=b.free/\a.hd=b.hd/\a.sh=b.sh/\a.sc=b.sc/\a.par=b.par:=by
 cases a;cases b
 simp only[bare,L.mk.injEq]at h;simp_all
def MZ(h:ls.map bare=ms.map bare)(n:Nat):WO n ls=WO n ms:=by
 have q:∀l:List L,WO n (l.map bare)=WO n l:=λl=>by
  unfold WO;rw[xbt];rfl
 rw[<-q ls,h,q ms]
def Na(h:ls.map bare=ms.map bare){x:L}(c:x∈ls):∃m∈ms,bare x=bare m:=by
 obtain⟨i,b,rfl⟩:=xw c;have d:=nV h;have e:=vY h i;have a:ls.getD i L0=ls[i]:=by simp[WI,b]
 rw[a]at e;exact⟨_,zf (by omega),e⟩
def NumP.mem(h:NumP ls){x:L}(c:x∈ls):x.ex<=2147483647/\x.free<=2147483647/\x.hd<=2147483647/\x.sh<=2147483647/\x.sc<=2147483647:=by
 obtain⟨i,a,rfl⟩:=xw c;have b:ls.getD i L0=ls[i]:=by simp[WI,a]
 have:=h i a
 rw[b]at this;exact⟨this.2.2.1,this.2.2.2.1,this.2.2.2.2.1,this.2.2.2.2.2.1,this.2.2.2.2.2.2.1⟩
def ET(l:L):∀(ps:List (Nat×Nat)) (u g:Nat) (ls:List L) (r:List L×Nat×Nat),WE l ps u g ls=Y r->r.1.map bare=ls.map bare/\(∀M,(∀x∈ls,x.gv<=M)->∀x∈r.1,x.gv<=M+ps.length*2147483647)/\(∀B,(∀x∈ls,x.got<B)->∀x∈r.1,x.got<B)/\r.2.2<=g+ps.length*2147483647
 |[],u,g,ls,r,h=>by
  simp only[WE,yk]at h;subst h;exact⟨rfl,λM h x a=>xi (h x a) (xcE _ _),λB h=>h,by simp⟩
 |p::ps,u,g,ls,r,h=>by
  rw[WE]at h;split at h
  ·next b=>
   obtain⟨i,j,k,m⟩:=ET l ps _ _ _ r h;have f:=zf b.1;refine⟨i.trans (ED rfl),λM e x a=>?_,λB d=>k B (λx a=>?_),?_⟩
   ·have:=j (M+p.2) (λy c=>by
     rcases Yd c with c|rfl
     ·have:=e y c;omega
     have:=e _ f;simp only[WK];omega) x a
    have:=b.2.1
    simp only[List.length_cons];omega
   ·rcases Yd a with a|rfl
    ·exact d x a
    have:=d _ f;exact this
   have:=b.2.1
   simp only[List.length_cons];omega
  cases h
def ND{ls':List L}(q:i<ls.length)(h:WF ls i=Y ls'):ls'.map bare=ls.map bare/\(∀M,(∀x∈ls,x.gv<=M)->∀x∈ls',x.gv<=M+4294967294)/\((∀x∈ls,x.got<9223372036854775808)->∀x∈ls',x.got<9223372036854775808):=by
 unfold WF at h;split at h
 ·next m=>
  cases e:WE (ls.getD i L0) (ls.getD i L0).par 2147483648 0 ls with
  |none=>rw[e]at h;cases h
  |some r=>
   rw[e]at h;simp only[xk]at h;obtain⟨c,k,f,p⟩:=ET _ _ _ _ _ _ e;have g:=m.1;have d:∀M,(∀x∈ls,x.gv<=M)->∀x∈r.1,x.gv<=M+4294967294:=λM b x a=>by
    have:=k M b x a
    have:(ls.getD i L0).par.length*2147483647<=2*2147483647:=xaW _ g
    omega
   have j:=nV c;split at h
   ·cases h;exact⟨c,d,f _⟩
   split at h
   ·cases h;have n:r.1.getD i L0∈r.1:=zf (by omega)
    refine⟨(ED (ls:=r.1) (i:=i) (by rfl)).trans c,λM b x a=>?_,λl x a=>?_⟩
    ·rcases Yd a with a|rfl
     ·exact d M b x a
     have:=d M b _ n;exact this
    rcases Yd a with a|rfl
    ·exact f _ l x a
    have:(ls.getD i L0).par.length*2147483647<=2*2147483647:=xaW _ g
    show r.2.2<_;omega
   cases h
 cases h
structure FmI(l0:List L)(R:Option (List L))(i:Nat)(ls:List L):Prop where
 le:i<=l0.length
 fin:WD (l0.length-i) i ls=R
 bare:ls.map bare=l0.map bare
 gvn:∀x∈ls,x.gv<=i*4294967294
 got:∀x∈ls,x.got<9223372036854775808
variable {R:Option (List L)}
def FmI.step{ls':List L}(h:FmI l0 R i ls)(f:i<l0.length)(a:WF ls i=Y ls'):FmI l0 R (i+1) ls':=by
 have j:=nV h.bare;obtain⟨b,c,d⟩:=ND (by omega) a;refine⟨f,?_,b.trans h.bare,λx g=>?_,d h.got⟩
 ·have:=h.fin
  have e:l0.length-i=(l0.length-(i+1))+1:=by omega
  rw[e,WD,a]at this;exact this
 have:=c _ h.gvn x g
 omega
def FmI.none{a ls:List L}{R:Option (List L)}{i:Nat}(h:FmI a R i ls)(c:i<a.length)(b:WF ls i=none):R=none:=by
 have:=h.fin
 have e:a.length-i=(a.length-(i+1))+1:=by omega
 rw[e,WD,b]at this;exact this.symm
def FmI.done(h:FmI l0 R l0.length ls):R=Y ls:=by
 have:=h.fin
 rw[xaT,WD]at this;exact this.symm
def MA(h:∀n∈s.1,n<B)(b:0<B)(f:s.1.length<=N):(kI s).1.length<=N/\∀p∈(kI s).1,p.1<B/\p.2<B:=by
 obtain⟨c1,c2,c3⟩:=iD h b f;have g:∀k,∀p∈(XP (XQ s).2 k).1,p.1<B/\p.2<B:=λk=>by
  induction k with
  |zero=>intro p a;cases a
  |succ k ih=>
   intro p a;obtain⟨d,i⟩:=sA c2 b c3 k;have c:=Zc d b;have e:=Zc c.2 b;rcases xx.1 a with a|a
   ·exact ih p a
   simp only[yp]at a;subst a;exact⟨c.1,e.1⟩
 exact⟨by unfold kI;rw[mD];exact c1,g _⟩
def My{s:List Nat×Bool}{B N:Nat}(h:∀n∈s.1,n<B)(b:0<B)(e:s.1.length<=N):∀k,∀o∈(gV s k).1,o.id<B/\o.gd<B/\o.li.length<=N/\∀p∈o.li,p.1<B/\p.2<B
 |0,o,a=>by cases a
 |k+1,o,a=>by
  rcases xx.1 a with a|a
  ·exact My h b e k o a
  simp only[yp]at a;subst a;obtain⟨g,i⟩:=yU h b e k;have c:=Zc g b;have d:=Zc c.2 b;have j:=Z9 (gV s k).2;have l:=Z9 (XJ (gV s k).2).2;obtain⟨f,g2⟩:=MA d.2 b (show(XJ (XJ (gV s k).2).2).2.1.length<=N by omega);exact⟨c.1,d.1,f,g2⟩
def Mw{s:List Nat×Bool}{B N:Nat}(h:∀n∈s.1,n<B)(b:0<B)(c:s.1.length<=N):∀k,∀x∈(fI s k).1,x.par.length<=N/\∀p∈x.par,p.1<B/\p.2<B
 |0,o,a=>by cases a
 |k+1,o,a=>by
  rcases xx.1 a with a|a
  ·exact Mw h b c k o a
  simp only[yp]at a;subst a;obtain⟨d,e⟩:=Et h b c k;have:=Mu d b e;exact this.2.2.2
structure Vr(ns:List Nat):Prop where
 ls:∀x∈(XS ns).ls,x.par.length<=4194304/\∀p∈x.par,p.1<9223372036854775808/\p.2<9223372036854775808
 ll:(XS ns).ls.length<=4194304
 os:∀o∈(XS ns).os,o.id<9223372036854775808/\o.gd<9223372036854775808/\o.li.length<=4194304/\∀p∈o.li,p.1<9223372036854775808/\p.2<9223372036854775808
 ol:(XS ns).os.length<=4194304
 rc:(XS ns).rj.length<=4194304/\∀p∈(XS ns).rj,p.1<9223372036854775808/\p.2<9223372036854775808
 td:(XS ns).td<9223372036854775808
 gz:∀x∈(XS ns).ls,x.gv=0
def Us(h:∀n∈ns,n<9223372036854775808)(k:ns.length<=4194304):Vr ns:=by
 have g:0<9223372036854775808:=by omega
 obtain⟨B,i⟩:∃B,B=9223372036854775808:=⟨_,rfl⟩
 obtain⟨N,j⟩:∃N,N=4194304:=⟨_,rfl⟩
 rw[<-i]at g h;rw[<-j]at k;have a:=Zc (s:=(ns,false)) h g;have l:(XJ (ns,false)).2.1.length<=N:=xi (Z9 (ns,false)) k;have b:=Zc a.2 g;have m:(XJ (XJ (ns,false)).2).2.1.length<=N:=xi (Z9 _) l;have c:=iD b.2 g m;have d:=Et c.2.1 g c.2.2 (XQ (XJ (XJ (ns,false)).2).2).1;have e:=iD d.1 g d.2;have f:=yU e.2.1 g e.2.2 (XQ (fI (XQ (XJ (XJ (ns,false)).2).2).2 (XQ (XJ (XJ (ns,false)).2).2).1).2).1;have p:=Mw c.2.1 g c.2.2 (XQ (XJ (XJ (ns,false)).2).2).1;have g2:=My e.2.1 g e.2.2 (XQ (fI (XQ (XJ (XJ (ns,false)).2).2).2 (XQ (XJ (XJ (ns,false)).2).2).1).2).1;have q:=MA f.1 g f.2;have r:=xi (xcQ (oQ (XQ (XJ (XJ (ns,false)).2).2).2 (XQ (XJ (XJ (ns,false)).2).2).1).1) c.1;have t:=xi (xcQ (yT (XQ (fI (XQ (XJ (XJ (ns,false)).2).2).2 (XQ (XJ (XJ (ns,false)).2).2).1).2).2 (XQ (fI (XQ (XJ (XJ (ns,false)).2).2).2 (XQ (XJ (XJ (ns,false)).2).2).1).2).1)) e.1;have u:=(oQ (XQ (XJ (XJ (ns,false)).2).2).2 (XQ (XJ (XJ (ns,false)).2).2).1).2;subst i j;exact⟨p,r,g2,t,q,a.1,u⟩
def FP{t:List UInt8}(m:Pl.nums t=Y ns){td:Nat}{ls:List L}{os:List O}{rj:List (Nat×Nat)}(h:zE (13::t)=Y (td,ls,os,rj)):VW ns ls/\(XS ns).left.1=[]/\(XS ns).com=(XS ns).k/\Xu td os rj ls=13::t/\(XS ns).td=td/\(XS ns).os=os/\(XS ns).rj=rj/\VM td os rj ls:=by
 obtain⟨a,b,c,d,j⟩:=rW h;have e:ns=Xx td os rj ls:=by
  have p:=a.num;have l:VW (Xx td os rj ls) ls:=⟨a.pl,a.bad,a.td,a.len,a.nm,a.fam,a.bal,a.ord⟩
  have i:=(gM l).1.small;rw[b,c,d]at i;have g:=Pl.nums_told (Xx td os rj ls) (λn f=>xbg (i n f) (by omega));rw[<-(xcf p).2,m]at g;exact xt g
 subst e;exact⟨⟨a.pl,a.bad,a.td,a.len,a.nm,a.fam,a.bal,a.ord⟩,a.left,a.com,by have:=a.st;rw[b,c,d]at this;exact this,b,c,d,j⟩
