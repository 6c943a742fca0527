import Derived.Test.YtgcedalggnmooaaGreatDoorEn0X
import Derived.Test.YtgcedalggnmooaaGreatDoorDo1X
set_option linter.all false
set_option maxRecDepth 100000
set_option maxHeartbeats 1600000
namespace Go.Proofs.YtgcedalggnmooaaGreatDoor
open Go.RowKit
open Value renaming int->Y,slice->K,pointer->T,tuple->X
open IntKind renaming i64->V
open Option renaming none->U,some->J
open Ending renaming returned->W
open Tryz
def wL(os:List O)(a:Nat):fJ os a<=9:=by unfold fJ;split<;>omega
variable {S td:Nat}{Z:Nat->Prop}
def PIn.zs{M:Mx}{v:Value}{c:List Nat}{a:List Value}(h:PIn Z S M v c a):∀k,(k=M.o\/k=M.h\/k∈c)->Z k:=by
 rintro k (rfl|rfl|hk)
 ·exact h.mo
 ·exact h.mh
 exact h.b k hk
variable {ls:List L}{os:List O}{rj:List (Nat×Nat)}{w:World}
def Jf(h:PI os rj Z w S td ls)(f:Good os ls)(a:Nat)(y:a<=2147483647):Calls prog 62 #[T (J ⟨S,0,U⟩),.iface 158 (.agg #[Y V a])] w λe w'=>Kp Z w w'/\e=W (X #[K U 0 0,Y V (fJ os a:Int)])/\PI (os.filter (λo=>o.id != a)) rj (Zn Z w) w' S td (ls.map (dJ Zl os a)):=by
 have d:=Wm w (Obj.cells #[Y V a] 158);obtain⟨M,v,x,p,q,g⟩:=h;have HD:=zb (Gm (q.below d) f a y);have c:=zb g;generalize ls.map (dJ Zl os a)=ls' at HD ⊢;generalize os.filter (λo=>o.id != a)=os' at HD ⊢;generalize fJ os a=rc at HD ⊢;clear q f g;have r:=vM.o;have s:=kR.o;have t:=oX.o;have u:=oV.o;have l:=oW.o;have b:=nB.o;have m:=sL.o;go_enter func62,ntmps62;go_wp2_with fail;refine HD.mono ?_
 rintro e w1 ⟨i,rfl,j⟩;have n:=zb j;clear j;go_wp2_with fail;go_ret2;exact⟨Kp.before d (i.mono (λk i=>Or.inl (c.zs k i))),rfl,M,v,x,p,n,c.mono (λk i=>Or.inl i)⟩
def QQ(h:PI os rj Z w S td ls)(f:Good os ls)(a:Nat)(y:a<=2147483647):Calls prog 62 #[T (J ⟨S,0,U⟩),.iface 160 (.agg #[Y V a])] w λe w'=>Kp Z w w'/\e=W (X #[K U 0 0,Y V (fJ os a:Int)])/\PI (os.filter (λo=>o.id != a)) rj (Zn Z w) w' S td (ls.map (dJ Zv os a)):=by
 have d:=Wm w (Obj.cells #[Y V a] 160);obtain⟨M,v,x,p,q,g⟩:=h;have HD:=zb (OZ (q.below d) f a y);have c:=zb g;generalize ls.map (dJ Zv os a)=ls' at HD ⊢;generalize os.filter (λo=>o.id != a)=os' at HD ⊢;generalize fJ os a=rc at HD ⊢;clear q f g;have r:=CF.o;have s:=pK.o;have t:=vV.o;have u:=vT.o;have l:=vU.o;have b:=tA.o;have m:=Ap.o;go_enter func62,ntmps62;go_wp2_with fail;refine HD.mono ?_
 rintro e w1 ⟨i,rfl,j⟩;have n:=zb j;clear j;go_wp2_with fail;go_ret2;exact⟨Kp.before d (i.mono (λk i=>Or.inl (c.zs k i))),rfl,M,v,x,p,n,c.mono (λk i=>Or.inl i)⟩
def Ab(rj:List (Nat×Nat))(os:List O)(td:Nat)(ls:List L)(id gd count gate way:Nat):List O:=if dH rj os td ls id gd count gate way=0 then os++[⟨id,gd,zr ls (zo rj td gd count gate way ls)⟩] else os
def tS(rj:List (Nat×Nat))(os:List O)(td:Nat)(ls:List L)(id gd count gate way:Nat):List L:=if dH rj os td ls id gd count gate way=0 then Zt ls (zo rj td gd count gate way ls) else ls
def Iz(rj:List (Nat×Nat))(os:List O)(td:Nat)(ls:List L)(id gd count gate way:Nat):List UInt8:=if dH rj os td ls id gd count gate way=0 then 0::Pl.toldB (zA ls (zo rj td gd count gate way ls)) else [UInt8.ofNat (dH rj os td ls id gd count gate way)]
def IS(os:List O)(td:Nat)(ls:List L)(id gd a b c:Nat):dH rj os td ls id gd a b c<=9:=by
 unfold dH;split<;>(try split)<;>(try split)<;>omega
def iY{id gd a b c:Nat}(h:dH rj os td ls id gd a b c=0):os.any (λo=>o.id==id)=false/\¬10<=os.length/\¬(aX (zo rj td gd a b c ls)=0\/(aX (zo rj td gd a b c ls)<a/\Ey c=true)):=by
 unfold dH at h
 cases e:os.any (λo=>o.id==id) with
 |true=>rw[e]at h;simp at h
 |false=>
  rw[e]at h;simp only[Yg,xam]at h;by_cases d:10<=os.length
  ·rw[xh d]at h;omega
  rw[xg d]at h;by_cases f:aX (zo rj td gd a b c ls)=0\/(aX (zo rj td gd a b c ls)<a/\Ey c=true)
  ·rw[xh f]at h;omega
  exact⟨rfl,d,f⟩
def Rw(w:World)(g:Nat)(ns:List Nat):Prop:=g<w.heap.size/\∀j,j<ns.length->w.cell? ⟨g,j,U⟩=J (Y V (ns.getD j 0:Nat))
variable {ns:List Nat}
def Rw.of{g c:Nat}(h:w.ownsRow 0 2 1 (K (J ⟨g,0,U⟩) ns.length c) ns.length (I ns))(e:0<ns.length):Rw w g ns:=by
 obtain⟨d,a⟩:=zi h (g:=g) rfl;refine⟨zc a,λj b=>?_⟩;rw[h.cellAt j (by omega)];simp[I,WI,b]
def OC(h:PI os rj Z w S td ls)(q:Good os ls)(id gd a b d:Nat)(z:id<=2147483647)(D:gd<=2147483647)(E:a<=2147483647)(F:b<=2147483647)(G:d<=3):Calls prog 101 #[T (J ⟨S,0,U⟩),.agg #[Y V id,Y V gd,Y V a,Y V b,Y V d]] w λe w'=>Kp Z w w'/\PI (Ab rj os td ls id gd a b d) rj (Zn Z w) w' S td (tS rj os td ls id gd a b d) /\
   ((dH rj os td ls id gd a b d≠0/\e=W (X #[K U 0 0,Y V (dH rj os td ls id gd a b d:Int)]))\/(dH rj os td ls id gd a b d=0/\∃g c,e=W (X #[K (J ⟨g,0,U⟩) (zA ls (zo rj td gd a b d ls)).length c,Y V 0])/\Rw w' g (zA ls (zo rj td gd a b d ls)))):=by
 obtain⟨M,v,C,s,x,m⟩:=h;by_cases i:dH rj os td ls id gd a b d=0
 ·obtain⟨t,u,y⟩:=iY i;unfold Ab tS;rw[xh i,xh i];refine(OA x q id gd a b d z D E F G t u y).mono ?_
  rintro e w' ⟨n,B,g,c,p,H⟩;exact⟨n.mono (λk n=>m.zs k n),⟨M,v,C,s,B,m.mono (λk n=>Or.inl n)⟩,Or.inr ⟨i,g,c,p,Rw.of H (by simp[zA])⟩⟩
 unfold Ab tS;rw[xg i,xg i];have f:∀(w':World),Below w.heap.size w w'->Kp Z w w'/\PI os rj (Zn Z w) w' S td ls:=λw' j=>⟨WT j,M,v,C,s,x.below j,m.mono (λk n=>Or.inl n)⟩
 by_cases l:os.any (λo=>o.id==id)=true\/10<=os.length
 ·refine(DN x id gd a b d z l).mono ?_
  rintro e w' ⟨p,j⟩;exact⟨(f w' j).1,(f w' j).2,Or.inl ⟨i,p⟩⟩
 have t:os.any (λo=>o.id==id)=false:=by cases r:os.any (λo=>o.id==id) with
  |true=>exact absurd (Or.inl r) l
  |false=>rfl
 have u:¬10<=os.length:=λr=>l (Or.inr r)
 have y:aX (zo rj td gd a b d ls)=0\/(aX (zo rj td gd a b d ls)<a/\Ey d=true):=by
  apply YB
  intro r;apply i;unfold dH;rw[t,xg (by simp),xg u,xg r]
 have A:dH rj os td ls id gd a b d=7:=by unfold dH;rw[t,xg (by simp),xg u,xh y]
 refine(DO x q id gd a b d z D E F G t u y).mono ?_
 rintro e w' ⟨p,j⟩;exact⟨(f w' j).1,(f w' j).2,Or.inl ⟨i,by rw[A];exact p⟩⟩
def Nq(h:PI os rj Z w S td ls)(l:Good os ls)(id gd a b d:Nat)(D:id<=2147483647)(E:gd<=2147483647)(F:a<=2147483647)(G:b<=2147483647)(H:d<=3):Calls prog 62 #[T (J ⟨S,0,U⟩),.iface 155 (.agg #[Y V id,Y V gd,Y V a,Y V b,Y V d])] w λe w'=>Kp Z w w'/\PI (Ab rj os td ls id gd a b d) rj (Zn Z w) w' S td (tS rj os td ls id gd a b d) /\
   ((dH rj os td ls id gd a b d≠0/\e=W (X #[K U 0 0,Y V (dH rj os td ls id gd a b d:Int)]))\/(dH rj os td ls id gd a b d=0/\∃g c,e=W (X #[K (J ⟨g,0,U⟩) (zA ls (zo rj td gd a b d ls)).length c,Y V 0])/\Rw w' g (zA ls (zo rj td gd a b d ls)))):=by
 have j:=Wm w (Obj.cells #[Y V id,Y V gd,Y V a,Y V b,Y V d] 155);obtain⟨M,v,B,s,t,m⟩:=h;have HD:=zb (OC (Z:=Z) ⟨M,v,B,s,t.below j,m⟩ l id gd a b d D E F G H);generalize tS rj os td ls id gd a b d=ls' at HD ⊢;generalize Ab rj os td ls id gd a b d=os' at HD ⊢;generalize dH rj os td ls id gd a b d=rc at HD ⊢;generalize zA ls (zo rj td gd a b d ls)=tq at HD ⊢;clear t l m;have x:=Am.o;have y:=nE.o;have z:=sR.o;have A:=sP.o;have p:=sQ.o;go_enter func62,ntmps62;go_wp2_with fail;refine HD.mono ?_
 rintro e w1 ⟨u,f,⟨r,rfl⟩|⟨C,g,c,rfl,n⟩⟩
 ·have i:=zb f;clear f;go_wp2_with fail;go_ret2;exact⟨Kp.before j (u.mono (λk h=>Or.inl h)),i.mono (bU w _),Or.inl ⟨r,rfl⟩⟩
 have i:=zb f;have q:=zb n;clear f n;go_wp2_with fail;go_ret2;exact⟨Kp.before j (u.mono (λk h=>Or.inl h)),i.mono (bU w _),Or.inr ⟨C,g,c,rfl,q⟩⟩
def iM{ls:List L}(a:∀x∈ls,L.Ok x):∀(l:List (Nat×Nat)),(∀p∈l,p.1<ls.length/\p.2<=2147483647)->∀n∈aJ ls l,n<9223372036854775808
 |[],_=>by simp[aJ]
 |p::r,h=>by
  intro n b;simp only[aJ,xz]at b;rcases b with rfl|rfl|b
  ·have:=(a _ (zf (h p (by simp)).1)).id;omega
  ·have:=(h p (by simp)).2;omega
  exact iM a r (λq c=>h q (by simp[c])) n b
def sC(d:∀x∈ls,L.Ok x)(h:ls.length<=30)(td gd a b c:Nat):(∀n∈zA ls (zo rj td gd a b c ls),n<9223372036854775808)/\(zA ls (zo rj td gd a b c ls)).length<=61:=by
 have f:=Z5 (rj:=rj) td gd a b c ls h;constructor
 ·intro n e;simp only[zA,xz]at e;rcases e with rfl|e
  ·omega
  refine iM d _ (λp g=>⟨f.2.2.1 p g,?_⟩) n e;have i:=f.2.2.2.1 p g;have j:=(d _ (zf (f.2.2.1 p g))).sum;omega
 simp only[zA,List.length_cons,dG];omega
def Dj(ls:List L)(l:List (Nat×Nat)):∀i,((Zt ls l).getD i L0).place=(ls.getD i L0).place:=by
 induction l generalizing ls with
 |nil=>intro i;rfl
 |cons p r ih=>
  intro i;simp only[Zt];rw[ih];by_cases h:i=p.1
  ·subst h;by_cases a:p.1<ls.length
   ·rw[ZJ a];rfl
   simp[xah (show ls.length<=p.1 by omega)]
  rw[zZ h]
def tJ(a b:List O)(n:Nat):zD (a++b) n=zD a n+zD b n:=by
 induction a with
 |nil=>simp[zD]
 |cons o a ih=>
  simp only[zD,Yb,XY,Yf]at ih ⊢;omega
def eU{f:Nat->Nat}:∀(l:List Nat),l.Nodup->(∀a∈l,∀b∈l,f a=f b->a=b)->(l.map f).Nodup
 |[],_,_=>by simp
 |x::l,hn,hf=>by
  rw[Yq]at hn;simp only[XY,Yq];refine⟨λh=>?_,eU l hn.2 (λa d b e=>hf a (by simp[d]) b (by simp[e]))⟩;obtain⟨y,c,g⟩:=yc.1 h;have:=hf y (by simp[c]) x (by simp) g;subst this;exact hn.1 c
def Good.ask(h:Good os ls){q:List (Nat×Nat)}(z:(q.map Prod.fst).Nodup)(l:∀p∈q,p.1<ls.length){id g:Nat}(y:id<=2147483647)(t:os.any (λo=>o.id==id)=false)(E:¬10<=os.length):Good (os++[⟨id,g,zr ls q⟩]) (Zt ls q):=by
 have v:∀B∈os,B.id≠id:=λB u e=>by
  have:=YW.1 t B u
  simp[e]at this
 have f:=bY q ls;refine⟨λi j k C s=>?_,λi k=>?_,?_,λo d=>?_,by simp;omega,λo d=>?_,λo d p m=>?_,λi k=>?_⟩
 ·rw[f]at k C;rw[bP,bP]at s;exact h.ids i j k C s
 ·rw[f]at k;rw[Dj];exact h.place i k
 ·rw[YZ];refine yy.2 ⟨h.oids,by simp,?_⟩;intro a x b w e;obtain⟨o,d,rfl⟩:=yc.1 x;simp at w;exact v o d (by rw[e,w])
 ·rcases xx.1 d with d|d
  ·exact h.oid o d
  simp at d;subst d;exact y
 ·rcases xx.1 d with d|d
  ·exact h.keys o d
  simp at d;subst d;have e:(zr ls q).map Prod.fst=(q.map Prod.fst).map (λc=>(ls.getD c L0).id):=by unfold zr;rw[xai,xai];rfl
  show((zr ls q).map Prod.fst).Nodup;rw[e];refine eU _ z (λa x b w s=>?_);obtain⟨p,m,rfl⟩:=yc.1 x;obtain⟨r,A,rfl⟩:=yc.1 w;exact h.ids _ _ (l p m) (l r A) s
 ·rcases xx.1 d with d|d
  ·obtain⟨i,k,s⟩:=h.mem o d p m;exact⟨i,by rw[f];exact k,by rw[bP];exact s⟩
  simp at d;subst d;obtain⟨r,A,rfl⟩:=yc.1 m;exact⟨r.1,by rw[f];exact l r A,by rw[bP]⟩
 rw[f]at k;rw[bP,tJ];have D:zD [⟨id,g,zr ls q⟩] (ls.getD i L0).id=(q.lookup i).getD 0:=by
  simp only[zD,ZZ,XY,xbH,Yf,List.sum_nil,xbr];rw[dU h.ids q l i k]
 rw[D,<-h.hd i k];by_cases u:i∈q.map Prod.fst
 ·obtain⟨p,m,rfl⟩:=yc.1 u;rw[wZ q ls z (n:=p.2) m k,zR z (n:=p.2) m];rfl
 rw[dZ q ls u,ZB.2 u];rfl
def qL{a:Nat}(n:Nat):∀(os:List O),(os.map O.id).Nodup->zD os n=zD (os.filter (λo=>o.id != a)) n+(zn os a n).getD 0
 |[],_=>rfl
 |o::os,hn=>by
  simp only[XY,Yq]at hn;have e:=qL (a:=a) n os hn.2;by_cases d:o.id=a
  ·have c:os.find? (λo=>o.id==a)=U:=by
    rw[YO];intro k g i;have:k.id=a:=by simpa using i
    exact hn.1 (by rw[d,<-this];exact yb g)
   have j:zn os a n=U:=by unfold zn;rw[c];rfl
   rw[j]at e;have b:zn (o::os) a n=o.li.lookup n:=by unfold zn;simp[List.find?,d]
   have f:(o.id != a)=false:=by simp[d]
   rw[b];simp only[zD,XY,Yf,List.filter,f,ZZ]at e ⊢;simp at e;omega
  have h:(o.id==a)=false:=by simpa using d
  have b:zn (o::os) a n=zn os a n:=by unfold zn;simp[List.find?,h]
  have f:(o.id != a)=true:=by simp[d]
  rw[b];simp only[zD,XY,Yf,List.filter,f]at e ⊢;omega
def Good.fin(h:Good os ls)(g:L->Nat->L)(k:∀l n,(g l n).id=l.id/\(g l n).place=l.place/\(g l n).hd=l.hd)(a:Nat):Good (os.filter (λo=>o.id != a)) (ls.map (dJ g os a)):=by
 have d:∀l,(dJ g os a l).id=l.id:=λl=>by unfold dJ;split<;>simp[k]
 have s:∀l,(dJ g os a l).place=l.place:=λl=>by unfold dJ;split<;>simp[k]
 have m:∀l,(dJ g os a l).hd=l.hd-(zn os a l.id).getD 0:=λl=>by
  unfold dJ;split
  ·rename_i n r;rw[r];simp[k]
  rename_i r;rw[r];simp
 have c:∀o∈os.filter (λo=>o.id != a),o∈os:=λo e=>(YC.1 e).1
 refine⟨λi j b q f=>?_,λi b=>?_,h.oids.sublist ((xck (l:=os)).map _),λo e=>h.oid o (c o e),xi (xag _ _) h.olen,λo e=>h.keys o (c o e),λo e p t=>?_,λi b=>?_⟩
 ·rw[List.length_map]at b q;rw[aN b,aN q,d,d]at f;exact h.ids i j b q f
 ·rw[List.length_map]at b;rw[aN b,s];exact h.place i b
 ·obtain⟨i,b,f⟩:=h.mem o (c o e) p t;exact⟨i,by simpa using b,by rw[aN b,d];exact f⟩
 rw[List.length_map]at b;rw[aN b,m,d,h.hd i b];have:=qL (a:=a) (ls.getD i L0).id os h.oids;omega
def ZQ(rj:List (Nat×Nat))(td:Nat)(os:List O)(ls:List L):Pl.Cmd->List UInt8×Nat×List O×List L
 | .ok (5,[a,b,c,d,f])=>(Iz rj os td ls a b c d f,td,Ab rj os td ls a b c d f,tS rj os td ls a b c d f)
 | .ok (6,[a])=>([UInt8.ofNat (fJ os a)],td,os.filter (λo=>o.id != a),ls.map (dJ Zl os a))
 | .ok (7,[a])=>([UInt8.ofNat (fJ os a)],td,os.filter (λo=>o.id != a),ls.map (dJ Zv os a))
 |c=>((aM rj td ls c).1,(aM rj td ls c).2.1,os,(aM rj td ls c).2.2)
def Cm{c:Pl.Cmd}(h:vI c)(td:Nat)(os:List O)(ls:List L):ZQ rj td os ls c=((aM rj td ls c).1,(aM rj td ls c).2.1,os,(aM rj td ls c).2.2):=by
 cases c with
 |error e=>rfl
 |ok p=>
  obtain⟨n,a⟩:=p;rcases h n a rfl with rfl|rfl|rfl|rfl|rfl|rfl|rfl<;>rfl
def oU(c:Pl.Cmd):Prop:=∀n ns,c=.ok (n,ns)->n=1\/n=2\/n=11\/n=12\/n=3\/n=4\/n=10\/n=5\/n=6\/n=7
def uY{l:List UInt8}(h:oU (Pl.cmd l)):vI (Pl.cmd l)\/∃c d,ZT l=J (c,d)/\Pl.mays (Pl.kindsL c) d=true/\Pl.cmd l=.ok (c,d)/\(c=5\/c=6\/c=7)/\d.length=(Pl.kindsL c).length/\∀n∈d,n<9223372036854775808:=by
 have a:=dN l
 cases b:ZT l with
 |none=>left;intro n d e;rw[b]at a;rw[a]at e;cases e
 |some p=>
  obtain⟨c,d⟩:=p;rw[b]at a;obtain⟨k,m,f,g⟩:=bO b
  cases i:Pl.mays (Pl.kindsL c) d with
  |false=>
   simp only[i,Yg,xam]at a;left;intro n d e;rw[a]at e;cases e
  |true=>
   simp only[i,YX]at a;have q:=h c d a;by_cases j:c=5\/c=6\/c=7
   ·right;exact⟨c,d,rfl,i,a,j,f,g⟩
   left;intro n r e;rw[a]at e;cases e;omega
def TK(h:ns.length=(Pl.kindsL 6).length):∃a,ns=[a]:=by
 match ns,h with
 |[a],_=>exact⟨a,rfl⟩
def TL(h:ns.length=(Pl.kindsL 7).length):∃a,ns=[a]:=by
 match ns,h with
 |[a],_=>exact⟨a,rfl⟩
def TM(h:ns.length=(Pl.kindsL 5).length):∃a b c d f,ns=[a,b,c,d,f]:=by
 match ns,h with
 |[a,b,c,d,f],_=>exact⟨a,b,c,d,f,rfl⟩
def GF(h:Good os ls)(q:ls.length<=30)(l:List UInt8)(t:oU (Pl.cmd l)):Good (ZQ rj td os ls (Pl.cmd l)).2.2.1 (ZQ rj td os ls (Pl.cmd l)).2.2.2:=by
 rcases uY t with i|⟨c,w,k,s,j,p,e,r⟩
 ·rw[Cm i];exact GH h _
 rw[j];rcases p with rfl|rfl|rfl
 ·obtain⟨a,b,c,d,f,rfl⟩:=TM e;have hd:a<=2147483647:=by simp[Pl.mays,Pl.kindsL,Pl.mayB]at s;omega
  show Good (Ab rj os td ls a b c d f) (tS rj os td ls a b c d f);unfold Ab tS;by_cases g:dH rj os td ls a b c d f=0
  ·rw[xh g,xh g];obtain⟨u,v,_⟩:=iY g;have m:=Z5 (rj:=rj) td b c d f ls q;exact h.ask m.2.1 m.2.2.1 hd u v
  rw[xg g,xg g];exact h
 ·obtain⟨a,rfl⟩:=TK e;exact h.fin Zl (λl n=>⟨rfl,rfl,rfl⟩) a
 obtain⟨a,rfl⟩:=TL e;exact h.fin Zv (λl n=>⟨rfl,rfl,rfl⟩) a
