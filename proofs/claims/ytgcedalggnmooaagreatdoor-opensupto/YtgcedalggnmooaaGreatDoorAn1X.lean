import Derived.Test.YtgcedalggnmooaaGreatDoorEn0X
import Derived.Test.YtgcedalggnmooaaGreatDoorDo1X
set_option linter.all false
set_option maxRecDepth 100000
set_option maxHeartbeats 1600000
namespace Go.Proofs.YtgcedalggnmooaaGreatDoor
open Go.RowKit
open Tryz
theorem vJ(os:List O)(a:Nat):eZ os a<=9:=by unfold eZ;split<;>omega
variable {S td:Nat}{Z:Nat->Prop}
theorem PIn.zs{M:Mx}{v:Value}{c:List Nat}{a:List Value}(h:PIn Z S M v c a):∀k,(k=M.o\/k=M.h\/k∈c)->Z k:=by
 rintro k (rfl|rfl|hk)
 ·exact h.mo
 ·exact h.mh
 exact h.b k hk
variable {ls:List L}{os:List O}{rj:List (Nat×Nat)}{w:World}
theorem Hl(h:PI os rj Z w S td ls)(f:Good os ls)(a:Nat)(y:a<=2147483647):Calls prog 62 #[.pointer (some ⟨S,0,none⟩),.iface 158 (.agg #[.int .i64 a])] w λe w'=>Kp Z w w'/\e=.returned (.tuple #[.slice none 0 0,.int .i64 (eZ os a:Int)])/\PI (os.filter (λo=>o.id != a)) rj (Zn Z w) w' S td (ls.map (dH Zj os a)):=by
 have d:=TZ w (Obj.cells #[.int .i64 a] 158);obtain⟨M,v,x,p,q,g⟩:=h;have HD:=zb (Ff (q.below d) f a y);have c:=zb g;generalize ls.map (dH Zj os a)=ls' at HD ⊢;generalize os.filter (λo=>o.id != a)=os' at HD ⊢;generalize eZ os a=rc at HD ⊢;clear q f g;have r:=uN.o;have s:=kB.o;have t:=oE.o;have u:=oC.o;have l:=oD.o;have b:=mK.o;have m:=rQ.o;go_enter func62,ntmps62;go_wp2_with fail;refine HD.mono ?_
 rintro e w1 ⟨i,rfl,j⟩;have n:=zb j;clear j;go_wp2_with fail;go_ret2;exact⟨Kp.before d (i.mono (λk i=>Or.inl (c.zs k i))),rfl,M,v,x,p,n,c.mono (λk i=>Or.inl i)⟩
theorem OU(h:PI os rj Z w S td ls)(f:Good os ls)(a:Nat)(y:a<=2147483647):Calls prog 62 #[.pointer (some ⟨S,0,none⟩),.iface 160 (.agg #[.int .i64 a])] w λe w'=>Kp Z w w'/\e=.returned (.tuple #[.slice none 0 0,.int .i64 (eZ os a:Int)])/\PI (os.filter (λo=>o.id != a)) rj (Zn Z w) w' S td (ls.map (dH Zt os a)):=by
 have d:=TZ w (Obj.cells #[.int .i64 a] 160);obtain⟨M,v,x,p,q,g⟩:=h;have HD:=zb (Nh (q.below d) f a y);have c:=zb g;generalize ls.map (dH Zt os a)=ls' at HD ⊢;generalize os.filter (λo=>o.id != a)=os' at HD ⊢;generalize eZ os a=rc at HD ⊢;clear q f g;have r:=BO.o;have s:=oR.o;have t:=uW.o;have u:=uU.o;have l:=uV.o;have b:=sF.o;have m:=yL.o;go_enter func62,ntmps62;go_wp2_with fail;refine HD.mono ?_
 rintro e w1 ⟨i,rfl,j⟩;have n:=zb j;clear j;go_wp2_with fail;go_ret2;exact⟨Kp.before d (i.mono (λk i=>Or.inl (c.zs k i))),rfl,M,v,x,p,n,c.mono (λk i=>Or.inl i)⟩
def yA(rj:List (Nat×Nat))(os:List O)(td:Nat)(ls:List L)(id gd count gate way:Nat):List O:=if dF rj os td ls id gd count gate way=0 then os++[⟨id,gd,zt ls (zo rj td gd count gate way ls)⟩] else os
def sZ(rj:List (Nat×Nat))(os:List O)(td:Nat)(ls:List L)(id gd count gate way:Nat):List L:=if dF rj os td ls id gd count gate way=0 then Zm ls (zo rj td gd count gate way ls) else ls
def GK(rj:List (Nat×Nat))(os:List O)(td:Nat)(ls:List L)(id gd count gate way:Nat):List UInt8:=if dF rj os td ls id gd count gate way=0 then 0::Pl.toldB (zG ls (zo rj td gd count gate way ls)) else [UInt8.ofNat (dF rj os td ls id gd count gate way)]
theorem GW(os:List O)(td:Nat)(ls:List L)(id gd a b c:Nat):dF rj os td ls id gd a b c<=9:=by
 unfold dF;split<;>(try split)<;>(try split)<;>omega
theorem iL{id gd a b c:Nat}(h:dF rj os td ls id gd a b c=0):os.any (λo=>o.id==id)=false/\¬10<=os.length/\¬(aR (zo rj td gd a b c ls)=0\/(aR (zo rj td gd a b c ls)<a/\DC c=true)):=by
 unfold dF at h
 cases e:os.any (λo=>o.id==id) with
 |true=>rw[e]at h;simp at h
 |false=>
  rw[e]at h;simp only[XA,Yc]at h;by_cases d:10<=os.length
  ·rw[xe d]at h;omega
  rw[xg d]at h;by_cases f:aR (zo rj td gd a b c ls)=0\/(aR (zo rj td gd a b c ls)<a/\DC c=true)
  ·rw[xe f]at h;omega
  exact⟨rfl,d,f⟩
def Rw(w:World)(g:Nat)(ns:List Nat):Prop:=g<w.heap.size/\∀j,j<ns.length->w.cell? ⟨g,j,none⟩=some (.int .i64 (ns.getD j 0:Nat))
variable {ns:List Nat}
theorem Rw.of{g c:Nat}(h:w.ownsRow 0 2 1 (.slice (some ⟨g,0,none⟩) ns.length c) ns.length (I ns))(e:0<ns.length):Rw w g ns:=by
 obtain⟨d,a⟩:=zi h (g:=g) rfl;refine⟨zc a,λj b=>?_⟩;rw[h.cellAt j (by omega)];simp[I,Uv,b]
theorem MM(h:PI os rj Z w S td ls)(q:Good os ls)(id gd a b d:Nat)(z:id<=2147483647)(D:gd<=2147483647)(E:a<=2147483647)(F:b<=2147483647)(G:d<=3):Calls prog 101 #[.pointer (some ⟨S,0,none⟩),.agg #[.int .i64 id,.int .i64 gd,.int .i64 a,.int .i64 b,.int .i64 d]] w λe w'=>Kp Z w w'/\PI (yA rj os td ls id gd a b d) rj (Zn Z w) w' S td (sZ rj os td ls id gd a b d) /\
   ((dF rj os td ls id gd a b d≠0/\e=.returned (.tuple #[.slice none 0 0,.int .i64 (dF rj os td ls id gd a b d:Int)]))\/(dF rj os td ls id gd a b d=0/\∃g c,e=.returned (.tuple #[.slice (some ⟨g,0,none⟩) (zG ls (zo rj td gd a b d ls)).length c,.int .i64 0])/\Rw w' g (zG ls (zo rj td gd a b d ls)))):=by
 obtain⟨M,v,C,s,x,m⟩:=h;by_cases i:dF rj os td ls id gd a b d=0
 ·obtain⟨t,u,y⟩:=iL i;unfold yA sZ;rw[xe i,xe i];refine(ML x q id gd a b d z D E F G t u y).mono ?_
  rintro e w' ⟨n,B,g,c,p,H⟩;exact⟨n.mono (λk n=>m.zs k n),⟨M,v,C,s,B,m.mono (λk n=>Or.inl n)⟩,Or.inr ⟨i,g,c,p,Rw.of H (by simp[zG])⟩⟩
 unfold yA sZ;rw[xg i,xg i];have f:∀(w':World),Below w.heap.size w w'->Kp Z w w'/\PI os rj (Zn Z w) w' S td ls:=λw' j=>⟨UD j,M,v,C,s,x.below j,m.mono (λk n=>Or.inl n)⟩
 by_cases l:os.any (λo=>o.id==id)=true\/10<=os.length
 ·refine(CQ x id gd a b d z l).mono ?_
  rintro e w' ⟨p,j⟩;exact⟨(f w' j).1,(f w' j).2,Or.inl ⟨i,p⟩⟩
 have t:os.any (λo=>o.id==id)=false:=by cases r:os.any (λo=>o.id==id) with
  |true=>exact absurd (Or.inl r) l
  |false=>rfl
 have u:¬10<=os.length:=λr=>l (Or.inr r)
 have y:aR (zo rj td gd a b d ls)=0\/(aR (zo rj td gd a b d ls)<a/\DC d=true):=by
  apply XV
  intro r;apply i;unfold dF;rw[t,xg (by simp),xg u,xg r]
 have A:dF rj os td ls id gd a b d=7:=by unfold dF;rw[t,xg (by simp),xg u,xe y]
 refine(CR x q id gd a b d z D E F G t u y).mono ?_
 rintro e w' ⟨p,j⟩;exact⟨(f w' j).1,(f w' j).2,Or.inl ⟨i,by rw[A];exact p⟩⟩
theorem LH(h:PI os rj Z w S td ls)(l:Good os ls)(id gd a b d:Nat)(D:id<=2147483647)(E:gd<=2147483647)(F:a<=2147483647)(G:b<=2147483647)(H:d<=3):Calls prog 62 #[.pointer (some ⟨S,0,none⟩),.iface 155 (.agg #[.int .i64 id,.int .i64 gd,.int .i64 a,.int .i64 b,.int .i64 d])] w λe w'=>Kp Z w w'/\PI (yA rj os td ls id gd a b d) rj (Zn Z w) w' S td (sZ rj os td ls id gd a b d) /\
   ((dF rj os td ls id gd a b d≠0/\e=.returned (.tuple #[.slice none 0 0,.int .i64 (dF rj os td ls id gd a b d:Int)]))\/(dF rj os td ls id gd a b d=0/\∃g c,e=.returned (.tuple #[.slice (some ⟨g,0,none⟩) (zG ls (zo rj td gd a b d ls)).length c,.int .i64 0])/\Rw w' g (zG ls (zo rj td gd a b d ls)))):=by
 have j:=TZ w (Obj.cells #[.int .i64 id,.int .i64 gd,.int .i64 a,.int .i64 b,.int .i64 d] 155);obtain⟨M,v,B,s,t,m⟩:=h;have HD:=zb (MM (Z:=Z) ⟨M,v,B,s,t.below j,m⟩ l id gd a b d D E F G H);generalize sZ rj os td ls id gd a b d=ls' at HD ⊢;generalize yA rj os td ls id gd a b d=os' at HD ⊢;generalize dF rj os td ls id gd a b d=rc at HD ⊢;generalize zG ls (zo rj td gd a b d ls)=tq at HD ⊢;clear t l m;have x:=yI.o;have y:=mN.o;have z:=rW.o;have A:=rU.o;have p:=rV.o;go_enter func62,ntmps62;go_wp2_with fail;refine HD.mono ?_
 rintro e w1 ⟨u,f,⟨r,rfl⟩|⟨C,g,c,rfl,n⟩⟩
 ·have i:=zb f;clear f;go_wp2_with fail;go_ret2;exact⟨Kp.before j (u.mono (λk h=>Or.inl h)),i.mono (bN w _),Or.inl ⟨r,rfl⟩⟩
 have i:=zb f;have q:=zb n;clear f n;go_wp2_with fail;go_ret2;exact⟨Kp.before j (u.mono (λk h=>Or.inl h)),i.mono (bN w _),Or.inr ⟨C,g,c,rfl,q⟩⟩
theorem hU{ls:List L}(a:∀x∈ls,L.Ok x):∀(l:List (Nat×Nat)),(∀p∈l,p.1<ls.length/\p.2<=2147483647)->∀n∈aN ls l,n<9223372036854775808
 |[],_=>by simp[aN]
 |p::r,h=>by
  intro n b;simp only[aN,xx]at b;rcases b with rfl|rfl|b
  ·have:=(a _ (zg (h p (by simp)).1)).id;omega
  ·have:=(h p (by simp)).2;omega
  exact hU a r (λq c=>h q (by simp[c])) n b
theorem rI(d:∀x∈ls,L.Ok x)(h:ls.length<=30)(td gd a b c:Nat):(∀n∈zG ls (zo rj td gd a b c ls),n<9223372036854775808)/\(zG ls (zo rj td gd a b c ls)).length<=61:=by
 have f:=ZX (rj:=rj) td gd a b c ls h;constructor
 ·intro n e;simp only[zG,xx]at e;rcases e with rfl|e
  ·omega
  refine hU d _ (λp g=>⟨f.2.2.1 p g,?_⟩) n e;have i:=f.2.2.2.1 p g;have j:=(d _ (zg (f.2.2.1 p g))).sum;omega
 simp only[zG,List.length_cons,eC];omega
theorem Ct(ls:List L)(l:List (Nat×Nat)):∀i,((Zm ls l).getD i L0).place=(ls.getD i L0).place:=by
 induction l generalizing ls with
 |nil=>intro i;rfl
 |cons p r ih=>
  intro i;simp only[Zm];rw[ih];by_cases h:i=p.1
  ·subst h;by_cases a:p.1<ls.length
   ·rw[Za a];rfl
   simp[yy (show ls.length<=p.1 by omega)]
  rw[zQ h]
theorem sO(a b:List O)(n:Nat):zH (a++b) n=zH a n+zH b n:=by
 induction a with
 |nil=>simp[zH]
 |cons o a ih=>
  simp only[zH,XF,List.map_cons,List.sum_cons]at ih ⊢;omega
theorem eM{f:Nat->Nat}:∀(l:List Nat),l.Nodup->(∀a∈l,∀b∈l,f a=f b->a=b)->(l.map f).Nodup
 |[],_,_=>by simp
 |x::l,hn,hf=>by
  rw[XP]at hn;simp only[List.map_cons,XP];refine⟨λh=>?_,eM l hn.2 (λa d b e=>hf a (by simp[d]) b (by simp[e]))⟩;obtain⟨y,c,g⟩:=Xg.1 h;have:=hf y (by simp[c]) x (by simp) g;subst this;exact hn.1 c
theorem Good.ask(h:Good os ls){q:List (Nat×Nat)}(z:(q.map Prod.fst).Nodup)(l:∀p∈q,p.1<ls.length){id g:Nat}(y:id<=2147483647)(t:os.any (λo=>o.id==id)=false)(E:¬10<=os.length):Good (os++[⟨id,g,zt ls q⟩]) (Zm ls q):=by
 have v:∀B∈os,B.id≠id:=λB u e=>by
  have:=yp.1 t B u
  simp[e]at this
 have f:=bR q ls;refine⟨λi j k C s=>?_,λi k=>?_,?_,λo d=>?_,by simp;omega,λo d=>?_,λo d p m=>?_,λi k=>?_⟩
 ·rw[f]at k C;rw[bL,bL]at s;exact h.ids i j k C s
 ·rw[f]at k;rw[Ct];exact h.place i k
 ·rw[yz];refine Xx.2 ⟨h.oids,by simp,?_⟩;intro a x b w e;obtain⟨o,d,rfl⟩:=Xg.1 x;simp at w;exact v o d (by rw[e,w])
 ·rcases xw.1 d with d|d
  ·exact h.oid o d
  simp at d;subst d;exact y
 ·rcases xw.1 d with d|d
  ·exact h.keys o d
  simp at d;subst d;have e:(zt ls q).map Prod.fst=(q.map Prod.fst).map (λc=>(ls.getD c L0).id):=by unfold zt;rw[Ya,Ya];rfl
  show((zt ls q).map Prod.fst).Nodup;rw[e];refine eM _ z (λa x b w s=>?_);obtain⟨p,m,rfl⟩:=Xg.1 x;obtain⟨r,A,rfl⟩:=Xg.1 w;exact h.ids _ _ (l p m) (l r A) s
 ·rcases xw.1 d with d|d
  ·obtain⟨i,k,s⟩:=h.mem o d p m;exact⟨i,by rw[f];exact k,by rw[bL];exact s⟩
  simp at d;subst d;obtain⟨r,A,rfl⟩:=Xg.1 m;exact⟨r.1,by rw[f];exact l r A,by rw[bL]⟩
 rw[f]at k;rw[bL,sO];have D:zH [⟨id,g,zt ls q⟩] (ls.getD i L0).id=(q.lookup i).getD 0:=by
  simp only[zH,ZW,List.map_cons,xbD,List.sum_cons,List.sum_nil,xal];rw[dP h.ids q l i k]
 rw[D,<-h.hd i k];by_cases u:i∈q.map Prod.fst
 ·obtain⟨p,m,rfl⟩:=Xg.1 u;rw[vZ q ls z (n:=p.2) m k,Zd z (n:=p.2) m];rfl
 rw[dU q ls u,ZD.2 u];rfl
theorem pS{a:Nat}(n:Nat):∀(os:List O),(os.map O.id).Nodup->zH os n=zH (os.filter (λo=>o.id != a)) n+(zr os a n).getD 0
 |[],_=>rfl
 |o::os,hn=>by
  simp only[List.map_cons,XP]at hn;have e:=pS (a:=a) n os hn.2;by_cases d:o.id=a
  ·have c:os.find? (λo=>o.id==a)=none:=by
    rw[yj];intro k g i;have:k.id=a:=by simpa using i
    exact hn.1 (by rw[d,<-this];exact Xe g)
   have j:zr os a n=none:=by unfold zr;rw[c];rfl
   rw[j]at e;have b:zr (o::os) a n=o.li.lookup n:=by unfold zr;simp[List.find?,d]
   have f:(o.id != a)=false:=by simp[d]
   rw[b];simp only[zH,List.map_cons,List.sum_cons,List.filter,f,ZW]at e ⊢;simp at e;omega
  have h:(o.id==a)=false:=by simpa using d
  have b:zr (o::os) a n=zr os a n:=by unfold zr;simp[List.find?,h]
  have f:(o.id != a)=true:=by simp[d]
  rw[b];simp only[zH,List.map_cons,List.sum_cons,List.filter,f]at e ⊢;omega
theorem Good.fin(h:Good os ls)(g:L->Nat->L)(k:∀l n,(g l n).id=l.id/\(g l n).place=l.place/\(g l n).hd=l.hd)(a:Nat):Good (os.filter (λo=>o.id != a)) (ls.map (dH g os a)):=by
 have d:∀l,(dH g os a l).id=l.id:=λl=>by unfold dH;split<;>simp[k]
 have s:∀l,(dH g os a l).place=l.place:=λl=>by unfold dH;split<;>simp[k]
 have m:∀l,(dH g os a l).hd=l.hd-(zr os a l.id).getD 0:=λl=>by
  unfold dH;split
  ·rename_i n r;rw[r];simp[k]
  rename_i r;rw[r];simp
 have c:∀o∈os.filter (λo=>o.id != a),o∈os:=λo e=>(XW.1 e).1
 refine⟨λi j b q f=>?_,λi b=>?_,h.oids.sublist ((xaY (l:=os)).map _),λo e=>h.oid o (c o e),xj (yx _ _) h.olen,λo e=>h.keys o (c o e),λo e p t=>?_,λi b=>?_⟩
 ·rw[Xl]at b q;rw[aJ b,aJ q,d,d]at f;exact h.ids i j b q f
 ·rw[Xl]at b;rw[aJ b,s];exact h.place i b
 ·obtain⟨i,b,f⟩:=h.mem o (c o e) p t;exact⟨i,by simpa using b,by rw[aJ b,d];exact f⟩
 rw[Xl]at b;rw[aJ b,m,d,h.hd i b];have:=pS (a:=a) (ls.getD i L0).id os h.oids;omega
def ZP(rj:List (Nat×Nat))(td:Nat)(os:List O)(ls:List L):Pl.Cmd->List UInt8×Nat×List O×List L
 | .ok (5,[a,b,c,d,f])=>(GK rj os td ls a b c d f,td,yA rj os td ls a b c d f,sZ rj os td ls a b c d f)
 | .ok (6,[a])=>([UInt8.ofNat (eZ os a)],td,os.filter (λo=>o.id != a),ls.map (dH Zj os a))
 | .ok (7,[a])=>([UInt8.ofNat (eZ os a)],td,os.filter (λo=>o.id != a),ls.map (dH Zt os a))
 |c=>((aH rj td ls c).1,(aH rj td ls c).2.1,os,(aH rj td ls c).2.2)
theorem Br{c:Pl.Cmd}(h:uL c)(td:Nat)(os:List O)(ls:List L):ZP rj td os ls c=((aH rj td ls c).1,(aH rj td ls c).2.1,os,(aH rj td ls c).2.2):=by
 cases c with
 |error e=>rfl
 |ok p=>
  obtain⟨n,a⟩:=p;rcases h n a rfl with rfl|rfl|rfl|rfl|rfl|rfl|rfl<;>rfl
def oB(c:Pl.Cmd):Prop:=∀n ns,c=.ok (n,ns)->n=1\/n=2\/n=11\/n=12\/n=3\/n=4\/n=10\/n=5\/n=6\/n=7
theorem uC{l:List UInt8}(h:oB (Pl.cmd l)):uL (Pl.cmd l)\/∃c d,ZR l=some (c,d)/\Pl.mays (Pl.kindsL c) d=true/\Pl.cmd l=.ok (c,d)/\(c=5\/c=6\/c=7)/\d.length=(Pl.kindsL c).length/\∀n∈d,n<9223372036854775808:=by
 have a:=dL l
 cases b:ZR l with
 |none=>left;intro n d e;rw[b]at a;rw[a]at e;cases e
 |some p=>
  obtain⟨c,d⟩:=p;rw[b]at a;obtain⟨k,m,f,g⟩:=bK b
  cases i:Pl.mays (Pl.kindsL c) d with
  |false=>
   simp only[i,XA,Yc]at a;left;intro n d e;rw[a]at e;cases e
  |true=>
   simp only[i,YC]at a;have q:=h c d a;by_cases j:c=5\/c=6\/c=7
   ·right;exact⟨c,d,rfl,i,a,j,f,g⟩
   left;intro n r e;rw[a]at e;cases e;omega
theorem Rz(h:ns.length=(Pl.kindsL 6).length):∃a,ns=[a]:=by
 match ns,h with
 |[a],_=>exact⟨a,rfl⟩
theorem RA(h:ns.length=(Pl.kindsL 7).length):∃a,ns=[a]:=by
 match ns,h with
 |[a],_=>exact⟨a,rfl⟩
theorem RC(h:ns.length=(Pl.kindsL 5).length):∃a b c d f,ns=[a,b,c,d,f]:=by
 match ns,h with
 |[a,b,c,d,f],_=>exact⟨a,b,c,d,f,rfl⟩
theorem Fv(h:Good os ls)(q:ls.length<=30)(l:List UInt8)(t:oB (Pl.cmd l)):Good (ZP rj td os ls (Pl.cmd l)).2.2.1 (ZP rj td os ls (Pl.cmd l)).2.2.2:=by
 rcases uC t with i|⟨c,w,k,s,j,p,e,r⟩
 ·rw[Br i];exact Fx h _
 rw[j];rcases p with rfl|rfl|rfl
 ·obtain⟨a,b,c,d,f,rfl⟩:=RC e;have hd:a<=2147483647:=by simp[Pl.mays,Pl.kindsL,Pl.mayB]at s;omega
  show Good (yA rj os td ls a b c d f) (sZ rj os td ls a b c d f);unfold yA sZ;by_cases g:dF rj os td ls a b c d f=0
  ·rw[xe g,xe g];obtain⟨u,v,_⟩:=iL g;have m:=ZX (rj:=rj) td b c d f ls q;exact h.ask m.2.1 m.2.2.1 hd u v
  rw[xg g,xg g];exact h
 ·obtain⟨a,rfl⟩:=Rz e;exact h.fin Zj (λl n=>⟨rfl,rfl,rfl⟩) a
 obtain⟨a,rfl⟩:=RA e;exact h.fin Zt (λl n=>⟨rfl,rfl,rfl⟩) a
