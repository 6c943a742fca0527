import Derived.Test.YtgcedalggnmooaaGreatDoorEn0X
import Derived.Test.YtgcedalggnmooaaGreatDoorDo1X
set_option linter.all false
set_option maxRecDepth 100000
set_option maxHeartbeats 1600000
namespace Go.Proofs.YtgcedalggnmooaaGreatDoor
open Go.RowKit
theorem vL(os:List O)(a:Nat):eW os a<=9:=by unfold eW;split<;>omega
variable {S td:Nat}{Z:Nat->Prop}
theorem PIn.zs{M:Mx}{v:Value}{c:List Nat}{a:List Value}(h:PIn Z S M v c a):∀k,(k=M.o\/k=M.h\/k∈c)->Z k:=by
 rintro k (rfl|rfl|hk)
 ·exact h.mo
 ·exact h.mh
 exact h.b k hk
variable {ls:List L}{os:List O}{rcs:List (Nat×Nat)}{w:World}
theorem Hi(h:PI os rcs Z w S td ls)(f:Good os ls)(a:Nat)(y:a<=2147483647):Calls Tryz.prog 62 #[.pointer (some ⟨S,0,none⟩),.iface 158 (.agg #[.int .i64 a])] w λe w'=>Kp Z w w'/\e=.returned (.tuple #[.slice none 0 0,.int .i64 (eW os a:Int)])/\PI (os.filter (λo=>o.id != a)) rcs (Zn Z w) w' S td (ls.map (dF Zm os a)):=by
 have d:=TQ w (Obj.cells #[.int .i64 a] 158);obtain⟨M,v,x,p,q,g⟩:=h;have HD:=zb (Fh (q.below d) f a y);have c:=zb g;generalize ls.map (dF Zm os a)=ls' at HD ⊢;generalize os.filter (λo=>o.id != a)=os' at HD ⊢;generalize eW os a=rc at HD ⊢;clear q f g;have r:=uP.o;have s:=kB.o;have t:=oF.o;have u:=oD.o;have l:=oE.o;have b:=mJ.o;have m:=rS.o;go_enter Tryz.func62,Tryz.ntmps62;go_wp2_with fail;refine HD.mono ?_
 rintro e w1 ⟨i,rfl,j⟩;have n:=zb j;clear j;go_wp2_with fail;go_ret2;exact⟨Kp.before d (i.mono (λk i=>Or.inl (c.zs k i))),rfl,M,v,x,p,n,c.mono (λk i=>Or.inl i)⟩
theorem OO(h:PI os rcs Z w S td ls)(f:Good os ls)(a:Nat)(y:a<=2147483647):Calls Tryz.prog 62 #[.pointer (some ⟨S,0,none⟩),.iface 160 (.agg #[.int .i64 a])] w λe w'=>Kp Z w w'/\e=.returned (.tuple #[.slice none 0 0,.int .i64 (eW os a:Int)])/\PI (os.filter (λo=>o.id != a)) rcs (Zn Z w) w' S td (ls.map (dF Zw os a)):=by
 have d:=TQ w (Obj.cells #[.int .i64 a] 160);obtain⟨M,v,x,p,q,g⟩:=h;have HD:=zb (Nb (q.below d) f a y);have c:=zb g;generalize ls.map (dF Zw os a)=ls' at HD ⊢;generalize os.filter (λo=>o.id != a)=os' at HD ⊢;generalize eW os a=rc at HD ⊢;clear q f g;have r:=BO.o;have s:=oS.o;have t:=uY.o;have u:=uW.o;have l:=uX.o;have b:=sH.o;have m:=yN.o;go_enter Tryz.func62,Tryz.ntmps62;go_wp2_with fail;refine HD.mono ?_
 rintro e w1 ⟨i,rfl,j⟩;have n:=zb j;clear j;go_wp2_with fail;go_ret2;exact⟨Kp.before d (i.mono (λk i=>Or.inl (c.zs k i))),rfl,M,v,x,p,n,c.mono (λk i=>Or.inl i)⟩
def tA(rcs:List (Nat×Nat))(os:List O)(td:Nat)(ls:List L)(id goods count gate way:Nat):List O:=if dD rcs os td ls id goods count gate way=0 then os++[⟨id,goods,zq ls (zn rcs td goods count gate way ls)⟩] else os
def rN(rcs:List (Nat×Nat))(os:List O)(td:Nat)(ls:List L)(id goods count gate way:Nat):List L:=if dD rcs os td ls id goods count gate way=0 then Za ls (zn rcs td goods count gate way ls) else ls
def GI(rcs:List (Nat×Nat))(os:List O)(td:Nat)(ls:List L)(id goods count gate way:Nat):List UInt8:=if dD rcs os td ls id goods count gate way=0 then 0::Pl.toldB (zF ls (zn rcs td goods count gate way ls)) else [UInt8.ofNat (dD rcs os td ls id goods count gate way)]
theorem GU(os:List O)(td:Nat)(ls:List L)(id goods a b c:Nat):dD rcs os td ls id goods a b c<=9:=by
 unfold dD;split<;>(try split)<;>(try split)<;>omega
theorem fA{id goods a b c:Nat}(h:dD rcs os td ls id goods a b c=0):os.any (λo=>o.id==id)=false/\¬10<=os.length/\¬(aO (zn rcs td goods a b c ls)=0\/(aO (zn rcs td goods a b c ls)<a/\DD c=true)):=by
 unfold dD at h
 cases e:os.any (λo=>o.id==id) with
 |true=>rw[e]at h;simp at h
 |false=>
  rw[e]at h;simp only[XA,Yc]at h;by_cases d:10<=os.length
  ·rw[xd d]at h;omega
  rw[xe d]at h;by_cases f:aO (zn rcs td goods a b c ls)=0\/(aO (zn rcs td goods a b c ls)<a/\DD c=true)
  ·rw[xd f]at h;omega
  exact⟨rfl,d,f⟩
def Rw(w:World)(g:Nat)(ns:List Nat):Prop:=g<w.heap.size/\∀j,j<ns.length->w.cell? ⟨g,j,none⟩=some (.int .i64 (ns.getD j 0:Nat))
variable {ns:List Nat}
theorem Rw.of{g c:Nat}(h:w.ownsRow 0 2 1 (.slice (some ⟨g,0,none⟩) ns.length c) ns.length (I ns))(e:0<ns.length):Rw w g ns:=by
 obtain⟨d,a⟩:=zi h (g:=g) rfl;refine⟨zc a,λj b=>?_⟩;rw[h.cellAt j (by omega)];simp[I,Ul,b]
theorem MI(h:PI os rcs Z w S td ls)(q:Good os ls)(id goods a b d:Nat)(z:id<=2147483647)(D:goods<=2147483647)(E:a<=2147483647)(F:b<=2147483647)(G:d<=3):Calls Tryz.prog 101 #[.pointer (some ⟨S,0,none⟩),.agg #[.int .i64 id,.int .i64 goods,.int .i64 a,.int .i64 b,.int .i64 d]] w λe w'=>Kp Z w w'/\PI (tA rcs os td ls id goods a b d) rcs (Zn Z w) w' S td (rN rcs os td ls id goods a b d) /\
   ((dD rcs os td ls id goods a b d≠0/\e=.returned (.tuple #[.slice none 0 0,.int .i64 (dD rcs os td ls id goods a b d:Int)]))\/(dD rcs os td ls id goods a b d=0/\∃g c,e=.returned (.tuple #[.slice (some ⟨g,0,none⟩) (zF ls (zn rcs td goods a b d ls)).length c,.int .i64 0])/\Rw w' g (zF ls (zn rcs td goods a b d ls)))):=by
 obtain⟨M,v,C,s,x,m⟩:=h;by_cases i:dD rcs os td ls id goods a b d=0
 ·obtain⟨t,u,y⟩:=fA i;unfold tA rN;rw[xd i,xd i];refine(MH x q id goods a b d z D E F G t u y).mono ?_
  rintro e w' ⟨n,B,g,c,p,H⟩;exact⟨n.mono (λk n=>m.zs k n),⟨M,v,C,s,B,m.mono (λk n=>Or.inl n)⟩,Or.inr ⟨i,g,c,p,Rw.of H (by simp[zF])⟩⟩
 unfold tA rN;rw[xe i,xe i];have f:∀(w':World),Below w.heap.size w w'->Kp Z w w'/\PI os rcs (Zn Z w) w' S td ls:=λw' j=>⟨Ut j,M,v,C,s,x.below j,m.mono (λk n=>Or.inl n)⟩
 by_cases l:os.any (λo=>o.id==id)=true\/10<=os.length
 ·refine(CS x id goods a b d z l).mono ?_
  rintro e w' ⟨p,j⟩;exact⟨(f w' j).1,(f w' j).2,Or.inl ⟨i,p⟩⟩
 have t:os.any (λo=>o.id==id)=false:=by cases r:os.any (λo=>o.id==id) with
  |true=>exact absurd (Or.inl r) l
  |false=>rfl
 have u:¬10<=os.length:=λr=>l (Or.inr r)
 have y:aO (zn rcs td goods a b d ls)=0\/(aO (zn rcs td goods a b d ls)<a/\DD d=true):=by
  apply XT
  intro r;apply i;unfold dD;rw[t,xe (by simp),xe u,xe r]
 have A:dD rcs os td ls id goods a b d=7:=by unfold dD;rw[t,xe (by simp),xe u,xd y]
 refine(CT x q id goods a b d z D E F G t u y).mono ?_
 rintro e w' ⟨p,j⟩;exact⟨(f w' j).1,(f w' j).2,Or.inl ⟨i,by rw[A];exact p⟩⟩
theorem LD(h:PI os rcs Z w S td ls)(l:Good os ls)(id goods a b d:Nat)(D:id<=2147483647)(E:goods<=2147483647)(F:a<=2147483647)(G:b<=2147483647)(H:d<=3):Calls Tryz.prog 62 #[.pointer (some ⟨S,0,none⟩),.iface 155 (.agg #[.int .i64 id,.int .i64 goods,.int .i64 a,.int .i64 b,.int .i64 d])] w λe w'=>Kp Z w w'/\PI (tA rcs os td ls id goods a b d) rcs (Zn Z w) w' S td (rN rcs os td ls id goods a b d) /\
   ((dD rcs os td ls id goods a b d≠0/\e=.returned (.tuple #[.slice none 0 0,.int .i64 (dD rcs os td ls id goods a b d:Int)]))\/(dD rcs os td ls id goods a b d=0/\∃g c,e=.returned (.tuple #[.slice (some ⟨g,0,none⟩) (zF ls (zn rcs td goods a b d ls)).length c,.int .i64 0])/\Rw w' g (zF ls (zn rcs td goods a b d ls)))):=by
 have j:=TQ w (Obj.cells #[.int .i64 id,.int .i64 goods,.int .i64 a,.int .i64 b,.int .i64 d] 155);obtain⟨M,v,B,s,t,m⟩:=h;have HD:=zb (MI (Z:=Z) ⟨M,v,B,s,t.below j,m⟩ l id goods a b d D E F G H);generalize rN rcs os td ls id goods a b d=ls' at HD ⊢;generalize tA rcs os td ls id goods a b d=os' at HD ⊢;generalize dD rcs os td ls id goods a b d=rc at HD ⊢;generalize zF ls (zn rcs td goods a b d ls)=tq at HD ⊢;clear t l m;have x:=yK.o;have y:=mM.o;have z:=rY.o;have A:=rW.o;have p:=rX.o;go_enter Tryz.func62,Tryz.ntmps62;go_wp2_with fail;refine HD.mono ?_
 rintro e w1 ⟨u,f,⟨r,rfl⟩|⟨C,g,c,rfl,n⟩⟩
 ·have i:=zb f;clear f;go_wp2_with fail;go_ret2;exact⟨Kp.before j (u.mono (λk h=>Or.inl h)),i.mono (bN w _),Or.inl ⟨r,rfl⟩⟩
 have i:=zb f;have q:=zb n;clear f n;go_wp2_with fail;go_ret2;exact⟨Kp.before j (u.mono (λk h=>Or.inl h)),i.mono (bN w _),Or.inr ⟨C,g,c,rfl,q⟩⟩
theorem hJ{ls:List L}(a:∀x∈ls,L.Ok x):∀(l:List (Nat×Nat)),(∀p∈l,p.1<ls.length/\p.2<=2147483647)->∀n∈aL ls l,n<9223372036854775808
 |[],_=>by simp[aL]
 |p::r,h=>by
  intro n b;simp only[aL,xx]at b;rcases b with rfl|rfl|b
  ·have:=(a _ (zg (h p (by simp)).1)).id;omega
  ·have:=(h p (by simp)).2;omega
  exact hJ a r (λq c=>h q (by simp[c])) n b
theorem rJ(d:∀x∈ls,L.Ok x)(h:ls.length<=30)(td goods a b c:Nat):(∀n∈zF ls (zn rcs td goods a b c ls),n<9223372036854775808)/\(zF ls (zn rcs td goods a b c ls)).length<=61:=by
 have f:=ZG (rcs:=rcs) td goods a b c ls h;constructor
 ·intro n e;simp only[zF,xx]at e;rcases e with rfl|e
  ·omega
  refine hJ d _ (λp g=>⟨f.2.2.1 p g,?_⟩) n e;have i:=f.2.2.2.1 p g;have j:=(d _ (zg (f.2.2.1 p g))).sum;omega
 simp only[zF,List.length_cons,dY];omega
theorem Cu(ls:List L)(l:List (Nat×Nat)):∀i,((Za ls l).getD i L0).place=(ls.getD i L0).place:=by
 induction l generalizing ls with
 |nil=>intro i;rfl
 |cons p r ih=>
  intro i;simp only[Za];rw[ih];by_cases h:i=p.1
  ·subst h;by_cases a:p.1<ls.length
   ·rw[Zj a];rfl
   simp[yy (show ls.length<=p.1 by omega)]
  rw[zU h]
theorem sQ(a b:List O)(n:Nat):zG (a++b) n=zG a n+zG b n:=by
 induction a with
 |nil=>simp[zG]
 |cons o a ih=>
  simp only[zG,XF,List.map_cons,List.sum_cons]at ih ⊢;omega
theorem eJ{f:Nat->Nat}:∀(l:List Nat),l.Nodup->(∀a∈l,∀b∈l,f a=f b->a=b)->(l.map f).Nodup
 |[],_,_=>by simp
 |x::l,hn,hf=>by
  rw[XP]at hn;simp only[List.map_cons,XP];refine⟨λh=>?_,eJ l hn.2 (λa d b e=>hf a (by simp[d]) b (by simp[e]))⟩;obtain⟨y,c,g⟩:=Xg.1 h;have:=hf y (by simp[c]) x (by simp) g;subst this;exact hn.1 c
theorem Good.ask(h:Good os ls){q:List (Nat×Nat)}(z:(q.map Prod.fst).Nodup)(l:∀p∈q,p.1<ls.length){id g:Nat}(y:id<=2147483647)(t:os.any (λo=>o.id==id)=false)(E:¬10<=os.length):Good (os++[⟨id,g,zq ls q⟩]) (Za ls q):=by
 have v:∀B∈os,B.id≠id:=λB u e=>by
  have:=yp.1 t B u
  simp[e]at this
 have f:=aD q ls;refine⟨λi j k C s=>?_,λi k=>?_,?_,λo d=>?_,by simp;omega,λo d=>?_,λo d p m=>?_,λi k=>?_⟩
 ·rw[f]at k C;rw[bK,bK]at s;exact h.ids i j k C s
 ·rw[f]at k;rw[Cu];exact h.place i k
 ·rw[yz];refine Xx.2 ⟨h.oids,by simp,?_⟩;intro a x b w e;obtain⟨o,d,rfl⟩:=Xg.1 x;simp at w;exact v o d (by rw[e,w])
 ·rcases xw.1 d with d|d
  ·exact h.oid o d
  simp at d;subst d;exact y
 ·rcases xw.1 d with d|d
  ·exact h.keys o d
  simp at d;subst d;have e:(zq ls q).map Prod.fst=(q.map Prod.fst).map (λc=>(ls.getD c L0).id):=by unfold zq;rw[Ya,Ya];rfl
  show((zq ls q).map Prod.fst).Nodup;rw[e];refine eJ _ z (λa x b w s=>?_);obtain⟨p,m,rfl⟩:=Xg.1 x;obtain⟨r,A,rfl⟩:=Xg.1 w;exact h.ids _ _ (l p m) (l r A) s
 ·rcases xw.1 d with d|d
  ·obtain⟨i,k,s⟩:=h.mem o d p m;exact⟨i,by rw[f];exact k,by rw[bK];exact s⟩
  simp at d;subst d;obtain⟨r,A,rfl⟩:=Xg.1 m;exact⟨r.1,by rw[f];exact l r A,by rw[bK]⟩
 rw[f]at k;rw[bK,sQ];have D:zG [⟨id,g,zq ls q⟩] (ls.getD i L0).id=(q.lookup i).getD 0:=by
  simp only[zG,ZW,List.map_cons,xbD,List.sum_cons,List.sum_nil,xal];rw[dN h.ids q l i k]
 rw[D,<-h.hd i k];by_cases u:i∈q.map Prod.fst
 ·obtain⟨p,m,rfl⟩:=Xg.1 u;rw[nO q ls z (n:=p.2) m k,Zd z (n:=p.2) m];rfl
 rw[cX q ls u,ZC.2 u];rfl
theorem pT{a:Nat}(n:Nat):∀(os:List O),(os.map O.id).Nodup->zG os n=zG (os.filter (λo=>o.id != a)) n+(zr os a n).getD 0
 |[],_=>rfl
 |o::os,hn=>by
  simp only[List.map_cons,XP]at hn;have e:=pT (a:=a) n os hn.2;by_cases d:o.id=a
  ·have c:os.find? (λo=>o.id==a)=none:=by
    rw[yj];intro k g i;have:k.id=a:=by simpa using i
    exact hn.1 (by rw[d,<-this];exact Xd g)
   have j:zr os a n=none:=by unfold zr;rw[c];rfl
   rw[j]at e;have b:zr (o::os) a n=o.li.lookup n:=by unfold zr;simp[List.find?,d]
   have f:(o.id != a)=false:=by simp[d]
   rw[b];simp only[zG,List.map_cons,List.sum_cons,List.filter,f,ZW]at e ⊢;simp at e;omega
  have h:(o.id==a)=false:=by simpa using d
  have b:zr (o::os) a n=zr os a n:=by unfold zr;simp[List.find?,h]
  have f:(o.id != a)=true:=by simp[d]
  rw[b];simp only[zG,List.map_cons,List.sum_cons,List.filter,f]at e ⊢;omega
theorem Good.fin(h:Good os ls)(g:L->Nat->L)(k:∀l n,(g l n).id=l.id/\(g l n).place=l.place/\(g l n).hd=l.hd)(a:Nat):Good (os.filter (λo=>o.id != a)) (ls.map (dF g os a)):=by
 have d:∀l,(dF g os a l).id=l.id:=λl=>by unfold dF;split<;>simp[k]
 have s:∀l,(dF g os a l).place=l.place:=λl=>by unfold dF;split<;>simp[k]
 have m:∀l,(dF g os a l).hd=l.hd-(zr os a l.id).getD 0:=λl=>by
  unfold dF;split
  ·rename_i n r;rw[r];simp[k]
  rename_i r;rw[r];simp
 have c:∀o∈os.filter (λo=>o.id != a),o∈os:=λo e=>(XW.1 e).1
 refine⟨λi j b q f=>?_,λi b=>?_,h.oids.sublist ((xaY (l:=os)).map _),λo e=>h.oid o (c o e),xj (yx _ _) h.olen,λo e=>h.keys o (c o e),λo e p t=>?_,λi b=>?_⟩
 ·rw[Xl]at b q;rw[aH b,aH q,d,d]at f;exact h.ids i j b q f
 ·rw[Xl]at b;rw[aH b,s];exact h.place i b
 ·obtain⟨i,b,f⟩:=h.mem o (c o e) p t;exact⟨i,by simpa using b,by rw[aH b,d];exact f⟩
 rw[Xl]at b;rw[aH b,m,d,h.hd i b];have:=pT (a:=a) (ls.getD i L0).id os h.oids;omega
def ZN(rcs:List (Nat×Nat))(td:Nat)(os:List O)(ls:List L):Pl.Cmd->List UInt8×Nat×List O×List L
 | .ok (5,[a,b,c,d,f])=>(GI rcs os td ls a b c d f,td,tA rcs os td ls a b c d f,rN rcs os td ls a b c d f)
 | .ok (6,[a])=>([UInt8.ofNat (eW os a)],td,os.filter (λo=>o.id != a),ls.map (dF Zm os a))
 | .ok (7,[a])=>([UInt8.ofNat (eW os a)],td,os.filter (λo=>o.id != a),ls.map (dF Zw os a))
 |c=>((aF rcs td ls c).1,(aF rcs td ls c).2.1,os,(aF rcs td ls c).2.2)
theorem Br{c:Pl.Cmd}(h:uM c)(td:Nat)(os:List O)(ls:List L):ZN rcs td os ls c=((aF rcs td ls c).1,(aF rcs td ls c).2.1,os,(aF rcs td ls c).2.2):=by
 cases c with
 |error e=>rfl
 |ok p=>
  obtain⟨n,a⟩:=p;rcases h n a rfl with rfl|rfl|rfl|rfl|rfl|rfl|rfl<;>rfl
def oC(c:Pl.Cmd):Prop:=∀n ns,c=.ok (n,ns)->n=1\/n=2\/n=11\/n=12\/n=3\/n=4\/n=10\/n=5\/n=6\/n=7
theorem uD{l:List UInt8}(h:oC (Pl.cmd l)):uM (Pl.cmd l)\/∃c d,ZP l=some (c,d)/\Pl.mays (Pl.kindsL c) d=true/\Pl.cmd l=.ok (c,d)/\(c=5\/c=6\/c=7)/\d.length=(Pl.kindsL c).length/\∀n∈d,n<9223372036854775808:=by
 have a:=dJ l
 cases b:ZP l with
 |none=>left;intro n d e;rw[b]at a;rw[a]at e;cases e
 |some p=>
  obtain⟨c,d⟩:=p;rw[b]at a;obtain⟨k,m,f,g⟩:=bJ b
  cases i:Pl.mays (Pl.kindsL c) d with
  |false=>
   simp only[i,XA,Yc]at a;left;intro n d e;rw[a]at e;cases e
  |true=>
   simp only[i,YC]at a;have q:=h c d a;by_cases j:c=5\/c=6\/c=7
   ·right;exact⟨c,d,rfl,i,a,j,f,g⟩
   left;intro n r e;rw[a]at e;cases e;omega
theorem Rq(h:ns.length=(Pl.kindsL 6).length):∃a,ns=[a]:=by
 match ns,h with
 |[a],_=>exact⟨a,rfl⟩
theorem Rr(h:ns.length=(Pl.kindsL 7).length):∃a,ns=[a]:=by
 match ns,h with
 |[a],_=>exact⟨a,rfl⟩
theorem Rs(h:ns.length=(Pl.kindsL 5).length):∃a b c d f,ns=[a,b,c,d,f]:=by
 match ns,h with
 |[a,b,c,d,f],_=>exact⟨a,b,c,d,f,rfl⟩
theorem Fx(h:Good os ls)(q:ls.length<=30)(l:List UInt8)(t:oC (Pl.cmd l)):Good (ZN rcs td os ls (Pl.cmd l)).2.2.1 (ZN rcs td os ls (Pl.cmd l)).2.2.2:=by
 rcases uD t with i|⟨c,w,k,s,j,p,e,r⟩
 ·rw[Br i];exact Fz h _
 rw[j];rcases p with rfl|rfl|rfl
 ·obtain⟨a,b,c,d,f,rfl⟩:=Rs e;have hd:a<=2147483647:=by simp[Pl.mays,Pl.kindsL,Pl.mayB]at s;omega
  show Good (tA rcs os td ls a b c d f) (rN rcs os td ls a b c d f);unfold tA rN;by_cases g:dD rcs os td ls a b c d f=0
  ·rw[xd g,xd g];obtain⟨u,v,_⟩:=fA g;have m:=ZG (rcs:=rcs) td b c d f ls q;exact h.ask m.2.1 m.2.2.1 hd u v
  rw[xe g,xe g];exact h
 ·obtain⟨a,rfl⟩:=Rq e;exact h.fin Zm (λl n=>⟨rfl,rfl,rfl⟩) a
 obtain⟨a,rfl⟩:=Rr e;exact h.fin Zw (λl n=>⟨rfl,rfl,rfl⟩) a
