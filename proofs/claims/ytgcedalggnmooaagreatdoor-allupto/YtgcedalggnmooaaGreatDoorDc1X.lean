import Derived.Test.YtgcedalggnmooaaGreatDoorHlX
set_option linter.all false
set_option maxRecDepth 100000
set_option maxHeartbeats 3200000
namespace Go.Proofs.YtgcedalggnmooaaGreatDoor
open Go.RowKit
open Value renaming int->Y,slice->vd
open IntKind renaming i64->V
open Option renaming none->U,some->vb
open Tryz
def Xn(rj:List (Nat×Nat))(a m:Nat):Nat:=rj.findIdx (λp=>p==(a,m))
def Ae(rj:List (Nat×Nat))(a m:Nat):Int:=if Xn rj a m<rj.length then (Xn rj a m:Int) else -1
variable {a base k m:Nat}{rj:List (Nat×Nat)}
def mA:Xn rj a m<rj.length↔rj.contains (a,m)=true:=by
 unfold Xn;rw[xbM,Yh];constructor
 ·rintro⟨x,c,b⟩;rw[YQ]at b;rw[<-b];exact c
 intro h;exact⟨_,h,by simp⟩
def So(c:k<rj.length)(d:∀j,j<k->rj.getD j (0,0)≠(a,m))(b:rj.getD k (0,0)=(a,m)):Xn rj a m=k:=by
 unfold Xn;rw[xcT c];simp only[WI,xj c,yz]at b;refine⟨by rw[b];simp,λj e=>?_⟩;have:=d j e;simp only[WI,xj (show j<rj.length by omega),yz]at this;simpa using this
def OU(d:∀j,j<rj.length->rj.getD j (0,0)≠(a,m)):¬Xn rj a m<rj.length:=by
 rw[mA];intro b;rw[Yh]at b;obtain⟨j,c,e⟩:=xw b;exact d j c (by rw[WI,xj c];exact e)
variable {ls:List L}{w:World}
def gE{R:Nat}{v:Value}{td:Nat}{u:ByteArray}{D:List Value}{os:List O}{ro:Ro}(h:RV os rj ro w R v td u D ls)(a m:Nat):Calls prog 116 #[.pointer (vb ⟨R,0,U⟩),Y V a,Y V m] w λe w'=>e=.returned (Y V (Ae rj a m))/\w'=w:=by
 have c3:=h.c3;obtain⟨N,cap,C,d⟩:=h.rshape;rw[C]at c3;have H:=h.rc.len;clear h C;go_enter func116,ntmps116;go_wp2_with fail;go_loop [7] (λt=>∃k:Nat,k<=rj.length/\t=Y V k/\(∀j,j<k->rj.getD j (0,0)≠(a,m))) (λt=>rj.length-(intOf t).toNat)
 case atStart=>exact⟨0,by omega,rfl,λj h=>absurd h (by omega)⟩
 obtain⟨k,M,rfl,g⟩:=hrel;by_cases f:k<rj.length
 ·obtain⟨G,E,B,c⟩:=d (by omega);subst E;obtain⟨J,K⟩:=c k f;have b:Ha (rj.getD k (0,0)=((rj.getD k (0,0)).1,(rj.getD k (0,0)).2)):=rfl;obtain⟨x,z⟩:=Xc ((rj.getD k (0,0)).1);obtain⟨y,A⟩:=Xc ((rj.getD k (0,0)).2);rw[<-z.o]at J;rw[<-A.o]at K;rw[<-z.o,<-A.o]at b;clear c d;by_cases l:x=a
  ·have r:=aV l;by_cases n:y=m
   ·have s:=aV n;have p:Ha (Ae rj a m=(k:Int)):=by
     have:=So f g (by rw[b.o,l,n])
     unfold Ha Ae;rw[this,xh f]
    clear l n;go_wp2_with fail;go_ret;exact⟨by rw[p.o];rfl,rfl⟩
   have s:=ZX n;have q:Ha (rj.getD k (0,0)≠(a,m)):=by rw[b.o];intro e;exact n (Prod.mk.inj e).2
   clear l n;go_wp2_with fail;go_round
   case rel=>
    refine⟨k+1,by omega,by go_num,?_⟩;intro j F;by_cases i:j=k
    ·subst i;exact q
    exact g j (by omega)
   simp[intOf];omega
  have r:=ZX l;have q:Ha (rj.getD k (0,0)≠(a,m)):=by rw[b.o];intro e;exact l (Prod.mk.inj e).1
  clear l;go_wp2_with fail;go_round
  case rel=>
   refine⟨k+1,by omega,by go_num,?_⟩;intro j F;by_cases i:j=k
   ·subst i;exact q
   exact g j (by omega)
  simp[intOf];omega
 obtain rfl:k=rj.length:=by omega
 have p:Ha (Ae rj a m=-1):=by unfold Ha Ae;rw[xg (OU g)]
 clear d f;go_wp2_with fail;go_ret;exact⟨by rw[p.o];rfl,rfl⟩
variable {ns out:List Nat}
def JZ{x:Nat}(m:out.Pairwise (·<·))(t:x ∉ out)(u:k<=out.length)(q:∀j,j<k->out.getD j 0<x)(h:k=out.length\/¬out.getD k 0<x):(out.take k++[x]++out.drop k).Pairwise (·<·):=by
 have g:∀a∈out.take k,a<x:=λa c=>by
  obtain⟨j,l,e⟩:=xw c;rw[yu]at l;have:=q j (by omega);rw[WI,xj (by omega)]at this;rw[<-e];simpa using this
 have d:∀a∈out.drop k,x<a:=λa c=>by
  rcases h with h|h
  ·rw[h,xcI]at c;simp at c
  obtain⟨j,l,e⟩:=xw c;rw[yw]at l;rw[List.getElem_drop]at e;have i:k<out.length:=by omega
  rw[WI,xj i]at h;simp only[yz]at h;have r:out[k]<=out[k+j]'(by omega):=by
   by_cases p:j=0
   ·subst p;exact xe _
   exact xcR ((Ye.1 m) k (k+j) i (by omega) (by omega))
  have s:out[k+j]'(by omega)≠x:=λn=>t (by rw[<-n];exact YD _)
  rw[<-e];omega
 rw[Ym];refine YG.2 ⟨m.sublist (xaU _ _),YG.2 ⟨by simp,m.sublist (List.drop_sublist _ _),λa c b f=>?_⟩,λa c b f=>?_⟩
 ·simp at c;subst c;exact d b f
 rcases xx.1 f with f|f
 ·simp at f;subst f;exact g a c
 exact xcr (g a c) (d b f)
def oI{x:Nat}:(out.take k++[x]++out.drop k).Perm (out++[x]):=by
 have a:(out.take k++[x]++out.drop k).Perm (out.take k++out.drop k++[x]):=by
  rw[Ym,Ym];exact List.Perm.append_left _ (List.perm_append_comm)
 rw[Yz]at a;exact a
def UD(a b:List Nat):I (a++b)=I a++I b:=by simp[I]
def II:∀(a:List Nat),∀u∈I a,u.oneCell'=true:=λa u b=>by
 obtain⟨n,_,rfl⟩:=yc.1 b;rfl
def Bi{g cap:Nat}(h:w.ownsRow base 3 1 (vd (vb ⟨g,0,U⟩) ns.length cap) ns.length (I ns))(k m:Nat)(d:k+m<=ns.length):∀j u,(I ((ns.drop k).take m))[j]?=vb u->w.cell? (Addr.add ⟨g,k,U⟩ j)=vb u:=λj u b=>by
 have a:j<m:=by
  have:=(xcx.1 b).1
  rw[vH,yu,yw]at this;omega
 have c:=ZH h (k+j) (by omega);have e:Addr.add ⟨g,k,U⟩ j=⟨g,k+j,U⟩:=by simp[Addr.add]
 rw[e,c];rw[<-b];simp[I,xct,List.getElem?_drop,a,WI,show k+j<ns.length by omega]
def uO{g cap:Nat}(h:w.ownsRow base 3 1 (vd (vb ⟨g,0,U⟩) ns.length cap) ns.length (I ns))(m:Nat)(a:m<=ns.length):∀j u,(I (ns.take m))[j]?=vb u->w.cell? (Addr.add ⟨g,0,U⟩ j)=vb u:=by
 have:=Bi h 0 m (by omega)
 simpa using this
def Ie{v:Value}{l:List Nat}(h:w.ownsRow base 3 1 v l.length (I l))(f5:l.length<=31)(d1:l.Nodup)(c8:∀n∈l,n<=2147483647):Calls prog 117 #[v] w λe w'=>Below w.heap.size w w'/\∃(v':Value) (s:List Nat),e=.returned v'/\s.Perm l/\s.Pairwise (·<·)/\w'.ownsRow w.heap.size 3 1 v' s.length (I s):=by
 obtain⟨i0,hi,P,Q,R⟩:=Yc GM;obtain⟨va,vc,hv⟩:=zM h;have hG:0<l.length->∃G,va=vb ⟨G,0,U⟩/\G<w.heap.size:=λhp=>by
  obtain⟨g,c,d3,_,W⟩:=zG h hp;rw[hv]at d3;cases d3;exact⟨g,rfl,W⟩
 rw[hv]at h;rw[hv];have HO:=zb h;have d5:=zb d1;have b8:=zb c8;clear h hv d1 c8;go_enter func117,ntmps117;go_wp2_with fail;go_loopw [3,4,5,6] (λov ii _ _ wr=>∃(k:Nat) (out:List Nat),k<=l.length/\ii=Y V k/\out.Perm (l.take k)/\out.Pairwise (·<·)/\wr.ownsRow w.heap.size 3 1 ov out.length (I out)/\Below w.heap.size w wr) (λ_ ii _ _ _=>l.length-(intOf ii).toNat)
 case atStart=>exact⟨0,[],by omega,rfl,by simp,List.Pairwise.nil,yd _ _ _ _,xm _ _⟩
 obtain⟨k,out,hk,rfl,f,X,D,hb⟩:=hrel;by_cases W:k<l.length
 ·obtain⟨G,d8,b1⟩:=hG (by omega);subst d8;have c5:=(hb.cell (p:=⟨G,k,U⟩) b1).trans (ZH HO k W);have d2:out.length=k:=by rw[f.length_eq,yu];omega
  have f6:=zb d2;have e8:out.length<=31:=by omega
  clear d2;have a8:l.getD k 0∈l:=by simp[WI,W]
  have f1:=b8.o _ a8;have HX:Ha (l.getD k 0 ∉ out):=λhm=>by
   have e5:=f.mem_iff.1 hm;obtain⟨j,hj,e⟩:=xw e5;rw[yu]at hj;rw[xcz]at e;rw[WI,xj W]at e;simp only[yz]at e;have:=(xcJ d5).1 e;omega
  have a0:Ha (l.take (k+1)=l.take k++[l.getD k 0]):=by
   unfold Ha;rw[xn W];simp[WI,W]
  have d6:Ha (∀j,j<out.length->out.getD j 0<=2147483647):=λj hj=>by
   have hm:out.getD j 0∈out:=by simp[WI,hj]
   exact b8 _ (YN (f.mem_iff.1 hm))
  have m:=zb f;have b0:=zb X;have a5:=zb D;have E:=zb hb;have f0:w.heap.size<=wr.heap.size:=hb.size;obtain⟨x,d7⟩:=Xc (l.getD k 0);rw[<-d7.o]at c5 f1 HX a0;rcases D.2 with ⟨b7,e6⟩|⟨g,oc,f7,b7,f9,b3,g0,_⟩
  ·have he:out=[]:=yl.1 e6;subst he;subst b7;clear D hb f X a8;go_wp2_with fail;refine xau 1 ?_;rw[xaV]
   go_wp2_with fail;go_quiet (fail)
   go_wp2_with (at_builtin;refine XW _ rfl _ _ 55 rfl (wr.drewN nq).heap.size 3 i0 (Y V 0) 1 8 yQ hi P Q R rfl (by decide) (vd U 0 0) 0 [] rfl (yd _ _ _ _) ⟨(wr.drewN nq).heap.size,0,U⟩ 1 1 [Y V x] rfl rfl ?na1 ?na2 ?na3 ?na4 ?na5 ?_)
   case na1=>exact ZD _ _ _
   case na2=>intro u hu;simp at hu;subst hu;rfl
   case na3=>unfold maxLen;omega
   case na4=>omega
   case na5=>simp
   intro n2 w4 C t _;have b9:Below wr.heap.size wr w4:=((yf (xm _ _) nq).alloc (xe _) _).grown t (by simp) (λq z=>by simp[Value.ownBlock]at z);have H:Ha (Below w.heap.size w w4):=E.trans (b9.mono E.size);have M:Ha (w4.ownsRow w.heap.size 3 1 n2 [x].length (I [x])):=zF C E.size;have N:Ha ([x].Perm (l.take (k+1))):=by
    have h9:=m.o;unfold Ha;rw[a0.o];exact h9.append_right [x]
   rcases C.2 with ⟨_,a3⟩|⟨g2,c2,f4,a3,_,_,f8,_⟩
   ·omega
   subst a3;clear C t b9;go_wp2_with fail;go_roundw
   case rel=>exact⟨k+1,[x],by omega,by go_num,N,by simp,M,H⟩
   simp[intOf];omega
  subst b7;have c7:g<wr.heap.size:=zc b3;clear D hb f X a8 b3;go_wp2_with fail;obtain⟨wo,rfl⟩:∃wo,wo=wr:=⟨wr,rfl⟩
  go_loopw [5] (λkk w2=>∃(j:Nat),j<=out.length/\kk=Y V j/\(∀i,i<j->out.getD i 0<x)/\Below wo.heap.size wo w2) (λkk _=>out.length-(intOf kk).toNat)
  case atStart=>exact⟨0,by omega,rfl,λi h=>absurd h (by omega),xm _ _⟩
  obtain⟨j,hj,rfl,a7,b⟩:=hrel;have b2:=(b.cell (p:=⟨G,k,U⟩) (by exact xl b1 f0)).trans c5;by_cases b5:j<out.length
  ·have e0:=(b.cell (p:=⟨g,j,U⟩) (by exact c7)).trans (ZH a5 j b5);have e7:=d6.o j b5;obtain⟨y,b4⟩:=Xc (out.getD j 0);rw[<-b4.o]at e0 e7;by_cases d4:y<x
   ·have f2:decide ((y:Int)<(x:Int))=true:=by simp;omega
    go_wp2_with fail;go_quiet (fail)
    go_wp2_with fail;go_roundw
    case rel=>
     refine⟨j+1,by omega,by go_num,λi hi=>?_,yf b nq⟩;by_cases e4:i=j
     ·subst e4;rw[<-b4.o];exact d4
     exact a7 i (by omega)
    simp[intOf];omega
   have f2:decide ((y:Int)<(x:Int))=false:=by simp;omega
   have HN:=zb (JZ b0 HX (k:=j) (by omega) a7 (Or.inr (by rw[<-b4.o];exact d4)));go_wp2_with fail;go_quiet (fail);have T:Ha ((wr.drewN nq).ownsRow w.heap.size 3 1 (vd (vb ⟨g,0,U⟩) out.length oc) out.length (I out)):=zh a5 (yf b nq);go_wp2_with (at_builtin;refine XW _ rfl _ _ 55 rfl (wr.drewN nq).heap.size 3 i0 (Y V 0) 1 8 yQ hi P Q R rfl (by decide) (vd U 0 0) 0 [] rfl (yd _ _ _ _) ⟨g,0,U⟩ j oc (I (out.take j)) rfl ?ua1 ?ua2 (II _) ?ua3 ?ua4 (xe _) ?_)
   case ua1=>rw[vH,yu];omega
   case ua2=>exact uO T j (by omega)
   case ua3=>unfold maxLen;omega
   case ua4=>omega
   intro n1 w3 Z d _;have c9:wr.heap.size<=w3.heap.size:=d.size;have c6:w3.cell? ⟨G,k,U⟩=vb (Y V x):=(xo (a:=⟨G,k,U⟩) (d.block G (by show G<wr.heap.size;have:=b.size;omega) (by simp[Value.ownBlock]))).trans b2;have a6:=zb (zd T (λq z=>d.block q (by cases z;show g<wr.heap.size;have:=b.size;omega) (by simp[Value.ownBlock])));have a4:Ha (Below wr.heap.size wr w3):=⟨d.os,d.tape,d.output,d.size,λq z=>d.block q z (by simp[Value.ownBlock])⟩
   obtain⟨a1,c1,b6⟩:=zM Z;subst b6;have J:=zb Z;clear Z d;go_wp2_with (at_builtin;refine XW _ rfl _ _ 55 rfl (wr.drewN nq).heap.size 3 i0 (Y V 0) 1 8 yQ hi P Q R rfl (by decide) _ _ _ rfl (J.alloc _) ⟨w3.heap.size,0,U⟩ 1 1 [Y V x] rfl rfl ?ub1 ?ub2 ?ub3 ?ub4 ?ub5 ?_)
   case ub1=>exact ZD _ _ _
   case ub2=>intro u hu;simp at hu;subst hu;rfl
   case ub3=>unfold maxLen;omega
   case ub4=>omega
   case ub5=>simp;omega
   intro n2 w4 C t _;have d0:w3.heap.size+1<=w4.heap.size:=by have:=t.size;simpa using this
   have e3:g<wr.heap.size:=by have:=b.size;omega
   have a9:=zb (zd a6 (λq z=>by
    cases z;refine(t.block g (by simp;omega) (λe=>?_)).trans (Ys _ _ _ (by omega))
    have h5:wr.heap.size<=g:=(J.lt g e.symm).1;omega))
   have F:Ha (Below wr.heap.size wr w4):=(a4.alloc a4.size _).grown t (by simp;omega) (λq z=>(J.lt q z).1);obtain⟨a2,c2,a3⟩:=zM C;subst a3;have K:=zb C;clear C t J;by_cases d9:oc=j
   ·have f3:out.length=j:=by omega
    have S:Ha (out.drop j=[]):=xbN (by omega);go_wp2_with (at_builtin;refine XW _ rfl _ _ 55 rfl (wr.drewN nq).heap.size 3 i0 (Y V 0) 1 8 yQ hi P Q R rfl (by decide) _ _ _ rfl K ⟨g,0,U⟩ 0 0 [] rfl rfl ?uc1 ?uc2 ?uc3 ?uc4 ?uc5 ?_)
    case uc1=>intro j u hj;simp at hj
    case uc2=>intro u hu;simp at hu
    case uc3=>unfold maxLen;omega
    case uc4=>omega
    case uc5=>show wr.heap.size<=w4.heap.size;omega
    intro n3 w5 r B _;have A:Below wr.heap.size wr w5:=F.grown B F.size (λq z=>(K.lt q z).1);have H:Ha (Below w.heap.size w w5):=(E.trans (b.mono E.size)).trans (A.mono (by have:=E.size;have:=b.size;omega));have M:Ha (w5.ownsRow w.heap.size 3 1 n3 (out.take j++[x]++out.drop j).length (I (out.take j++[x]++out.drop j))):=by
     unfold Ha;have e1:(out.take j++[x]++out.drop j).length=j+1:=by rw[S.o];simp;try omega
     have e2:I (out.take j++[x]++out.drop j)=I (out.take j)++[Y V x]:=by rw[S.o,Yw,Ag]
     rw[e1,e2];exact zF r (by have:=E.size;have:=b.size;omega)
    have N:Ha ((out.take j++[x]++out.drop j).Perm (l.take (k+1))):=by unfold Ha;rw[a0.o];exact oI.trans (m.append_right _)
    clear r B A;go_wp2_with fail;go_roundw
    case rel=>exact⟨k+1,_,by omega,by go_num,N,HN,M,H⟩
    simp[intOf];omega
   go_wp2_with (at_builtin;refine XW _ rfl _ _ 55 rfl (wr.drewN nq).heap.size 3 i0 (Y V 0) 1 8 yQ hi P Q R rfl (by decide) _ _ _ rfl K ⟨g,j,U⟩ (out.length-j) (oc-j) (I (out.drop j)) rfl ?ud1 ?ud2 (II _) ?ud4 ?ud5 ?ud6 ?_)
   case ud1=>rw[vH,yw];omega
   case ud2=>have h9:=Bi a9 j (out.length-j) (by omega);rw[ye (by rw[yw];omega)]at h9;exact h9
   case ud4=>unfold maxLen;omega
   case ud5=>omega
   case ud6=>show wr.heap.size<=w4.heap.size;omega
   intro n3 w5 r B _;have A:Below wr.heap.size wr w5:=F.grown B F.size (λq z=>(K.lt q z).1);have H:Ha (Below w.heap.size w w5):=(E.trans (b.mono E.size)).trans (A.mono (by have:=E.size;have:=b.size;omega));have M:Ha (w5.ownsRow w.heap.size 3 1 n3 (out.take j++[x]++out.drop j).length (I (out.take j++[x]++out.drop j))):=by
    unfold Ha;have e1:(out.take j++[x]++out.drop j).length=j+1+(out.length-j):=by simp;try omega
    have e2:I (out.take j++[x]++out.drop j)=I (out.take j)++[Y V x]++I (out.drop j):=by rw[UD,Ag]
    rw[e1,e2]
    first
     |exact zF r (by have:=E.size;have:=b.size;omega)
     |(simp at r ⊢;exact zF r (by have:=E.size;have:=b.size;omega))
   have N:Ha ((out.take j++[x]++out.drop j).Perm (l.take (k+1))):=by unfold Ha;rw[a0.o];exact oI.trans (m.append_right _)
   clear r B A;go_wp2_with fail;go_roundw
   case rel=>exact⟨k+1,_,by omega,by go_num,N,HN,M,H⟩
   simp[intOf];omega
  obtain rfl:j=out.length:=by omega
  have HN:=zb (JZ b0 HX (k:=out.length) (xe _) a7 (Or.inl rfl));clear b5;go_wp2_with fail;go_quiet (fail);have T:Ha ((wr.drewN nq).ownsRow w.heap.size 3 1 (vd (vb ⟨g,0,U⟩) out.length oc) out.length (I out)):=zh a5 (yf b nq);go_wp2_with (at_builtin;refine XW _ rfl _ _ 55 rfl (wr.drewN nq).heap.size 3 i0 (Y V 0) 1 8 yQ hi P Q R rfl (by decide) (vd U 0 0) 0 [] rfl (yd _ _ _ _) ⟨g,0,U⟩ out.length oc (I (out.take out.length)) rfl ?va1 ?va2 (II _) ?va3 ?va4 (xe _) ?_)
  case va1=>rw[vH,yu];omega
  case va2=>exact uO T out.length (by omega)
  case va3=>unfold maxLen;omega
  case va4=>omega
  intro n1 w3 Z d _;have c9:wr.heap.size<=w3.heap.size:=d.size;have c6:w3.cell? ⟨G,k,U⟩=vb (Y V x):=(xo (a:=⟨G,k,U⟩) (d.block G (by show G<wr.heap.size;have:=b.size;omega) (by simp[Value.ownBlock]))).trans b2;have a6:=zb (zd T (λq z=>d.block q (by cases z;show g<wr.heap.size;have:=b.size;omega) (by simp[Value.ownBlock])));have a4:Ha (Below wr.heap.size wr w3):=⟨d.os,d.tape,d.output,d.size,λq z=>d.block q z (by simp[Value.ownBlock])⟩
  obtain⟨a1,c1,b6⟩:=zM Z;subst b6;have J:=zb Z;clear Z d;go_wp2_with (at_builtin;refine XW _ rfl _ _ 55 rfl (wr.drewN nq).heap.size 3 i0 (Y V 0) 1 8 yQ hi P Q R rfl (by decide) _ _ _ rfl (J.alloc _) ⟨w3.heap.size,0,U⟩ 1 1 [Y V x] rfl rfl ?vb1 ?vb2 ?vb3 ?vb4 ?vb5 ?_)
  case vb1=>exact ZD _ _ _
  case vb2=>intro u hu;simp at hu;subst hu;rfl
  case vb3=>unfold maxLen;omega
  case vb4=>omega
  case vb5=>simp;omega
  intro n2 w4 C t _;have d0:w3.heap.size+1<=w4.heap.size:=by have:=t.size;simpa using this
  have e3:g<wr.heap.size:=by have:=b.size;omega
  have a9:=zb (zd a6 (λq z=>by
   cases z;refine(t.block g (by simp;omega) (λe=>?_)).trans (Ys _ _ _ (by omega))
   have h5:wr.heap.size<=g:=(J.lt g e.symm).1;omega))
  have F:Ha (Below wr.heap.size wr w4):=(a4.alloc a4.size _).grown t (by simp;omega) (λq z=>(J.lt q z).1);obtain⟨a2,c2,a3⟩:=zM C;subst a3;have K:=zb C;clear C t J;by_cases d9:oc=out.length
  ·have f3:out.length=out.length:=by omega
   have S:Ha (out.drop out.length=[]):=xbN (by omega);go_wp2_with (at_builtin;refine XW _ rfl _ _ 55 rfl (wr.drewN nq).heap.size 3 i0 (Y V 0) 1 8 yQ hi P Q R rfl (by decide) _ _ _ rfl K ⟨g,0,U⟩ 0 0 [] rfl rfl ?vc1 ?vc2 ?vc3 ?vc4 ?vc5 ?_)
   case vc3=>unfold maxLen;omega
   case vc4=>omega
   case vc5=>show wr.heap.size<=w4.heap.size;omega
   intro n3 w5 r B _;have A:Below wr.heap.size wr w5:=F.grown B F.size (λq z=>(K.lt q z).1);have H:Ha (Below w.heap.size w w5):=(E.trans (b.mono E.size)).trans (A.mono (by have:=E.size;have:=b.size;omega));have M:Ha (w5.ownsRow w.heap.size 3 1 n3 (out.take out.length++[x]++out.drop out.length).length (I (out.take out.length++[x]++out.drop out.length))):=by
    unfold Ha;have e1:(out.take out.length++[x]++out.drop out.length).length=out.length+1:=by rw[S.o];simp;try omega
    have e2:I (out.take out.length++[x]++out.drop out.length)=I out++[Y V x]:=by rw[S.o,Yw,Ag];simp
    rw[e1,e2];exact zF r (by have:=E.size;have:=b.size;omega)
   have N:Ha ((out.take out.length++[x]++out.drop out.length).Perm (l.take (k+1))):=by unfold Ha;rw[a0.o];exact oI.trans (m.append_right _)
   clear r B A;go_wp2_with fail;go_roundw
   case rel=>exact⟨k+1,_,by omega,by go_num,N,HN,M,H⟩
   simp[intOf];omega
  have S:Ha (out.drop out.length=[]):=xcI;go_wp2_with (at_builtin;refine XW _ rfl _ _ 55 rfl (wr.drewN nq).heap.size 3 i0 (Y V 0) 1 8 yQ hi P Q R rfl (by decide) _ _ _ rfl K ⟨g,out.length,U⟩ 0 (oc-out.length) [] rfl rfl ?vd1 ?vd2 ?vd3 ?vd4 ?vd5 ?_)
  case vd1=>intro j u hj;simp at hj
  case vd2=>intro u hu;simp at hu
  case vd3=>unfold maxLen;omega
  case vd4=>omega
  case vd5=>show wr.heap.size<=w4.heap.size;omega
  intro n3 w5 r B _;have A:Below wr.heap.size wr w5:=F.grown B F.size (λq z=>(K.lt q z).1);have H:Ha (Below w.heap.size w w5):=(E.trans (b.mono E.size)).trans (A.mono (by have:=E.size;have:=b.size;omega));have M:Ha (w5.ownsRow w.heap.size 3 1 n3 (out.take out.length++[x]++out.drop out.length).length (I (out.take out.length++[x]++out.drop out.length))):=by
   unfold Ha;have e1:(out.take out.length++[x]++out.drop out.length).length=out.length+1:=by rw[S.o];simp;try omega
   have e2:I (out.take out.length++[x]++out.drop out.length)=I out++[Y V x]:=by rw[S.o,Yw,Ag];simp
   rw[e1,e2];exact zF r (by have:=E.size;have:=b.size;omega)
  have N:Ha ((out.take out.length++[x]++out.drop out.length).Perm (l.take (k+1))):=by unfold Ha;rw[a0.o];exact oI.trans (m.append_right _)
  clear r B A;go_wp2_with fail;go_roundw
  case rel=>exact⟨k+1,_,by omega,by go_num,N,HN,M,H⟩
  simp[intOf];omega
 obtain rfl:k=l.length:=by omega
 have m:Ha (out.Perm l):=by rw[XZ]at f;exact f
 obtain⟨oa,oc,e9⟩:=zM D;subst e9;have a5:=zb D;have HS:=zb X;clear hG W D f X;go_wp2_with fail;go_ret;exact⟨hb,_,out,rfl,m,HS,a5⟩
def EM{f:Nat->Bool}{n:Nat}:∀(ls:List L) (f:Nat->Bool),kN ls f n=true->f n=true\/∃l∈ls,l.id=n
 |[],f,h=>Or.inl h
 |l::ls,f,h=>by
  rw[pZ]at h;rcases EM (f:=f) ls (Zg f l) h with a|⟨x,b,e⟩
  ·simp only[Zg,xak,yt,YQ]at a;rcases a with a|⟨a,_⟩
   ·exact Or.inl a
   exact Or.inr ⟨l,by simp,a.symm⟩
  exact Or.inr ⟨x,by simp[b],e⟩
def GL{l:L}(h:l∈ls):WO l.id ls<ls.length:=by
 unfold WO;rw[xbM];exact⟨l,h,by simp⟩
def jF{n:Nat}(d:WO a ls<ls.length)(h:n∈kM ls a):WO n ls<ls.length/\(ls.getD (WO n ls) L0).id=n:=by
 have g:jD ls a n=true:=by rw[<-jE];exact Yh.2 h
 have b:WO n ls<ls.length:=by
  rcases EM (f:=λm=>m==a) ls _ g with c|⟨l,i,e⟩
  ·have:n=a:=by simpa using c
   rw[this];exact d
  rw[<-e];exact GL i
 exact⟨b,aD b⟩
def wF(h:out.Nodup)(l:L):(ZI out l).Nodup:=by
 unfold ZI;split
 ·rename_i a;simp only[yt,xbO]at a;rw[yy];refine⟨h,by simp,λx c y b e=>?_⟩;simp at b;subst b;subst e;have:out.contains l.id=true:=Yh.2 c;rw[this]at a;cases a.1
 exact h
def tV:∀(ls:List L) (out:List Nat),out.Nodup->(jG ls out).Nodup
 |[],_,h=>h
 |l::ls,out,h=>tV ls _ (wF h l)
def Gq(ls:List L)(a:Nat):(kM ls a).Nodup:=tV ls [a] (by simp)
def Nk(ls:List L)(a:Nat):(kM ls a).length<=ls.length+1:=by
 have b:=jH ls [a] ls.length (xe _);rw[XZ]at b;simp only[List.length_cons,yx]at b;unfold kM;omega
def bE(ls:List L)(n:Nat):Nat:=(ls.getD (WO n ls) L0).hd
def hN(ls:List L)(ns:List Nat):List Nat:=ns.filter (λn=>decide (0<bE ls n))
def tN(ls:List L):List Nat->List Nat
 |n::r=>n::bE ls n::tN ls r
 |[]=>[]
def Mi(ls:List L)(n:Nat):∀l,tN ls (l++[n])=tN ls l++[n,bE ls n]
 |[]=>rfl
 |q::r=>by simp only[Yb,tN,Mi ls n r]
def Qe(ls:List L):∀l,(tN ls l).length=l.length*2
 |[]=>rfl
 |q::r=>by simp only[tN,List.length_cons,Qe ls r];omega
def JH(a:k<ns.length):hN ls (ns.take (k+1))=if 0<bE ls (ns.getD k 0) then hN ls (ns.take k)++[ns.getD k 0] else hN ls (ns.take k):=by
 have e:ns.take (k+1)=ns.take k++[ns.getD k 0]:=by
  rw[xn a];simp[WI,a]
 rw[e,hN,xaH];generalize ns.getD k 0=x;by_cases h:0<bE ls x
 ·rw[xh h];simp[xan,h,hN]
 rw[xg h];simp[xan,h,hN]
def TA(ls:List L)(a:List Nat):(hN ls a).length<=a.length:=xag _ _
def Mj{ls:List L}:∀(a:List Nat),(∀n∈a,(ls.getD (WO n ls) L0).id=n)->tN ls a=aJ ls (ZW ls (a.map (λn=>WO n ls)))
 |[],_=>rfl
 |n::r,h=>by
  have b:=Mj r (λm c=>h m (by simp[c]));simp only[tN,ZW,XY,aJ]at b ⊢;rw[h n (by simp),<-b];rfl
def JS(c:∀i j,i<ls.length->j<ls.length->(ls.getD i L0).id=(ls.getD j L0).id->i=j){a:Nat}(t:WO a ls<ls.length){s:List Nat}(A:s.Perm (kM ls a))(C:s.Pairwise (·<·)):(hN ls s).length::tN ls (hN ls s)=zA ls (ZP ls a):=by
 have d:∀n∈hN ls s,n∈kM ls a/\0<bE ls n:=λn l=>by
  have:=YC.1 l
  exact⟨A.mem_iff.1 this.1,by simpa using this.2⟩
 have b:∀n∈hN ls s,(ls.getD (WO n ls) L0).id=n:=λn l=>(jF t (d n l).1).2
 have f:(hN ls s).Pairwise (·<·):=C.sublist xck;have u:((hN ls s).map (λn=>WO n ls)).Nodup:=by
  rw[Yu,Yn];refine xbw (λ{x y} k hy hlt e=>?_) f;have p:=b x k;have r:=b y hy;rw[e,r]at p;omega
 have g:((hN ls s).map (λn=>WO n ls)).Perm (wX ls (jD ls a) ls.length):=by
  refine(xav u (De _ _ _)).2 (λi=>?_);rw[jQ];constructor
  ·intro h;obtain⟨n,l,rfl⟩:=yc.1 h;obtain⟨p,r⟩:=d n l;obtain⟨v,w⟩:=jF t p;refine⟨v,?_⟩;unfold qJ;rw[w,<-jE,Yh.2 p,xce];exact ya r
  rintro⟨B,q⟩;unfold qJ at q;simp only[yt,yr]at q;have z:(ls.getD i L0).id∈kM ls a:=by rw[<-Yh,jE];exact q.2
  have k:WO (ls.getD i L0).id ls=i:=by
   obtain⟨v,w⟩:=jF t z;exact c _ _ v B w
  refine yc.2 ⟨(ls.getD i L0).id,?_,k⟩;refine YC.2 ⟨A.mem_iff.2 z,?_⟩;unfold bE;rw[k];exact ya q.1
 have m:We (lL ls) ((hN ls s).map (λn=>WO n ls)):=by
  unfold We;rw[Yn];refine xbw (λ{x y} k hy hlt=>?_) f;unfold lL;rw[b x k,b y hy];exact xy (by omega)
 have e:=Fa c g m;rw[Mj _ b,e];show _=(ZP ls a).length::aJ ls (ZP ls a);unfold ZP;rw[dT,<-e,List.length_map]
