import Derived.Test.YtgcedalggnmooaaGreatDoorRp1X
import Derived.Test.YtgcedalggnmooaaGreatDoorQ10X
set_option linter.all false
set_option maxRecDepth 100000
set_option maxHeartbeats 6400000
namespace Go.Proofs.YtgcedalggnmooaaGreatDoor
open Go.RowKit
open Tryz
def WH(rj:List (Nat×Nat))(a m:Nat):Nat:=rj.findIdx (λp=>p==(a,m))
def yR(rj:List (Nat×Nat))(a m:Nat):Int:=if WH rj a m<rj.length then (WH rj a m:Int) else -1
variable {R a base k m n td:Nat}{rj:List (Nat×Nat)}
def lX:WH rj a m<rj.length↔rj.contains (a,m)=true:=by
 unfold WH;rw[xbi,XW];constructor
 ·rintro⟨x,c,b⟩;rw[Yi]at b;rw[<-b];exact c
 intro h;exact⟨_,h,by simp⟩
def Rv(c:k<rj.length)(d:∀j,j<k->rj.getD j (0,0)≠(a,m))(b:rj.getD k (0,0)=(a,m)):WH rj a m=k:=by
 unfold WH;rw[xcp c];simp only[Wc,xi c,XQ]at b;refine⟨by rw[b];simp,λj e=>?_⟩;have:=d j e;simp only[Wc,xi (show j<rj.length by omega),XQ]at this;simpa using this
def Ol(d:∀j,j<rj.length->rj.getD j (0,0)≠(a,m)):¬WH rj a m<rj.length:=by
 rw[lX];intro b;rw[XW]at b;obtain⟨j,c,e⟩:=xw b;exact d j c (by rw[Wc,xi c];exact e)
variable {fs:List Value}{ls:List L}{os:List O}{rec:ByteArray}{ro:Ro}{v:Value}{w:World}
def gB(h:RV os rj ro w R v td rec fs ls)(a m:Nat):Calls prog 116 #[.pointer (some ⟨R,0,none⟩),.int .i64 a,.int .i64 m] w λe w'=>e=.returned (.int .i64 (yR rj a m))/\w'=w:=by
 have c3:=h.c3;obtain⟨K,cap,B,d⟩:=h.rshape;rw[B]at c3;have E:=h.rc.len;clear h B;go_enter func116,ntmps116;go_wp2_with fail;go_loop [7] (λt=>∃k:Nat,k<=rj.length/\t=.int .i64 k/\(∀j,j<k->rj.getD j (0,0)≠(a,m))) (λt=>rj.length-(intOf t).toNat)
 case atStart=>exact⟨0,by omega,rfl,λj h=>absurd h (by omega)⟩
 obtain⟨k,J,rfl,g⟩:=hrel;by_cases f:k<rj.length
 ·obtain⟨G,C,A,c⟩:=d (by omega);subst C;obtain⟨F,H⟩:=c k f;have b:Ha (rj.getD k (0,0)=((rj.getD k (0,0)).1,(rj.getD k (0,0)).2)):=rfl;obtain⟨x,u⟩:=Ww ((rj.getD k (0,0)).1);obtain⟨y,z⟩:=Ww ((rj.getD k (0,0)).2);rw[<-u.o]at F;rw[<-z.o]at H;rw[<-u.o,<-z.o]at b;clear c d;by_cases l:x=a
  ·have r:=aR l;by_cases n:y=m
   ·have s:=aR n;have p:Ha (yR rj a m=(k:Int)):=by
     have:=Rv f g (by rw[b.o,l,n])
     unfold Ha yR;rw[this,xh f]
    clear l n;go_wp2_with fail;go_ret;exact⟨by rw[p.o];rfl,rfl⟩
   have s:=ZT n;have q:Ha (rj.getD k (0,0)≠(a,m)):=by rw[b.o];intro e;exact n (Prod.mk.inj e).2
   clear l n;go_wp2_with fail;go_round
   case rel=>
    refine⟨k+1,by omega,by go_num,?_⟩;intro j D;by_cases i:j=k
    ·subst i;exact q
    exact g j (by omega)
   simp[intOf];omega
  have r:=ZT l;have q:Ha (rj.getD k (0,0)≠(a,m)):=by rw[b.o];intro e;exact l (Prod.mk.inj e).1
  clear l;go_wp2_with fail;go_round
  case rel=>
   refine⟨k+1,by omega,by go_num,?_⟩;intro j D;by_cases i:j=k
   ·subst i;exact q
   exact g j (by omega)
  simp[intOf];omega
 obtain rfl:k=rj.length:=by omega
 have p:Ha (yR rj a m=-1):=by unfold Ha yR;rw[xg (Ol g)]
 clear d f;go_wp2_with fail;go_ret;exact⟨by rw[p.o];rfl,rfl⟩
variable {ns out:List Nat}
def JE{x:Nat}(m:out.Pairwise (·<·))(t:x ∉ out)(u:k<=out.length)(q:∀j,j<k->out.getD j 0<x)(h:k=out.length\/¬out.getD k 0<x):(out.take k++[x]++out.drop k).Pairwise (·<·):=by
 have g:∀a∈out.take k,a<x:=λa c=>by
  obtain⟨j,l,e⟩:=xw c;rw[XL]at l;have:=q j (by omega);rw[Wc,xi (by omega)]at this;rw[<-e];simpa using this
 have d:∀a∈out.drop k,x<a:=λa c=>by
  rcases h with h|h
  ·rw[h,xcd]at c;simp at c
  obtain⟨j,l,e⟩:=xw c;rw[XM]at l;rw[List.getElem_drop]at e;have i:k<out.length:=by omega
  rw[Wc,xi i]at h;simp only[XQ]at h;have r:out[k]<=out[k+j]'(by omega):=by
   by_cases p:j=0
   ·subst p;exact xe _
   exact xcm ((XX.1 m) k (k+j) i (by omega) (by omega))
  have s:out[k+j]'(by omega)≠x:=λn=>t (by rw[<-n];exact yy _)
  rw[<-e];omega
 rw[yc];refine Ya.2 ⟨m.sublist (xaq _ _),Ya.2 ⟨by simp,m.sublist (List.drop_sublist _ _),λa c b f=>?_⟩,λa c b f=>?_⟩
 ·simp at c;subst c;exact d b f
 rcases xx.1 f with f|f
 ·simp at f;subst f;exact g a c
 exact xbL (g a c) (d b f)
def oF{x:Nat}:(out.take k++[x]++out.drop k).Perm (out++[x]):=by
 have a:(out.take k++[x]++out.drop k).Perm (out.take k++out.drop k++[x]):=by
  rw[yc,yc];exact List.Perm.append_left _ (List.perm_append_comm)
 rw[yu]at a;exact a
def TY(a b:List Nat):I (a++b)=I a++I b:=by simp[I]
def Il:∀(a:List Nat),∀u∈I a,u.oneCell'=true:=λa u b=>by
 obtain⟨n,_,rfl⟩:=Xz.1 b;rfl
def AU{g cap:Nat}(h:w.ownsRow base 3 1 (.slice (some ⟨g,0,none⟩) ns.length cap) ns.length (I ns))(k m:Nat)(d:k+m<=ns.length):∀j u,(I ((ns.drop k).take m))[j]?=some u->w.cell? (Addr.add ⟨g,k,none⟩ j)=some u:=λj u b=>by
 have a:j<m:=by
  have:=(xbS.1 b).1
  rw[vA,XL,XM]at this;omega
 have c:=ZB h (k+j) (by omega);have e:Addr.add ⟨g,k,none⟩ j=⟨g,k+j,none⟩:=by simp[Addr.add]
 rw[e,c];rw[<-b];simp[I,xbN,List.getElem?_drop,a,Wc,show k+j<ns.length by omega]
def uJ{g cap:Nat}(h:w.ownsRow base 3 1 (.slice (some ⟨g,0,none⟩) ns.length cap) ns.length (I ns))(m:Nat)(a:m<=ns.length):∀j u,(I (ns.take m))[j]?=some u->w.cell? (Addr.add ⟨g,0,none⟩ j)=some u:=by
 have:=AU h 0 m (by omega)
 simpa using this
def Hi{l:List Nat}(h:w.ownsRow base 3 1 v l.length (I l))(f5:l.length<=31)(d1:l.Nodup)(c8:∀n∈l,n<=2147483647):Calls prog 117 #[v] w λe w'=>Below w.heap.size w w'/\∃(v':Value) (s:List Nat),e=.returned v'/\s.Perm l/\s.Pairwise (·<·)/\w'.ownsRow w.heap.size 3 1 v' s.length (I s):=by
 obtain⟨i0,hi,P,Q,R⟩:=XT Gq;obtain⟨va,vc,hv⟩:=zK h;have hG:0<l.length->∃G,va=some ⟨G,0,none⟩/\G<w.heap.size:=λhp=>by
  obtain⟨g,c,d3,_,W⟩:=zG h hp;rw[hv]at d3;cases d3;exact⟨g,rfl,W⟩
 rw[hv]at h;rw[hv];have HO:=zb h;have d5:=zb d1;have b8:=zb c8;clear h hv d1 c8;go_enter func117,ntmps117;go_wp2_with fail;go_loopw [3,4,5,6] (λov ii _ _ wr=>∃(k:Nat) (out:List Nat),k<=l.length/\ii=.int .i64 k/\out.Perm (l.take k)/\out.Pairwise (·<·)/\wr.ownsRow w.heap.size 3 1 ov out.length (I out)/\Below w.heap.size w wr) (λ_ ii _ _ _=>l.length-(intOf ii).toNat)
 case atStart=>exact⟨0,[],by omega,rfl,by simp,List.Pairwise.nil,Xx _ _ _ _,xm _ _⟩
 obtain⟨k,out,hk,rfl,f,X,D,hb⟩:=hrel;by_cases W:k<l.length
 ·obtain⟨G,d8,b1⟩:=hG (by omega);subst d8;have c5:=(hb.cell (p:=⟨G,k,none⟩) b1).trans (ZB HO k W);have d2:out.length=k:=by rw[f.length_eq,XL];omega
  have f6:=zb d2;have e8:out.length<=31:=by omega
  clear d2;have a8:l.getD k 0∈l:=by simp[Wc,W]
  have f1:=b8.o _ a8;have HX:Ha (l.getD k 0 ∉ out):=λhm=>by
   have e5:=f.mem_iff.1 hm;obtain⟨j,hj,e⟩:=xw e5;rw[XL]at hj;rw[xbU]at e;rw[Wc,xi W]at e;simp only[XQ]at e;have:=(xce d5).1 e;omega
  have a0:Ha (l.take (k+1)=l.take k++[l.getD k 0]):=by
   unfold Ha;rw[xn W];simp[Wc,W]
  have d6:Ha (∀j,j<out.length->out.getD j 0<=2147483647):=λj hj=>by
   have hm:out.getD j 0∈out:=by simp[Wc,hj]
   exact b8 _ (Yg (f.mem_iff.1 hm))
  have m:=zb f;have b0:=zb X;have a5:=zb D;have E:=zb hb;have f0:w.heap.size<=wr.heap.size:=hb.size;obtain⟨x,d7⟩:=Ww (l.getD k 0);rw[<-d7.o]at c5 f1 HX a0;rcases D.2 with ⟨b7,e6⟩|⟨g,oc,f7,b7,f9,b3,g0,_⟩
  ·have he:out=[]:=XD.1 e6;subst he;subst b7;clear D hb f X a8;go_wp2_with fail;refine YM 1 ?_;rw[xar]
   go_wp2_with fail;go_quiet (fail)
   go_wp2_with (at_builtin;refine Xr _ rfl _ _ 55 rfl (wr.drewN nq).heap.size 3 i0 (.int .i64 0) 1 8 yE hi P Q R rfl (by decide) (.slice none 0 0) 0 [] rfl (Xx _ _ _ _) ⟨(wr.drewN nq).heap.size,0,none⟩ 1 1 [.int .i64 x] rfl rfl ?na1 ?na2 ?na3 ?na4 ?na5 ?_)
   case na1=>exact Zy _ _ _
   case na2=>intro u hu;simp at hu;subst hu;rfl
   case na3=>unfold maxLen;omega
   case na4=>omega
   case na5=>simp
   intro n2 w4 C t _;have b9:Below wr.heap.size wr w4:=((XA (xm _ _) nq).alloc (xe _) _).grown t (by simp) (λq z=>by simp[Value.ownBlock]at z);have H:Ha (Below w.heap.size w w4):=E.trans (b9.mono E.size);have M:Ha (w4.ownsRow w.heap.size 3 1 n2 [x].length (I [x])):=zF C E.size;have N:Ha ([x].Perm (l.take (k+1))):=by
    have h9:=m.o;unfold Ha;rw[a0.o];exact h9.append_right [x]
   rcases C.2 with ⟨_,a3⟩|⟨g2,c2,f4,a3,_,_,f8,_⟩
   ·omega
   subst a3;clear C t b9;go_wp2_with fail;go_roundw
   case rel=>exact⟨k+1,[x],by omega,by go_num,N,by simp,M,H⟩
   simp[intOf];omega
  subst b7;have c7:g<wr.heap.size:=zc b3;clear D hb f X a8 b3;go_wp2_with fail;obtain⟨wo,rfl⟩:∃wo,wo=wr:=⟨wr,rfl⟩
  go_loopw [5] (λkk w2=>∃(j:Nat),j<=out.length/\kk=.int .i64 j/\(∀i,i<j->out.getD i 0<x)/\Below wo.heap.size wo w2) (λkk _=>out.length-(intOf kk).toNat)
  case atStart=>exact⟨0,by omega,rfl,λi h=>absurd h (by omega),xm _ _⟩
  obtain⟨j,hj,rfl,a7,b⟩:=hrel;have b2:=(b.cell (p:=⟨G,k,none⟩) (by exact xl b1 f0)).trans c5;by_cases b5:j<out.length
  ·have e0:=(b.cell (p:=⟨g,j,none⟩) (by exact c7)).trans (ZB a5 j b5);have e7:=d6.o j b5;obtain⟨y,b4⟩:=Ww (out.getD j 0);rw[<-b4.o]at e0 e7;by_cases d4:y<x
   ·have f2:decide ((y:Int)<(x:Int))=true:=by simp;omega
    go_wp2_with fail;go_quiet (fail)
    go_wp2_with fail;go_roundw
    case rel=>
     refine⟨j+1,by omega,by go_num,λi hi=>?_,XA b nq⟩;by_cases e4:i=j
     ·subst e4;rw[<-b4.o];exact d4
     exact a7 i (by omega)
    simp[intOf];omega
   have f2:decide ((y:Int)<(x:Int))=false:=by simp;omega
   have HN:=zb (JE b0 HX (k:=j) (by omega) a7 (Or.inr (by rw[<-b4.o];exact d4)));go_wp2_with fail;go_quiet (fail);have T:Ha ((wr.drewN nq).ownsRow w.heap.size 3 1 (.slice (some ⟨g,0,none⟩) out.length oc) out.length (I out)):=zg a5 (XA b nq);go_wp2_with (at_builtin;refine Xr _ rfl _ _ 55 rfl (wr.drewN nq).heap.size 3 i0 (.int .i64 0) 1 8 yE hi P Q R rfl (by decide) (.slice none 0 0) 0 [] rfl (Xx _ _ _ _) ⟨g,0,none⟩ j oc (I (out.take j)) rfl ?ua1 ?ua2 (Il _) ?ua3 ?ua4 (xe _) ?_)
   case ua1=>rw[vA,XL];omega
   case ua2=>exact uJ T j (by omega)
   case ua3=>unfold maxLen;omega
   case ua4=>omega
   intro n1 w3 Z d _;have c9:wr.heap.size<=w3.heap.size:=d.size;have c6:w3.cell? ⟨G,k,none⟩=some (.int .i64 x):=(xo (a:=⟨G,k,none⟩) (d.block G (by show G<wr.heap.size;have:=b.size;omega) (by simp[Value.ownBlock]))).trans b2;have a6:=zb (zd T (λq z=>d.block q (by cases z;show g<wr.heap.size;have:=b.size;omega) (by simp[Value.ownBlock])));have a4:Ha (Below wr.heap.size wr w3):=⟨d.os,d.tape,d.output,d.size,λq z=>d.block q z (by simp[Value.ownBlock])⟩
   obtain⟨a1,c1,b6⟩:=zK Z;subst b6;have J:=zb Z;clear Z d;go_wp2_with (at_builtin;refine Xr _ rfl _ _ 55 rfl (wr.drewN nq).heap.size 3 i0 (.int .i64 0) 1 8 yE hi P Q R rfl (by decide) _ _ _ rfl (J.alloc _) ⟨w3.heap.size,0,none⟩ 1 1 [.int .i64 x] rfl rfl ?ub1 ?ub2 ?ub3 ?ub4 ?ub5 ?_)
   case ub1=>exact Zy _ _ _
   case ub2=>intro u hu;simp at hu;subst hu;rfl
   case ub3=>unfold maxLen;omega
   case ub4=>omega
   case ub5=>simp;omega
   intro n2 w4 C t _;have d0:w3.heap.size+1<=w4.heap.size:=by have:=t.size;simpa using this
   have e3:g<wr.heap.size:=by have:=b.size;omega
   have a9:=zb (zd a6 (λq z=>by
    cases z;refine(t.block g (by simp;omega) (λe=>?_)).trans (yl _ _ _ (by omega))
    have h5:wr.heap.size<=g:=(J.lt g e.symm).1;omega))
   have F:Ha (Below wr.heap.size wr w4):=(a4.alloc a4.size _).grown t (by simp;omega) (λq z=>(J.lt q z).1);obtain⟨a2,c2,a3⟩:=zK C;subst a3;have K:=zb C;clear C t J;by_cases d9:oc=j
   ·have f3:out.length=j:=by omega
    have S:Ha (out.drop j=[]):=xbj (by omega);go_wp2_with (at_builtin;refine Xr _ rfl _ _ 55 rfl (wr.drewN nq).heap.size 3 i0 (.int .i64 0) 1 8 yE hi P Q R rfl (by decide) _ _ _ rfl K ⟨g,0,none⟩ 0 0 [] rfl rfl ?uc1 ?uc2 ?uc3 ?uc4 ?uc5 ?_)
    case uc1=>intro j u hj;simp at hj
    case uc2=>intro u hu;simp at hu
    case uc3=>unfold maxLen;omega
    case uc4=>omega
    case uc5=>show wr.heap.size<=w4.heap.size;omega
    intro n3 w5 r B _;have A:Below wr.heap.size wr w5:=F.grown B F.size (λq z=>(K.lt q z).1);have H:Ha (Below w.heap.size w w5):=(E.trans (b.mono E.size)).trans (A.mono (by have:=E.size;have:=b.size;omega));have M:Ha (w5.ownsRow w.heap.size 3 1 n3 (out.take j++[x]++out.drop j).length (I (out.take j++[x]++out.drop j))):=by
     unfold Ha;have e1:(out.take j++[x]++out.drop j).length=j+1:=by rw[S.o];simp;try omega
     have e2:I (out.take j++[x]++out.drop j)=I (out.take j)++[.int .i64 x]:=by rw[S.o,yo,yT]
     rw[e1,e2];exact zF r (by have:=E.size;have:=b.size;omega)
    have N:Ha ((out.take j++[x]++out.drop j).Perm (l.take (k+1))):=by unfold Ha;rw[a0.o];exact oF.trans (m.append_right _)
    clear r B A;go_wp2_with fail;go_roundw
    case rel=>exact⟨k+1,_,by omega,by go_num,N,HN,M,H⟩
    simp[intOf];omega
   go_wp2_with (at_builtin;refine Xr _ rfl _ _ 55 rfl (wr.drewN nq).heap.size 3 i0 (.int .i64 0) 1 8 yE hi P Q R rfl (by decide) _ _ _ rfl K ⟨g,j,none⟩ (out.length-j) (oc-j) (I (out.drop j)) rfl ?ud1 ?ud2 (Il _) ?ud4 ?ud5 ?ud6 ?_)
   case ud1=>rw[vA,XM];omega
   case ud2=>have h9:=AU a9 j (out.length-j) (by omega);rw[Xy (by rw[XM];omega)]at h9;exact h9
   case ud4=>unfold maxLen;omega
   case ud5=>omega
   case ud6=>show wr.heap.size<=w4.heap.size;omega
   intro n3 w5 r B _;have A:Below wr.heap.size wr w5:=F.grown B F.size (λq z=>(K.lt q z).1);have H:Ha (Below w.heap.size w w5):=(E.trans (b.mono E.size)).trans (A.mono (by have:=E.size;have:=b.size;omega));have M:Ha (w5.ownsRow w.heap.size 3 1 n3 (out.take j++[x]++out.drop j).length (I (out.take j++[x]++out.drop j))):=by
    unfold Ha;have e1:(out.take j++[x]++out.drop j).length=j+1+(out.length-j):=by simp;try omega
    have e2:I (out.take j++[x]++out.drop j)=I (out.take j)++[.int .i64 x]++I (out.drop j):=by rw[TY,yT]
    rw[e1,e2]
    first
     |exact zF r (by have:=E.size;have:=b.size;omega)
     |(simp at r ⊢;exact zF r (by have:=E.size;have:=b.size;omega))
   have N:Ha ((out.take j++[x]++out.drop j).Perm (l.take (k+1))):=by unfold Ha;rw[a0.o];exact oF.trans (m.append_right _)
   clear r B A;go_wp2_with fail;go_roundw
   case rel=>exact⟨k+1,_,by omega,by go_num,N,HN,M,H⟩
   simp[intOf];omega
  obtain rfl:j=out.length:=by omega
  have HN:=zb (JE b0 HX (k:=out.length) (xe _) a7 (Or.inl rfl));clear b5;go_wp2_with fail;go_quiet (fail);have T:Ha ((wr.drewN nq).ownsRow w.heap.size 3 1 (.slice (some ⟨g,0,none⟩) out.length oc) out.length (I out)):=zg a5 (XA b nq);go_wp2_with (at_builtin;refine Xr _ rfl _ _ 55 rfl (wr.drewN nq).heap.size 3 i0 (.int .i64 0) 1 8 yE hi P Q R rfl (by decide) (.slice none 0 0) 0 [] rfl (Xx _ _ _ _) ⟨g,0,none⟩ out.length oc (I (out.take out.length)) rfl ?va1 ?va2 (Il _) ?va3 ?va4 (xe _) ?_)
  case va1=>rw[vA,XL];omega
  case va2=>exact uJ T out.length (by omega)
  case va3=>unfold maxLen;omega
  case va4=>omega
  intro n1 w3 Z d _;have c9:wr.heap.size<=w3.heap.size:=d.size;have c6:w3.cell? ⟨G,k,none⟩=some (.int .i64 x):=(xo (a:=⟨G,k,none⟩) (d.block G (by show G<wr.heap.size;have:=b.size;omega) (by simp[Value.ownBlock]))).trans b2;have a6:=zb (zd T (λq z=>d.block q (by cases z;show g<wr.heap.size;have:=b.size;omega) (by simp[Value.ownBlock])));have a4:Ha (Below wr.heap.size wr w3):=⟨d.os,d.tape,d.output,d.size,λq z=>d.block q z (by simp[Value.ownBlock])⟩
  obtain⟨a1,c1,b6⟩:=zK Z;subst b6;have J:=zb Z;clear Z d;go_wp2_with (at_builtin;refine Xr _ rfl _ _ 55 rfl (wr.drewN nq).heap.size 3 i0 (.int .i64 0) 1 8 yE hi P Q R rfl (by decide) _ _ _ rfl (J.alloc _) ⟨w3.heap.size,0,none⟩ 1 1 [.int .i64 x] rfl rfl ?vb1 ?vb2 ?vb3 ?vb4 ?vb5 ?_)
  case vb1=>exact Zy _ _ _
  case vb2=>intro u hu;simp at hu;subst hu;rfl
  case vb3=>unfold maxLen;omega
  case vb4=>omega
  case vb5=>simp;omega
  intro n2 w4 C t _;have d0:w3.heap.size+1<=w4.heap.size:=by have:=t.size;simpa using this
  have e3:g<wr.heap.size:=by have:=b.size;omega
  have a9:=zb (zd a6 (λq z=>by
   cases z;refine(t.block g (by simp;omega) (λe=>?_)).trans (yl _ _ _ (by omega))
   have h5:wr.heap.size<=g:=(J.lt g e.symm).1;omega))
  have F:Ha (Below wr.heap.size wr w4):=(a4.alloc a4.size _).grown t (by simp;omega) (λq z=>(J.lt q z).1);obtain⟨a2,c2,a3⟩:=zK C;subst a3;have K:=zb C;clear C t J;by_cases d9:oc=out.length
  ·have f3:out.length=out.length:=by omega
   have S:Ha (out.drop out.length=[]):=xbj (by omega);go_wp2_with (at_builtin;refine Xr _ rfl _ _ 55 rfl (wr.drewN nq).heap.size 3 i0 (.int .i64 0) 1 8 yE hi P Q R rfl (by decide) _ _ _ rfl K ⟨g,0,none⟩ 0 0 [] rfl rfl ?vc1 ?vc2 ?vc3 ?vc4 ?vc5 ?_)
   case vc3=>unfold maxLen;omega
   case vc4=>omega
   case vc5=>show wr.heap.size<=w4.heap.size;omega
   intro n3 w5 r B _;have A:Below wr.heap.size wr w5:=F.grown B F.size (λq z=>(K.lt q z).1);have H:Ha (Below w.heap.size w w5):=(E.trans (b.mono E.size)).trans (A.mono (by have:=E.size;have:=b.size;omega));have M:Ha (w5.ownsRow w.heap.size 3 1 n3 (out.take out.length++[x]++out.drop out.length).length (I (out.take out.length++[x]++out.drop out.length))):=by
    unfold Ha;have e1:(out.take out.length++[x]++out.drop out.length).length=out.length+1:=by rw[S.o];simp;try omega
    have e2:I (out.take out.length++[x]++out.drop out.length)=I out++[.int .i64 x]:=by rw[S.o,yo,yT];simp
    rw[e1,e2];exact zF r (by have:=E.size;have:=b.size;omega)
   have N:Ha ((out.take out.length++[x]++out.drop out.length).Perm (l.take (k+1))):=by unfold Ha;rw[a0.o];exact oF.trans (m.append_right _)
   clear r B A;go_wp2_with fail;go_roundw
   case rel=>exact⟨k+1,_,by omega,by go_num,N,HN,M,H⟩
   simp[intOf];omega
  have S:Ha (out.drop out.length=[]):=xcd;go_wp2_with (at_builtin;refine Xr _ rfl _ _ 55 rfl (wr.drewN nq).heap.size 3 i0 (.int .i64 0) 1 8 yE hi P Q R rfl (by decide) _ _ _ rfl K ⟨g,out.length,none⟩ 0 (oc-out.length) [] rfl rfl ?vd1 ?vd2 ?vd3 ?vd4 ?vd5 ?_)
  case vd1=>intro j u hj;simp at hj
  case vd2=>intro u hu;simp at hu
  case vd3=>unfold maxLen;omega
  case vd4=>omega
  case vd5=>show wr.heap.size<=w4.heap.size;omega
  intro n3 w5 r B _;have A:Below wr.heap.size wr w5:=F.grown B F.size (λq z=>(K.lt q z).1);have H:Ha (Below w.heap.size w w5):=(E.trans (b.mono E.size)).trans (A.mono (by have:=E.size;have:=b.size;omega));have M:Ha (w5.ownsRow w.heap.size 3 1 n3 (out.take out.length++[x]++out.drop out.length).length (I (out.take out.length++[x]++out.drop out.length))):=by
   unfold Ha;have e1:(out.take out.length++[x]++out.drop out.length).length=out.length+1:=by rw[S.o];simp;try omega
   have e2:I (out.take out.length++[x]++out.drop out.length)=I out++[.int .i64 x]:=by rw[S.o,yo,yT];simp
   rw[e1,e2];exact zF r (by have:=E.size;have:=b.size;omega)
  have N:Ha ((out.take out.length++[x]++out.drop out.length).Perm (l.take (k+1))):=by unfold Ha;rw[a0.o];exact oF.trans (m.append_right _)
  clear r B A;go_wp2_with fail;go_roundw
  case rel=>exact⟨k+1,_,by omega,by go_num,N,HN,M,H⟩
  simp[intOf];omega
 obtain rfl:k=l.length:=by omega
 have m:Ha (out.Perm l):=by rw[Xs]at f;exact f
 obtain⟨oa,oc,e9⟩:=zK D;subst e9;have a5:=zb D;have HS:=zb X;clear hG W D f X;go_wp2_with fail;go_ret;exact⟨hb,_,out,rfl,m,HS,a5⟩
def Ew{f:Nat->Bool}{n:Nat}:∀(ls:List L) (f:Nat->Bool),kK ls f n=true->f n=true\/∃l∈ls,l.id=n
 |[],f,h=>Or.inl h
 |l::ls,f,h=>by
  rw[pW]at h;rcases Ew (f:=f) ls (Zd f l) h with a|⟨x,b,e⟩
  ·simp only[Zd,YB,XK,Yi]at a;rcases a with a|⟨a,_⟩
   ·exact Or.inl a
   exact Or.inr ⟨l,by simp,a.symm⟩
  exact Or.inr ⟨x,by simp[b],e⟩
def Gp{l:L}(h:l∈ls):Wj l.id ls<ls.length:=by
 unfold Wj;rw[xbi];exact⟨l,h,by simp⟩
def jC(d:Wj a ls<ls.length)(h:n∈kJ ls a):Wj n ls<ls.length/\(ls.getD (Wj n ls) L0).id=n:=by
 have g:jA ls a n=true:=by rw[<-jB];exact XW.2 h
 have b:Wj n ls<ls.length:=by
  rcases Ew (f:=λm=>m==a) ls _ g with c|⟨l,i,e⟩
  ·have:n=a:=by simpa using c
   rw[this];exact d
  rw[<-e];exact Gp i
 exact⟨b,aS b⟩
def vX(h:out.Nodup)(l:L):(ZD out l).Nodup:=by
 unfold ZD;split
 ·rename_i a;simp only[XK,xbk]at a;rw[XP];refine⟨h,by simp,λx c y b e=>?_⟩;simp at b;subst b;subst e;have:out.contains l.id=true:=XW.2 c;rw[this]at a;cases a.1
 exact h
def tQ:∀(ls:List L) (out:List Nat),out.Nodup->(jD ls out).Nodup
 |[],_,h=>h
 |l::ls,out,h=>tQ ls _ (vX h l)
def FV(ls:List L)(a:Nat):(kJ ls a).Nodup:=tQ ls [a] (by simp)
def MJ(ls:List L)(a:Nat):(kJ ls a).length<=ls.length+1:=by
 have b:=jE ls [a] ls.length (xe _);rw[Xs]at b;simp only[List.length_cons,XO]at b;unfold kJ;omega
def bD(ls:List L)(n:Nat):Nat:=(ls.getD (Wj n ls) L0).hd
def hN(ls:List L)(ns:List Nat):List Nat:=ns.filter (λn=>decide (0<bD ls n))
def tN(ls:List L):List Nat->List Nat
 |n::r=>n::bD ls n::tN ls r
 |[]=>[]
def LG(ls:List L)(n:Nat):∀l,tN ls (l++[n])=tN ls l++[n,bD ls n]
 |[]=>rfl
 |q::r=>by simp only[XS,tN,LG ls n r]
def Pt(ls:List L):∀l,(tN ls l).length=l.length*2
 |[]=>rfl
 |q::r=>by simp only[tN,List.length_cons,Pt ls r];omega
def Jl(a:k<ns.length):hN ls (ns.take (k+1))=if 0<bD ls (ns.getD k 0) then hN ls (ns.take k)++[ns.getD k 0] else hN ls (ns.take k):=by
 have e:ns.take (k+1)=ns.take k++[ns.getD k 0]:=by
  rw[xn a];simp[Wc,a]
 rw[e,hN,xaa];generalize ns.getD k 0=x;by_cases h:0<bD ls x
 ·rw[xh h];simp[YE,h,hN]
 rw[xg h];simp[YE,h,hN]
def SQ(ls:List L)(a:List Nat):(hN ls a).length<=a.length:=Yy _ _
def LH{ls:List L}:∀(a:List Nat),(∀n∈a,(ls.getD (Wj n ls) L0).id=n)->tN ls a=aF ls (ZS ls (a.map (λn=>Wj n ls)))
 |[],_=>rfl
 |n::r,h=>by
  have b:=LH r (λm c=>h m (by simp[c]));simp only[tN,ZS,Xv,aF]at b ⊢;rw[h n (by simp),<-b];rfl
def Jw(c:∀i j,i<ls.length->j<ls.length->(ls.getD i L0).id=(ls.getD j L0).id->i=j){a:Nat}(t:Wj a ls<ls.length){s:List Nat}(A:s.Perm (kJ ls a))(C:s.Pairwise (·<·)):(hN ls s).length::tN ls (hN ls s)=zA ls (ZK ls a):=by
 have d:∀n∈hN ls s,n∈kJ ls a/\0<bD ls n:=λn l=>by
  have:=Yk.1 l
  exact⟨A.mem_iff.1 this.1,by simpa using this.2⟩
 have b:∀n∈hN ls s,(ls.getD (Wj n ls) L0).id=n:=λn l=>(jC t (d n l).1).2
 have f:(hN ls s).Pairwise (·<·):=C.sublist xbF;have u:((hN ls s).map (λn=>Wj n ls)).Nodup:=by
  rw[yt,yk];refine xaT (λ{x y} k hy hlt e=>?_) f;have p:=b x k;have r:=b y hy;rw[e,r]at p;omega
 have g:((hN ls s).map (λn=>Wj n ls)).Perm (wN ls (jA ls a) ls.length):=by
  refine(YN u (CR _ _ _)).2 (λi=>?_);rw[jO];constructor
  ·intro h;obtain⟨n,l,rfl⟩:=Xz.1 h;obtain⟨p,r⟩:=d n l;obtain⟨v,w⟩:=jC t p;refine⟨v,?_⟩;unfold qG;rw[w,<-jB,XW.2 p,xbz];exact Xt r
  rintro⟨B,q⟩;unfold qG at q;simp only[XK,XI]at q;have z:(ls.getD i L0).id∈kJ ls a:=by rw[<-XW,jB];exact q.2
  have k:Wj (ls.getD i L0).id ls=i:=by
   obtain⟨v,w⟩:=jC t z;exact c _ _ v B w
  refine Xz.2 ⟨(ls.getD i L0).id,?_,k⟩;refine Yk.2 ⟨A.mem_iff.2 z,?_⟩;unfold bD;rw[k];exact Xt q.1
 have m:Vx (lI ls) ((hN ls s).map (λn=>Wj n ls)):=by
  unfold Vx;rw[yk];refine xaT (λ{x y} k hy hlt=>?_) f;unfold lI;rw[b x k,b y hy];exact xy (by omega)
 have e:=EJ c g m;rw[LH _ b,e];show _=(ZK ls a).length::aF ls (ZK ls a);unfold ZK;rw[dQ,<-e,List.length_map]
def RV.recl{d:List (Nat×Nat)}{w1 w2:World}(h:RV os rj ro w R v td rec fs ls){a:Value}(J:∀k,k<w.heap.size->w1.heap[k]?=w.heap[k]?)(T:w.heap.size<=w1.heap.size)(P:w1.grownBy w2 ro.rv.ownBlock)(p:w2.ownsRow 0 181 2 a d.length (zl d))(F:∀g,a.ownBlock=some g->ro.rv.ownBlock=some g\/w.heap.size<=g)(H:Rc d):RV os d { ro with rv:=a } (w2.setCell ⟨R,3,none⟩ a) R v td rec fs ls:=by
 have C:∀(b:Nat),b<w.heap.size->ro.rv.ownBlock≠some b->w2.heap[b]?=w.heap[b]?:=λb m u=>(P.block b (by omega) (λe=>u e.symm)).trans (J b m)
 have B:∀(b:Nat) (f:Array Value) (t:TypeId),w.heap[b]?=some (.cells f t (0,0))->t≠181->ro.rv.ownBlock≠some b:=λb f t m W e=>by
  obtain⟨M,q⟩:=zh h.ord.fd.rrow e;exact zt m q W rfl
 have z:=(C R (zc h.store) (B R _ _ h.store (by decide))).trans h.store;have j:∀(b:Nat),b<w.heap.size->ro.rv.ownBlock≠some b->b≠R->(w2.setCell ⟨R,3,none⟩ a).heap[b]?=w.heap[b]?:=λb m u G=>by
  rw[xd _ _ _ _ G];exact C b m u
 have D:∀(b:Nat) (f:Array Value) (t:TypeId),w.heap[b]?=some (.cells f t (0,0))->t≠181->t≠42->(w2.setCell ⟨R,3,none⟩ a).heap[b]?=w.heap[b]?:=λb f t m E N=>j b (zc m) (B b f t m E) (zt m h.store N)
 have x:∀g,LB ro g->g<w.heap.size/\(w2.setCell ⟨R,3,none⟩ a).heap[g]?=w.heap[g]?:=λg A=>by
  have l:=h.ord.lt (Or.inr (Or.inl A));obtain⟨i,n,K⟩:=A;obtain⟨f,q⟩:=zh (h.ord.li i (by rw[<-h.ord.llen];exact n)) K;exact⟨l,j g l (λe=>(h.ord.fd.apart g e).1 ⟨i,n,K⟩) (zt q h.store (by decide))⟩
 have y:∀g,PB ro g->g<w.heap.size/\(w2.setCell ⟨R,3,none⟩ a).heap[g]?=w.heap[g]?:=λg s=>by
  have l:=h.ord.lt (Or.inr (Or.inr (Or.inr s)));obtain⟨f,q⟩:=h.ord.fd.ty (Or.inr s);exact⟨l,j g l (λe=>(h.ord.fd.apart g e).2 s) (zt q h.store (by decide))⟩
 refine⟨?_,zd h.row (λg c=>by obtain⟨f,r⟩:=zh h.row c;exact D _ _ _ r (by decide) (by decide)),h.flen,h.fro,⟨zd h.ord.row (λg c=>by obtain⟨f,r⟩:=zh h.ord.row c;exact D _ _ _ r (by decide) (by decide)),h.ord.llen,λi n=>zd (h.ord.li i n) (λg c=>(x g ⟨i,by rw[h.ord.llen];exact n,c⟩).2),?_⟩,h.today,h.ok,h.room,h.fam,H⟩
 ·have:=xu w2 R 3 _ 42 a z
  simpa using this
 refine⟨?_,h.ord.fd.flen,λi n=>(h.ord.fd.frm i n).congr (λg c=>(y g ⟨i,n,c⟩).2),λg c=>?_⟩
 ·exact p.kept (zM w2 ⟨R,3,none⟩ a) (Or.inr (λe=>by
   obtain⟨f,q⟩:=zh p (g:=R) e;exact zt z q (by decide) rfl))
 rcases F g c with E|E
 ·exact h.ord.fd.apart g E
 refine⟨λQ=>?_,λS=>?_⟩
 ·have:=(x g Q).1;omega
 have:=(y g S).1;omega
def Io{c:Value}(d:∀g,c.ownBlock=some g->ro.rv.ownBlock=some g\/n<=g):∀b,OB { ro with rv:=c } b->OB ro b\/n<=b:=by
 intro b a;rcases a with a|a|a|a
 ·exact Or.inl (Or.inl a)
 ·exact Or.inl (Or.inr (Or.inl a))
 ·rcases d b a with h|h
  ·exact Or.inl (Or.inr (Or.inr (Or.inl h)))
  exact Or.inr h
 exact Or.inl (Or.inr (Or.inr (Or.inr a)))
def jS:∀(l:List (Nat×Nat)) (p:Nat×Nat),zl (l++[p])=zl l++[.int .i64 p.1,.int .i64 p.2]
 |[],p=>rfl
 |q::l,p=>by simp only[XS,zl,jS l p]
def gC(rj:List (Nat×Nat))(r k:Nat):List (Nat×Nat):=(rj.take k).eraseIdx r
def Oh{r:Nat}(b:k<rj.length)(h:k=r):gC rj r (k+1)=gC rj r k:=by
 subst h;unfold gC;have c:(rj.take k).length=k:=by rw[XL];omega
 have a:(rj.take k).eraseIdx k=rj.take k:=Yd (by omega);rw[a,xn b,xbb (by omega),c,xap];simp
def Oi{r:Nat}(a:k<rj.length)(h:k≠r):gC rj r (k+1)=gC rj r k++[rj.getD k (0,0)]:=by
 unfold gC;have e:rj.take (k+1)=rj.take k++[rj.getD k (0,0)]:=by
  rw[xn a];simp[Wc,a]
 rw[e];by_cases b:r<k
 ·rw[xbc (by simp;omega)]
 rw[Yd (by simp;omega),Yd (by simp;omega)]
def Lc(rj:List (Nat×Nat))(r k:Nat):(gC rj r k).length<=k:=by
 unfold gC;have a:=List.length_eraseIdx_le (rj.take k) r;have b:(rj.take k).length<=k:=Yw _ _;omega
def La(h:rj.contains (a,m)=true):gC rj (WH rj a m) rj.length=rj.erase (a,m):=by
 unfold gC WH;rw[Xs];clear h;induction rj with
 |nil=>rfl
 |cons x l ih=>
  rw[xbV,List.erase_cons]
  cases b:(x==(a,m)) with
  |true=>simp
  |false=>simp only[Ye,xcf,ih,XV,YF]
def BO(h:RV os rj ro w R v td rec fs ls)(gn Q:Nat)(a m:Nat)(b1:NS w gn [a,m])(h1:a<=2147483647)(h2:m<=2147483647):Calls prog 72 #[.pointer (some ⟨R,0,none⟩),.slice (some ⟨gn,0,none⟩) 2 Q] w λe w'=>Kp (λb=>b=R) w w'/\e=.returned (.int .i64 (zW rj a m:Int))/\∃a0,RV os (Zq rj a m) a0 w' R v td rec fs ls/\∀b,OB a0 b->OB ro b\/w.heap.size<=b:=by
 obtain⟨ip,a7,b2,b3,b4⟩:=XT wV;obtain⟨⟨cs,F⟩,z⟩:=b1;have n0:w.cell? ⟨gn,0,none⟩=some (.int .i64 a):=z 0 (by simp);have n1:w.cell? ⟨gn,1,none⟩=some (.int .i64 m):=z 1 (by simp);have c9:=zc F;have P:Ha (∀n,Calls prog 116 #[.pointer (some ⟨R,0,none⟩),.int .i64 a,.int .i64 m] (w.drewN n) λe w'=>e=.returned (.int .i64 (yR rj a m))/\w'=w.drewN n):=λn=>gB (h.below (XA (xm _ _) n)) a m
 have j:=zc h.store;have d0:=h.rc.len;have HP:=zb h
 cases x:rj.contains (a,m) with
 |false=>
  have HC:Ha (zW rj a m=10):=by unfold Ha zW;rw[x];rfl
  have HS:Ha (Zq rj a m=rj):=by unfold Ha Zq;rw[x];rfl
  have N:Ha (yR rj a m=-1):=by unfold Ha yR;rw[xg (λq=>by rw[lX.1 q]at x;cases x)]
  rw[N.o]at P;rw[HC.o,HS.o];clear x h z F N;go_enter func72,ntmps72;go_wp2_with fail;go_quiet ((go_at_call 116;exact YT (P _)));go_wp2_with fail;go_ret;exact⟨Wo (XA (xm _ _) nq),rfl,ro,HP.below (XA (xm _ _) nq),λb f=>Or.inl f⟩
 |true=>
  have HC:Ha (zW rj a m=0):=by unfold Ha zW;rw[x];rfl
  have HS:Ha (Zq rj a m=rj.erase (a,m)):=by unfold Ha Zq;rw[x];rfl
  have M:=zb (La x);have b5:WH rj a m<rj.length:=lX.2 x;have N:Ha (yR rj a m=(WH rj a m:Int)):=by unfold Ha yR;rw[xh b5]
  have a5:=zb (h.rc.del (a,m));rw[N.o]at P;rw[HC.o,HS.o];generalize WH rj a m=r at *;obtain⟨ra,X,W,i⟩:=h.rshape;have c3:=h.c3;rw[W]at c3;have f3:=ze h.store 3;clear x h z F N W;go_enter func72,ntmps72;go_wp2_with fail;go_quiet ((go_at_call 116;exact YT (P _)));go_wp2_with fail;obtain⟨wq,y⟩:=Ww (w.drewN nq);have a1:Ha (Below w.heap.size w wq):=by unfold Ha;rw[y.o];exact XA (xm _ _) nq
  have b9:Ha (wq.heap.size=w.heap.size):=by unfold Ha;rw[y.o];rfl
  rw[<-y.o];clear y n0 n1 P;go_loopw [6,7] (λlv ii wr=>∃k:Nat,k<=rj.length/\ii=.int .i64 k/\wr.ownsRow w.heap.size 181 2 lv (gC rj r k).length (zl (gC rj r k))/\Below w.heap.size w wr) (λ_ ii _=>rj.length-(intOf ii).toNat)
  case atStart=>exact⟨0,by omega,rfl,by unfold gC;simp[zl];exact Xx _ _ _ _,a1⟩
  obtain⟨k,hk,rfl,c,f⟩:=hrel;obtain⟨la,lc,a8⟩:=zj c;subst a8;have T:=Lc rj r k;have c6:wr.cell? ⟨R,3,none⟩=some (.slice ra rj.length X):=(f.cell (by exact j)).trans c3;by_cases A:k<rj.length
  ·obtain⟨G,hG,B,d⟩:=i (by omega);subst hG;obtain⟨k1,k2⟩:=d k A;have g1:=(f.cell (p:=⟨G,k*2,none⟩) B).trans k1;have g2:=(f.cell (p:=⟨G,k*2+1,none⟩) B).trans k2;have C:=zb c;have H:=zb f;have b6:w.heap.size<=wr.heap.size:=f.size;by_cases s:k=r
   ·have a9:((k:Int) != (r:Int))=false:=by rw[s];simp
    have HE:=zb (Oh A s);clear d i c f s k1 k2;go_wp2_with fail;go_roundw
    case rel=>exact⟨k+1,by omega,by go_num,by rw[HE.o];exact C,H⟩
    simp[intOf];omega
   have a9:((k:Int) != (r:Int))=true:=by rw[Yh];omega
   have HE:=zb (Oi A s);obtain⟨px,J⟩:=Ww ((rj.getD k (0,0)).1);obtain⟨py,K⟩:=Ww ((rj.getD k (0,0)).2);rw[<-J.o]at g1;rw[<-K.o]at g2;obtain⟨rl,D⟩:=Ww ((gC rj r k).length);rw[<-D.o]at C T;rw[<-D.o];clear d i c f s k1 k2;go_wp2_with (at_builtin;refine Xr _ rfl _ _ 40 rfl w.heap.size 181 ip (.agg #[.int .i64 0,.int .i64 0]) 2 16 yG a7 b2 b3 b4 rfl (by decide) _ rl (zl (gC rj r k)) rfl (C.alloc _) ⟨wr.heap.size,0,none⟩ 1 1 [.int .i64 px,.int .i64 py] rfl rfl ?c1 ?c2 ?c3 ?c4 ?c5 ?_)
   case c1=>exact Yt _ _ _ _
   case c2=>intro u hu;simp at hu;rcases hu with rfl|rfl<;>rfl
   case c3=>unfold maxLen;omega
   case c4=>omega
   case c5=>simp;omega
   intro b7 w6 t l b0;have S:Below w.heap.size w w6:=(H.alloc b6 _).grown l (by simp;omega) (λq hq=>(C.lt q hq).1);have a3:Ha (w6.ownsRow w.heap.size 181 2 b7 (gC rj r (k+1)).length (zl (gC rj r (k+1)))):=by
    unfold Ha;rw[HE.o,jS,xc,Xw,<-D.o,<-J.o,<-K.o];exact t
   have a2:=zb S;clear t l b0 S;go_wp2_with fail;go_roundw
   case rel=>exact⟨k+1,by omega,by go_num,a3,a2⟩
   simp[intOf];omega
  obtain rfl:k=rj.length:=by omega
  rw[M.o]at c;rw[M.o];have c8:=xl j f.size;have c7:=(f.frozen (p:=⟨R,3,none⟩) j).trans f3;have b8:=zb (HP.below f);have H:=zb f;have C:=zb c;clear i A c f T;have E:∀g,(Value.slice la (rj.erase (a,m)).length lc).ownBlock=some g->ro.rv.ownBlock=some g\/w.heap.size<=g:=λg hg=>Or.inr (C.lt g hg).1
  have a6:=zb (HP.recl (w1:=wr) (w2:=wr) (λk hk=>H.block k hk) H.size ⟨rfl,rfl,rfl,xe _,λ_ _ _=>rfl⟩ (aK C) E a5);have a4:=zb (Io E);have HK:Ha (Kp (λb=>b=R) w (wr.setCell ⟨R,3,none⟩ (.slice la (rj.erase (a,m)).length lc))):=Kp.setCell (Z:=λb=>b=R) (Wo H) (p:=⟨R,3,none⟩) (Or.inl rfl) _;clear E;go_wp2_with fail;go_ret;exact⟨HK,rfl,_,a6,a4⟩
def DJ(h:RV os rj ro w R v td rec fs ls)(z t:Nat)(a m:Nat)(B:NS w z [a,m])(D:a<=2147483647)(J:m<=2147483647)(c:zC rj ls a m≠0):Calls prog 71 #[.pointer (some ⟨R,0,none⟩),.slice (some ⟨z,0,none⟩) 2 t] w λe w'=>Below w.heap.size w w'/\e=.returned (.tuple #[.slice none 0 0,.int .i64 (zC rj ls a m:Int)]):=by
 obtain⟨⟨H,f⟩,d⟩:=B;have K:w.cell? ⟨z,0,none⟩=some (.int .i64 a):=d 0 (by simp);have M:w.cell? ⟨z,1,none⟩=some (.int .i64 m):=d 1 (by simp);have F:=zc f;have l:=zb (cF h a D);have y:Ha (∀n,Calls prog 116 #[.pointer (some ⟨R,0,none⟩),.int .i64 a,.int .i64 m] (w.drewN n) λe w'=>e=.returned (.int .i64 (yR rj a m))/\w'=w.drewN n):=λn=>gB (h.below (XA (xm _ _) n)) a m
 by_cases k:Wj a ls<ls.length
 ·have b:Ha (VF ls a=(Wj a ls:Int)):=by unfold Ha VF;rw[xh k]
  rw[b.o]at l;have A:Ha (rj.contains (a,m)=true->zC rj ls a m=5):=λq=>by unfold zC;rw[xh k,q];rfl
  have p:Ha (rj.contains (a,m)=false->10<=rj.length/\zC rj ls a m=6):=λq=>by
   unfold zC at c ⊢;rw[xh k,q]at c ⊢;by_cases j:10<=rj.length
   ·exact⟨j,by rw[xh j];rfl⟩
   rw[xg j]at c;simp at c
  clear c;generalize zC rj ls a m=rcc at *;generalize Wj a ls=ix at *
  cases i:rj.contains (a,m) with
  |true=>
   have g:Ha (rcc=5):=A.o i;have x:WH rj a m<rj.length:=lX.2 i;have s:Ha (yR rj a m=(WH rj a m:Int)):=by unfold Ha yR;rw[xh x]
   rw[s.o]at y;rw[g.o];generalize WH rj a m=r at *;clear i h d f s b g x;go_enter func71,ntmps71;go_wp2_with (go_at_call 111;refine l.mono ?_;rintro e w1 ⟨rfl,rfl⟩);go_quiet ((go_at_call 116;exact YT (y _)));go_wp2_with fail;go_ret2;exact⟨XA (xm _ _) nq,rfl⟩
  |false=>
   have E:10<=rj.length:=(p i).1;have g:Ha (rcc=6):=(p i).2;have s:Ha (yR rj a m=-1):=by unfold Ha yR;rw[xg (λq=>by rw[lX.1 q]at i;cases i)]
   rw[s.o]at y;rw[g.o];have c3:=h.c3;obtain⟨N,C,u,_⟩:=h.rshape;rw[u]at c3;have G:=h.rc.len;clear i h d f s b g u;go_enter func71,ntmps71;go_wp2_with (go_at_call 111;refine l.mono ?_;rintro e w1 ⟨rfl,rfl⟩);go_quiet ((go_at_call 116;exact YT (y _)));go_wp2_with fail;go_ret2;exact⟨XA (xm _ _) nq,rfl⟩
 have b:Ha (VF ls a=-1):=by unfold Ha VF;rw[xg k]
 rw[b.o]at l;have g:Ha (zC rj ls a m=4):=by unfold Ha zC;rw[xg k]
 rw[g.o];clear h d f b c g k;go_enter func71,ntmps71;go_wp2_with (go_at_call 111;refine l.mono ?_;rintro e w1 ⟨rfl,rfl⟩);go_ret2;exact⟨xm _ _,rfl⟩
structure Ub(w6 w8:World)(os:List O)(rj:List (Nat×Nat))(ro:Ro)(R:Nat)(v:Value)(td:Nat)(rec:ByteArray)(fs:List Value)(ls:List L)(s:List Nat)(sg sc:Nat)(wr:World)(k g oc:Nat):Prop where
 rv:RV os rj ro wr R v td rec fs ls
 row:wr.ownsRow 0 3 1 (.slice (some ⟨sg,0,none⟩) s.length sc) s.length (I s)
 owt:wr.ownsRow w6.heap.size 3 1 (.slice (some ⟨g,0,none⟩) (1+(hN ls (s.take k)).length*2) oc) (1+(hN ls (s.take k)).length*2) (I ((hN ls (s.take k)).length::tN ls (hN ls (s.take k))))
 at':g=w6.heap.size\/w8.heap.size<=g
 below:Below w6.heap.size w6 wr
 sz:w8.heap.size<=wr.heap.size
def DK(h:RV os rj ro w R v td rec fs ls)(B i4:Nat)(a m:Nat)(m4:NS w B [a,m])(h1:a<=2147483647)(h2:m<=2147483647)(hi:Wj a ls<ls.length)(hc:rj.contains (a,m)=false)(f5:¬10<=rj.length):Calls prog 71 #[.pointer (some ⟨R,0,none⟩),.slice (some ⟨B,0,none⟩) 2 i4] w λe w'=>Kp (λb=>b=R\/ro.rv.ownBlock=some b) w w'/\(∃A,RV os (rj++[(a,m)]) A w' R v td rec fs ls/\∀b,OB A b->OB ro b\/w.heap.size<=b)/\∃g c,e=.returned (.tuple #[.slice (some ⟨g,0,none⟩) (zA ls (ZK ls a)).length c,.int .i64 0])/\g≠R/\Rw w' g (zA ls (ZK ls a)):=by
 obtain⟨i3,m1,n5,n6,n7⟩:=XT Gq;obtain⟨ip,m2,m5,m6,m7⟩:=XT wV;obtain⟨⟨cs,g1⟩,a4⟩:=m4;have n0:w.cell? ⟨B,0,none⟩=some (.int .i64 a):=a4 0 (by simp);have n1:w.cell? ⟨B,1,none⟩=some (.int .i64 m):=a4 1 (by simp);have a5:=zc g1;have HA:=zb (cF h a h1);have HX:Ha (∀n,Calls prog 116 #[.pointer (some ⟨R,0,none⟩),.int .i64 a,.int .i64 m] (w.drewN n) λe w'=>e=.returned (.int .i64 (yR rj a m))/\w'=w.drewN n):=λn=>gB (h.below (XA (xm _ _) n)) a m
 have i2:Ha (VF ls a=(Wj a ls:Int)):=by unfold Ha VF;rw[xh hi]
 rw[i2.o]at HA;have HV:Ha (yR rj a m=-1):=by unfold Ha yR;rw[xg (λq=>by rw[lX.1 q]at hc;cases hc)]
 rw[HV.o]at HX;have HI:=zb hi;have k7:=zb (h.rc.put h1 h2 hc f5);have h4:=zb g1;obtain⟨ix,k3⟩:=Ww (Wj a ls);rw[<-k3.o]at HA;obtain⟨ra,H,c9,_⟩:=h.rshape;have c3:=h.c3;rw[c9]at c3;have P:=h.ord.fd.rrow;rw[c9]at P;have h8:=zb c9;have f3:=ze h.store 3;have a8:=zc h.store;have HP:=zb h;obtain⟨M,f0⟩:=Ww rj.length;rw[<-f0.o]at c3 f5 P;have o2:M<10:=by omega
 have m9:(Value.slice ra M H).ownBlock≠some R:=eA P h.store (by decide);clear h a4 g1 HV i2 hc hi c9 f5;go_enter func71,ntmps71;go_wp2_with (go_at_call 111;refine HA.mono ?_;rintro e w1 ⟨rfl,rfl⟩);go_quiet ((go_at_call 116;exact YT (HX _)));go_wp2_with fail;obtain⟨wq,c6⟩:=Ww (w1.drewN nq);have C:Ha (Below w1.heap.size w1 wq):=by unfold Ha;rw[c6.o];exact XA (xm _ _) nq
 have c5:Ha (wq.heap.size=w1.heap.size):=by unfold Ha;rw[c6.o];rfl
 have K:=zg P C;have x0:=(C.cell (p:=⟨B,0,none⟩) a5).trans n0;have x1:=(C.cell (p:=⟨B,1,none⟩) a5).trans n1;have x3:=(C.cell (p:=⟨R,3,none⟩) a8).trans c3;have xf:=(C.frozen (p:=⟨R,3,none⟩) a8).trans f3;have f7:R<wq.heap.size:=by rw[c5.o];exact a8
 have m0:B<wq.heap.size:=by rw[c5.o];exact a5
 have k6:=zb (HP.below C);rw[<-c6.o];clear c6 n0 n1 c3 f3 HX HA P;have l:Below wq.heap.size wq (wq.alloc (.cells #[.int .i64 a,.int .i64 m] 181)).drew:=(VE wq _).drew;have a3:(wq.alloc (.cells #[.int .i64 a,.int .i64 m] 181)).drew.heap[wq.heap.size]?=some (.cells #[.int .i64 a,.int .i64 m] 181 (0,0)):=xp wq _;have F:∀u∈([.int .i64 a,.int .i64 m]:List Value),u.oneCell'=true:=by
  intro u hu;simp at hu;rcases hu with rfl|rfl<;>rfl
 have g0:(wq.alloc (.cells #[.int .i64 a,.int .i64 m] 181)).drew.cell? ⟨R,3,none⟩=some (.slice ra M H):=(l.cell (by exact f7)).trans x3;have g3:(wq.alloc (.cells #[.int .i64 a,.int .i64 m] 181)).drew.frozen? ⟨R,3,none⟩=false:=(l.frozen (by exact f7)).trans xf;have a7:Ha (R<(wq.alloc (.cells #[.int .i64 a,.int .i64 m] 181)).drew.heap.size):=xl f7 l.size;have f4:=zb (Yl m9);have Q:=zb l;have T:=zg K l;have a1:(Value.slice ra M H).ownBlock=ro.rv.ownBlock:=by rw[h8.o,f0.o]
 have e7:Ha (∀(g2 cap2:Nat) (w5:World),(wq.alloc (.cells #[.int .i64 a,.int .i64 m] 181)).drew.grownBy w5 (Value.slice ra M H).ownBlock->w5.ownsRow 0 181 2 (.slice (some ⟨g2,0,none⟩) (M+1) cap2) (M+1) (zl rj++[.int .i64 a,.int .i64 m])->((Value.slice ra M H).ownBlock=some g2\/g2=wq.heap.size+1) ->
   RV os (rj++[(a,m)]) { ro with rv:=.slice (some ⟨g2,0,none⟩) (M+1) cap2 } (w5.setCell ⟨R,3,none⟩ (.slice (some ⟨g2,0,none⟩) (M+1) cap2)) R v td rec fs ls/\(∀b,OB { ro with rv:=.slice (some ⟨g2,0,none⟩) (M+1) cap2 } b->OB ro b\/w1.heap.size<=b)/\Kp (λb=>b=R\/ro.rv.ownBlock=some b) w1 (w5.setCell ⟨R,3,none⟩ (.slice (some ⟨g2,0,none⟩) (M+1) cap2))/\B<(w5.setCell ⟨R,3,none⟩ (.slice (some ⟨g2,0,none⟩) (M+1) cap2)).heap.size/\(w5.setCell ⟨R,3,none⟩ (.slice (some ⟨g2,0,none⟩) (M+1) cap2)).cell? ⟨B,0,none⟩=some (.int .i64 a)):=λg2 cap2 w5 d r S=>by
  have d4:∀g,(Value.slice (some ⟨g2,0,none⟩) (M+1) cap2).ownBlock=some g->ro.rv.ownBlock=some g\/wq.heap.size<=g:=λg hg=>by
   cases hg;rcases S with q|q
   ·left;rw[<-a1];exact q
   right;show wq.heap.size<=g2;omega
  have j3:w5.heap[B]?=w1.heap[B]?:=by
   rw[d.block B (by have:=l.size;omega) (λe=>by
    obtain⟨i5,a9⟩:=zh K e.symm;exact zt ((C.block B a5).trans h4) a9 (by decide) rfl),l.block B m0,C.block B a5]
  have l9:B≠R:=zt h4 HP.store (by decide);refine⟨k6.recl (λk hk=>l.block k hk) l.size (by rw[<-a1];exact d) (by rw[jS,xc,Xw,<-f0.o];exact r) d4 k7,λb D=>?_,?_,?_,?_⟩
  ·rcases Io d4 b D with q|q
   ·exact Or.inl q
   right;rw[c5.o]at q;exact q
  ·refine Kp.setCell (Z:=λb=>b=R\/ro.rv.ownBlock=some b) ?_ (p:=⟨R,3,none⟩) (Or.inl (Or.inl rfl)) _
   refine Kp.grown (Wo (C.trans (l.mono (by rw[c5.o];exact xe _)))) d (λk hk=>Or.inl (Or.inr (by rw[<-a1];exact hk)))
  ·have o3:=d.size;have o4:=l.size;simp[World.setCell];omega
  have hq:(w5.setCell ⟨R,3,none⟩ (.slice (some ⟨g2,0,none⟩) (M+1) cap2)).heap[B]?=w1.heap[B]?:=by rw[xd _ _ _ _ l9];exact j3
  exact(xo (a:=⟨B,0,none⟩) hq).trans ((C.cell (p:=⟨B,0,none⟩) a5).symm.trans x0)
 go_cut [] from 12 (λy=>∃A,RV os (rj++[(a,m)]) A y R v td rec fs ls/\(∀b,OB A b->OB ro b\/w1.heap.size<=b)/\Kp (λb=>b=R\/ro.rv.ownBlock=some b) w1 y/\B<y.heap.size/\y.cell? ⟨B,0,none⟩=some (.int .i64 a))
 case first=>
  go_region_law (refine YG _ (by rfl) _ _ _ (by rfl) 0 181 ip (.agg #[.int .i64 0,.int .i64 0]) 2 16 yG m2 m5 m6 m7 rfl (by decide) (.slice ra M H) M (zl rj) (by rfl) T ⟨wq.heap.size,0,none⟩ 1 1 [.int .i64 a,.int .i64 m] (by rfl) (by rfl) (yr a3) F (by decide) (by unfold maxLen;omega) (by omega) (Nat.zero_le _) (wq.heap.size+1) (by simp) ?_;intro g2 cap2 w5 r d S b1;have l6:=(d.cell_far ⟨R,3,none⟩ a7 f4).trans g0;have l8:=(d.frozen_far ⟨R,3,none⟩ a7 f4).trans g3)
  all_goals
   have k0:=zb (e7 g2 cap2 w5 d r S);clear r d S b1 l6 l8 g0 g3 x0 x1 x3 xf l a3 F T K e7;go_wp2_with fail;go_meet
   case rel=>exact⟨_,k0⟩
 case rest=>
  obtain⟨A,e0,d8,d6,n9,y0⟩:=hcut;obtain⟨y,rfl⟩:∃y,y=wc:=⟨wc,rfl⟩
  have N:=zb e0;have h5:=zb d8;have d3:=zb d6;clear e0 d8 d6 x0 x1 x3 xf l a3 F T K e7 g0 g3 a7 f4 Q a1;have f6:Below y.heap.size y (y.alloc (.cells #[.int .i64 0] 3)):=VE y _;have h3:=zb (Al (N.below f6) a h1);have a6:Ha ((y.alloc (.cells #[.int .i64 0] 3)).ownsRow y.heap.size 3 1 (.slice (some ⟨y.heap.size,0,none⟩) 1 1) 1 (I [0])):=Yb y #[.int .i64 0] 1 (xe _) (by unfold maxLen;omega) rfl;have b8:=zb f6;have h0:Ha ((kJ ls a).length<=31):=by
   have q1:=MJ ls a;have q2:=N.room;unfold Ha;omega
  have g9:Ha (∀n∈kJ ls a,n<=2147483647):=λn hn=>by
   obtain⟨q1,q2⟩:=jC HI hn;have:=(N.ok _ (zf q1)).id;rw[q2]at this;exact this
  clear f6;go_wp2_with (first
   |(go_at_call 118;refine h3.mono ?_;rintro e w7 ⟨i8,v7,rfl,b4⟩;have a2:=zb i8;have h9:=zb (Hi b4 h0 (FV ls a) g9);clear i8 b4)
   |(go_at_call 117;refine h9.mono ?_;rintro e w8 ⟨f9,v8,s,rfl,J,e3,W⟩))
  have g5:0<s.length:=by
   rw[J.length_eq];have:=Cz ls [a] ls.length (xe _);rw[Xs]at this;unfold kJ;exact this
  obtain⟨sg,sc,n3,j8,b6⟩:=zG W g5;subst n3;have l4:y.heap.size+1<=w7.heap.size:=by have:=a2.size;simp at this;exact this
  have X:Below y.heap.size y w8:=b8.trans ((a2.mono b8.size).trans (f9.mono (xj b8.size a2.size)));have d2:Ha (Ub y w8 os (rj++[(a,m)]) A R v td rec fs ls s sg sc w8 0 y.heap.size 1):=⟨N.below X,aK W,zg a6 (a2.trans (f9.mono a2.size)),Or.inl rfl,X,xe _⟩
  have h7:=zb J;have l1:=zb e3;have l0:Ha (s.length<=31):=by unfold Ha;rw[J.length_eq];exact h0
  have n2:s.length<=31:=l0.o;have j7:=X.size;have f1:Ha (y.heap.size<sg/\sg<w8.heap.size):=⟨by omega,b6⟩
  have c7:0<ls.length:=by have:=HI.o;omega
  clear J e3 W f9 X j8 l4 h9 a2 h3 a6 b8 y0 b6 j7;go_loopw [8,10,11] (λoo ii _ wr=>∃(k g c:Nat),ii=.int .i64 k/\k<=s.length/\oo=.slice (some ⟨g,0,none⟩) (1+(hN ls (s.take k)).length*2) c/\Ub y w8 os (rj++[(a,m)]) A R v td rec fs ls s sg sc wr k g c) (λ_ ii _ _=>s.length-(intOf ii).toNat)
  case atStart=>exact⟨0,y.heap.size,1,rfl,by omega,rfl,d2⟩
  clear d2;obtain⟨k,g,oc,rfl,hk,rfl,hI⟩:=hrel;have m8:(hN ls (s.take k)).length<=31:=by
   have q1:=SQ ls (s.take k);rw[XL]at q1;omega
  by_cases b0:k<s.length
  ·have b2:s.getD k 0∈kJ ls a:=h7.mem_iff.1 (by simp[Wc,b0]);obtain⟨hc,i9⟩:=jC HI b2;have j0:=ZB hI.row k b0;have n4:=g9.o _ b2;have e5:=zb (cF hI.rv (s.getD k 0) n4);have d5:VF ls (s.getD k 0)=(Wj (s.getD k 0) ls:Int):=by unfold VF;rw[xh hc]
   rw[d5]at e5;obtain⟨va,j9,hv,a0⟩:=hI.rv.shape;obtain⟨G,hG,n8,a4⟩:=a0 c7;subst hG;have cR:=hI.rv.c1;rw[hv]at cR;have e6:wr.cell? ⟨G,Wj (s.getD k 0) ls*11+6,none⟩=some (.int .i64 (bD ls (s.getD k 0):Int)):=a4 _ hc 6 (by omega);have j6:=hI.rv.ok _ (zf hc);have o1:bD ls (s.getD k 0)<=2147483647:=by have:=j6.sum;unfold bD;omega
   have e9:Ha (0<bD ls (s.getD k 0)->hN ls (s.take (k+1))=hN ls (s.take k)++[s.getD k 0]/\tN ls (hN ls (s.take (k+1)))=tN ls (hN ls (s.take k))++[s.getD k 0,bD ls (s.getD k 0)]):=λhp=>by
    have e:=Jl (ls:=ls) b0;rw[xh hp]at e;exact⟨e,by rw[e,LG]⟩
   have e8:Ha (¬0<bD ls (s.getD k 0)->hN ls (s.take (k+1))=hN ls (s.take k)):=λhp=>by
    rw[Jl (ls:=ls) b0,xg hp]
   generalize bD ls (s.getD k 0)=hd at *;generalize hx:s.getD k 0=x at *;generalize Wj x ls=c at *;have i:=zb hI;have l2:=zb hv;clear hx b2 i9 d5 a0 a4 j6 hI hv;by_cases d9:0<hd
   ·obtain⟨HN,HT⟩:Ha (hN ls (s.take (k+1))=hN ls (s.take k)++[x])/\Ha (tN ls (hN ls (s.take (k+1)))=tN ls (hN ls (s.take k))++[x,hd]):=e9.o d9;obtain⟨z,b9⟩:=Ww ((hN ls (s.take k)).length);rw[<-b9.o]at m8;rw[<-b9.o];have f:=i.owt;rw[<-b9.o]at f;have l5:wr.cell? ⟨g,0,none⟩=some (.int .i64 z):=by rw[f.cellAt 0 (by omega)];rfl
    have l7:=f.frozenAt 0;have j2:=(f.lt g rfl).1;have HO:=zb f;clear e9 e8 f;go_wp2_with (go_at_call 111;with_reducible refine(e5.o).mono ?_;rintro e w3 ⟨rfl,g6⟩;have g7:=g6.symm;subst g7);have g4:¬sg=g:=by
     have q1:=f1.o;rcases i.at' with q|q<;>omega
    have E:∀b,b≠g->(wr.setCell ⟨g,0,none⟩ (.int .i64 ((z:Int)+1))).heap[b]?=wr.heap[b]?:=λb D=>xd _ _ _ _ D
    have d0:∀(b:Nat) (cs:Array Value) (t:TypeId),wr.heap[b]?=some (.cells cs t (0,0))->t≠3->b≠g:=λb cs t D ht=>by
     obtain⟨i5,a9⟩:=zh HO (g:=g) rfl;exact zt D a9 ht
    have k8:Ha (RV os (rj++[(a,m)]) A (wr.setCell ⟨g,0,none⟩ (.int .i64 ((z:Int)+1))) R v td rec fs ls):=i.rv.typed (λb cs t D ht=>E b (d0 b cs t D ht));have l3:Ha ((wr.setCell ⟨g,0,none⟩ (.int .i64 ((z:Int)+1))).ownsRow 0 3 1 (.slice (some ⟨sg,0,none⟩) s.length sc) s.length (I s)):=zd i.row (λb D=>E b (by cases D;exact g4));have h6:Ha ((wr.setCell ⟨g,0,none⟩ (.int .i64 ((z:Int)+1))).ownsRow y.heap.size 3 1 (.slice (some ⟨g,0,none⟩) (1+z*2) oc) (1+z*2) (I ((z+1)::tN ls (hN ls (s.take k))))):=(HO.stored 0 (.int .i64 ((z:Int)+1))).1;have g8:Ha (Below y.heap.size y (wr.setCell ⟨g,0,none⟩ (.int .i64 ((z:Int)+1)))):=i.below.setCell (p:=⟨g,0,none⟩) j2 _;have f2:Ha (w8.heap.size<=(wr.setCell ⟨g,0,none⟩ (.int .i64 ((z:Int)+1))).heap.size):=by have:=i.sz;unfold Ha;simp;exact this
    have i7:¬R=g:=d0 _ _ _ i.rv.store (by decide);have i6:¬G=g:=by
     have b5:=i.rv.row;rw[l2.o]at b5;obtain⟨o0,j1⟩:=zh b5 rfl;exact d0 _ _ _ j1 (by decide)
    have z1:(wr.setCell ⟨g,0,none⟩ (.int .i64 ((z:Int)+1))).cell? ⟨sg,k,none⟩=some (.int .i64 x):=(xo (a:=⟨sg,k,none⟩) (E _ g4)).trans j0;have z2:(wr.setCell ⟨g,0,none⟩ (.int .i64 ((z:Int)+1))).cell? ⟨R,1,none⟩=some (.slice (some ⟨G,0,none⟩) ls.length j9):=(xo (a:=⟨R,1,none⟩) (E _ i7)).trans cR;have z3:(wr.setCell ⟨g,0,none⟩ (.int .i64 ((z:Int)+1))).cell? ⟨G,c*11+6,none⟩=some (.int .i64 hd):=(xo (a:=⟨G,c*11+6,none⟩) (E _ i6)).trans e6;have d1:=zb i.at';clear E d0 j0 cR e6 l5 l7 i HO g4 i7 i6;generalize wr.setCell ⟨g,0,none⟩ (.int .i64 ((z:Int)+1))=wt at *;have e4:y.heap.size<=wt.heap.size:=g8.size;have l:Below wt.heap.size wt (wt.alloc (.cells #[.int .i64 x,.int .i64 hd] 3)).drew:=(VE wt _).drew;have a3:(wt.alloc (.cells #[.int .i64 x,.int .i64 hd] 3)).drew.heap[wt.heap.size]?=some (.cells #[.int .i64 x,.int .i64 hd] 3 (0,0)):=xp wt _;have F:∀u∈([.int .i64 x,.int .i64 hd]:List Value),u.oneCell'=true:=by
     intro u hu;simp at hu;rcases hu with rfl|rfl<;>rfl
    have b3:=zg h6 l;have Q:=zb l;go_region_law (refine YG _ (by rfl) _ _ _ (by rfl) y.heap.size 3 i3 (.int .i64 0) 1 8 Pv m1 n5 n6 n7 rfl (by decide) (.slice (some ⟨g,0,none⟩) (1+z*2) oc) (1+z*2) (I ((z+1)::tN ls (hN ls (s.take k)))) (by rfl) b3 ⟨wt.heap.size,0,none⟩ 2 2 [.int .i64 x,.int .i64 hd] (by rfl) (by rfl) (yr a3) F (by decide) (by unfold maxLen;omega) (by omega) (by simp;omega) (wt.heap.size+1) (by simp) ?_;intro g2 cap2 w5 r d S b1)
    all_goals
     have c8:(hN ls (s.take (k+1))).length=z+1:=by rw[HN.o,xc,Xw,<-b9.o]
     have e1:I ((z+1)::tN ls (hN ls (s.take k)))++[.int .i64 x,.int .i64 hd]=I ((hN ls (s.take (k+1))).length::tN ls (hN ls (s.take (k+1)))):=by rw[c8,HT.o];simp[I]
     rw[e1]at r;have f8:∀b,b<wt.heap.size->b≠g->w5.heap[b]?=wt.heap[b]?:=λb D m3=>(d.block b (xl D Q.size) (λe=>m3 (by injection e))).trans (Q.block b D)
     have d7:∀(b:Nat) (cs:Array Value) (t:TypeId),wt.heap[b]?=some (.cells cs t (0,0))->t≠3->w5.heap[b]?=wt.heap[b]?:=λb cs t D ht=>f8 b (zc D) (by
      obtain⟨i5,a9⟩:=zh h6 (g:=g) rfl;exact zt D a9 ht)
     have b7:sg≠g:=by
      have q1:=f1.o;rcases d1 with q|q<;>omega
     have e2:sg<wt.heap.size:=xl f1.2 f2;have k2:Ha (Ub y w8 os (rj++[(a,m)]) A R v td rec fs ls s sg sc w5 (k+1) g2 cap2):=by
      refine⟨k8.typed d7,zd l3 (λb D=>by cases D;exact f8 sg e2 b7),?_,?_,?_,?_⟩
      ·rw[show 1+(hN ls (s.take (k+1))).length*2=1+z*2+2 by rw[c8];omega];exact r
      ·rcases S with q|q
       ·injection q with q;rw[<-q];exact d1
       right;have:=f2.o;omega
      ·exact(g8.trans (Q.mono e4)).grown d (xj e4 Q.size) (λb D=>by injection D with D;rw[<-D];exact j2)
      exact xj f2 (xj Q.size d.size)
     have k5:=zb c8;clear c8 e1 r d S b1 f8 d7 b7 e2 l a3 F b3 z1 z2 z3;go_wp2_with fail;go_roundw
     case rel=>exact⟨k+1,g2,cap2,by go_num,by omega,by rw[k5.o,show 1+(z+1)*2=1+z*2+2 by omega],k2⟩
     simp[intOf];omega
   have HN:=zb (e8 d9);clear e9 e8;go_wp2_with (go_at_call 111;with_reducible refine(e5.o).mono ?_;rintro e w3 ⟨rfl,g6⟩;have g7:=g6.symm;subst g7);go_roundw
   case rel=>exact⟨k+1,g,oc,by go_num,by omega,by rw[HN.o],⟨i.rv,i.row,by rw[HN.o];exact i.owt,i.at',i.below,i.sz⟩⟩
   simp[intOf];omega
  obtain rfl:k=s.length:=by omega
  have i:=zb hI;have f:=hI.owt;rw[Xs]at f;have i0:=zb (Jw N.fam.ids HI h7 l1);have i1:Ha ((zA ls (ZK ls a)).length=1+(hN ls (s.take s.length)).length*2):=by
   unfold Ha;rw[<-i0.o,Xs,List.length_cons,Pt];omega
  have k9:Ha (Rw wr g (zA ls (ZK ls a))):=by
   have j5:=(f.lt g rfl).2;rw[i0.o]at f;have j4:=i1.o;rw[Xs]at j4;rw[<-j4]at f;exact⟨j5,λj hj=>ZB f j hj⟩
  have k4:Ha (Kp (λb=>b=R\/ro.rv.ownBlock=some b) w1 wr):=d3.after hI.below;have k1:Ha (g≠R):=by
   have q1:=(hI.owt.lt g rfl).1;have q2:=d3.size;unfold Ha;omega
  clear hI f b0;go_wp2_with fail;go_ret2;exact⟨k4,⟨A,i.rv,h5⟩,g,oc,by rw[i1.o];rfl,k1,k9⟩
variable {Z:Nat->Prop}
def BN(h:RI os rj Z w R td rec ls)(l cap a m:Nat)(B:NS w l [a,m])(y:a<=2147483647)(z:m<=2147483647):Calls prog 71 #[.pointer (some ⟨R,0,none⟩),.slice (some ⟨l,0,none⟩) 2 cap] w λe w'=>Kp Z w w'/\RI os (cC rj ls a m) (Zn Z w) w' R td rec ls /\
   ((zC rj ls a m≠0/\e=.returned (.tuple #[.slice none 0 0,.int .i64 (zC rj ls a m:Int)]))\/(zC rj ls a m=0/\∃g c,e=.returned (.tuple #[.slice (some ⟨g,0,none⟩) (zA ls (ZK ls a)).length c,.int .i64 0])/\g≠R/\Rw w' g (zA ls (ZK ls a)))):=by
 obtain⟨v,x,ro,n,p,i,b⟩:=h;by_cases f:zC rj ls a m=0
 ·obtain⟨D,E,F⟩:=mT f;unfold cC;rw[xh f];refine(DK n l cap a m B y z D E F).mono ?_
  rintro e w' ⟨j,⟨u,t,s⟩,g,c,q,r,C⟩;refine⟨j.mono (λk j=>?_),⟨v,x,u,t,Or.inl p,λg d=>Or.inl (i g d),λg d=>(s g d).elim (λh=>Or.inl (b g h)) Or.inr⟩,Or.inr ⟨f,g,c,q,r,C⟩⟩;rcases j with rfl|j
  ·exact p
  exact b k (Or.inr (Or.inr (Or.inl j)))
 unfold cC;rw[xg f];refine(DJ n l cap a m B y z f).mono ?_
 rintro e w' ⟨A,q⟩;exact⟨Wo A,⟨v,x,ro,n.below A,Or.inl p,λg d=>Or.inl (i g d),λg d=>Or.inl (b g d)⟩,Or.inl ⟨f,q⟩⟩
def mJ{Q:Ending->World->Prop}(b cap:Nat)
  (d:Ha (Calls prog 71 #[.pointer (some ⟨R,0,none⟩),.slice (some ⟨b,0,none⟩) 2 cap] w λe w'=>∃a l c n,e=.returned (.tuple #[.slice a l c,.int .i64 n])/\Q e w')) :
  Calls prog 51 #[.pointer (some ⟨R,0,none⟩),.int .i64 8,.slice (some ⟨b,0,none⟩) 2 cap] w Q:=by
 go_enter func51,ntmps51;go_wp2_with (go_at_call 71;refine d.mono ?_;rintro e w1 ⟨a,l,c,n,rfl,f⟩);exact f
def DM(h:RI os rj Z w R td rec ls)(b cap a m:Nat)(x:NS w b [a,m])(r:a<=2147483647)(s:m<=2147483647):Calls prog 72 #[.pointer (some ⟨R,0,none⟩),.slice (some ⟨b,0,none⟩) 2 cap] w λe w'=>Kp Z w w'/\e=.returned (.int .i64 (zW rj a m:Int))/\RI os (Zq rj a m) (Zn Z w) w' R td rec ls:=by
 obtain⟨v,q,ro,t,p,d,c⟩:=h;refine(BO t b cap a m x r s).mono ?_
 rintro e w' ⟨i,u,n,l,j⟩;exact⟨i.mono (λk i=>by rw[i];exact p),u,v,q,n,l,Or.inl p,λg f=>Or.inl (d g f),λg f=>(j g f).elim (λh=>Or.inl (c g h)) Or.inr⟩
def wD(h:RI os rj Z w R td rec ls)(c cap a m:Nat)(f:NS w c [a,m])(g:a<=2147483647)(i:m<=2147483647):Calls prog 51 #[.pointer (some ⟨R,0,none⟩),.int .i64 9,.slice (some ⟨c,0,none⟩) 2 cap] w λe w'=>Kp Z w w'/\e=.returned (.tuple #[.slice none 0 0,.int .i64 (zW rj a m:Int)])/\RI os (Zq rj a m) (Zn Z w) w' R td rec ls:=by
 have b:=zb (DM h c cap a m f g i);generalize Zq rj a m=rs' at b ⊢;generalize zW rj a m=rc at b ⊢;clear h f;go_enter func51,ntmps51;go_wp2_with (go_at_call 72;refine b.mono ?_;rintro e w1 ⟨j,rfl,d⟩);go_ret2;exact⟨j,rfl,d⟩
def Nh(w:World)(R td:Nat)(r:ByteArray)(a5:r.size<=1000000000000000)(ls:List L)(s:ByteArray)(hs:s.size<=4194295)(c:Nat)(a4:c<=10)(K:List Nat)(J:Pl.cmd s.data.toList=.ok (c,K))(rs:List Nat)(y:∀n∈rs,n<9223372036854775808)(a0:rs.length<=100)
  (HD:Ha (∀w1,Below w.heap.size w w1->oP R c K w1 λe w'=>Kp Z w1 w'/\RI os rj (Zn Z w1) w' R td r ls/\∃g B,e=.returned (.tuple #[.slice (some ⟨g,0,none⟩) rs.length B,.int .i64 0])/\g≠R/\Rw w' g rs)) (hZ:Z R) :
  Calls prog 37 #[.pointer (some ⟨R,0,none⟩),.string s] w λe w'=>e=.returned (.string ⟨(0::Pl.toldB rs).toArray⟩)/\Kp Z w w'/\∃t,t=Rt r s/\RI os rj (Zn Z w) w' R td t ls:=by
 have HC:=zb (dW s (by omega) w c K J);generalize hm:K.length=m at HC;have HM:=zb hm;have S:=Pl.toldB_len rs y;have HT:=zb (λ(b B:Nat) (w:World) (T:b<w.heap.size) J=>kG b B rs y (by omega) w T J);obtain⟨rl,A⟩:=Ww rs.length;rw[<-A.o]at HD HT a0 S;clear J hm y;go_enter func37,ntmps37;go_wp2_with fail;refine HC.mono ?_
 rintro e w1 ⟨l,gn,cap,rfl,F⟩;have z:=zb (HD w1 l gn cap F);rw[HM.o]at z;clear F;go_wp2_with fail;refine z.mono ?_
 rintro e w2 ⟨hk,X,g,B,rfl,E,H⟩;have x:=zb H;clear H;go_wp2_with fail;refine(oA s hs w2).mono ?_
 rintro e M ⟨q,f,rfl,hf,D⟩;have N:=zb D;clear D;obtain⟨v,fs,ro,G,a6,a2,a3⟩:=X;have d:=G.below q;have c4:=d.c4;have f4:=ze d.store 4;have i:∀u,Rw (M.setCell ⟨R,4,none⟩ u) g rs:=λu=>by
  have a1:(M.setCell ⟨R,4,none⟩ u).heap[g]?=w2.heap[g]?:=(xd _ _ _ _ E).trans (q.block g x.1);refine⟨xl x.1 (xj q.size (zM M ⟨R,4,none⟩ u).size),λj hj=>(xo (a:=⟨g,j,none⟩) a1).trans (x.2 j hj)⟩
 have Q:=zb (λu=>HT g B (M.setCell ⟨R,4,none⟩ u) (i u).1 (by rw[A.o];exact(i u).2));have P:=zb d;clear G d i E;go_wp2_with fail;refine(Q _).mono ?_
 rintro e w5 ⟨rfl,C⟩;go_wp2_with fail;go_ret;refine⟨gQ (YO [0] (Pl.toldB rs)),?_,r++f,?_,v,fs,ro,(P.recs _).below C,?_,?_,?_⟩
 ·exact((Kp.before l ((hk.after q).mono (λk h=>Or.inl h))).setCell (p:=⟨R,4,none⟩) (Or.inl hZ) _).after C
 ·rw[N.o];rfl
 ·exact Or.inl hZ
 ·intro g W;rcases a2 g W with h|h
  ·exact Or.inl h
  exact Or.inr (xj l.size h)
 intro g W;rcases a3 g W with h|h
 ·exact Or.inl h
 exact Or.inr (xj l.size h)
def Nf(r:Z R)(l:rec.size<=1000000000000000)(s:ByteArray)(y:s.size<=4194295)(c:Nat)(i:c<=10)(n:List Nat)(f:Pl.cmd s.data.toList=.ok (c,n))(rc:Nat)(C:rc<=99)(d:List L)
  (HD:∀w1,Below w.heap.size w w1->oP R c n w1 λe w'=>Kp Z w1 w'/\e=.returned (.tuple #[.slice none 0 0,.int .i64 rc])/\RI os rj (Zn Z w1) w' R td rec d) :
  Calls prog 37 #[.pointer (some ⟨R,0,none⟩),.string s] w λe w'=>e=.returned (.string ⟨[UInt8.ofNat rc].toArray⟩)/\Kp Z w w'/\∃a,RecX rec s a [UInt8.ofNat rc]/\RI os rj (Zn Z w) w' R td a d:=by
 have u:s.size<=4194304:=by omega
 by_cases x:rc=0
 ·subst x;refine(EI (os:=os) (rj:=rj) w R td rec l d s y c i n f (λw1 b p cap t=>?_) r).mono ?_
  ·refine(HD w1 b p cap t).mono ?_
   rintro e w2 ⟨j,m,v⟩;exact⟨m,j,v⟩
  rintro e w' ⟨q,z,a,A,B⟩;exact⟨q,z,a,RecX.yes f (by omega) A y rfl,B⟩
 refine(qF w R s u c n f rc (by omega) (by omega) (λw2=>Kp Z w w2/\RI os rj (Zn Z w) w2 R td rec d) (λw1 b p cap t=>?_)).mono ?_
 ·refine(HD w1 b p cap t).mono ?_
  rintro e w2 ⟨j,m,v⟩;exact⟨m,Kp.before b (j.mono (λk h=>Or.inl h)),v.mono (λk j=>j.elim Or.inl (λh=>Or.inr (xj b.size h)))⟩
 rintro e w' ⟨q,w2,⟨D,m⟩,g⟩;exact⟨q,D.after g,rec,RecX.no1 (dY x (by omega)),m.below g⟩
def Jm(h:RI os rj Z w R td rec ls)(r:rec.size<=1000000000000000)(s:ByteArray)(M:s.size<=4194295)(a m:Nat)(f:Pl.cmd s.data.toList=.ok (8,[a,m]))(P:a<=2147483647)(Q:m<=2147483647):Calls prog 37 #[.pointer (some ⟨R,0,none⟩),.string s] w λe w'=>e=.returned (.string ⟨(cB rj ls a m).toArray⟩)/\Kp Z w w'/\∃c,RecX rec s c (cB rj ls a m)/\RI os (cC rj ls a m) (Zn Z w) w' R td c ls:=by
 have y:Z R:=by obtain⟨v,K,ro,_,F,_⟩:=h;exact F
 have D:s.size<=4194304:=by omega
 have HD:=λ(w1:World) (b:Below w.heap.size w w1) (d cap:Nat) (q:NS w1 d [a,m])=>BN (h.below b) d cap a m q P Q
 by_cases j:zC rj ls a m=0
 ·have z:∀x∈ls,L.Ok x:=by obtain⟨v,K,ro,u,_⟩:=h;exact u.ok
  have A:ls.length<=30:=by obtain⟨v,K,ro,u,_⟩:=h;exact u.room
  have E:=qJ z A a;have t:cB rj ls a m=0::Pl.toldB (zA ls (ZK ls a)):=by unfold cB;rw[xh j]
  rw[t];refine(Nh (os:=os) (rj:=cC rj ls a m) w R td rec r ls s M 8 (by omega) [a,m] f (zA ls (ZK ls a)) E.1 (by omega) (zb (λw1 b d cap q=>?_)) y).mono ?_
  ·refine mJ d cap (zb ((HD w1 b d cap q).mono ?_));rintro e w' ⟨p,i,C⟩;rcases C with ⟨B,_⟩|⟨_,g,N,n,S⟩
   ·exact absurd j B
   exact⟨_,_,_,_,n,p,i,g,N,n,S⟩
  rintro e w' ⟨G,H,c,J,W⟩;exact⟨G,H,c,RecX.yes f (by omega) J M rfl,W⟩
 have T:=uW rj ls a m;have t:cB rj ls a m=[UInt8.ofNat (zC rj ls a m)]:=by unfold cB;rw[xg j]
 rw[t];refine(qF w R s D 8 [a,m] f (zC rj ls a m) (by omega) (by omega) (λw2=>Kp Z w w2/\RI os (cC rj ls a m) (Zn Z w) w2 R td rec ls) (zb (λw1 b d cap q=>?_))).mono ?_
 ·refine mJ d cap (zb ((HD w1 b d cap q).mono ?_));rintro e w' ⟨p,i,C⟩;rcases C with ⟨_,n⟩|⟨F,_⟩
  ·exact⟨_,_,_,_,n,n,Kp.before b (p.mono (λk h=>Or.inl h)),i.mono (λk p=>p.elim Or.inl (λh=>Or.inr (xj b.size h)))⟩
  exact absurd F j
 rintro e w' ⟨G,w2,⟨H,J⟩,l⟩;exact⟨G,H.after l,rec,RecX.no1 (dY j (by omega)),J.below l⟩
def mM(h:RI os rj Z w R td rec ls)(n:Good os ls)(b:rec.size<=1000000000000000)(s:ByteArray)(p:s.size<=4194295):Calls prog 37 #[.pointer (some ⟨R,0,none⟩),.string s] w λe w'=>e=.returned (.string ⟨(zO rj td os ls (Pl.cmd s.data.toList)).1.toArray⟩)/\Kp Z w w'/\∃g,RecX rec s g (zO rj td os ls (Pl.cmd s.data.toList)).1/\RI (zO rj td os ls (Pl.cmd s.data.toList)).2.2.1 (zO rj td os ls (Pl.cmd s.data.toList)).2.2.2.1 (Zn Z w) w' R (zO rj td os ls (Pl.cmd s.data.toList)).2.1 g (zO rj td os ls (Pl.cmd s.data.toList)).2.2.2.2:=by
 have j:Z R:=by obtain⟨v,A,ro,_,z,_⟩:=h;exact z
 rcases lT s.data.toList with f|⟨c,B,l,q,i,t,d,u⟩
 ·rw[Cb f];exact AL h n b s p f
 rw[i];rcases t with rfl|rfl
 ·obtain⟨a,m,rfl⟩:=UE d;have hd:a<=2147483647/\m<=2147483647:=by simp[Pl.mays,Pl.kindsL,Pl.mayB]at q;omega
  exact Jm h b s p a m i hd.1 hd.2
 obtain⟨a,m,rfl⟩:=UF d;have hd:a<=2147483647/\m<=2147483647:=by simp[Pl.mays,Pl.kindsL,Pl.mayB]at q;omega
 have y:=rO rj a m;exact Nf j b s p 9 (by omega) [a,m] i (zW rj a m) (by omega) ls (λw1 k r cap x=>wD (h.below k) r cap a m x hd.1 hd.2)
def RI.bound(h:RI os rj Z w R td rec ls):RI os rj (λk=>Z k/\k<w.heap.size) w R td rec ls:=by
 obtain⟨v,c,ro,b,d,e,f⟩:=h;exact⟨v,c,ro,b,⟨d,zc b.store⟩,λg a=>by obtain⟨j,i⟩:=zh b.row a;exact⟨e g a,zc i⟩,λg a=>⟨f g a,b.ord.lt a⟩⟩
def aQ(w:World):World :=
 (((((((w.alloc (.map #[] 0)).alloc (.map #[] 0)).alloc (.map #[] 0)).alloc (.cells #[.int .i64 0,.slice none 0 0,.map (some w.heap.size),.map (some (w.heap.size+1)),.map (some (w.heap.size+1+1))] 117)).alloc (.cells #[.pointer (some ⟨w.heap.size+1+1+1,0,none⟩),.slice none 0 0] 91)).alloc (.cells #[.int .i64 0,.slice none 0 0,.slice none 0 0,.slice none 0 0,.string ⟨#[]⟩] 42)).alloc (.cells #[.pointer (some ⟨w.heap.size+1+1+1+1,0,none⟩),.pointer (some ⟨w.heap.size+1+1+1+1+1,0,none⟩)] 46))
def QL{s a:ByteArray}{b:List UInt8}(h:RecX rec s a b):Wp rec.data.toList s b=a.data.toList:=by
 rw[h.eq];unfold Wp Tt;split
 ·unfold Rt Mi;simp
 rfl
