import Derived.Test.YtgcedalggnmooaaGreatDoorHlX
set_option linter.all false
set_option maxRecDepth 100000
set_option maxHeartbeats 3200000
namespace Go.Proofs.YtgcedalggnmooaaGreatDoor
open Go.RowKit
open Tryz
def UW(rj:List (Nat×Nat))(a m:Nat):Nat:=rj.findIdx (λp=>p==(a,m))
def yC(rj:List (Nat×Nat))(a m:Nat):Int:=if UW rj a m<rj.length then (UW rj a m:Int) else -1
variable {a base k m:Nat}{rj:List (Nat×Nat)}
theorem lJ:UW rj a m<rj.length↔rj.contains (a,m)=true:=by
 unfold UW;rw[xaB,XG];constructor
 ·rintro⟨x,c,b⟩;rw[yl]at b;rw[<-b];exact c
 intro h;exact⟨_,h,by simp⟩
theorem Qh(c:k<rj.length)(d:∀j,j<k->rj.getD j (0,0)≠(a,m))(b:rj.getD k (0,0)=(a,m)):UW rj a m=k:=by
 unfold UW;rw[xbG c];simp only[Uv,xi c,Xw]at b;refine⟨by rw[b];simp,λj e=>?_⟩;have:=d j e;simp only[Uv,xi (show j<rj.length by omega),Xw]at this;simpa using this
theorem Nc(d:∀j,j<rj.length->rj.getD j (0,0)≠(a,m)):¬UW rj a m<rj.length:=by
 rw[lJ];intro b;rw[XG]at b;obtain⟨j,c,e⟩:=xt b;exact d j c (by rw[Uv,xi c];exact e)
variable {ls:List L}{w:World}
theorem fV{R:Nat}{v:Value}{td:Nat}{u:ByteArray}{D:List Value}{os:List O}{ro:Ro}(h:RV os rj ro w R v td u D ls)(a m:Nat):Calls prog 116 #[.pointer (some ⟨R,0,none⟩),.int .i64 a,.int .i64 m] w λe w'=>e=.returned (.int .i64 (yC rj a m))/\w'=w:=by
 have c3:=h.c3;obtain⟨N,cap,C,d⟩:=h.rshape;rw[C]at c3;have H:=h.rc.len;clear h C;go_enter func116,ntmps116;go_wp2_with fail;go_loop [7] (λt=>∃k:Nat,k<=rj.length/\t=.int .i64 k/\(∀j,j<k->rj.getD j (0,0)≠(a,m))) (λt=>rj.length-(intOf t).toNat)
 case atStart=>exact⟨0,by omega,rfl,λj h=>absurd h (by omega)⟩
 obtain⟨k,M,rfl,g⟩:=hrel;by_cases f:k<rj.length
 ·obtain⟨G,E,B,c⟩:=d (by omega);subst E;obtain⟨J,K⟩:=c k f;have b:Ha (rj.getD k (0,0)=((rj.getD k (0,0)).1,(rj.getD k (0,0)).2)):=rfl;obtain⟨x,z⟩:=UM ((rj.getD k (0,0)).1);obtain⟨y,A⟩:=UM ((rj.getD k (0,0)).2);rw[<-z.o]at J;rw[<-A.o]at K;rw[<-z.o,<-A.o]at b;clear c d;by_cases l:x=a
  ·have r:=aO l;by_cases n:y=m
   ·have s:=aO n;have p:Ha (yC rj a m=(k:Int)):=by
     have:=Qh f g (by rw[b.o,l,n])
     unfold Ha yC;rw[this,xe f]
    clear l n;go_wp2_with fail;go_ret;exact⟨by rw[p.o];rfl,rfl⟩
   have s:=ZG n;have q:Ha (rj.getD k (0,0)≠(a,m)):=by rw[b.o];intro e;exact n (Prod.mk.inj e).2
   clear l n;go_wp2_with fail;go_round
   case rel=>
    refine⟨k+1,by omega,by go_num,?_⟩;intro j F;by_cases i:j=k
    ·subst i;exact q
    exact g j (by omega)
   simp[intOf];omega
  have r:=ZG l;have q:Ha (rj.getD k (0,0)≠(a,m)):=by rw[b.o];intro e;exact l (Prod.mk.inj e).1
  clear l;go_wp2_with fail;go_round
  case rel=>
   refine⟨k+1,by omega,by go_num,?_⟩;intro j F;by_cases i:j=k
   ·subst i;exact q
   exact g j (by omega)
  simp[intOf];omega
 obtain rfl:k=rj.length:=by omega
 have p:Ha (yC rj a m=-1):=by unfold Ha yC;rw[xg (Nc g)]
 clear d f;go_wp2_with fail;go_ret;exact⟨by rw[p.o];rfl,rfl⟩
variable {ns out:List Nat}
theorem IJ{x:Nat}(m:out.Pairwise (·<·))(t:x ∉ out)(u:k<=out.length)(q:∀j,j<k->out.getD j 0<x)(h:k=out.length\/¬out.getD k 0<x):(out.take k++[x]++out.drop k).Pairwise (·<·):=by
 have g:∀a∈out.take k,a<x:=λa c=>by
  obtain⟨j,l,e⟩:=xt c;rw[Xt]at l;have:=q j (by omega);rw[Uv,xi (by omega)]at this;rw[<-e];simpa using this
 have d:∀a∈out.drop k,x<a:=λa c=>by
  rcases h with h|h
  ·rw[h,xbu]at c;simp at c
  obtain⟨j,l,e⟩:=xt c;rw[Xs]at l;rw[List.getElem_drop]at e;have i:k<out.length:=by omega
  rw[Uv,xi i]at h;simp only[Xw]at h;have r:out[k]<=out[k+j]'(by omega):=by
   by_cases p:j=0
   ·subst p;exact xc _
   exact xbE ((Xz.1 m) k (k+j) i (by omega) (by omega))
  have s:out[k+j]'(by omega)≠x:=λn=>t (by rw[<-n];exact yb _)
  rw[<-e];omega
 rw[XL];refine XY.2 ⟨m.sublist (xad _ _),XY.2 ⟨by simp,m.sublist (List.drop_sublist _ _),λa c b f=>?_⟩,λa c b f=>?_⟩
 ·simp at c;subst c;exact d b f
 rcases xw.1 f with f|f
 ·simp at f;subst f;exact g a c
 exact xbF (g a c) (d b f)
theorem nQ{x:Nat}:(out.take k++[x]++out.drop k).Perm (out++[x]):=by
 have a:(out.take k++[x]++out.drop k).Perm (out.take k++out.drop k++[x]):=by
  rw[XL,XL];exact List.Perm.append_left _ (List.perm_append_comm)
 rw[XU]at a;exact a
theorem Sx(a b:List Nat):I (a++b)=I a++I b:=by simp[I]
theorem Oo:∀(a:List Nat),∀u∈I a,u.oneCell'=true:=λa u b=>by
 obtain⟨n,_,rfl⟩:=Xg.1 b;rfl
theorem Ay{g cap:Nat}(h:w.ownsRow base 3 1 (.slice (some ⟨g,0,none⟩) ns.length cap) ns.length (I ns))(k m:Nat)(d:k+m<=ns.length):∀j u,(I ((ns.drop k).take m))[j]?=some u->w.cell? (Addr.add ⟨g,k,none⟩ j)=some u:=λj u b=>by
 have a:j<m:=by
  have:=(xbk.1 b).1
  rw[BL,Xt,Xs]at this;omega
 have c:=ZJ h (k+j) (by omega);have e:Addr.add ⟨g,k,none⟩ j=⟨g,k+j,none⟩:=by simp[Addr.add]
 rw[e,c];rw[<-b];simp[I,xbf,List.getElem?_drop,a,Uv,show k+j<ns.length by omega]
theorem tT{g cap:Nat}(h:w.ownsRow base 3 1 (.slice (some ⟨g,0,none⟩) ns.length cap) ns.length (I ns))(m:Nat)(a:m<=ns.length):∀j u,(I (ns.take m))[j]?=some u->w.cell? (Addr.add ⟨g,0,none⟩ j)=some u:=by
 have:=Ay h 0 m (by omega)
 simpa using this
theorem Gs{v:Value}{l:List Nat}(h:w.ownsRow base 3 1 v l.length (I l))(f5:l.length<=31)(d1:l.Nodup)(c8:∀n∈l,n<=2147483647):Calls prog 117 #[v] w λe w'=>Below w.heap.size w w'/\∃(v':Value) (s:List Nat),e=.returned v'/\s.Perm l/\s.Pairwise (·<·)/\w'.ownsRow w.heap.size 3 1 v' s.length (I s):=by
 obtain⟨i0,hi,P,Q,R⟩:=XH FE;obtain⟨va,vc,hv⟩:=zT h;have hG:0<l.length->∃G,va=some ⟨G,0,none⟩/\G<w.heap.size:=λhp=>by
  obtain⟨g,c,d3,_,W⟩:=zK h hp;rw[hv]at d3;cases d3;exact⟨g,rfl,W⟩
 rw[hv]at h;rw[hv];have HO:=zb h;have d5:=zb d1;have b8:=zb c8;clear h hv d1 c8;go_enter func117,ntmps117;go_wp2_with fail;go_loopw [3,4,5,6] (λov ii _ _ wr=>∃(k:Nat) (out:List Nat),k<=l.length/\ii=.int .i64 k/\out.Perm (l.take k)/\out.Pairwise (·<·)/\wr.ownsRow w.heap.size 3 1 ov out.length (I out)/\Below w.heap.size w wr) (λ_ ii _ _ _=>l.length-(intOf ii).toNat)
 case atStart=>exact⟨0,[],by omega,rfl,by simp,List.Pairwise.nil,Xi _ _ _ _,xh _ _⟩
 obtain⟨k,out,hk,rfl,f,X,D,hb⟩:=hrel;by_cases W:k<l.length
 ·obtain⟨G,d8,b1⟩:=hG (by omega);subst d8;have c5:=(hb.cell (p:=⟨G,k,none⟩) b1).trans (ZJ HO k W);have d2:out.length=k:=by rw[f.length_eq,Xt];omega
  have f6:=zb d2;have e8:out.length<=31:=by omega
  clear d2;have a8:l.getD k 0∈l:=by simp[Uv,W]
  have f1:=b8.o _ a8;have HX:Ha (l.getD k 0 ∉ out):=λhm=>by
   have e5:=f.mem_iff.1 hm;obtain⟨j,hj,e⟩:=xt e5;rw[Xt]at hj;rw[xbl]at e;rw[Uv,xi W]at e;simp only[Xw]at e;have:=(xbv d5).1 e;omega
  have a0:Ha (l.take (k+1)=l.take k++[l.getD k 0]):=by
   unfold Ha;rw[xl W];simp[Uv,W]
  have d6:Ha (∀j,j<out.length->out.getD j 0<=2147483647):=λj hj=>by
   have hm:out.getD j 0∈out:=by simp[Uv,hj]
   exact b8 _ (yt (f.mem_iff.1 hm))
  have m:=zb f;have b0:=zb X;have a5:=zb D;have E:=zb hb;have f0:w.heap.size<=wr.heap.size:=hb.size;obtain⟨x,d7⟩:=UM (l.getD k 0);rw[<-d7.o]at c5 f1 HX a0;rcases D.2 with ⟨b7,e6⟩|⟨g,oc,f7,b7,f9,b3,g0,_⟩
  ·have he:out=[]:=Xn.1 e6;subst he;subst b7;clear D hb f X a8;go_wp2_with fail;refine Yw 1 ?_;rw[YU]
   go_wp2_with fail;go_quiet (fail)
   go_wp2_with (at_builtin;refine Xb _ rfl _ _ 55 rfl (wr.drewN nq).heap.size 3 i0 (.int .i64 0) 1 8 xN hi P Q R rfl (by decide) (.slice none 0 0) 0 [] rfl (Xi _ _ _ _) ⟨(wr.drewN nq).heap.size,0,none⟩ 1 1 [.int .i64 x] rfl rfl ?na1 ?na2 ?na3 ?na4 ?na5 ?_)
   case na1=>exact aY _ _ _
   case na2=>intro u hu;simp at hu;subst hu;rfl
   case na3=>unfold maxLen;omega
   case na4=>omega
   case na5=>simp
   intro n2 w4 C t _;have b9:Below wr.heap.size wr w4:=((Xf (xh _ _) nq).alloc (xc _) _).grown t (by simp) (λq z=>by simp[Value.ownBlock]at z);have H:Ha (Below w.heap.size w w4):=E.trans (b9.mono E.size);have M:Ha (w4.ownsRow w.heap.size 3 1 n2 [x].length (I [x])):=zJ C E.size;have N:Ha ([x].Perm (l.take (k+1))):=by
    have h9:=m.o;unfold Ha;rw[a0.o];exact h9.append_right [x]
   rcases C.2 with ⟨_,a3⟩|⟨g2,c2,f4,a3,_,_,f8,_⟩
   ·omega
   subst a3;clear C t b9;go_wp2_with fail;go_roundw
   case rel=>exact⟨k+1,[x],by omega,by go_num,N,by simp,M,H⟩
   simp[intOf];omega
  subst b7;have c7:g<wr.heap.size:=zc b3;clear D hb f X a8 b3;go_wp2_with fail;obtain⟨wo,rfl⟩:∃wo,wo=wr:=⟨wr,rfl⟩
  go_loopw [5] (λkk w2=>∃(j:Nat),j<=out.length/\kk=.int .i64 j/\(∀i,i<j->out.getD i 0<x)/\Below wo.heap.size wo w2) (λkk _=>out.length-(intOf kk).toNat)
  case atStart=>exact⟨0,by omega,rfl,λi h=>absurd h (by omega),xh _ _⟩
  obtain⟨j,hj,rfl,a7,b⟩:=hrel;have b2:=(b.cell (p:=⟨G,k,none⟩) (by exact xn b1 f0)).trans c5;by_cases b5:j<out.length
  ·have e0:=(b.cell (p:=⟨g,j,none⟩) (by exact c7)).trans (ZJ a5 j b5);have e7:=d6.o j b5;obtain⟨y,b4⟩:=UM (out.getD j 0);rw[<-b4.o]at e0 e7;by_cases d4:y<x
   ·have f2:decide ((y:Int)<(x:Int))=true:=by simp;omega
    go_wp2_with fail;go_quiet (fail)
    go_wp2_with fail;go_roundw
    case rel=>
     refine⟨j+1,by omega,by go_num,λi hi=>?_,Xf b nq⟩;by_cases e4:i=j
     ·subst e4;rw[<-b4.o];exact d4
     exact a7 i (by omega)
    simp[intOf];omega
   have f2:decide ((y:Int)<(x:Int))=false:=by simp;omega
   have HN:=zb (IJ b0 HX (k:=j) (by omega) a7 (Or.inr (by rw[<-b4.o];exact d4)));go_wp2_with fail;go_quiet (fail);have T:Ha ((wr.drewN nq).ownsRow w.heap.size 3 1 (.slice (some ⟨g,0,none⟩) out.length oc) out.length (I out)):=zh a5 (Xf b nq);go_wp2_with (at_builtin;refine Xb _ rfl _ _ 55 rfl (wr.drewN nq).heap.size 3 i0 (.int .i64 0) 1 8 xN hi P Q R rfl (by decide) (.slice none 0 0) 0 [] rfl (Xi _ _ _ _) ⟨g,0,none⟩ j oc (I (out.take j)) rfl ?ua1 ?ua2 (Oo _) ?ua3 ?ua4 (xc _) ?_)
   case ua1=>rw[BL,Xt];omega
   case ua2=>exact tT T j (by omega)
   case ua3=>unfold maxLen;omega
   case ua4=>omega
   intro n1 w3 Z d _;have c9:wr.heap.size<=w3.heap.size:=d.size;have c6:w3.cell? ⟨G,k,none⟩=some (.int .i64 x):=(xm (a:=⟨G,k,none⟩) (d.block G (by show G<wr.heap.size;have:=b.size;omega) (by simp[Value.ownBlock]))).trans b2;have a6:=zb (ze T (λq z=>d.block q (by cases z;show g<wr.heap.size;have:=b.size;omega) (by simp[Value.ownBlock])));have a4:Ha (Below wr.heap.size wr w3):=⟨d.os,d.tape,d.output,d.size,λq z=>d.block q z (by simp[Value.ownBlock])⟩
   obtain⟨a1,c1,b6⟩:=zT Z;subst b6;have J:=zb Z;clear Z d;go_wp2_with (at_builtin;refine Xb _ rfl _ _ 55 rfl (wr.drewN nq).heap.size 3 i0 (.int .i64 0) 1 8 xN hi P Q R rfl (by decide) _ _ _ rfl (J.alloc _) ⟨w3.heap.size,0,none⟩ 1 1 [.int .i64 x] rfl rfl ?ub1 ?ub2 ?ub3 ?ub4 ?ub5 ?_)
   case ub1=>exact aY _ _ _
   case ub2=>intro u hu;simp at hu;subst hu;rfl
   case ub3=>unfold maxLen;omega
   case ub4=>omega
   case ub5=>simp;omega
   intro n2 w4 C t _;have d0:w3.heap.size+1<=w4.heap.size:=by have:=t.size;simpa using this
   have e3:g<wr.heap.size:=by have:=b.size;omega
   have a9:=zb (ze a6 (λq z=>by
    cases z;refine(t.block g (by simp;omega) (λe=>?_)).trans (XO _ _ _ (by omega))
    have h5:wr.heap.size<=g:=(J.lt g e.symm).1;omega))
   have F:Ha (Below wr.heap.size wr w4):=(a4.alloc a4.size _).grown t (by simp;omega) (λq z=>(J.lt q z).1);obtain⟨a2,c2,a3⟩:=zT C;subst a3;have K:=zb C;clear C t J;by_cases d9:oc=j
   ·have f3:out.length=j:=by omega
    have S:Ha (out.drop j=[]):=xaC (by omega);go_wp2_with (at_builtin;refine Xb _ rfl _ _ 55 rfl (wr.drewN nq).heap.size 3 i0 (.int .i64 0) 1 8 xN hi P Q R rfl (by decide) _ _ _ rfl K ⟨g,0,none⟩ 0 0 [] rfl rfl ?uc1 ?uc2 ?uc3 ?uc4 ?uc5 ?_)
    case uc1=>intro j u hj;simp at hj
    case uc2=>intro u hu;simp at hu
    case uc3=>unfold maxLen;omega
    case uc4=>omega
    case uc5=>show wr.heap.size<=w4.heap.size;omega
    intro n3 w5 r B _;have A:Below wr.heap.size wr w5:=F.grown B F.size (λq z=>(K.lt q z).1);have H:Ha (Below w.heap.size w w5):=(E.trans (b.mono E.size)).trans (A.mono (by have:=E.size;have:=b.size;omega));have M:Ha (w5.ownsRow w.heap.size 3 1 n3 (out.take j++[x]++out.drop j).length (I (out.take j++[x]++out.drop j))):=by
     unfold Ha;have e1:(out.take j++[x]++out.drop j).length=j+1:=by rw[S.o];simp;try omega
     have e2:I (out.take j++[x]++out.drop j)=I (out.take j)++[.int .i64 x]:=by rw[S.o,XR,yE]
     rw[e1,e2];exact zJ r (by have:=E.size;have:=b.size;omega)
    have N:Ha ((out.take j++[x]++out.drop j).Perm (l.take (k+1))):=by unfold Ha;rw[a0.o];exact nQ.trans (m.append_right _)
    clear r B A;go_wp2_with fail;go_roundw
    case rel=>exact⟨k+1,_,by omega,by go_num,N,HN,M,H⟩
    simp[intOf];omega
   go_wp2_with (at_builtin;refine Xb _ rfl _ _ 55 rfl (wr.drewN nq).heap.size 3 i0 (.int .i64 0) 1 8 xN hi P Q R rfl (by decide) _ _ _ rfl K ⟨g,j,none⟩ (out.length-j) (oc-j) (I (out.drop j)) rfl ?ud1 ?ud2 (Oo _) ?ud4 ?ud5 ?ud6 ?_)
   case ud1=>rw[BL,Xs];omega
   case ud2=>have h9:=Ay a9 j (out.length-j) (by omega);rw[Xh (by rw[Xs];omega)]at h9;exact h9
   case ud4=>unfold maxLen;omega
   case ud5=>omega
   case ud6=>show wr.heap.size<=w4.heap.size;omega
   intro n3 w5 r B _;have A:Below wr.heap.size wr w5:=F.grown B F.size (λq z=>(K.lt q z).1);have H:Ha (Below w.heap.size w w5):=(E.trans (b.mono E.size)).trans (A.mono (by have:=E.size;have:=b.size;omega));have M:Ha (w5.ownsRow w.heap.size 3 1 n3 (out.take j++[x]++out.drop j).length (I (out.take j++[x]++out.drop j))):=by
    unfold Ha;have e1:(out.take j++[x]++out.drop j).length=j+1+(out.length-j):=by simp;try omega
    have e2:I (out.take j++[x]++out.drop j)=I (out.take j)++[.int .i64 x]++I (out.drop j):=by rw[Sx,yE]
    rw[e1,e2]
    first
     |exact zJ r (by have:=E.size;have:=b.size;omega)
     |(simp at r ⊢;exact zJ r (by have:=E.size;have:=b.size;omega))
   have N:Ha ((out.take j++[x]++out.drop j).Perm (l.take (k+1))):=by unfold Ha;rw[a0.o];exact nQ.trans (m.append_right _)
   clear r B A;go_wp2_with fail;go_roundw
   case rel=>exact⟨k+1,_,by omega,by go_num,N,HN,M,H⟩
   simp[intOf];omega
  obtain rfl:j=out.length:=by omega
  have HN:=zb (IJ b0 HX (k:=out.length) (xc _) a7 (Or.inl rfl));clear b5;go_wp2_with fail;go_quiet (fail);have T:Ha ((wr.drewN nq).ownsRow w.heap.size 3 1 (.slice (some ⟨g,0,none⟩) out.length oc) out.length (I out)):=zh a5 (Xf b nq);go_wp2_with (at_builtin;refine Xb _ rfl _ _ 55 rfl (wr.drewN nq).heap.size 3 i0 (.int .i64 0) 1 8 xN hi P Q R rfl (by decide) (.slice none 0 0) 0 [] rfl (Xi _ _ _ _) ⟨g,0,none⟩ out.length oc (I (out.take out.length)) rfl ?va1 ?va2 (Oo _) ?va3 ?va4 (xc _) ?_)
  case va1=>rw[BL,Xt];omega
  case va2=>exact tT T out.length (by omega)
  case va3=>unfold maxLen;omega
  case va4=>omega
  intro n1 w3 Z d _;have c9:wr.heap.size<=w3.heap.size:=d.size;have c6:w3.cell? ⟨G,k,none⟩=some (.int .i64 x):=(xm (a:=⟨G,k,none⟩) (d.block G (by show G<wr.heap.size;have:=b.size;omega) (by simp[Value.ownBlock]))).trans b2;have a6:=zb (ze T (λq z=>d.block q (by cases z;show g<wr.heap.size;have:=b.size;omega) (by simp[Value.ownBlock])));have a4:Ha (Below wr.heap.size wr w3):=⟨d.os,d.tape,d.output,d.size,λq z=>d.block q z (by simp[Value.ownBlock])⟩
  obtain⟨a1,c1,b6⟩:=zT Z;subst b6;have J:=zb Z;clear Z d;go_wp2_with (at_builtin;refine Xb _ rfl _ _ 55 rfl (wr.drewN nq).heap.size 3 i0 (.int .i64 0) 1 8 xN hi P Q R rfl (by decide) _ _ _ rfl (J.alloc _) ⟨w3.heap.size,0,none⟩ 1 1 [.int .i64 x] rfl rfl ?vb1 ?vb2 ?vb3 ?vb4 ?vb5 ?_)
  case vb1=>exact aY _ _ _
  case vb2=>intro u hu;simp at hu;subst hu;rfl
  case vb3=>unfold maxLen;omega
  case vb4=>omega
  case vb5=>simp;omega
  intro n2 w4 C t _;have d0:w3.heap.size+1<=w4.heap.size:=by have:=t.size;simpa using this
  have e3:g<wr.heap.size:=by have:=b.size;omega
  have a9:=zb (ze a6 (λq z=>by
   cases z;refine(t.block g (by simp;omega) (λe=>?_)).trans (XO _ _ _ (by omega))
   have h5:wr.heap.size<=g:=(J.lt g e.symm).1;omega))
  have F:Ha (Below wr.heap.size wr w4):=(a4.alloc a4.size _).grown t (by simp;omega) (λq z=>(J.lt q z).1);obtain⟨a2,c2,a3⟩:=zT C;subst a3;have K:=zb C;clear C t J;by_cases d9:oc=out.length
  ·have f3:out.length=out.length:=by omega
   have S:Ha (out.drop out.length=[]):=xaC (by omega);go_wp2_with (at_builtin;refine Xb _ rfl _ _ 55 rfl (wr.drewN nq).heap.size 3 i0 (.int .i64 0) 1 8 xN hi P Q R rfl (by decide) _ _ _ rfl K ⟨g,0,none⟩ 0 0 [] rfl rfl ?vc1 ?vc2 ?vc3 ?vc4 ?vc5 ?_)
   case vc3=>unfold maxLen;omega
   case vc4=>omega
   case vc5=>show wr.heap.size<=w4.heap.size;omega
   intro n3 w5 r B _;have A:Below wr.heap.size wr w5:=F.grown B F.size (λq z=>(K.lt q z).1);have H:Ha (Below w.heap.size w w5):=(E.trans (b.mono E.size)).trans (A.mono (by have:=E.size;have:=b.size;omega));have M:Ha (w5.ownsRow w.heap.size 3 1 n3 (out.take out.length++[x]++out.drop out.length).length (I (out.take out.length++[x]++out.drop out.length))):=by
    unfold Ha;have e1:(out.take out.length++[x]++out.drop out.length).length=out.length+1:=by rw[S.o];simp;try omega
    have e2:I (out.take out.length++[x]++out.drop out.length)=I out++[.int .i64 x]:=by rw[S.o,XR,yE];simp
    rw[e1,e2];exact zJ r (by have:=E.size;have:=b.size;omega)
   have N:Ha ((out.take out.length++[x]++out.drop out.length).Perm (l.take (k+1))):=by unfold Ha;rw[a0.o];exact nQ.trans (m.append_right _)
   clear r B A;go_wp2_with fail;go_roundw
   case rel=>exact⟨k+1,_,by omega,by go_num,N,HN,M,H⟩
   simp[intOf];omega
  have S:Ha (out.drop out.length=[]):=xbu;go_wp2_with (at_builtin;refine Xb _ rfl _ _ 55 rfl (wr.drewN nq).heap.size 3 i0 (.int .i64 0) 1 8 xN hi P Q R rfl (by decide) _ _ _ rfl K ⟨g,out.length,none⟩ 0 (oc-out.length) [] rfl rfl ?vd1 ?vd2 ?vd3 ?vd4 ?vd5 ?_)
  case vd1=>intro j u hj;simp at hj
  case vd2=>intro u hu;simp at hu
  case vd3=>unfold maxLen;omega
  case vd4=>omega
  case vd5=>show wr.heap.size<=w4.heap.size;omega
  intro n3 w5 r B _;have A:Below wr.heap.size wr w5:=F.grown B F.size (λq z=>(K.lt q z).1);have H:Ha (Below w.heap.size w w5):=(E.trans (b.mono E.size)).trans (A.mono (by have:=E.size;have:=b.size;omega));have M:Ha (w5.ownsRow w.heap.size 3 1 n3 (out.take out.length++[x]++out.drop out.length).length (I (out.take out.length++[x]++out.drop out.length))):=by
   unfold Ha;have e1:(out.take out.length++[x]++out.drop out.length).length=out.length+1:=by rw[S.o];simp;try omega
   have e2:I (out.take out.length++[x]++out.drop out.length)=I out++[.int .i64 x]:=by rw[S.o,XR,yE];simp
   rw[e1,e2];exact zJ r (by have:=E.size;have:=b.size;omega)
  have N:Ha ((out.take out.length++[x]++out.drop out.length).Perm (l.take (k+1))):=by unfold Ha;rw[a0.o];exact nQ.trans (m.append_right _)
  clear r B A;go_wp2_with fail;go_roundw
  case rel=>exact⟨k+1,_,by omega,by go_num,N,HN,M,H⟩
  simp[intOf];omega
 obtain rfl:k=l.length:=by omega
 have m:Ha (out.Perm l):=by rw[Xa]at f;exact f
 obtain⟨oa,oc,e9⟩:=zT D;subst e9;have a5:=zb D;have HS:=zb X;clear hG W D f X;go_wp2_with fail;go_ret;exact⟨hb,_,out,rfl,m,HS,a5⟩
theorem DN{f:Nat->Bool}{n:Nat}:∀(ls:List L) (f:Nat->Bool),jY ls f n=true->f n=true\/∃l∈ls,l.id=n
 |[],f,h=>Or.inl h
 |l::ls,f,h=>by
  rw[pF]at h;rcases DN (f:=f) ls (Zg f l) h with a|⟨x,b,e⟩
  ·simp only[Zg,Yy,Xu,yl]at a;rcases a with a|⟨a,_⟩
   ·exact Or.inl a
   exact Or.inr ⟨l,by simp,a.symm⟩
  exact Or.inr ⟨x,by simp[b],e⟩
theorem FC{l:L}(h:l∈ls):UB l.id ls<ls.length:=by
 unfold UB;rw[xaB];exact⟨l,h,by simp⟩
theorem iS{n:Nat}(d:UB a ls<ls.length)(h:n∈jX ls a):UB n ls<ls.length/\(ls.getD (UB n ls) L0).id=n:=by
 have g:iQ ls a n=true:=by rw[<-iR];exact XG.2 h
 have b:UB n ls<ls.length:=by
  rcases DN (f:=λm=>m==a) ls _ g with c|⟨l,i,e⟩
  ·have:n=a:=by simpa using c
   rw[this];exact d
  rw[<-e];exact FC i
 exact⟨b,Zu b⟩
theorem vD(h:out.Nodup)(l:L):(ZK out l).Nodup:=by
 unfold ZK;split
 ·rename_i a;simp only[Xu,xaD]at a;rw[Xx];refine⟨h,by simp,λx c y b e=>?_⟩;simp at b;subst b;subst e;have:out.contains l.id=true:=XG.2 c;rw[this]at a;cases a.1
 exact h
theorem tB:∀(ls:List L) (out:List Nat),out.Nodup->(iT ls out).Nodup
 |[],_,h=>h
 |l::ls,out,h=>tB ls _ (vD h l)
theorem Fi(ls:List L)(a:Nat):(jX ls a).Nodup:=tB ls [a] (by simp)
theorem Lz(ls:List L)(a:Nat):(jX ls a).length<=ls.length+1:=by
 have b:=iU ls [a] ls.length (xc _);rw[Xa]at b;simp only[List.length_cons,XB]at b;unfold jX;omega
def aW(ls:List L)(n:Nat):Nat:=(ls.getD (UB n ls) L0).hd
def hN(ls:List L)(ns:List Nat):List Nat:=ns.filter (λn=>decide (0<aW ls n))
def tN(ls:List L):List Nat->List Nat
 |n::r=>n::aW ls n::tN ls r
 |[]=>[]
theorem Km(ls:List L)(n:Nat):∀l,tN ls (l++[n])=tN ls l++[n,aW ls n]
 |[]=>rfl
 |q::r=>by simp only[XF,tN,Km ls n r]
theorem Oc(ls:List L):∀l,(tN ls l).length=l.length*2
 |[]=>rfl
 |q::r=>by simp only[tN,List.length_cons,Oc ls r];omega
theorem Iq(a:k<ns.length):hN ls (ns.take (k+1))=if 0<aW ls (ns.getD k 0) then hN ls (ns.take k)++[ns.getD k 0] else hN ls (ns.take k):=by
 have e:ns.take (k+1)=ns.take k++[ns.getD k 0]:=by
  rw[xl a];simp[Uv,a]
 rw[e,hN,Ys];generalize ns.getD k 0=x;by_cases h:0<aW ls x
 ·rw[xe h];simp[Yd,h,hN]
 rw[xg h];simp[Yd,h,hN]
theorem Rr(ls:List L)(a:List Nat):(hN ls a).length<=a.length:=yx _ _
theorem Ko{ls:List L}:∀(a:List Nat),(∀n∈a,(ls.getD (UB n ls) L0).id=n)->tN ls a=aN ls (ZU ls (a.map (λn=>UB n ls)))
 |[],_=>rfl
 |n::r,h=>by
  have b:=Ko r (λm c=>h m (by simp[c]));simp only[tN,ZU,List.map_cons,aN]at b ⊢;rw[h n (by simp),<-b];rfl
theorem IC(c:∀i j,i<ls.length->j<ls.length->(ls.getD i L0).id=(ls.getD j L0).id->i=j){a:Nat}(t:UB a ls<ls.length){s:List Nat}(A:s.Perm (jX ls a))(C:s.Pairwise (·<·)):(hN ls s).length::tN ls (hN ls s)=zG ls (ZO ls a):=by
 have d:∀n∈hN ls s,n∈jX ls a/\0<aW ls n:=λn l=>by
  have:=XW.1 l
  exact⟨A.mem_iff.1 this.1,by simpa using this.2⟩
 have b:∀n∈hN ls s,(ls.getD (UB n ls) L0).id=n:=λn l=>(iS t (d n l).1).2
 have f:(hN ls s).Pairwise (·<·):=C.sublist xaY;have u:((hN ls s).map (λn=>UB n ls)).Nodup:=by
  rw[yc,yi];refine xbp (λ{x y} k hy hlt e=>?_) f;have p:=b x k;have r:=b y hy;rw[e,r]at p;omega
 have g:((hN ls s).map (λn=>UB n ls)).Perm (vX ls (iQ ls a) ls.length):=by
  refine(YI u (Cp _ _ _)).2 (λi=>?_);rw[jF];constructor
  ·intro h;obtain⟨n,l,rfl⟩:=Xg.1 h;obtain⟨p,r⟩:=d n l;obtain⟨v,w⟩:=iS t p;refine⟨v,?_⟩;unfold pQ;rw[w,<-iR,XG.2 p,xaR];exact xy r
  rintro⟨B,q⟩;unfold pQ at q;simp only[Xu,Xv]at q;have z:(ls.getD i L0).id∈jX ls a:=by rw[<-XG,iR];exact q.2
  have k:UB (ls.getD i L0).id ls=i:=by
   obtain⟨v,w⟩:=iS t z;exact c _ _ v B w
  refine Xg.2 ⟨(ls.getD i L0).id,?_,k⟩;refine XW.2 ⟨A.mem_iff.2 z,?_⟩;unfold aW;rw[k];exact xy q.1
 have m:TT (mA ls) ((hN ls s).map (λn=>UB n ls)):=by
  unfold TT;rw[yi];refine xbp (λ{x y} k hy hlt=>?_) f;unfold mA;rw[b x k,b y hy];exact xu (by omega)
 have e:=Ec c g m;rw[Ko _ b,e];show _=(ZO ls a).length::aN ls (ZO ls a);unfold ZO;rw[dN,<-e,Xl]
