import Derived.Test.YtgcedalggnmooaaGreatDoorOd1X
import Derived.Shelf.SlSortCmp.NoneTotal
set_option linter.all false
set_option maxRecDepth 100000
set_option maxHeartbeats 1600000
namespace Go.Proofs.YtgcedalggnmooaaGreatDoor
def YK:=@Proofs.enters_of
def xaQ:=@iface_of_trod
def pR(ls:List L)(f:Nat->Bool)(i:Nat):Bool:=decide (0<(ls.getD i L0).hd)&&f (ls.getD i L0).id
def vZ(ls:List L)(f:Nat->Bool)(k:Nat):List Nat:=(List.range k).filter (pR ls f)
def mA(ls:List L)(i j:Nat):Bool:=decide ((ls.getD i L0).id<(ls.getD j L0).id)
def sP(ls:List L)(n:Nat):List Nat:=yF (mA ls) (vZ ls (iO ls n) ls.length)
def ZS(ls:List L)(is:List Nat):List (Nat×Nat):=is.map λi=>(i,(ls.getD i L0).hd)
def ZM(ls:List L)(n:Nat):List (Nat×Nat):=ZS ls (sP ls n)
theorem Iv(ls:List L)(f:Nat->Bool)(k:Nat):(vZ ls f k).length<=k:=by
 have:=yx (pR ls f) (List.range k)
 simpa [vZ] using this
variable {i:Nat}{ls:List L}
theorem jD{f:Nat->Bool}{k:Nat}:i∈vZ ls f k↔i<k/\pR ls f i=true:=by simp[vZ]
theorem Cq(ls:List L)(f:Nat->Bool)(k:Nat):(vZ ls f k).Nodup:=xan.filter _
theorem tS{a b c:Nat}(d:mA ls b a=false)(e:mA ls c b=false):mA ls c a=false:=by
 simp[mA]at d e ⊢;omega
theorem tR{a b:Nat}(h:mA ls a b=true):mA ls b a=false:=by
 simp[mA]at h ⊢;omega
theorem Ay(lt:Nat->Nat->Bool)(f:∀a b c,lt b a=false->lt c b=false->lt c a=false)(has:∀a b,lt a b=true->lt b a=false)(x:Nat):∀l:List Nat,TL lt l->TL lt (KW lt x l)
 |[],_=>by simp[KW,TL]
 |y::r,h=>by
  have i:=Xq.1 h;unfold KW;split
  ·rename_i e;refine Xq.2 ⟨λb d=>?_,Ay lt f has x r i.2⟩;rcases xx.1 ((jG _ x r).mem_iff.1 d) with rfl|d
   ·exact has _ _ e
   exact i.1 b d
  rename_i e;have g:lt y x=false:=by simpa using e
  refine Xq.2 ⟨λb d=>?_,h⟩;rcases xx.1 d with rfl|d
  ·exact g
  exact f _ _ _ g (i.1 b d)
theorem rE(lt:Nat->Nat->Bool)(d:∀a b c,lt b a=false->lt c b=false->lt c a=false)(has:∀a b,lt a b=true->lt b a=false):∀l:List Nat,TL lt (yF lt l)
 |[]=>List.Pairwise.nil
 |x::r=>Ay lt d has x _ (rE lt d has r)
theorem lM{lt:Nat->Nat->Bool}:∀{l m:List Nat},(∀a∈l,∀b∈l,lt a b=false->lt b a=false->a=b)->l.Perm m->TL lt l->TL lt m->l=m
 |[],m,_,hp,_,_=>by rw[List.nil_perm.1 hp]
 |x::l,[],_,hp,_,_=>absurd hp.length_eq (by simp)
 |x::l,y::m,ha,hp,hl,hm=>by
  have i:=Xq.1 hl;have j:=Xq.1 hm;have g:x∈y::m:=hp.mem_iff.1 (by simp);have c:y∈x::l:=hp.mem_iff.2 (by simp);have e:x=y:=by
   rcases xx.1 g with h|h
   ·exact h
   rcases xx.1 c with d|d
   ·exact d.symm
   exact ha x (by simp) y c (j.1 x h) (i.1 y d)
  subst e;have f:=List.perm_cons x |>.1 hp
  rw[lM (λa k b n=>ha a (by simp[k]) b (by simp[n])) f i.2 j.2]
theorem kT(ls:List L)(n:Nat):(sP ls n).Perm (vZ ls (iO ls n) ls.length):=dB _ _
theorem Iu(ls:List L)(n:Nat):TL (mA ls) (sP ls n):=rE (mA ls) (λ_ _ _=>tS) (λ_ _=>tR) _
theorem It{n:Nat}:i∈sP ls n↔i<ls.length/\pR ls (iO ls n) i=true:=by
 rw[(kT ls n).mem_iff,jD]
theorem Ir(ls:List L)(n:Nat):(sP ls n).length<=ls.length:=by
 rw[(kT ls n).length_eq];exact Iv _ _ _
theorem Ef(c:∀i j,i<ls.length->j<ls.length->(ls.getD i L0).id=(ls.getD j L0).id->i=j){n:Nat}{m:List Nat}(d:m.Perm (vZ ls (iO ls n) ls.length))(p:TL (mA ls) m):m=sP ls n:=by
 refine lM (λa k b l g h=>?_) (d.trans (kT ls n).symm) p (Iu ls n);have e:=(jD.1 (d.mem_iff.1 k)).1;have f:=(jD.1 (d.mem_iff.1 l)).1;refine c a b e f ?_
 simp only[mA,yq]at g h;omega
theorem dL(ls:List L)(a:List Nat):(ZS ls a).length=a.length:=by simp[ZS]
theorem yA(ls:List L)(a:List Nat)(i:Nat):ZS ls (a++[i])=ZS ls a++[(i,(ls.getD i L0).hd)]:=by simp[ZS]
def TX(ls:List L):List Nat:=yF (mA ls) (List.range ls.length)
theorem iL(ls:List L):(TX ls).Perm (List.range ls.length):=dB _ _
theorem GY(ls:List L):TL (mA ls) (TX ls):=rE (mA ls) (λ_ _ _=>tS) (λ_ _=>tR) _
theorem fC(ls:List L):(TX ls).length=ls.length:=by rw[(iL ls).length_eq,List.length_range]
theorem BR:i∈TX ls↔i<ls.length:=by rw[(iL ls).mem_iff,xbN]
theorem GX(ls:List L):(TX ls).Nodup:=(iL ls).nodup_iff.2 xan
theorem BQ{k:Nat}(a:k<ls.length):(TX ls).getD k 0<ls.length:=by
 have h:k<(TX ls).length:=by rw[fC];exact a
 exact BR.1 (by simp[Ul,h])
theorem QL(c:∀i j,i<ls.length->j<ls.length->(ls.getD i L0).id=(ls.getD j L0).id->i=j){m:List Nat}(f:m.Perm (List.range ls.length))(n:TL (mA ls) m):m=TX ls:=by
 refine lM (lt:=mA ls) ?_ (f.trans (iL ls).symm) n (GY ls)
 intro a k b l g h;have d:a<ls.length:=by simpa using f.mem_iff.1 k
 have e:b<ls.length:=by simpa using f.mem_iff.1 l
 refine c a b d e ?_
 simp only[mA,yq]at g h;omega
open Go.RowKit
theorem BT(x y:Int)(W:World):Calls Tryz.prog 165 #[.int .i64 x,.int .i64 y] W λe w'=>e=.returned (.int .i64 (Lib.compareInt x y))/\w'=W:=by
 have c:(x != x)=false:=by simp
 have d:(y != y)=false:=by simp
 unfold Lib.compareInt;by_cases b:x<y
 ·rw[xd b];go_enter Tryz.func165,Tryz.ntmps165;go_wp2_with (first|(go_at_call 187;go_in)|fail);go_ret;exact⟨rfl,rfl⟩
 rw[xe b];by_cases a:y<x
 ·rw[xd a];go_enter Tryz.func165,Tryz.ntmps165;go_wp2_with (first|(go_at_call 187;go_in)|fail);go_ret;exact⟨rfl,rfl⟩
 rw[xe a];go_enter Tryz.func165,Tryz.ntmps165;go_wp2_with (first|(go_at_call 187;go_in)|fail);go_ret;exact⟨rfl,rfl⟩
open Go.Shelf Go.RowKit Go.Lib Go.Sort
shelf_lay_g SlLaysF.n6 Slsf 6 at Tryz 163 as sortLot
shelf_lay_g SlLaysF0.n6 Slsf 6 at Tryz 163 as sortLot0
def cl(ls:List L)(i:Nat):Nat:=if i<ls.length then i else 0
theorem QP(h:0<ls.length)(i:Nat):cl ls i<ls.length:=by unfold cl;split<;>omega
theorem Lt(h:i<ls.length):cl ls i=i:=xd h
def NB(bs:List Nat)(ls:List L)(i:Nat):Value:=.pointer (some ⟨bs.getD (cl ls i) 0,0,none⟩)
def TY(ls:List L)(i j:Nat):Int:=Lib.compareInt ((ls.getD (cl ls i) L0).id:Int) ((ls.getD (cl ls j) L0).id:Int)
theorem Uw(ls:List L)(i j:Nat):ltOf (TY ls) i j=mA ls (cl ls i) (cl ls j):=by
 unfold ltOf TY Lib.compareInt mA;by_cases b:(ls.getD (cl ls i) L0).id<(ls.getD (cl ls j) L0).id
 ·have a:((ls.getD (cl ls i) L0).id:Int)<((ls.getD (cl ls j) L0).id:Int):=by omega
  rw[xd a,xy b];rfl
 have a:¬((ls.getD (cl ls i) L0).id:Int)<((ls.getD (cl ls j) L0).id:Int):=by omega
 rw[xe a,xu b];split<;>rfl
theorem Ti(ls:List L):SWO (ltOf (TY ls)) where
 irrefl x:=by rw[Uw];simp[mA]
 trans x y z h1 h2:=by rw[Uw]at *;simp[mA]at *;omega
 ntrans x y z h1 h2:=by rw[Uw]at *;simp[mA]at *;omega
theorem BS(x y:Nat)(b c:Nat)(W:World)(f:W.cell? ⟨b,0,none⟩=some (.int .i64 x))(g:W.cell? ⟨c,0,none⟩=some (.int .i64 y)):Calls Tryz.prog 164 #[.pointer (some ⟨b,0,none⟩),.pointer (some ⟨c,0,none⟩)] W λe w'=>e=.returned (.int .i64 (Lib.compareInt (x:Int) (y:Int)))/\∃q os',w'=grow (W.drewN q) os':=by
 have a:=λd=>BT (x:Int) (y:Int) d
 generalize Lib.compareInt (x:Int) (y:Int)=r at a ⊢;go_enter Tryz.func164,Tryz.ntmps164;go_wp2_with fail;go_quiet ((go_at_call 165;exact Yn (a _)));go_wp2_with fail;go_ret;exact⟨rfl,nq,#[],by rw[grow_empty]⟩
variable {w:World}
theorem jA{g n:Nat}{os:Array Obj}(enc:Nat->Value)(d:Array Nat):w.grownBy (sortWorld enc w g 0 n d os) (some g):=by
 unfold sortWorld;refine⟨rfl,rfl,rfl,by simp,λq b a=>?_⟩;rw[heap_grow_old _ _ (by simpa using b)];have:g≠q:=λe=>a (by rw[e])
 simp[putRow,mapBlock,Sort.ahead,Array.getElem?_modify,this]
theorem Ph:(Tryz.prog.info? 191).map (λi=>(i.zero,i.size,i.bytes))=some (some (.pointer none),1,8):=by kernel_rfl
theorem RY:Tryz.prog.underlying 115=some (.slice 191):=by kernel_rfl
theorem QU(w:World):(binOp .eql 115 (.slice none 0 0) (.slice none 0 0)).run Tryz.prog w=.ok (.bool true) w:=by kernel_rfl
theorem QV(a:Addr)(n c:Nat)(w:World):(binOp .eql 115 (.slice (some a) n c) (.slice none 0 0)).run Tryz.prog w=.ok (.bool false) w:=by kernel_rfl
theorem Hb(m:Nat)(v:Value)(n:Nat)(Z:n<=30)(f:List Nat)(G:f.length=n)(w:World)(z:w.ownsRow m 191 1 v n (bX f)):Calls Tryz.prog 162 #[v] w λe w'=>Below w.heap.size w w'/\∃v',e=.returned v'/\w'.ownsRow w.heap.size 191 1 v' n (bX f):=by
 obtain⟨X,Q,B,C,D⟩:=XH Ph;have T:=QU;have W:=QV;rcases z.2 with ⟨rfl,rfl⟩|⟨g,cap,K,rfl,N,F,S,P,t,l⟩
 ·have M:f=[]:=Xn.1 G;subst M;go_enter Tryz.func162,Tryz.ntmps162;go_wp2_with fail;go_ret;exact⟨xg _ _,_,rfl,Xi _ _ _ _⟩
 have a:=z.cells (g:=g) rfl;have i:(bX f).length=n:=by simp[bX,G]
 have A:∀u∈bX f,u.oneCell'=true:=by intro u p;simp[bX]at p;obtain⟨b,_,rfl⟩:=p;rfl
 have r:=TQ w (.cells #[] 191);have x:g<w.heap.size:=zc F;have h:(w.alloc (.cells #[] 191)).ownsRow w.heap.size 191 1 (.slice (some ⟨w.heap.size,0,none⟩) 0 0) 0 []:=Yh w #[] 0 (xc _) (by unfold maxLen;simp) rfl;have H:Hid (∀j u,(bX f)[j]?=some u->(w.alloc (.cells #[] 191)).cell? ((⟨g,0,none⟩:Addr).add j)=some u):=λj u p=>by
  have q:=a j u p;rw[Addr.add_lit]at q ⊢;exact(r.cell (by exact x)).trans q
 have E:=zb r;clear a z r F t l;go_enter Tryz.func162,Tryz.ntmps162;go_wp2_with (at_builtin;refine Xb _ rfl _ _ 115 rfl w.heap.size 191 X (.pointer none) 1 8 RY Q B C D rfl (by decide) _ 0 [] rfl h ⟨g,0,none⟩ n cap (bX f) rfl (by rw[i];omega) H A ?c3 ?c4 ?c5 ?_)
 case c3=>unfold maxLen;omega
 case c4=>omega
 case c5=>simp
 intro v' w2 d c y;have s:Below w.heap.size w w2:=E.grown c E.size (λk R=>(h.lt k R).1);have J:=zb d;clear d c y h;go_wp2_with fail;go_ret;exact⟨s,v',rfl,J⟩
def PtrAt(B:Nat)(w:World)(bs:List Nat)(a:Option Addr)(l:List Nat):Prop:=∀k,k<l.length->∃G,a=some ⟨G,0,none⟩/\B<=G/\G<w.heap.size/\w.cell? ⟨G,k,none⟩=some (.pointer (some ⟨bs.getD (l.getD k 0) 0,0,none⟩))
theorem PtrAt.below{B:Nat}{w':World}{b:List Nat}{a:Option Addr}{l:List Nat}(h:PtrAt B w b a l)(d:Below w.heap.size w w'):PtrAt B w' b a l:=λk i=>by
 obtain⟨G,e,f,c,g⟩:=h k i;exact⟨G,e,f,xn c d.size,(d.cell (by exact c)).trans g⟩
theorem Dp(w:World)(c:List Nat)(ls:List L)(r:Nat)(v:Value)(F:LotsOK w c ls)(a4:c.length=ls.length)(a1:ls.length<=30)(C:∀i j,i<ls.length->j<ls.length->(ls.getD i L0).id=(ls.getD j L0).id->i=j)
  (h:w.ownsRow r 191 1 v ls.length (bX c)) :
  Calls Tryz.prog 163 #[v,.func (.func 164) #[] #[]] w λe w'=>e=.returned (.tuple #[])/\w.grownBy w' v.ownBlock/\∃a cap,v=.slice a ls.length cap/\PtrAt r w' c a (TX ls):=by
 obtain⟨a,cap,hv⟩:=zm h;subst hv;by_cases h0:ls.length=0
 ·have hn:ls=[]:=Xn.1 h0;subst hn;refine(AnyF.slices_SortFunc_none (P:=Tryz.prog) sortLot0 a cap (.func (.func 164) #[] #[]) w).mono ?_
  rintro e w' ⟨rfl,rfl⟩;exact⟨rfl,⟨rfl,rfl,rfl,xc _,λ_ _ _=>rfl⟩,a,cap,rfl,λk N=>absurd N (by rw[fC];simp)⟩
 have p:0<ls.length:=by omega
 obtain⟨G,a3,a2,R,d⟩:=zJ h p
 cases a2;have eg:∀args w,(callFunc 164 args).run Tryz.prog w=.ok (.enter 164 args) w:=YK Tryz.func164 (by kernel_rfl) rfl
 obtain⟨a5,f⟩:=zi h (g:=G) rfl;have A:CmpLays1 Tryz.prog 164 #[] (NB c ls) (TY ls) G 0 (List.range ls.length).toArray.size w:=by
  intro m os dk hs x y;obtain⟨a7,t⟩:=F (cl ls x) (QP p x);obtain⟨a8,u⟩:=F (cl ls y) (QP p y);have B:=jA (w:=w) (g:=G) (n:=m) (os:=os) (NB c ls) dk;have qx:=(B.block _ (zc t) (λe=>zv t f (by decide) (xq e))).trans t;have qy:=(B.block _ (zc u) (λe=>zv u f (by decide) (xq e))).trans u;exact BS (ls.getD (cl ls x) L0).id (ls.getD (cl ls y) L0).id _ _ _ (by rw[za qx];rfl) (by rw[za qy];rfl)
 have hH:Holds (NB c ls) w G 0 (List.range ls.length).toArray:=by
  intro j M;have E:j<ls.length:=by simpa using M
  have hd:(List.range ls.length).toArray[j]! = j:=by simp[E]
  refine⟨?_,by simp[World.frozen?,f]⟩;rw[hd,Yu,h.cellAt j (by omega)];unfold NB;rw[Lt E];have:j<c.length:=by omega
  simp[bX,Ul,this]
 have e1:(List.range ls.length).toArray.size=ls.length:=by simp
 have s:=Any.slices_SortFunc sortLot (NB c ls) (λ_=>rfl) (TY ls) (Ti ls) 164 #[] G 0 cap (List.range ls.length).toArray w eg A hH d (by simp;omega);rw[e1]at s;refine s.mono ?_
 rintro e w' ⟨rfl,b,n,os,hp,hs,rfl⟩;obtain⟨Z,a6,a0⟩:=hp;have z:b.size=ls.length:=by rw[Z];simp
 have l:b.toList.Perm (List.range ls.length):=by
  have e2:b.extract 0 ls.length=b:=by rw[<-z];simp
  have e3:((List.range ls.length).toArray.extract 0 ls.length).toList=List.range ls.length:=by simp
  have h3:=a0;rw[e2,e3]at h3;exact h3
 have D:∀i∈b.toList,i<ls.length:=λi T=>by simpa using l.mem_iff.1 T
 have J:TL (mA ls) b.toList:=by
  refine Xz.2 (λi j T M W=>?_);rw[Array.length_toList,z]at T M;have K:=hs i j (Nat.zero_le _) W M;rw[Uw]at K;have gi:b[i]! = b.toList[i]:=by simp[show i<b.size by omega]
  have gj:b[j]! = b.toList[j]:=by simp[show j<b.size by omega]
  rw[gi,gj]at K;have mi:b.toList[i]<ls.length:=D _ (by simp);have mj:b.toList[j]<ls.length:=D _ (by simp);rw[Lt mi,Lt mj]at K;exact K
 have S:=QL C l J;refine⟨rfl,jA _ _,_,_,rfl,?_⟩;have Q:=holds_sortWorld (NB c ls) w G 0 n (List.range ls.length).toArray b os d hH (by rw[z];simp);have H:=lt_sortWorld (NB c ls) w G 0 n b os d;intro k N;have X:k<ls.length:=by rw[fC]at N;exact N
 have q:=(Q k (by omega)).1;have hd:b[k]! = (TX ls).getD k 0:=by
  rw[<-S];simp[Ul,show k<b.size by omega]
 rw[hd,Yu]at q;unfold NB at q;rw[Lt (BQ X)]at q;exact⟨G,rfl,R,H,q⟩
theorem lU{rcs:List (Nat×Nat)}{S:Nat}{M:Mx}{v:Value}{td:Nat}{m:List Nat}{u:List Value}{os:List O}(h:PV os rcs w S M v td m u ls)(c:∀i j,i<ls.length->j<ls.length->(ls.getD i L0).id=(ls.getD j L0).id->i=j):Calls Tryz.prog 123 #[.pointer (some ⟨S,0,none⟩)] w λe w'=>Below w.heap.size w w'/\∃a cap,e=.returned (.slice a ls.length cap)/\PtrAt w.heap.size w' m a (TX ls):=by
 have b:=h.row;rw[h.len]at b;have x:=zb (Hb 0 v ls.length h.room m h.len w b);have c1:=h.c1;have q:=zb h;have l:=zb c;clear h b c;go_enter Tryz.func123,Tryz.ntmps123;go_wp2_with (go_at_call 162;refine x.mono ?_;rintro e w1 ⟨d,B,rfl,f⟩);have y:=zb (Dp w1 m ls w.heap.size B (q.below d).lots q.len q.room l f);have g:=zb d;have p:=zb f;clear d f;go_wp2_with (go_at_call 163;refine y.mono ?_;rintro e w2 ⟨rfl,s,z,cap2,t,r⟩);subst t;have n:Hid (Below w.heap.size w w2):=g.grown s g.size (λk A=>(p.lt k A).1);go_wp2_with fail;go_ret;exact⟨n,z,cap2,rfl,r⟩
