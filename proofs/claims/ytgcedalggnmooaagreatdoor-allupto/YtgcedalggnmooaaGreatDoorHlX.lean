import Derived.Test.YtgcedalggnmooaaGreatDoorOd1X
import Derived.Shelf.SlSortCmp.NoneTotal
set_option linter.all false
set_option maxRecDepth 100000
set_option maxHeartbeats 1600000
namespace Go.Proofs.YtgcedalggnmooaaGreatDoor
open Option renaming none->Y,some->V
open Value renaming slice->U,pointer->vb
open Ending renaming returned->vd
open Tryz
def xaq:=@Proofs.enters_of
def xcd:=@iface_of_trod
def qJ(ls:List L)(f:Nat->Bool)(i:Nat):Bool:=decide (0<(ls.getD i L0).hd)&&f (ls.getD i L0).id
def wX(ls:List L)(f:Nat->Bool)(k:Nat):List Nat:=(List.range k).filter (qJ ls f)
def lL(ls:List L)(i j:Nat):Bool:=decide ((ls.getD i L0).id<(ls.getD j L0).id)
def tI(ls:List L)(n:Nat):List Nat:=Af (lL ls) (wX ls (jD ls n) ls.length)
def ZW(ls:List L)(is:List Nat):List (Nat×Nat):=is.map λi=>(i,(ls.getD i L0).hd)
def ZP(ls:List L)(n:Nat):List (Nat×Nat):=ZW ls (tI ls n)
def JO(ls:List L)(f:Nat->Bool)(k:Nat):(wX ls f k).length<=k:=by
 have:=xag (qJ ls f) (List.range k)
 simpa [wX] using this
variable {i:Nat}{ls:List L}
def jQ{f:Nat->Bool}{k:Nat}:i∈wX ls f k↔i<k/\qJ ls f i=true:=by simp[wX]
def De(ls:List L)(f:Nat->Bool)(k:Nat):(wX ls f k).Nodup:=xbv.filter _
def uM{a b c:Nat}(d:lL ls b a=false)(e:lL ls c b=false):lL ls c a=false:=by
 simp[lL]at d e ⊢;omega
def uL{a b:Nat}(h:lL ls a b=true):lL ls b a=false:=by
 simp[lL]at h ⊢;omega
def Bg(lt:Nat->Nat->Bool)(f:∀a b c,lt b a=false->lt c b=false->lt c a=false)(has:∀a b,lt a b=true->lt b a=false)(x:Nat):∀l:List Nat,We lt l->We lt (ML lt x l)
 |[],_=>by simp[ML,We]
 |y::r,h=>by
  have i:=ym.1 h;unfold ML;split
  ·rename_i e;refine ym.2 ⟨λb d=>?_,Bg lt f has x r i.2⟩;rcases xz.1 ((jS _ x r).mem_iff.1 d) with rfl|d
   ·exact has _ _ e
   exact i.1 b d
  rename_i e;have g:lt y x=false:=by simpa using e
  refine ym.2 ⟨λb d=>?_,h⟩;rcases xz.1 d with rfl|d
  ·exact g
  exact f _ _ _ g (i.1 b d)
def rX(lt:Nat->Nat->Bool)(d:∀a b c,lt b a=false->lt c b=false->lt c a=false)(has:∀a b,lt a b=true->lt b a=false):∀l:List Nat,We lt (Af lt l)
 |[]=>List.Pairwise.nil
 |x::r=>Bg lt d has x _ (rX lt d has r)
def mC{lt:Nat->Nat->Bool}:∀{l m:List Nat},(∀a∈l,∀b∈l,lt a b=false->lt b a=false->a=b)->l.Perm m->We lt l->We lt m->l=m
 |[],m,_,hp,_,_=>by rw[List.nil_perm.1 hp]
 |x::l,[],_,hp,_,_=>absurd hp.length_eq (by simp)
 |x::l,y::m,ha,hp,hl,hm=>by
  have i:=ym.1 hl;have j:=ym.1 hm;have g:x∈y::m:=hp.mem_iff.1 (by simp);have c:y∈x::l:=hp.mem_iff.2 (by simp);have e:x=y:=by
   rcases xz.1 g with h|h
   ·exact h
   rcases xz.1 c with d|d
   ·exact d.symm
   exact ha x (by simp) y c (j.1 x h) (i.1 y d)
  subst e;have f:=List.perm_cons x |>.1 hp
  rw[mC (λa k b n=>ha a (by simp[k]) b (by simp[n])) f i.2 j.2]
def lJ(ls:List L)(n:Nat):(tI ls n).Perm (wX ls (jD ls n) ls.length):=dE _ _
def JN(ls:List L)(n:Nat):We (lL ls) (tI ls n):=rX (lL ls) (λ_ _ _=>uM) (λ_ _=>uL) _
def JM{n:Nat}:i∈tI ls n↔i<ls.length/\qJ ls (jD ls n) i=true:=by
 rw[(lJ ls n).mem_iff,jQ]
def JL(ls:List L)(n:Nat):(tI ls n).length<=ls.length:=by
 rw[(lJ ls n).length_eq];exact JO _ _ _
def Fa(c:∀i j,i<ls.length->j<ls.length->(ls.getD i L0).id=(ls.getD j L0).id->i=j){n:Nat}{m:List Nat}(d:m.Perm (wX ls (jD ls n) ls.length))(p:We (lL ls) m):m=tI ls n:=by
 refine mC (λa k b l g h=>?_) (d.trans (lJ ls n).symm) p (JN ls n);have e:=(jQ.1 (d.mem_iff.1 k)).1;have f:=(jQ.1 (d.mem_iff.1 l)).1;refine c a b e f ?_
 simp only[lL,Yv]at g h;omega
def dT(ls:List L)(a:List Nat):(ZW ls a).length=a.length:=by simp[ZW]
def yY(ls:List L)(a:List Nat)(i:Nat):ZW ls (a++[i])=ZW ls a++[(i,(ls.getD i L0).hd)]:=by simp[ZW]
def Wu(ls:List L):List Nat:=Af (lL ls) (List.range ls.length)
def jA(ls:List L):(Wu ls).Perm (List.range ls.length):=dE _ _
def CH(ls:List L):We (lL ls) (Wu ls):=rX (lL ls) (λ_ _ _=>uM) (λ_ _=>uL) _
def cC(ls:List L):(Wu ls).length=ls.length:=by rw[(jA ls).length_eq,List.length_range]
def eJ:i∈Wu ls↔i<ls.length:=by rw[(jA ls).mem_iff,xdb]
def Au(ls:List L):(Wu ls).Nodup:=(jA ls).nodup_iff.2 xbv
def wC{k:Nat}(a:k<ls.length):(Wu ls).getD k 0<ls.length:=by
 have h:k<(Wu ls).length:=by rw[cC];exact a
 exact eJ.1 (by simp[WI,h])
def Td(c:∀i j,i<ls.length->j<ls.length->(ls.getD i L0).id=(ls.getD j L0).id->i=j){m:List Nat}(f:m.Perm (List.range ls.length))(n:We (lL ls) m):m=Wu ls:=by
 refine mC (lt:=lL ls) ?_ (f.trans (jA ls).symm) n (CH ls)
 intro a k b l g h;have d:a<ls.length:=by simpa using f.mem_iff.1 k
 have e:b<ls.length:=by simpa using f.mem_iff.1 l
 refine c a b d e ?_
 simp only[lL,Yv]at g h;omega
open Go.RowKit
def wE(x y:Int)(W:World):Calls prog 165 #[.int .i64 x,.int .i64 y] W λe w'=>e=vd (.int .i64 (Lib.compareInt x y))/\w'=W:=by
 have c:(x != x)=false:=by simp
 have d:(y != y)=false:=by simp
 unfold Lib.compareInt;by_cases b:x<y
 ·rw[xh b];go_enter func165,ntmps165;go_wp2_with (first|(go_at_call 187;go_in)|fail);go_ret;exact⟨rfl,rfl⟩
 rw[xg b];by_cases a:y<x
 ·rw[xh a];go_enter func165,ntmps165;go_wp2_with (first|(go_at_call 187;go_in)|fail);go_ret;exact⟨rfl,rfl⟩
 rw[xg a];go_enter func165,ntmps165;go_wp2_with (first|(go_at_call 187;go_in)|fail);go_ret;exact⟨rfl,rfl⟩
open Go.Shelf Go.RowKit Go.Lib Go.Sort
def brs{P: Program}{f: Nat}{B: Func}(h : (((P.funcs[f]?).getD default).name == "runtime.NumGoroutine") = false)(e : P.funcs[f]? = V { B with name := ((P.funcs[f]?).getD default).name }): Bears P f B := ⟨_, h, e⟩
def zaf:Go.Shelf.Ren:=⟨fun|6=>163|15=>186|14=>185|28=>210|29=>211|20=>202|21=>203|22=>204|23=>205|24=>206|25=>207|26=>208|27=>209|46=>242|47=>243|48=>244|49=>245|50=>246|57=>260|n=>n,fun|22=>115|24=>191|25=>253|3=>3|39=>176|0=>0|53=>188|55=>300|4=>4|46=>292|45=>291|50=>296|5=>5|9=>9|66=>321|70=>325|76=>334|77=>135|n=>n,fun|n=>n⟩
def zai:SlLaysF.n6 prog zaf:=by constructor<;>first|kernel_rfl|(intro w;kernel_rfl)|(apply brs<;>kernel_rfl)
def zae:Go.Shelf.Ren:=⟨fun|6=>163|15=>186|14=>185|28=>210|29=>211|20=>202|21=>203|22=>204|23=>205|24=>206|25=>207|26=>208|27=>209|46=>242|47=>243|48=>244|49=>245|50=>246|57=>260|n=>n,fun|22=>115|24=>191|25=>253|3=>3|39=>176|0=>0|53=>188|55=>300|4=>4|46=>292|45=>291|50=>296|5=>5|9=>9|66=>321|70=>325|76=>334|77=>135|n=>n,fun|n=>n⟩
def zah:SlLaysF0.n6 prog zae:=by constructor<;>first|kernel_rfl|(intro w;kernel_rfl)|(apply brs<;>kernel_rfl)
def cl(ls:List L)(i:Nat):Nat:=if i<ls.length then i else 0
def Th(h:0<ls.length)(i:Nat):cl ls i<ls.length:=by unfold cl;split<;>omega
def Ni(h:i<ls.length):cl ls i=i:=xh h
def Pz(bs:List Nat)(ls:List L)(i:Nat):Value:=vb (V ⟨bs.getD (cl ls i) 0,0,Y⟩)
def Wv(ls:List L)(i j:Nat):Int:=Lib.compareInt ((ls.getD (cl ls i) L0).id:Int) ((ls.getD (cl ls j) L0).id:Int)
def WW(ls:List L)(i j:Nat):ltOf (Wv ls) i j=lL ls (cl ls i) (cl ls j):=by
 unfold ltOf Wv Lib.compareInt lL;by_cases b:(ls.getD (cl ls i) L0).id<(ls.getD (cl ls j) L0).id
 ·have a:((ls.getD (cl ls i) L0).id:Int)<((ls.getD (cl ls j) L0).id:Int):=by omega
  rw[xh a,ya b];rfl
 have a:¬((ls.getD (cl ls i) L0).id:Int)<((ls.getD (cl ls j) L0).id:Int):=by omega
 rw[xg a,xy b];split<;>rfl
def VB(ls:List L):SWO (ltOf (Wv ls)):={
 irrefl x:=by rw[WW];simp[lL]
 trans x y z h1 h2:=by rw[WW]at *;simp[lL]at *;omega
 ntrans x y z h1 h2:=by rw[WW]at *;simp[lL]at *;omega}
def CJ(x y:Nat)(b c:Nat)(W:World)(f:W.cell? ⟨b,0,Y⟩=V (.int .i64 x))(g:W.cell? ⟨c,0,Y⟩=V (.int .i64 y)):Calls prog 164 #[vb (V ⟨b,0,Y⟩),vb (V ⟨c,0,Y⟩)] W λe w'=>e=vd (.int .i64 (Lib.compareInt (x:Int) (y:Int)))/\∃q os',w'=grow (W.drewN q) os':=by
 have a:=λd=>wE (x:Int) (y:Int) d
 generalize Lib.compareInt (x:Int) (y:Int)=r at a ⊢;go_enter func164,ntmps164;go_wp2_with fail;go_quiet ((go_at_call 165;exact xaB (a _)));go_wp2_with fail;go_ret;exact⟨rfl,nq,#[],by rw[grow_empty]⟩
variable {w:World}
def jN{g n:Nat}{os:Array Obj}(enc:Nat->Value)(d:Array Nat):w.grownBy (sortWorld enc w g 0 n d os) (V g):=by
 unfold sortWorld;refine⟨rfl,rfl,rfl,by simp,λq b a=>?_⟩;rw[heap_grow_old _ _ (by simpa using b)];have:g≠q:=λe=>a (by rw[e])
 simp[putRow,mapBlock,Sort.ahead,Array.getElem?_modify,this]
def Rn:(prog.info? 191).map (λi=>(i.zero,i.size,i.bytes))=V (V (vb Y),1,8):=by kernel_rfl
def Uo:prog.underlying 115=V (.slice 191):=by kernel_rfl
def Tn(w:World):(binOp .eql 115 (U Y 0 0) (U Y 0 0)).run prog w=.ok (.bool true) w:=by kernel_rfl
def Tp(a:Addr)(n c:Nat)(w:World):(binOp .eql 115 (U (V a) n c) (U Y 0 0)).run prog w=.ok (.bool false) w:=by kernel_rfl
def IZ(m:Nat)(v:Value)(n:Nat)(Z:n<=30)(f:List Nat)(G:f.length=n)(w:World)(z:w.ownsRow m 191 1 v n (aW f)):Calls prog 162 #[v] w λe w'=>Below w.heap.size w w'/\∃v',e=vd v'/\w'.ownsRow w.heap.size 191 1 v' n (aW f):=by
 obtain⟨X,Q,B,C,D⟩:=Yc Rn;have T:=Tn;have W:=Tp;rcases z.2 with ⟨rfl,rfl⟩|⟨g,cap,K,rfl,N,F,S,P,t,l⟩
 ·have M:f=[]:=yl.1 G;subst M;go_enter func162,ntmps162;go_wp2_with fail;go_ret;exact⟨xm _ _,_,rfl,yd _ _ _ _⟩
 have a:=z.cells (g:=g) rfl;have i:(aW f).length=n:=by simp[aW,G]
 have A:∀u∈aW f,u.oneCell'=true:=by intro u p;simp[aW]at p;obtain⟨b,_,rfl⟩:=p;rfl
 have r:=Wm w (.cells #[] 191);have x:g<w.heap.size:=zc F;have h:(w.alloc (.cells #[] 191)).ownsRow w.heap.size 191 1 (U (V ⟨w.heap.size,0,Y⟩) 0 0) 0 []:=YE w #[] 0 (xe _) (by unfold maxLen;simp) rfl;have H:Ha (∀j u,(aW f)[j]?=V u->(w.alloc (.cells #[] 191)).cell? ((⟨g,0,Y⟩:Addr).add j)=V u):=λj u p=>by
  have q:=a j u p;rw[Addr.add_lit]at q ⊢;exact(r.cell (by exact x)).trans q
 have E:=zb r;clear a z r F t l;go_enter func162,ntmps162;go_wp2_with (at_builtin;refine XW _ rfl _ _ 115 rfl w.heap.size 191 X (vb Y) 1 8 Uo Q B C D rfl (by decide) _ 0 [] rfl h ⟨g,0,Y⟩ n cap (aW f) rfl (by rw[i];omega) H A ?c3 ?c4 ?c5 ?_)
 case c3=>unfold maxLen;omega
 case c4=>omega
 case c5=>simp
 intro v' w2 d c y;have s:Below w.heap.size w w2:=E.grown c E.size (λk R=>(h.lt k R).1);have J:=zb d;clear d c y h;go_wp2_with fail;go_ret;exact⟨s,v',rfl,J⟩
def PtrAt(B:Nat)(w:World)(bs:List Nat)(a:Option Addr)(l:List Nat):Prop:=∀k,k<l.length->∃G,a=V ⟨G,0,Y⟩/\B<=G/\G<w.heap.size/\w.cell? ⟨G,k,Y⟩=V (vb (V ⟨bs.getD (l.getD k 0) 0,0,Y⟩))
def PtrAt.below{B:Nat}{w':World}{b:List Nat}{a:Option Addr}{l:List Nat}(h:PtrAt B w b a l)(d:Below w.heap.size w w'):PtrAt B w' b a l:=λk i=>by
 obtain⟨G,e,f,c,g⟩:=h k i;exact⟨G,e,f,xl c d.size,(d.cell (by exact c)).trans g⟩
def Ee(w:World)(c:List Nat)(ls:List L)(r:Nat)(v:Value)(F:LotsOK w c ls)(a4:c.length=ls.length)(a1:ls.length<=30)(C:∀i j,i<ls.length->j<ls.length->(ls.getD i L0).id=(ls.getD j L0).id->i=j)
  (h:w.ownsRow r 191 1 v ls.length (aW c)) :
  Calls prog 163 #[v,.func (.func 164) #[] #[]] w λe w'=>e=vd (.tuple #[])/\w.grownBy w' v.ownBlock/\∃a cap,v=U a ls.length cap/\PtrAt r w' c a (Wu ls):=by
 obtain⟨a,cap,hv⟩:=zj h;subst hv;by_cases h0:ls.length=0
 ·have hn:ls=[]:=yl.1 h0;subst hn;refine(AnyF.slices_SortFunc_none (P:=prog) zah a cap (.func (.func 164) #[] #[]) w).mono ?_
  rintro e w' ⟨rfl,rfl⟩;exact⟨rfl,⟨rfl,rfl,rfl,xe _,λ_ _ _=>rfl⟩,a,cap,rfl,λk N=>absurd N (by rw[cC];simp)⟩
 have p:0<ls.length:=by omega
 obtain⟨G,a3,a2,R,d⟩:=zG h p
 cases a2;have eg:∀args w,(callFunc 164 args).run prog w=.ok (.enter 164 args) w:=xaq func164 (by kernel_rfl) rfl
 obtain⟨a5,f⟩:=zi h (g:=G) rfl;have A:CmpLays1 prog 164 #[] (Pz c ls) (Wv ls) G 0 (List.range ls.length).toArray.size w:=by
  intro m os dk hs x y;obtain⟨a7,t⟩:=F (cl ls x) (Th p x);obtain⟨a8,u⟩:=F (cl ls y) (Th p y);have B:=jN (w:=w) (g:=G) (n:=m) (os:=os) (Pz c ls) dk;have qx:=(B.block _ (zc t) (λe=>zt t f (by decide) (xt e))).trans t;have qy:=(B.block _ (zc u) (λe=>zt u f (by decide) (xt e))).trans u;exact CJ (ls.getD (cl ls x) L0).id (ls.getD (cl ls y) L0).id _ _ _ (by rw[za qx];rfl) (by rw[za qy];rfl)
 have hH:Holds (Pz c ls) w G 0 (List.range ls.length).toArray:=by
  intro j M;have E:j<ls.length:=by simpa using M
  have hd:(List.range ls.length).toArray[j]! = j:=by simp[E]
  refine⟨?_,by simp[World.frozen?,f]⟩;rw[hd,xaj,h.cellAt j (by omega)];unfold Pz;rw[Ni E];have:j<c.length:=by omega
  simp[aW,WI,this]
 have e1:(List.range ls.length).toArray.size=ls.length:=by simp
 have s:=Any.slices_SortFunc zai (Pz c ls) (λ_=>rfl) (Wv ls) (VB ls) 164 #[] G 0 cap (List.range ls.length).toArray w eg A hH d (by simp;omega);rw[e1]at s;refine s.mono ?_
 rintro e w' ⟨rfl,b,n,os,hp,hs,rfl⟩;obtain⟨Z,a6,a0⟩:=hp;have z:b.size=ls.length:=by rw[Z];simp
 have l:b.toList.Perm (List.range ls.length):=by
  have e2:b.extract 0 ls.length=b:=by rw[<-z];simp
  have e3:((List.range ls.length).toArray.extract 0 ls.length).toList=List.range ls.length:=by simp
  have h3:=a0;rw[e2,e3]at h3;exact h3
 have D:∀i∈b.toList,i<ls.length:=λi T=>by simpa using l.mem_iff.1 T
 have J:We (lL ls) b.toList:=by
  refine Ye.2 (λi j T M W=>?_);rw[Yy,z]at T M;have K:=hs i j (Nat.zero_le _) W M;rw[WW]at K;have gi:b[i]! = b.toList[i]:=by simp[show i<b.size by omega]
  have gj:b[j]! = b.toList[j]:=by simp[show j<b.size by omega]
  rw[gi,gj]at K;have mi:b.toList[i]<ls.length:=D _ (by simp);have mj:b.toList[j]<ls.length:=D _ (by simp);rw[Ni mi,Ni mj]at K;exact K
 have S:=Td C l J;refine⟨rfl,jN _ _,_,_,rfl,?_⟩;have Q:=holds_sortWorld (Pz c ls) w G 0 n (List.range ls.length).toArray b os d hH (by rw[z];simp);have H:=lt_sortWorld (Pz c ls) w G 0 n b os d;intro k N;have X:k<ls.length:=by rw[cC]at N;exact N
 have q:=(Q k (by omega)).1;have hd:b[k]! = (Wu ls).getD k 0:=by
  rw[<-S];simp[WI,show k<b.size by omega]
 rw[hd,xaj]at q;unfold Pz at q;rw[Ni (wC X)]at q;exact⟨G,rfl,R,H,q⟩
def fO{rj:List (Nat×Nat)}{S:Nat}{M:Mx}{v:Value}{td:Nat}{m:List Nat}{u:List Value}{os:List O}(h:PV os rj w S M v td m u ls)(c:∀i j,i<ls.length->j<ls.length->(ls.getD i L0).id=(ls.getD j L0).id->i=j):Calls prog 123 #[vb (V ⟨S,0,Y⟩)] w λe w'=>Below w.heap.size w w'/\∃a cap,e=vd (U a ls.length cap)/\PtrAt w.heap.size w' m a (Wu ls):=by
 have b:=h.row;rw[h.len]at b;have x:=zb (IZ 0 v ls.length h.room m h.len w b);have c1:=h.c1;have q:=zb h;have l:=zb c;clear h b c;go_enter func123,ntmps123;go_wp2_with (go_at_call 162;refine x.mono ?_;rintro e w1 ⟨d,B,rfl,f⟩);have y:=zb (Ee w1 m ls w.heap.size B (q.below d).lots q.len q.room l f);have g:=zb d;have p:=zb f;clear d f;go_wp2_with (go_at_call 163;refine y.mono ?_;rintro e w2 ⟨rfl,s,z,cap2,t,r⟩);subst t;have n:Ha (Below w.heap.size w w2):=g.grown s g.size (λk A=>(p.lt k A).1);go_wp2_with fail;go_ret;exact⟨n,z,cap2,rfl,r⟩
