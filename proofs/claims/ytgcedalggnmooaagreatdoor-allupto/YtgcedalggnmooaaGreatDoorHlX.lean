import Derived.Test.YtgcedalggnmooaaGreatDoorOd1X
import Derived.Shelf.SlSortCmp.NoneTotal
set_option linter.all false
set_option maxRecDepth 100000
set_option maxHeartbeats 1600000
namespace Go.Proofs.YtgcedalggnmooaaGreatDoor
open Tryz
def YI:=@Proofs.enters_of
def xby:=@iface_of_trod
def qG(ls:List L)(f:Nat->Bool)(i:Nat):Bool:=decide (0<(ls.getD i L0).hd)&&f (ls.getD i L0).id
def wN(ls:List L)(f:Nat->Bool)(k:Nat):List Nat:=(List.range k).filter (qG ls f)
def lI(ls:List L)(i j:Nat):Bool:=decide ((ls.getD i L0).id<(ls.getD j L0).id)
def tF(ls:List L)(n:Nat):List Nat:=yS (lI ls) (wN ls (jA ls n) ls.length)
def ZS(ls:List L)(is:List Nat):List (Nat×Nat):=is.map λi=>(i,(ls.getD i L0).hd)
def ZK(ls:List L)(n:Nat):List (Nat×Nat):=ZS ls (tF ls n)
def Js(ls:List L)(f:Nat->Bool)(k:Nat):(wN ls f k).length<=k:=by
 have:=Yy (qG ls f) (List.range k)
 simpa [wN] using this
variable {i:Nat}{ls:List L}
def jO{f:Nat->Bool}{k:Nat}:i∈wN ls f k↔i<k/\qG ls f i=true:=by simp[wN]
def CR(ls:List L)(f:Nat->Bool)(k:Nat):(wN ls f k).Nodup:=xaR.filter _
def uH{a b c:Nat}(d:lI ls b a=false)(e:lI ls c b=false):lI ls c a=false:=by
 simp[lI]at d e ⊢;omega
def uG{a b:Nat}(h:lI ls a b=true):lI ls b a=false:=by
 simp[lI]at h ⊢;omega
def AS(lt:Nat->Nat->Bool)(f:∀a b c,lt b a=false->lt c b=false->lt c a=false)(has:∀a b,lt a b=true->lt b a=false)(x:Nat):∀l:List Nat,Vx lt l->Vx lt (Mj lt x l)
 |[],_=>by simp[Mj,Vx]
 |y::r,h=>by
  have i:=XE.1 h;unfold Mj;split
  ·rename_i e;refine XE.2 ⟨λb d=>?_,AS lt f has x r i.2⟩;rcases xz.1 ((jQ _ x r).mem_iff.1 d) with rfl|d
   ·exact has _ _ e
   exact i.1 b d
  rename_i e;have g:lt y x=false:=by simpa using e
  refine XE.2 ⟨λb d=>?_,h⟩;rcases xz.1 d with rfl|d
  ·exact g
  exact f _ _ _ g (i.1 b d)
def rU(lt:Nat->Nat->Bool)(d:∀a b c,lt b a=false->lt c b=false->lt c a=false)(has:∀a b,lt a b=true->lt b a=false):∀l:List Nat,Vx lt (yS lt l)
 |[]=>List.Pairwise.nil
 |x::r=>AS lt d has x _ (rU lt d has r)
def lZ{lt:Nat->Nat->Bool}:∀{l m:List Nat},(∀a∈l,∀b∈l,lt a b=false->lt b a=false->a=b)->l.Perm m->Vx lt l->Vx lt m->l=m
 |[],m,_,hp,_,_=>by rw[List.nil_perm.1 hp]
 |x::l,[],_,hp,_,_=>absurd hp.length_eq (by simp)
 |x::l,y::m,ha,hp,hl,hm=>by
  have i:=XE.1 hl;have j:=XE.1 hm;have g:x∈y::m:=hp.mem_iff.1 (by simp);have c:y∈x::l:=hp.mem_iff.2 (by simp);have e:x=y:=by
   rcases xz.1 g with h|h
   ·exact h
   rcases xz.1 c with d|d
   ·exact d.symm
   exact ha x (by simp) y c (j.1 x h) (i.1 y d)
  subst e;have f:=List.perm_cons x |>.1 hp
  rw[lZ (λa k b n=>ha a (by simp[k]) b (by simp[n])) f i.2 j.2]
def lG(ls:List L)(n:Nat):(tF ls n).Perm (wN ls (jA ls n) ls.length):=dD _ _
def Jr(ls:List L)(n:Nat):Vx (lI ls) (tF ls n):=rU (lI ls) (λ_ _ _=>uH) (λ_ _=>uG) _
def Jq{n:Nat}:i∈tF ls n↔i<ls.length/\qG ls (jA ls n) i=true:=by
 rw[(lG ls n).mem_iff,jO]
def Jp(ls:List L)(n:Nat):(tF ls n).length<=ls.length:=by
 rw[(lG ls n).length_eq];exact Js _ _ _
def EJ(c:∀i j,i<ls.length->j<ls.length->(ls.getD i L0).id=(ls.getD j L0).id->i=j){n:Nat}{m:List Nat}(d:m.Perm (wN ls (jA ls n) ls.length))(p:Vx (lI ls) m):m=tF ls n:=by
 refine lZ (λa k b l g h=>?_) (d.trans (lG ls n).symm) p (Jr ls n);have e:=(jO.1 (d.mem_iff.1 k)).1;have f:=(jO.1 (d.mem_iff.1 l)).1;refine c a b e f ?_
 simp only[lI,yn]at g h;omega
def dQ(ls:List L)(a:List Nat):(ZS ls a).length=a.length:=by simp[ZS]
def yM(ls:List L)(a:List Nat)(i:Nat):ZS ls (a++[i])=ZS ls a++[(i,(ls.getD i L0).hd)]:=by simp[ZS]
def VO(ls:List L):List Nat:=yS (lI ls) (List.range ls.length)
def iX(ls:List L):(VO ls).Perm (List.range ls.length):=dD _ _
def Cv(ls:List L):Vx (lI ls) (VO ls):=rU (lI ls) (λ_ _ _=>uH) (λ_ _=>uG) _
def bX(ls:List L):(VO ls).length=ls.length:=by rw[(iX ls).length_eq,List.length_range]
def eH:i∈VO ls↔i<ls.length:=by rw[(iX ls).mem_iff,xcw]
def Af(ls:List L):(VO ls).Nodup:=(iX ls).nodup_iff.2 xaR
def vU{k:Nat}(a:k<ls.length):(VO ls).getD k 0<ls.length:=by
 have h:k<(VO ls).length:=by rw[bX];exact a
 exact eH.1 (by simp[Wc,h])
def Su(c:∀i j,i<ls.length->j<ls.length->(ls.getD i L0).id=(ls.getD j L0).id->i=j){m:List Nat}(f:m.Perm (List.range ls.length))(n:Vx (lI ls) m):m=VO ls:=by
 refine lZ (lt:=lI ls) ?_ (f.trans (iX ls).symm) n (Cv ls)
 intro a k b l g h;have d:a<ls.length:=by simpa using f.mem_iff.1 k
 have e:b<ls.length:=by simpa using f.mem_iff.1 l
 refine c a b d e ?_
 simp only[lI,yn]at g h;omega
open Go.RowKit
def vW(x y:Int)(W:World):Calls prog 165 #[.int .i64 x,.int .i64 y] W λe w'=>e=.returned (.int .i64 (Lib.compareInt x y))/\w'=W:=by
 have c:(x != x)=false:=by simp
 have d:(y != y)=false:=by simp
 unfold Lib.compareInt;by_cases b:x<y
 ·rw[xh b];go_enter func165,ntmps165;go_wp2_with (first|(go_at_call 187;go_in)|fail);go_ret;exact⟨rfl,rfl⟩
 rw[xg b];by_cases a:y<x
 ·rw[xh a];go_enter func165,ntmps165;go_wp2_with (first|(go_at_call 187;go_in)|fail);go_ret;exact⟨rfl,rfl⟩
 rw[xg a];go_enter func165,ntmps165;go_wp2_with (first|(go_at_call 187;go_in)|fail);go_ret;exact⟨rfl,rfl⟩
open Go.Shelf Go.RowKit Go.Lib Go.Sort
def VK{P: Program}{f: Nat}{B: Func}(h : (((P.funcs[f]?).getD default).name == "runtime.NumGoroutine") = false)(e : P.funcs[f]? = some { B with name := ((P.funcs[f]?).getD default).name }): Bears P f B := ⟨_, h, e⟩
def DQ:Go.Shelf.Ren:=⟨fun|6=>163|15=>186|14=>185|28=>210|29=>211|20=>202|21=>203|22=>204|23=>205|24=>206|25=>207|26=>208|27=>209|46=>242|47=>243|48=>244|49=>245|50=>246|57=>260|n=>n,fun|22=>115|24=>191|25=>253|3=>3|39=>176|0=>0|53=>188|55=>300|4=>4|46=>292|45=>291|50=>296|5=>5|9=>9|66=>321|70=>325|76=>334|77=>135|n=>n,fun|n=>n⟩
def RC:SlLaysF.n6 prog DQ:=by constructor<;>first|kernel_rfl|(intro w;kernel_rfl)|(apply VK<;>kernel_rfl)
def BV:Go.Shelf.Ren:=⟨fun|6=>163|15=>186|14=>185|28=>210|29=>211|20=>202|21=>203|22=>204|23=>205|24=>206|25=>207|26=>208|27=>209|46=>242|47=>243|48=>244|49=>245|50=>246|57=>260|n=>n,fun|22=>115|24=>191|25=>253|3=>3|39=>176|0=>0|53=>188|55=>300|4=>4|46=>292|45=>291|50=>296|5=>5|9=>9|66=>321|70=>325|76=>334|77=>135|n=>n,fun|n=>n⟩
def Ou:SlLaysF0.n6 prog BV:=by constructor<;>first|kernel_rfl|(intro w;kernel_rfl)|(apply VK<;>kernel_rfl)
def cl(ls:List L)(i:Nat):Nat:=if i<ls.length then i else 0
def Sz(h:0<ls.length)(i:Nat):cl ls i<ls.length:=by unfold cl;split<;>omega
def MH(h:i<ls.length):cl ls i=i:=xh h
def OX(bs:List Nat)(ls:List L)(i:Nat):Value:=.pointer (some ⟨bs.getD (cl ls i) 0,0,none⟩)
def VP(ls:List L)(i j:Nat):Int:=Lib.compareInt ((ls.getD (cl ls i) L0).id:Int) ((ls.getD (cl ls j) L0).id:Int)
def Wq(ls:List L)(i j:Nat):ltOf (VP ls) i j=lI ls (cl ls i) (cl ls j):=by
 unfold ltOf VP Lib.compareInt lI;by_cases b:(ls.getD (cl ls i) L0).id<(ls.getD (cl ls j) L0).id
 ·have a:((ls.getD (cl ls i) L0).id:Int)<((ls.getD (cl ls j) L0).id:Int):=by omega
  rw[xh a,Xt b];rfl
 have a:¬((ls.getD (cl ls i) L0).id:Int)<((ls.getD (cl ls j) L0).id:Int):=by omega
 rw[xg a,xy b];split<;>rfl
def UT(ls:List L):SWO (ltOf (VP ls)):={
 irrefl x:=by rw[Wq];simp[lI]
 trans x y z h1 h2:=by rw[Wq]at *;simp[lI]at *;omega
 ntrans x y z h1 h2:=by rw[Wq]at *;simp[lI]at *;omega}
def Cx(x y:Nat)(b c:Nat)(W:World)(f:W.cell? ⟨b,0,none⟩=some (.int .i64 x))(g:W.cell? ⟨c,0,none⟩=some (.int .i64 y)):Calls prog 164 #[.pointer (some ⟨b,0,none⟩),.pointer (some ⟨c,0,none⟩)] W λe w'=>e=.returned (.int .i64 (Lib.compareInt (x:Int) (y:Int)))/\∃q os',w'=grow (W.drewN q) os':=by
 have a:=λd=>vW (x:Int) (y:Int) d
 generalize Lib.compareInt (x:Int) (y:Int)=r at a ⊢;go_enter func164,ntmps164;go_wp2_with fail;go_quiet ((go_at_call 165;exact YT (a _)));go_wp2_with fail;go_ret;exact⟨rfl,nq,#[],by rw[grow_empty]⟩
variable {w:World}
def jL{g n:Nat}{os:Array Obj}(enc:Nat->Value)(d:Array Nat):w.grownBy (sortWorld enc w g 0 n d os) (some g):=by
 unfold sortWorld;refine⟨rfl,rfl,rfl,by simp,λq b a=>?_⟩;rw[heap_grow_old _ _ (by simpa using b)];have:g≠q:=λe=>a (by rw[e])
 simp[putRow,mapBlock,Sort.ahead,Array.getElem?_modify,this]
def QD:(prog.info? 191).map (λi=>(i.zero,i.size,i.bytes))=some (some (.pointer none),1,8):=by kernel_rfl
def TJ:prog.underlying 115=some (.slice 191):=by kernel_rfl
def SE(w:World):(binOp .eql 115 (.slice none 0 0) (.slice none 0 0)).run prog w=.ok (.bool true) w:=by kernel_rfl
def SF(a:Addr)(n c:Nat)(w:World):(binOp .eql 115 (.slice (some a) n c) (.slice none 0 0)).run prog w=.ok (.bool false) w:=by kernel_rfl
def IC(m:Nat)(v:Value)(n:Nat)(Z:n<=30)(f:List Nat)(G:f.length=n)(w:World)(z:w.ownsRow m 191 1 v n (aV f)):Calls prog 162 #[v] w λe w'=>Below w.heap.size w w'/\∃v',e=.returned v'/\w'.ownsRow w.heap.size 191 1 v' n (aV f):=by
 obtain⟨X,Q,B,C,D⟩:=XT QD;have T:=SE;have W:=SF;rcases z.2 with ⟨rfl,rfl⟩|⟨g,cap,K,rfl,N,F,S,P,t,l⟩
 ·have M:f=[]:=XD.1 G;subst M;go_enter func162,ntmps162;go_wp2_with fail;go_ret;exact⟨xm _ _,_,rfl,Xx _ _ _ _⟩
 have a:=z.cells (g:=g) rfl;have i:(aV f).length=n:=by simp[aV,G]
 have A:∀u∈aV f,u.oneCell'=true:=by intro u p;simp[aV]at p;obtain⟨b,_,rfl⟩:=p;rfl
 have r:=VE w (.cells #[] 191);have x:g<w.heap.size:=zc F;have h:(w.alloc (.cells #[] 191)).ownsRow w.heap.size 191 1 (.slice (some ⟨w.heap.size,0,none⟩) 0 0) 0 []:=Yb w #[] 0 (xe _) (by unfold maxLen;simp) rfl;have H:Ha (∀j u,(aV f)[j]?=some u->(w.alloc (.cells #[] 191)).cell? ((⟨g,0,none⟩:Addr).add j)=some u):=λj u p=>by
  have q:=a j u p;rw[Addr.add_lit]at q ⊢;exact(r.cell (by exact x)).trans q
 have E:=zb r;clear a z r F t l;go_enter func162,ntmps162;go_wp2_with (at_builtin;refine Xr _ rfl _ _ 115 rfl w.heap.size 191 X (.pointer none) 1 8 TJ Q B C D rfl (by decide) _ 0 [] rfl h ⟨g,0,none⟩ n cap (aV f) rfl (by rw[i];omega) H A ?c3 ?c4 ?c5 ?_)
 case c3=>unfold maxLen;omega
 case c4=>omega
 case c5=>simp
 intro v' w2 d c y;have s:Below w.heap.size w w2:=E.grown c E.size (λk R=>(h.lt k R).1);have J:=zb d;clear d c y h;go_wp2_with fail;go_ret;exact⟨s,v',rfl,J⟩
def PtrAt(B:Nat)(w:World)(bs:List Nat)(a:Option Addr)(l:List Nat):Prop:=∀k,k<l.length->∃G,a=some ⟨G,0,none⟩/\B<=G/\G<w.heap.size/\w.cell? ⟨G,k,none⟩=some (.pointer (some ⟨bs.getD (l.getD k 0) 0,0,none⟩))
def PtrAt.below{B:Nat}{w':World}{b:List Nat}{a:Option Addr}{l:List Nat}(h:PtrAt B w b a l)(d:Below w.heap.size w w'):PtrAt B w' b a l:=λk i=>by
 obtain⟨G,e,f,c,g⟩:=h k i;exact⟨G,e,f,xl c d.size,(d.cell (by exact c)).trans g⟩
def DP(w:World)(c:List Nat)(ls:List L)(r:Nat)(v:Value)(F:LotsOK w c ls)(a4:c.length=ls.length)(a1:ls.length<=30)(C:∀i j,i<ls.length->j<ls.length->(ls.getD i L0).id=(ls.getD j L0).id->i=j)
  (h:w.ownsRow r 191 1 v ls.length (aV c)) :
  Calls prog 163 #[v,.func (.func 164) #[] #[]] w λe w'=>e=.returned (.tuple #[])/\w.grownBy w' v.ownBlock/\∃a cap,v=.slice a ls.length cap/\PtrAt r w' c a (VO ls):=by
 obtain⟨a,cap,hv⟩:=zj h;subst hv;by_cases h0:ls.length=0
 ·have hn:ls=[]:=XD.1 h0;subst hn;refine(AnyF.slices_SortFunc_none (P:=prog) Ou a cap (.func (.func 164) #[] #[]) w).mono ?_
  rintro e w' ⟨rfl,rfl⟩;exact⟨rfl,⟨rfl,rfl,rfl,xe _,λ_ _ _=>rfl⟩,a,cap,rfl,λk N=>absurd N (by rw[bX];simp)⟩
 have p:0<ls.length:=by omega
 obtain⟨G,a3,a2,R,d⟩:=zG h p
 cases a2;have eg:∀args w,(callFunc 164 args).run prog w=.ok (.enter 164 args) w:=YI func164 (by kernel_rfl) rfl
 obtain⟨a5,f⟩:=zh h (g:=G) rfl;have A:CmpLays1 prog 164 #[] (OX c ls) (VP ls) G 0 (List.range ls.length).toArray.size w:=by
  intro m os dk hs x y;obtain⟨a7,t⟩:=F (cl ls x) (Sz p x);obtain⟨a8,u⟩:=F (cl ls y) (Sz p y);have B:=jL (w:=w) (g:=G) (n:=m) (os:=os) (OX c ls) dk;have qx:=(B.block _ (zc t) (λe=>zt t f (by decide) (xt e))).trans t;have qy:=(B.block _ (zc u) (λe=>zt u f (by decide) (xt e))).trans u;exact Cx (ls.getD (cl ls x) L0).id (ls.getD (cl ls y) L0).id _ _ _ (by rw[za qx];rfl) (by rw[za qy];rfl)
 have hH:Holds (OX c ls) w G 0 (List.range ls.length).toArray:=by
  intro j M;have E:j<ls.length:=by simpa using M
  have hd:(List.range ls.length).toArray[j]! = j:=by simp[E]
  refine⟨?_,by simp[World.frozen?,f]⟩;rw[hd,Yz,h.cellAt j (by omega)];unfold OX;rw[MH E];have:j<c.length:=by omega
  simp[aV,Wc,this]
 have e1:(List.range ls.length).toArray.size=ls.length:=by simp
 have s:=Any.slices_SortFunc RC (OX c ls) (λ_=>rfl) (VP ls) (UT ls) 164 #[] G 0 cap (List.range ls.length).toArray w eg A hH d (by simp;omega);rw[e1]at s;refine s.mono ?_
 rintro e w' ⟨rfl,b,n,os,hp,hs,rfl⟩;obtain⟨Z,a6,a0⟩:=hp;have z:b.size=ls.length:=by rw[Z];simp
 have l:b.toList.Perm (List.range ls.length):=by
  have e2:b.extract 0 ls.length=b:=by rw[<-z];simp
  have e3:((List.range ls.length).toArray.extract 0 ls.length).toList=List.range ls.length:=by simp
  have h3:=a0;rw[e2,e3]at h3;exact h3
 have D:∀i∈b.toList,i<ls.length:=λi T=>by simpa using l.mem_iff.1 T
 have J:Vx (lI ls) b.toList:=by
  refine XX.2 (λi j T M W=>?_);rw[yq,z]at T M;have K:=hs i j (Nat.zero_le _) W M;rw[Wq]at K;have gi:b[i]! = b.toList[i]:=by simp[show i<b.size by omega]
  have gj:b[j]! = b.toList[j]:=by simp[show j<b.size by omega]
  rw[gi,gj]at K;have mi:b.toList[i]<ls.length:=D _ (by simp);have mj:b.toList[j]<ls.length:=D _ (by simp);rw[MH mi,MH mj]at K;exact K
 have S:=Su C l J;refine⟨rfl,jL _ _,_,_,rfl,?_⟩;have Q:=holds_sortWorld (OX c ls) w G 0 n (List.range ls.length).toArray b os d hH (by rw[z];simp);have H:=lt_sortWorld (OX c ls) w G 0 n b os d;intro k N;have X:k<ls.length:=by rw[bX]at N;exact N
 have q:=(Q k (by omega)).1;have hd:b[k]! = (VO ls).getD k 0:=by
  rw[<-S];simp[Wc,show k<b.size by omega]
 rw[hd,Yz]at q;unfold OX at q;rw[MH (vU X)]at q;exact⟨G,rfl,R,H,q⟩
def fL{rj:List (Nat×Nat)}{S:Nat}{M:Mx}{v:Value}{td:Nat}{m:List Nat}{u:List Value}{os:List O}(h:PV os rj w S M v td m u ls)(c:∀i j,i<ls.length->j<ls.length->(ls.getD i L0).id=(ls.getD j L0).id->i=j):Calls prog 123 #[.pointer (some ⟨S,0,none⟩)] w λe w'=>Below w.heap.size w w'/\∃a cap,e=.returned (.slice a ls.length cap)/\PtrAt w.heap.size w' m a (VO ls):=by
 have b:=h.row;rw[h.len]at b;have x:=zb (IC 0 v ls.length h.room m h.len w b);have c1:=h.c1;have q:=zb h;have l:=zb c;clear h b c;go_enter func123,ntmps123;go_wp2_with (go_at_call 162;refine x.mono ?_;rintro e w1 ⟨d,B,rfl,f⟩);have y:=zb (DP w1 m ls w.heap.size B (q.below d).lots q.len q.room l f);have g:=zb d;have p:=zb f;clear d f;go_wp2_with (go_at_call 163;refine y.mono ?_;rintro e w2 ⟨rfl,s,z,cap2,t,r⟩);subst t;have n:Ha (Below w.heap.size w w2):=g.grown s g.size (λk A=>(p.lt k A).1);go_wp2_with fail;go_ret;exact⟨n,z,cap2,rfl,r⟩
