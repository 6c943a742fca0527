import Derived.Test.YtgcedalggnmooaaGreatDoorOd1X
import Derived.Shelf.SlSortCmp.NoneTotal
set_option linter.all false
set_option maxRecDepth 100000
set_option maxHeartbeats 1600000
namespace Go.Proofs.YtgcedalggnmooaaGreatDoor
open Tryz
def YL:=@Proofs.enters_of
def xaQ:=@iface_of_trod
def pQ(ls:List L)(f:Nat->Bool)(i:Nat):Bool:=decide (0<(ls.getD i L0).hd)&&f (ls.getD i L0).id
def vX(ls:List L)(f:Nat->Bool)(k:Nat):List Nat:=(List.range k).filter (pQ ls f)
def mA(ls:List L)(i j:Nat):Bool:=decide ((ls.getD i L0).id<(ls.getD j L0).id)
def sN(ls:List L)(n:Nat):List Nat:=yD (mA ls) (vX ls (iQ ls n) ls.length)
def ZU(ls:List L)(is:List Nat):List (Nat×Nat):=is.map λi=>(i,(ls.getD i L0).hd)
def ZO(ls:List L)(n:Nat):List (Nat×Nat):=ZU ls (sN ls n)
theorem Iy(ls:List L)(f:Nat->Bool)(k:Nat):(vX ls f k).length<=k:=by
 have:=yx (pQ ls f) (List.range k)
 simpa [vX] using this
variable {i:Nat}{ls:List L}
theorem jF{f:Nat->Bool}{k:Nat}:i∈vX ls f k↔i<k/\pQ ls f i=true:=by simp[vX]
theorem Cp(ls:List L)(f:Nat->Bool)(k:Nat):(vX ls f k).Nodup:=xan.filter _
theorem tR{a b c:Nat}(d:mA ls b a=false)(e:mA ls c b=false):mA ls c a=false:=by
 simp[mA]at d e ⊢;omega
theorem tQ{a b:Nat}(h:mA ls a b=true):mA ls b a=false:=by
 simp[mA]at h ⊢;omega
theorem Ax(lt:Nat->Nat->Bool)(f:∀a b c,lt b a=false->lt c b=false->lt c a=false)(has:∀a b,lt a b=true->lt b a=false)(x:Nat):∀l:List Nat,TT lt l->TT lt (KZ lt x l)
 |[],_=>by simp[KZ,TT]
 |y::r,h=>by
  have i:=Xp.1 h;unfold KZ;split
  ·rename_i e;refine Xp.2 ⟨λb d=>?_,Ax lt f has x r i.2⟩;rcases xx.1 ((jI _ x r).mem_iff.1 d) with rfl|d
   ·exact has _ _ e
   exact i.1 b d
  rename_i e;have g:lt y x=false:=by simpa using e
  refine Xp.2 ⟨λb d=>?_,h⟩;rcases xx.1 d with rfl|d
  ·exact g
  exact f _ _ _ g (i.1 b d)
theorem rD(lt:Nat->Nat->Bool)(d:∀a b c,lt b a=false->lt c b=false->lt c a=false)(has:∀a b,lt a b=true->lt b a=false):∀l:List Nat,TT lt (yD lt l)
 |[]=>List.Pairwise.nil
 |x::r=>Ax lt d has x _ (rD lt d has r)
theorem lL{lt:Nat->Nat->Bool}:∀{l m:List Nat},(∀a∈l,∀b∈l,lt a b=false->lt b a=false->a=b)->l.Perm m->TT lt l->TT lt m->l=m
 |[],m,_,hp,_,_=>by rw[List.nil_perm.1 hp]
 |x::l,[],_,hp,_,_=>absurd hp.length_eq (by simp)
 |x::l,y::m,ha,hp,hl,hm=>by
  have i:=Xp.1 hl;have j:=Xp.1 hm;have g:x∈y::m:=hp.mem_iff.1 (by simp);have c:y∈x::l:=hp.mem_iff.2 (by simp);have e:x=y:=by
   rcases xx.1 g with h|h
   ·exact h
   rcases xx.1 c with d|d
   ·exact d.symm
   exact ha x (by simp) y c (j.1 x h) (i.1 y d)
  subst e;have f:=List.perm_cons x |>.1 hp
  rw[lL (λa k b n=>ha a (by simp[k]) b (by simp[n])) f i.2 j.2]
theorem kS(ls:List L)(n:Nat):(sN ls n).Perm (vX ls (iQ ls n) ls.length):=dD _ _
theorem Ix(ls:List L)(n:Nat):TT (mA ls) (sN ls n):=rD (mA ls) (λ_ _ _=>tR) (λ_ _=>tQ) _
theorem Iw{n:Nat}:i∈sN ls n↔i<ls.length/\pQ ls (iQ ls n) i=true:=by
 rw[(kS ls n).mem_iff,jF]
theorem Iv(ls:List L)(n:Nat):(sN ls n).length<=ls.length:=by
 rw[(kS ls n).length_eq];exact Iy _ _ _
theorem Ec(c:∀i j,i<ls.length->j<ls.length->(ls.getD i L0).id=(ls.getD j L0).id->i=j){n:Nat}{m:List Nat}(d:m.Perm (vX ls (iQ ls n) ls.length))(p:TT (mA ls) m):m=sN ls n:=by
 refine lL (λa k b l g h=>?_) (d.trans (kS ls n).symm) p (Ix ls n);have e:=(jF.1 (d.mem_iff.1 k)).1;have f:=(jF.1 (d.mem_iff.1 l)).1;refine c a b e f ?_
 simp only[mA,yq]at g h;omega
theorem dN(ls:List L)(a:List Nat):(ZU ls a).length=a.length:=by simp[ZU]
theorem xX(ls:List L)(a:List Nat)(i:Nat):ZU ls (a++[i])=ZU ls a++[(i,(ls.getD i L0).hd)]:=by simp[ZU]
def Uh(ls:List L):List Nat:=yD (mA ls) (List.range ls.length)
theorem iN(ls:List L):(Uh ls).Perm (List.range ls.length):=dD _ _
theorem Hb(ls:List L):TT (mA ls) (Uh ls):=rD (mA ls) (λ_ _ _=>tR) (λ_ _=>tQ) _
theorem fE(ls:List L):(Uh ls).length=ls.length:=by rw[(iN ls).length_eq,List.length_range]
theorem BR:i∈Uh ls↔i<ls.length:=by rw[(iN ls).mem_iff,xbN]
theorem GZ(ls:List L):(Uh ls).Nodup:=(iN ls).nodup_iff.2 xan
theorem BQ{k:Nat}(a:k<ls.length):(Uh ls).getD k 0<ls.length:=by
 have h:k<(Uh ls).length:=by rw[fE];exact a
 exact BR.1 (by simp[Uv,h])
theorem QT(c:∀i j,i<ls.length->j<ls.length->(ls.getD i L0).id=(ls.getD j L0).id->i=j){m:List Nat}(f:m.Perm (List.range ls.length))(n:TT (mA ls) m):m=Uh ls:=by
 refine lL (lt:=mA ls) ?_ (f.trans (iN ls).symm) n (Hb ls)
 intro a k b l g h;have d:a<ls.length:=by simpa using f.mem_iff.1 k
 have e:b<ls.length:=by simpa using f.mem_iff.1 l
 refine c a b d e ?_
 simp only[mA,yq]at g h;omega
open Go.RowKit
theorem BT(x y:Int)(W:World):Calls prog 165 #[.int .i64 x,.int .i64 y] W λe w'=>e=.returned (.int .i64 (Lib.compareInt x y))/\w'=W:=by
 have c:(x != x)=false:=by simp
 have d:(y != y)=false:=by simp
 unfold Lib.compareInt;by_cases b:x<y
 ·rw[xe b];go_enter func165,ntmps165;go_wp2_with (first|(go_at_call 187;go_in)|fail);go_ret;exact⟨rfl,rfl⟩
 rw[xg b];by_cases a:y<x
 ·rw[xe a];go_enter func165,ntmps165;go_wp2_with (first|(go_at_call 187;go_in)|fail);go_ret;exact⟨rfl,rfl⟩
 rw[xg a];go_enter func165,ntmps165;go_wp2_with (first|(go_at_call 187;go_in)|fail);go_ret;exact⟨rfl,rfl⟩
open Go.Shelf Go.RowKit Go.Lib Go.Sort
theorem Uf{P: Program}{f: Nat}{B: Func}(h : (((P.funcs[f]?).getD default).name == "runtime.NumGoroutine") = false)(e : P.funcs[f]? = some { B with name := ((P.funcs[f]?).getD default).name }): Bears P f B := ⟨_, h, e⟩
def Dn:Go.Shelf.Ren:=⟨fun|6=>163|15=>186|14=>185|28=>210|29=>211|20=>202|21=>203|22=>204|23=>205|24=>206|25=>207|26=>208|27=>209|46=>242|47=>243|48=>244|49=>245|50=>246|57=>260|n=>n,fun|22=>115|24=>191|25=>253|3=>3|39=>176|0=>0|53=>188|55=>300|4=>4|46=>292|45=>291|50=>296|5=>5|9=>9|66=>321|70=>325|76=>334|77=>135|n=>n,fun|n=>n⟩
theorem Qm:SlLaysF.n6 prog Dn:=by constructor<;>first|kernel_rfl|(intro w;kernel_rfl)|(apply Uf<;>kernel_rfl)
def Bn:Go.Shelf.Ren:=⟨fun|6=>163|15=>186|14=>185|28=>210|29=>211|20=>202|21=>203|22=>204|23=>205|24=>206|25=>207|26=>208|27=>209|46=>242|47=>243|48=>244|49=>245|50=>246|57=>260|n=>n,fun|22=>115|24=>191|25=>253|3=>3|39=>176|0=>0|53=>188|55=>300|4=>4|46=>292|45=>291|50=>296|5=>5|9=>9|66=>321|70=>325|76=>334|77=>135|n=>n,fun|n=>n⟩
theorem Ni:SlLaysF0.n6 prog Bn:=by constructor<;>first|kernel_rfl|(intro w;kernel_rfl)|(apply Uf<;>kernel_rfl)
def cl(ls:List L)(i:Nat):Nat:=if i<ls.length then i else 0
theorem QX(h:0<ls.length)(i:Nat):cl ls i<ls.length:=by unfold cl;split<;>omega
theorem Lx(h:i<ls.length):cl ls i=i:=xe h
def NH(bs:List Nat)(ls:List L)(i:Nat):Value:=.pointer (some ⟨bs.getD (cl ls i) 0,0,none⟩)
def Ui(ls:List L)(i j:Nat):Int:=Lib.compareInt ((ls.getD (cl ls i) L0).id:Int) ((ls.getD (cl ls j) L0).id:Int)
theorem UG(ls:List L)(i j:Nat):ltOf (Ui ls) i j=mA ls (cl ls i) (cl ls j):=by
 unfold ltOf Ui Lib.compareInt mA;by_cases b:(ls.getD (cl ls i) L0).id<(ls.getD (cl ls j) L0).id
 ·have a:((ls.getD (cl ls i) L0).id:Int)<((ls.getD (cl ls j) L0).id:Int):=by omega
  rw[xe a,xy b];rfl
 have a:¬((ls.getD (cl ls i) L0).id:Int)<((ls.getD (cl ls j) L0).id:Int):=by omega
 rw[xg a,xu b];split<;>rfl
theorem Ts(ls:List L):SWO (ltOf (Ui ls)):={
 irrefl x:=by rw[UG];simp[mA]
 trans x y z h1 h2:=by rw[UG]at *;simp[mA]at *;omega
 ntrans x y z h1 h2:=by rw[UG]at *;simp[mA]at *;omega}
theorem BS(x y:Nat)(b c:Nat)(W:World)(f:W.cell? ⟨b,0,none⟩=some (.int .i64 x))(g:W.cell? ⟨c,0,none⟩=some (.int .i64 y)):Calls prog 164 #[.pointer (some ⟨b,0,none⟩),.pointer (some ⟨c,0,none⟩)] W λe w'=>e=.returned (.int .i64 (Lib.compareInt (x:Int) (y:Int)))/\∃q os',w'=grow (W.drewN q) os':=by
 have a:=λd=>BT (x:Int) (y:Int) d
 generalize Lib.compareInt (x:Int) (y:Int)=r at a ⊢;go_enter func164,ntmps164;go_wp2_with fail;go_quiet ((go_at_call 165;exact Yn (a _)));go_wp2_with fail;go_ret;exact⟨rfl,nq,#[],by rw[grow_empty]⟩
variable {w:World}
theorem jC{g n:Nat}{os:Array Obj}(enc:Nat->Value)(d:Array Nat):w.grownBy (sortWorld enc w g 0 n d os) (some g):=by
 unfold sortWorld;refine⟨rfl,rfl,rfl,by simp,λq b a=>?_⟩;rw[heap_grow_old _ _ (by simpa using b)];have:g≠q:=λe=>a (by rw[e])
 simp[putRow,mapBlock,Sort.ahead,Array.getElem?_modify,this]
theorem Pq:(prog.info? 191).map (λi=>(i.zero,i.size,i.bytes))=some (some (.pointer none),1,8):=by kernel_rfl
theorem Si:prog.underlying 115=some (.slice 191):=by kernel_rfl
theorem Re(w:World):(binOp .eql 115 (.slice none 0 0) (.slice none 0 0)).run prog w=.ok (.bool true) w:=by kernel_rfl
theorem Rf(a:Addr)(n c:Nat)(w:World):(binOp .eql 115 (.slice (some a) n c) (.slice none 0 0)).run prog w=.ok (.bool false) w:=by kernel_rfl
theorem Hf(m:Nat)(v:Value)(n:Nat)(Z:n<=30)(f:List Nat)(G:f.length=n)(w:World)(z:w.ownsRow m 191 1 v n (bZ f)):Calls prog 162 #[v] w λe w'=>Below w.heap.size w w'/\∃v',e=.returned v'/\w'.ownsRow w.heap.size 191 1 v' n (bZ f):=by
 obtain⟨X,Q,B,C,D⟩:=XH Pq;have T:=Re;have W:=Rf;rcases z.2 with ⟨rfl,rfl⟩|⟨g,cap,K,rfl,N,F,S,P,t,l⟩
 ·have M:f=[]:=Xn.1 G;subst M;go_enter func162,ntmps162;go_wp2_with fail;go_ret;exact⟨xh _ _,_,rfl,Xi _ _ _ _⟩
 have a:=z.cells (g:=g) rfl;have i:(bZ f).length=n:=by simp[bZ,G]
 have A:∀u∈bZ f,u.oneCell'=true:=by intro u p;simp[bZ]at p;obtain⟨b,_,rfl⟩:=p;rfl
 have r:=TZ w (.cells #[] 191);have x:g<w.heap.size:=zc F;have h:(w.alloc (.cells #[] 191)).ownsRow w.heap.size 191 1 (.slice (some ⟨w.heap.size,0,none⟩) 0 0) 0 []:=Yh w #[] 0 (xc _) (by unfold maxLen;simp) rfl;have H:Ha (∀j u,(bZ f)[j]?=some u->(w.alloc (.cells #[] 191)).cell? ((⟨g,0,none⟩:Addr).add j)=some u):=λj u p=>by
  have q:=a j u p;rw[Addr.add_lit]at q ⊢;exact(r.cell (by exact x)).trans q
 have E:=zb r;clear a z r F t l;go_enter func162,ntmps162;go_wp2_with (at_builtin;refine Xb _ rfl _ _ 115 rfl w.heap.size 191 X (.pointer none) 1 8 Si Q B C D rfl (by decide) _ 0 [] rfl h ⟨g,0,none⟩ n cap (bZ f) rfl (by rw[i];omega) H A ?c3 ?c4 ?c5 ?_)
 case c3=>unfold maxLen;omega
 case c4=>omega
 case c5=>simp
 intro v' w2 d c y;have s:Below w.heap.size w w2:=E.grown c E.size (λk R=>(h.lt k R).1);have J:=zb d;clear d c y h;go_wp2_with fail;go_ret;exact⟨s,v',rfl,J⟩
def PtrAt(B:Nat)(w:World)(bs:List Nat)(a:Option Addr)(l:List Nat):Prop:=∀k,k<l.length->∃G,a=some ⟨G,0,none⟩/\B<=G/\G<w.heap.size/\w.cell? ⟨G,k,none⟩=some (.pointer (some ⟨bs.getD (l.getD k 0) 0,0,none⟩))
theorem PtrAt.below{B:Nat}{w':World}{b:List Nat}{a:Option Addr}{l:List Nat}(h:PtrAt B w b a l)(d:Below w.heap.size w w'):PtrAt B w' b a l:=λk i=>by
 obtain⟨G,e,f,c,g⟩:=h k i;exact⟨G,e,f,xn c d.size,(d.cell (by exact c)).trans g⟩
theorem Dm(w:World)(c:List Nat)(ls:List L)(r:Nat)(v:Value)(F:LotsOK w c ls)(a4:c.length=ls.length)(a1:ls.length<=30)(C:∀i j,i<ls.length->j<ls.length->(ls.getD i L0).id=(ls.getD j L0).id->i=j)
  (h:w.ownsRow r 191 1 v ls.length (bZ c)) :
  Calls prog 163 #[v,.func (.func 164) #[] #[]] w λe w'=>e=.returned (.tuple #[])/\w.grownBy w' v.ownBlock/\∃a cap,v=.slice a ls.length cap/\PtrAt r w' c a (Uh ls):=by
 obtain⟨a,cap,hv⟩:=zm h;subst hv;by_cases h0:ls.length=0
 ·have hn:ls=[]:=Xn.1 h0;subst hn;refine(AnyF.slices_SortFunc_none (P:=prog) Ni a cap (.func (.func 164) #[] #[]) w).mono ?_
  rintro e w' ⟨rfl,rfl⟩;exact⟨rfl,⟨rfl,rfl,rfl,xc _,λ_ _ _=>rfl⟩,a,cap,rfl,λk N=>absurd N (by rw[fE];simp)⟩
 have p:0<ls.length:=by omega
 obtain⟨G,a3,a2,R,d⟩:=zK h p
 cases a2;have eg:∀args w,(callFunc 164 args).run prog w=.ok (.enter 164 args) w:=YL func164 (by kernel_rfl) rfl
 obtain⟨a5,f⟩:=zi h (g:=G) rfl;have A:CmpLays1 prog 164 #[] (NH c ls) (Ui ls) G 0 (List.range ls.length).toArray.size w:=by
  intro m os dk hs x y;obtain⟨a7,t⟩:=F (cl ls x) (QX p x);obtain⟨a8,u⟩:=F (cl ls y) (QX p y);have B:=jC (w:=w) (g:=G) (n:=m) (os:=os) (NH c ls) dk;have qx:=(B.block _ (zc t) (λe=>zw t f (by decide) (xr e))).trans t;have qy:=(B.block _ (zc u) (λe=>zw u f (by decide) (xr e))).trans u;exact BS (ls.getD (cl ls x) L0).id (ls.getD (cl ls y) L0).id _ _ _ (by rw[za qx];rfl) (by rw[za qy];rfl)
 have hH:Holds (NH c ls) w G 0 (List.range ls.length).toArray:=by
  intro j M;have E:j<ls.length:=by simpa using M
  have hd:(List.range ls.length).toArray[j]! = j:=by simp[E]
  refine⟨?_,by simp[World.frozen?,f]⟩;rw[hd,Yu,h.cellAt j (by omega)];unfold NH;rw[Lx E];have:j<c.length:=by omega
  simp[bZ,Uv,this]
 have e1:(List.range ls.length).toArray.size=ls.length:=by simp
 have s:=Any.slices_SortFunc Qm (NH c ls) (λ_=>rfl) (Ui ls) (Ts ls) 164 #[] G 0 cap (List.range ls.length).toArray w eg A hH d (by simp;omega);rw[e1]at s;refine s.mono ?_
 rintro e w' ⟨rfl,b,n,os,hp,hs,rfl⟩;obtain⟨Z,a6,a0⟩:=hp;have z:b.size=ls.length:=by rw[Z];simp
 have l:b.toList.Perm (List.range ls.length):=by
  have e2:b.extract 0 ls.length=b:=by rw[<-z];simp
  have e3:((List.range ls.length).toArray.extract 0 ls.length).toList=List.range ls.length:=by simp
  have h3:=a0;rw[e2,e3]at h3;exact h3
 have D:∀i∈b.toList,i<ls.length:=λi T=>by simpa using l.mem_iff.1 T
 have J:TT (mA ls) b.toList:=by
  refine Xz.2 (λi j T M W=>?_);rw[Array.length_toList,z]at T M;have K:=hs i j (Nat.zero_le _) W M;rw[UG]at K;have gi:b[i]! = b.toList[i]:=by simp[show i<b.size by omega]
  have gj:b[j]! = b.toList[j]:=by simp[show j<b.size by omega]
  rw[gi,gj]at K;have mi:b.toList[i]<ls.length:=D _ (by simp);have mj:b.toList[j]<ls.length:=D _ (by simp);rw[Lx mi,Lx mj]at K;exact K
 have S:=QT C l J;refine⟨rfl,jC _ _,_,_,rfl,?_⟩;have Q:=holds_sortWorld (NH c ls) w G 0 n (List.range ls.length).toArray b os d hH (by rw[z];simp);have H:=lt_sortWorld (NH c ls) w G 0 n b os d;intro k N;have X:k<ls.length:=by rw[fE]at N;exact N
 have q:=(Q k (by omega)).1;have hd:b[k]! = (Uh ls).getD k 0:=by
  rw[<-S];simp[Uv,show k<b.size by omega]
 rw[hd,Yu]at q;unfold NH at q;rw[Lx (BQ X)]at q;exact⟨G,rfl,R,H,q⟩
theorem lU{rj:List (Nat×Nat)}{S:Nat}{M:Mx}{v:Value}{td:Nat}{m:List Nat}{u:List Value}{os:List O}(h:PV os rj w S M v td m u ls)(c:∀i j,i<ls.length->j<ls.length->(ls.getD i L0).id=(ls.getD j L0).id->i=j):Calls prog 123 #[.pointer (some ⟨S,0,none⟩)] w λe w'=>Below w.heap.size w w'/\∃a cap,e=.returned (.slice a ls.length cap)/\PtrAt w.heap.size w' m a (Uh ls):=by
 have b:=h.row;rw[h.len]at b;have x:=zb (Hf 0 v ls.length h.room m h.len w b);have c1:=h.c1;have q:=zb h;have l:=zb c;clear h b c;go_enter func123,ntmps123;go_wp2_with (go_at_call 162;refine x.mono ?_;rintro e w1 ⟨d,B,rfl,f⟩);have y:=zb (Dm w1 m ls w.heap.size B (q.below d).lots q.len q.room l f);have g:=zb d;have p:=zb f;clear d f;go_wp2_with (go_at_call 163;refine y.mono ?_;rintro e w2 ⟨rfl,s,z,cap2,t,r⟩);subst t;have n:Ha (Below w.heap.size w w2):=g.grown s g.size (λk A=>(p.lt k A).1);go_wp2_with fail;go_ret;exact⟨n,z,cap2,rfl,r⟩
