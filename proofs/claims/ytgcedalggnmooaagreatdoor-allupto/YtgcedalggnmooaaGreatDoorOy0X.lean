import Derived.Test.YtgcedalggnmooaaGreatDoorNuX
import Derived.Deep.OwnRows
set_option linter.all false
set_option maxRecDepth 100000
set_option maxHeartbeats 6400000
namespace Go.Proofs.YtgcedalggnmooaaGreatDoor
open Go.RowKit
open Tryz
structure Si(ls:List L)(o:O):Prop where
 id:1<=o.id/\o.id<=2147483647
 gd:1<=o.gd/\o.gd<=2147483647
 ris:(o.li.map Prod.fst).Pairwise (·<·)
 ne:o.li≠[]
 line:∀p∈o.li,Wj p.1 ls<ls.length/\(1<=p.2/\p.2<=2147483647)/\(zi ls p.1).gd=o.gd
structure yO(ls:List L)(os:List O)(rj:List (Nat×Nat)):Prop where
 olen:os.length<=10
 rlen:rj.length<=10
 ord:∀o∈os,Si ls o
 hd:∀i,i<ls.length->zD os (ls.getD i L0).id=(ls.getD i L0).hd
 rc:∀p∈rj,Wj p.1 ls<ls.length/\1<=p.2/\p.2<=2147483647
 up:rj.Pairwise (λa b=>aC a b=true)
structure HsP(ls:List L)(A:List O)(B:List (Nat×Nat))(hs:List Nat):Prop where
 len:hs.length=ls.length
 at_:∀j,j<ls.length->hs.getD j 0=zD A (ls.getD j L0).id+(B.lookup (ls.getD j L0).id).getD 0
def Jy(ls:List L):HsP ls [] [] (List.replicate ls.length 0):=⟨by simp,λj a=>by simp[zD,a,Wc]⟩
variable {l:List (Nat×Nat)}
def Dd(c:(l.map Prod.fst).Pairwise (·<·)){k:Nat}(d:k<l.length)(n:Nat):((l.take (k+1)).lookup n).getD 0=if (l.getD k (0,0)).1=n then (l.getD k (0,0)).2 else ((l.take k).lookup n).getD 0:=by
 induction l generalizing k with
 |nil=>simp at d
 |cons p l ih=>
  rw[Xv,XE]at c
  cases k with
  |zero=>
   obtain⟨b,h⟩:=p;simp only[xbI,List.take_zero,xay,xcj,xcv];by_cases e:b=n
   ·subst e;simp
   have:(n==b)=false:=xr.2 (Yl e)
   simp[this,e]
  |succ k=>
   have a:k<l.length:=by simpa using d
   have f:=ih c.2 a;obtain⟨b,h⟩:=p;have g:b<(l.getD k (0,0)).1:=c.1 _ (by simp[Wc,a];exact⟨_,yy a⟩);rw[xbI,xbI,List.getD_cons_succ,xcj,xcj];by_cases e:b=n
   ·subst e;have:¬(l.getD k (0,0)).1=b:=by omega
    rw[xg this];simp
   have:(n==b)=false:=xr.2 (Yl e)
   simp only[this];exact f
def Ru(b:(l.map Prod.fst).Pairwise (·<·)){k:Nat}(a:k<l.length):((l.take k).lookup (l.getD k (0,0)).1)=none:=by
 rw[List.lookup_eq_none_iff];intro p f;obtain⟨j,d,e⟩:=xw f;rw[XL]at d;rw[xbU]at e;rw[XX]at b;have:=b j k (by simp;omega) (by simpa using a) (by omega);simp only[xbu]at this;rw[e]at this;have c:l.getD k (0,0)=l[k]:=by simp[Wc,a]
 rw[c];rw[Yh];omega
variable {hs:List Nat}{ls:List L}
def HsP.step{A:List O}{k:Nat}(h:HsP ls A (l.take k) hs)(c:∀j,j<ls.length->Wj (ls.getD j L0).id ls=j)(n:(l.map Prod.fst).Pairwise (·<·))(g:k<l.length){a p:Nat}(m:(a,p)=l.getD k (0,0))(r:Wj a ls<ls.length):HsP ls A (l.take (k+1)) (hs.set (Wj a ls) (hs.getD (Wj a ls) 0+p)):=by
 refine⟨by rw[xq];exact h.len,λj d=>?_⟩;rw[Dd n g,<-m];have i:=Ru n g;rw[<-m]at i;have s:=h.len;by_cases e:Wj a ls=j
 ·have b:(ls.getD j L0).id=a:=by rw[<-e];exact aS r
  subst e;have:=h.at_ _ d;rw[b]at this ⊢;simp only[i,xck]at this;simp only[Yo];rw[Wc,XB,xh rfl,xh (by omega)];simp only[XQ];omega
 have f:¬a=(ls.getD j L0).id:=λq=>e (by rw[q];exact c j d)
 rw[xg f,<-h.at_ j d,Wc,XB,xg e,<-Wc]
def HsP.next{os:List O}{i:Nat}(h:HsP ls (os.take i) (os.getD i O0).li hs)(a:i<os.length):HsP ls (os.take (i+1)) [] hs:=by
 refine⟨h.len,λj b=>?_⟩;rw[h.at_ j b,xn a];have e:os.getD i O0=os[i]:=by simp[Wc,a]
 rw[e];unfold zD;rw[Yq,List.sum_append];simp[ZV]
def SO{os:List O}{i:Nat}(h:i<os.length):os.getD i O0∈os:=by simp[Wc,h]
def Hd(w:World)(H:Nat)(hs:List Nat):Prop:=w.heap[H]?=some (.cells (hs.map (λ(n:Nat)=>Value.int .i64 n)).toArray 3 (0,0))
def Hd.cell{w:World}{H:Nat}{a:List Nat}(h:Hd w H a){j:Nat}(b:j<a.length):w.cell? ⟨H,j,none⟩=some (.int .i64 (a.getD j 0:Nat)):=by
 rw[za h];simp[Wc,b]
def Hd.set{w:World}{H:Nat}{a:List Nat}(h:Hd w H a)(j n:Nat):Hd (w.setCell ⟨H,j,none⟩ (.int .i64 n)) H (a.set j n):=by
 have:=xu w H j _ 3 (.int .i64 n) h
 unfold Hd;rw[this,Yu];simp
variable {H:Nat}{w:World}
def Hd.add(h:Hd w H hs)(j a b n:Nat):Hd ((w.drewN n).setCell ⟨H,j,none⟩ (.int .i64 ((a:Int)+(b:Int)))) H (hs.set j (a+b)):=by
 have c:Hd (w.drewN n) H hs:=((XA (xm w.heap.size w) n).block H (zc h)).trans h;have:=c.set j (a+b);rw[show(((a+b:Nat):Int))=(a:Int)+(b:Int) by push_cast;rfl]at this;exact this
def RA{j a B C:Nat}(h:∀i,hs.getD i 0<=B)(b:B<=C)(c:a<=C)(i:Nat):(hs.set j a).getD i 0<=C:=by
 rw[Wc,XB];by_cases e:j=i
 ·rw[xh e];split
  ·exact c
  exact Nat.zero_le _
 rw[xg e,<-Wc];exact xj (h i) b
def GA(n:Nat):(madeCells #[Value.int .i64 0] n).toList=List.replicate n (Value.int .i64 0):=by
 apply YZ
 ·simp[size_madeCells]
 intro i a b;simp[madeCells,Nat.mod_one]
def Nm:(prog.info? 3).map (λi=>(i.zero,i.size,i.bytes))=some (some (.int .i64 0),1,8):=by kernel_rfl
def RK:prog.underlying 55=some (.slice 3):=by kernel_rfl
def Wu(n:Nat)(a:n<=30)(w:World):(Instr.makeSlice 55 (.int .i64 n) (.int .i64 n)).run prog w=.ok (.slice (some ⟨w.heap.size,0,none⟩) n n) (w.alloc (.cells (madeCells #[.int .i64 0] n) 3)) :=
 run_make_row' 55 3 (.int .i64 0) 8 RK Nm rfl .i64 .i64 n (by omega) (by omega) w
def Qz(w:World)(n:Nat):Hd (w.alloc (.cells (madeCells #[.int .i64 0] n) 3)) w.heap.size (List.replicate n 0):=by
 unfold Hd;rw[xp];congr 2;apply Array.ext';rw[GA];simp
def OyP(W:World)(ls:List L)(os:List O)(rj:List (Nat×Nat))(e:Ending)(w':World):Prop:=(∃x,e=.returned (.bool x)/\(x=true↔yO ls os rj))/\Below W.heap.size W w'
def OyP.no{W w':World}{os:List O}{rj:List (Nat×Nat)}(h:¬yO ls os rj)(a:Below W.heap.size W w'):OyP W ls os rj (.returned (.bool false)) w':=⟨⟨false,rfl,λe=>(by cases e),λe=>absurd e h⟩,a⟩
def Br:∀(os:List O) (lvs:List Value),lvs.length=os.length->(bJ os lvs).length=os.length*3
 |[],_,_=>by simp[bJ]
 |_::_,[],h=>by simp at h
 |o::os,f::fs,h=>by
  have:=Br os fs (by simpa using h)
  simp only[bJ,List.length_cons,xc,this]at *;omega
section
variable {w0 W:World}{S:Nat}{td:Nat}{v:Value}{xs:List (L×Value)}{ov:Value}{os:List O}{lvs:List Value}{rv:Value}{rj:List (Nat×Nat)}
def RW.ord(h:RW w0 W S td v xs ov os lvs rv rj):∃a cap,ov=.slice a os.length cap/\W.cell? ⟨S,2,none⟩=some (.slice a os.length cap)/\(0<os.length->∃G,a=some ⟨G,0,none⟩/\G<W.heap.size/\∀i,i<os.length->W.cell? ⟨G,i*3,none⟩=some (.int .i64 ((os.getD i O0).id:Int))/\W.cell? ⟨G,i*3+1,none⟩=some (.int .i64 ((os.getD i O0).gd:Int))/\W.cell? ⟨G,i*3+2,none⟩=some (lvs.getD i default)):=by
 obtain⟨a,cap,d⟩:=zj h.orow;refine⟨a,cap,d,by rw[za h.box,d];rfl,λm=>?_⟩;have b:=h.orow;rw[d]at b;obtain⟨G,n,e,_,c⟩:=zL b m
 cases e;refine⟨G,rfl,c,λi l=>?_⟩
 obtain⟨g,j,k⟩:=xK os lvs h.llen i l;have f:(bJ os lvs).length=os.length*3:=Br os lvs h.llen;refine⟨?_,?_,?_⟩
 ·rw[b.cellAt (i*3) (by omega)];exact g
 ·rw[b.cellAt (i*3+1) (by omega)];exact j
 rw[b.cellAt (i*3+2) (by omega)];exact k
def RW.rec_(h:RW w0 W S td v xs ov os lvs rv rj):∃a cap,rv=.slice a rj.length cap/\W.cell? ⟨S,3,none⟩=some (.slice a rj.length cap)/\(0<rj.length->∃G,a=some ⟨G,0,none⟩/\G<W.heap.size/\∀i,i<rj.length->W.cell? ⟨G,i*2,none⟩=some (.int .i64 ((rj.getD i (0,0)).1:Int))/\W.cell? ⟨G,i*2+1,none⟩=some (.int .i64 ((rj.getD i (0,0)).2:Int))):=by
 obtain⟨a,cap,d⟩:=zj h.rrow;refine⟨a,cap,d,by rw[za h.box,d];rfl,λg=>?_⟩;have c:=h.rrow;rw[d]at c;obtain⟨G,j,e,_,b⟩:=zL c g
 cases e;exact⟨G,rfl,b,λi f=>cW c i f⟩
end
section
variable {w0 W:World}{S:Nat}{td:Nat}{v:Value}{xs:List (L×Value)}{ov:Value}{os:List O}{lvs:List Value}{rv:Value}{rj:List (Nat×Nat)}
def DA(h:RW w0 W S td v xs ov os lvs rv rj)(hw:∀x∈xs,Wl x)(hl:xs.length<=30)(k2:∀j,j<(xs.map Prod.fst).length->Wj ((xs.map Prod.fst).getD j L0).id (xs.map Prod.fst)=j)(k5:os.length<=4194304)(d4:∀o∈os,o.id<9223372036854775808/\o.gd<9223372036854775808/\o.li.length<=4194304/\∀p∈o.li,p.1<9223372036854775808/\p.2<9223372036854775808)(l0:rj.length<=4194304)(k8:∀p∈rj,p.1<9223372036854775808/\p.2<9223372036854775808):Calls prog 92 #[.pointer (some ⟨S,0,none⟩)] W (OyP W (xs.map Prod.fst) os rj):=by
 obtain⟨a,cap,hv,e6,f6⟩:=h.shape;obtain⟨oa,l4,o6,j8,d5⟩:=h.ord;obtain⟨ra,M,l1,e7,d6⟩:=h.rec_;have a7:=zc h.box;have HW:=zb hw;have h5:Ha (∀(wx:World),Below W.heap.size W wx->∀(n:Nat),n<9223372036854775808->Calls prog 111 #[.pointer (some ⟨S,0,none⟩),.int .i64 n] wx λe w'=>e=.returned (.int .i64 (VF (xs.map Prod.fst) n))/\w'=wx):=by
  intro wx hx n hn;have h':=h.below hx;exact Cu h' hw (by omega) n hn
 have g2:Ha (∀n:Nat,n<9223372036854775808->∀wx,Calls prog 67 #[.int .u8 105,.int .i64 n] wx λe w'=>e=.returned (.bool (Pl.mayB 105 n))/\w'=wx):=λn hn wx=>by have hx:=qY 105 n hn wx;rw[show((105:UInt8).toNat:Int)=105 from rfl]at hx;exact hx
 have l9:Ha (∀n:Nat,n<9223372036854775808->∀wx,Calls prog 67 #[.int .u8 99,.int .i64 n] wx λe w'=>e=.returned (.bool (Pl.mayB 99 n))/\w'=wx):=λn hn wx=>by have hx:=qY 99 n hn wx;rw[show((99:UInt8).toNat:Int)=99 from rfl]at hx;exact hx
 have w:Ha ((xs.map Prod.fst).length=xs.length):=List.length_map ..;have j2:=zb h;have m6:=zb l1;have f3:=zb f6;have g4:=zb d5;have g6:=zb d6;have l8:=zb k2;have m2:=zb d4;have j0:=zb k8;obtain⟨K,m⟩:=Ww xs.length;obtain⟨m0,b9⟩:=Ww os.length;obtain⟨r0,T⟩:=Ww rj.length;rw[<-m.o]at e6;rw[<-b9.o]at j8;rw[<-T.o]at e7;have o5:K<=30:=by rw[m.o];exact hl
 have q7:m0<=4194304:=by rw[b9.o];exact k5
 have r3:r0<=4194304:=by rw[T.o];exact l0
 clear h hv hw o6 l1 f6 d5 d6 k2 d4 k8 k5 l0 hl;go_enter func92,ntmps92;by_cases h1:m0<=10
 ·by_cases h2:r0<=10
  ·have q8:=Wu K o5;have p6:decide ((10:Int)<(m0:Int))=false:=xy (by omega);have p7:decide ((10:Int)<(r0:Int))=false:=xy (by omega);go_wp2_with fail;have b6:=zb (Qz W K);have y:=zb (VE W (.cells (madeCells #[.int .i64 0] K) 3));obtain⟨H,g1⟩:=Ww W.heap.size;obtain⟨W1,j4⟩:=Ww (W.alloc (.cells (madeCells #[.int .i64 0] K) 3));rw[<-j4.o]at b6 y ⊢;rw[<-g1.o]at b6 ⊢;have i2:Ha (Hd W1 H (List.replicate K 0)):=b6.o;have a4:Ha (Below W.heap.size W W1):=y.o;have i3:Ha (W.heap.size<=H):=by rw[Ha,g1.o];exact xe _
   have i8:Ha (HsP (xs.map Prod.fst) (os.take 0) [] (List.replicate K 0)):=by
    rw[Ha,m.o,<-w.o];exact Jy _
   clear b6 y j4 g1;go_loopw [4,5,6,7,8,9,10,11] (λii _ _ _ _ _ _ _ wr=>∃(i:Nat) (hs:List Nat),i<=m0/\ii=.int .i64 i/\(∀o∈os.take i,Si (xs.map Prod.fst) o)/\HsP (xs.map Prod.fst) (os.take i) [] hs/\(∀j,hs.getD j 0<=i*9007199254740992)/\Hd wr H hs/\Below W.heap.size W wr) (λii _ _ _ _ _ _ _ _=>m0-(intOf ii).toNat)
   case atStart=>exact⟨0,_,by omega,rfl,λo ho=>by simp at ho,i8.o,λj=>by simp[Wc,xaY];split<;>simp,i2.o,a4.o⟩
   clear i2 a4 i8;obtain⟨i,hs,hi,rfl,c7,a9,c5,t,f⟩:=hrel;have g3:=zb c7;have N:=zb a9;have a3:=zb c5;have D:=zb t;have l:=zb f;have d2:wr.cell? ⟨S,2,none⟩=some (.slice oa m0 l4):=(f.cell (p:=⟨S,2,none⟩) a7).trans j8;by_cases o3:i<m0
   ·have b0:i<os.length:=by rw[<-b9.o];exact o3
    obtain⟨G,hG,h3,b7⟩:=g4.o (by omega);subst hG;obtain⟨g7,g8,e5⟩:=b7 i b0;have Z:=j2.o.lin i b0;have d4:=m2.o _ (SO b0);have d9:Ha (yO (xs.map Prod.fst) os rj->Si (xs.map Prod.fst) (os.getD i O0)):=λu=>u.ord _ (SO b0)
    obtain⟨o,HO⟩:=Ww (os.getD i O0);rw[<-HO.o]at g7 g8 Z d4 d9;obtain⟨la,g,k4⟩:=zj Z;rw[k4]at e5 Z;obtain⟨P,a5⟩:=Ww o.li.length;rw[<-a5.o]at e5;obtain⟨b1,b2,b3,b4⟩:=d4;have p0:P<=4194304:=by rw[a5.o];exact b3
    have c0:wr.cell? ⟨G,i*3,none⟩=some (.int .i64 o.id):=(f.cell (p:=⟨G,i*3,none⟩) h3).trans g7;have c1:wr.cell? ⟨G,i*3+1,none⟩=some (.int .i64 o.gd):=(f.cell (p:=⟨G,i*3+1,none⟩) h3).trans g8;have c2:wr.cell? ⟨G,i*3+2,none⟩=some (.slice la P g):=(f.cell (p:=⟨G,i*3+2,none⟩) h3).trans e5;have i4:=zb Z;clear b7 g7 g8 e5 Z k4 f c7 a9 c5 t;go_wp2_with fail;have b5:=zb (xp wr (.cells #[.int .i64 o.id,.int .i64 o.gd,.slice la P g] 132));have y:=zb (l.o.alloc l.o.size (.cells #[.int .i64 o.id,.int .i64 o.gd,.slice la P g] 132));have c9:=zb (VE wr (.cells #[.int .i64 o.id,.int .i64 o.gd,.slice la P g] 132));obtain⟨ob,e3⟩:=Ww wr.heap.size;obtain⟨W5,j5⟩:∃W5,Ha (W5=wr.alloc (.cells #[.int .i64 o.id,.int .i64 o.gd,.slice la P g] 132)):=⟨_,rfl⟩
    rw[<-j5.o]at b5 y c9 ⊢;rw[<-e3.o]at b5 ⊢;have b8:Ha (W5.heap[ob]?=some (.cells #[.int .i64 o.id,.int .i64 o.gd,.slice la P g] 132 (0,0))):=b5.o;have a4:Ha (Below W.heap.size W W5):=y.o;have g0:Ha (Hd W5 H hs):=(c9.o.block H (zc D.o)).trans D.o;have n3:H≠ob:=by rw[e3.o];exact Nat.ne_of_lt (zc D.o)
    have q9:W.heap.size<=ob:=by rw[e3.o];exact l.o.size
    clear b5 y c9 j5 e3 c0 c1 c2 D l d2;have e0:W5.cell? ⟨ob,0,none⟩=some (.int .i64 o.id):=by rw[za b8.o];rfl
    have e1:W5.cell? ⟨ob,1,none⟩=some (.int .i64 o.gd):=by rw[za b8.o];rfl
    have e2:W5.cell? ⟨ob,2,none⟩=some (.slice la P g):=by rw[za b8.o];rfl
    obtain⟨A,HA⟩:∃q:Bool,Ha (q=Pl.mayB 105 o.id):=⟨_,rfl⟩
    have KA:=zb (g2.o o.id b1 W5);rw[<-HA.o]at KA;obtain⟨B,HB⟩:∃q:Bool,Ha (q=Pl.mayB 105 o.gd):=⟨_,rfl⟩
    have KB:=zb (g2.o o.gd b2 W5);rw[<-HB.o]at KB;have KR:=zb (lW o.li b4 b3 W5 (.slice la o.li.length g) (rF (zg i4.o a4.o)) false);rw[<-a5.o]at KR;go_wp2_with (first|(go_at_call 67;with_reducible refine(KA.o).mono ?_;rintro e F ⟨rfl,c⟩;have d:=c.symm;subst d;clear c)|(go_at_call 67;with_reducible refine(KB.o).mono ?_;rintro e F ⟨rfl,c⟩;have d:=c.symm;subst d;clear c))
    with_reducible refine(KR.o).mono ?_
    rintro e W6 ⟨⟨r,rfl,hr⟩,e8⟩;rw[Lg]at hr;have HR:=zb hr;have f9:Ha (Below W.heap.size W W6):=a4.o.trans (e8.mono a4.o.size);have R:Ha (W6.heap[ob]?=some (.cells #[.int .i64 o.id,.int .i64 o.gd,.slice la P g] 132 (0,0))):=(e8.block ob (zc b8.o)).trans b8.o;have h9:Ha (Hd W6 H hs):=(e8.block H (zc g0.o)).trans g0.o;have e0:W6.cell? ⟨ob,0,none⟩=some (.int .i64 o.id):=by rw[za R.o];rfl
    have e1:W6.cell? ⟨ob,1,none⟩=some (.int .i64 o.gd):=by rw[za R.o];rfl
    have e2:W6.cell? ⟨ob,2,none⟩=some (.slice la P g):=by rw[za R.o];rfl
    clear hr e8 b8 g0 a4 KA KB KR;by_cases hC:A=true/\B=true/\r=true/\P≠0
    ·obtain⟨rfl,rfl,rfl,o0⟩:=hC;have q6:((P:Int)==0)=false:=xr.2 (by omega);have m4:Ha (1<=o.id/\o.id<=2147483647):=by unfold Ha;have:=HA.o.symm;simpa [Pl.mayB] using this
     have g5:Ha (1<=o.gd/\o.gd<=2147483647):=by unfold Ha;have:=HB.o.symm;simpa [Pl.mayB] using this
     have j1:=zb (HR.o.1 rfl);clear HA HB HR;go_wp2_with fail;clear e0 e1 e2;go_loopw [9,10,11] (λkk _ _ wr=>∃(k:Nat) (J:List Nat),k<=P/\kk=.int .i64 k/\(∀p∈o.li.take k,Wj p.1 (xs.map Prod.fst)<(xs.map Prod.fst).length/\(1<=p.2/\p.2<=2147483647)/\(zi (xs.map Prod.fst) p.1).gd=o.gd)/\HsP (xs.map Prod.fst) (os.take i) (o.li.take k) J/\(∀j,J.getD j 0<=i*9007199254740992+k*2147483647)/\Hd wr H J/\wr.heap[ob]?=some (.cells #[.int .i64 o.id,.int .i64 o.gd,.slice la P g] 132 (0,0))/\Below W.heap.size W wr) (λkk _ _ _=>P-(intOf kk).toNat)
     case atStart=>exact⟨0,hs,by omega,rfl,λp E=>by simp at E,N.o,λj=>xj (a3.o j) (xcg _ _),h9.o,R.o,f9.o⟩
     clear N a3 h9 R f9;obtain⟨k,J,hk,rfl,c7,a9,c5,t,e9,f⟩:=hrel;have i6:=zb c7;have N:=zb a9;have a3:=zb c5;have D:=zb t;have h7:=zb e9;have l:=zb f;have e1:wr.cell? ⟨ob,1,none⟩=some (.int .i64 o.gd):=by rw[za e9];rfl
     have e2:wr.cell? ⟨ob,2,none⟩=some (.slice la P g):=by rw[za e9];rfl
     clear c7 a9 c5 e9;by_cases o1:k<P
     ·have c6:k<o.li.length:=by rw[<-a5.o];exact o1
      obtain⟨pq,o7,p3,f1,f2⟩:=eU (zg i4.o f) k c6;subst o7;have a0:=b4 (o.li.getD k (0,0)) (by simp[Wc,c6]);have d0:Ha (o.li.getD k (0,0)∈o.li):=by unfold Ha;simp[Wc,c6]
      have e4:Ha (o.li.take (k+1)=o.li.take k++[o.li.getD k (0,0)]):=by
       unfold Ha;rw[xn c6];simp[Wc,c6]
      obtain⟨pr,i7⟩:=Ww (o.li.getD k (0,0));rw[<-i7.o]at f1 f2 a0 d0 e4;obtain⟨Q,p2⟩:=pr;simp only at f1 f2 a0;have KT:=zb (h5.o wr f Q a0.1);obtain⟨C,HC⟩:∃q:Bool,Ha (q=Pl.mayB 99 p2):=⟨_,rfl⟩
      have KC:=zb (l9.o p2 a0.2 wr);rw[<-HC.o]at KC;have a6:Ha (yO (xs.map Prod.fst) os rj->Wj Q (xs.map Prod.fst)<K/\C=true/\(zi (xs.map Prod.fst) Q).gd=o.gd):=λu=>by
       obtain⟨q1,q2,q3⟩:=(d9.o u).line _ d0.o;exact⟨by rw[m.o,<-w.o];exact q1,by rw[HC.o];simpa [Pl.mayB] using q2,q3⟩
      by_cases hf:Wj Q (xs.map Prod.fst)<K
      ·have a2:Ha (VF (xs.map Prod.fst) Q=((Wj Q (xs.map Prod.fst):Nat):Int)):=by unfold Ha VF;rw[xh (by rw[w.o,<-m.o];exact hf)]
       rw[a2.o]at KT;obtain⟨j,HJ⟩:=Ww (Wj Q (xs.map Prod.fst));have hj:j<xs.length:=by rw[HJ.o,<-m.o];exact hf
       rw[<-HJ.o]at KT;obtain⟨G',h0,d3,X⟩:=f3.o (by omega);subst h0;have s1:wr.cell? ⟨S,1,none⟩=some (.slice (some ⟨G',0,none⟩) K cap):=(f.cell (p:=⟨S,1,none⟩) a7).trans e6;have y1:wr.cell? ⟨G',j*11+1,none⟩=some (.int .i64 ((zi (xs.map Prod.fst) Q).gd:Int)):=(f.cell (p:=⟨G',j*11+1,none⟩) d3).trans (by rw[zi,<-HJ.o,aX hj];exact X j hj 1 (by omega));have n5:(zi (xs.map Prod.fst) Q).gd<9223372036854775808:=by rw[zi,<-HJ.o,aX hj];exact(HW.o _ (eF hj)).1.2.1
       obtain⟨yg,j6⟩:=Ww ((zi (xs.map Prod.fst) Q).gd);rw[<-j6.o]at y1 n5 a6;have n8:j<J.length:=by rw[N.o.len,w.o];exact hj
       have g9:=t.cell n8;have p4:=ze t j;have h4:=a3.o j;obtain⟨hv,d8⟩:=Ww (J.getD j 0);rw[<-d8.o]at g9 h4;have p5:=zc t;have q4:(j:Int)<(K:Int):=by rw[m.o];omega
       have q0:(0:Int)<=(j:Int):=by omega
       have n7:decide ((j:Int)<0)=false:=xy (by omega);have q5:j<K:=by omega
       clear f t X;go_wp2_with (first|(go_at_call 111;refine(KT.o).mono ?_;rintro e F ⟨rfl,c⟩;have d:=c.symm;subst d;clear c)|(go_at_call 67;refine(KC.o).mono ?_;rintro e F ⟨rfl,c⟩;have d:=c.symm;subst d;clear c));by_cases hC:C=true
       ·subst hC;by_cases k0:yg=o.gd
        ·have k1:((yg:Int) != (o.gd:Int))=false:=by rw[xax];omega
         have k6:p2<=2147483647/\1<=p2:=by have:=HC.o.symm;simp[Pl.mayB]at this;omega
         have p8:hv+p2<9223372036854775808:=by omega
         go_quiet (fail);go_wp2_with fail
         all_goals go_region
         all_goals go_wp2_with fail
         have j3:=zb (N.o.step l8.o j1.o c6 i7.o (by rw[w.o,<-m.o];exact hf));rw[<-HJ.o,<-d8.o]at j3;refine⟨⟨k+1,J.set j (hv+p2),by omega,by push_cast;rfl,λp E=>?_,j3.o,RA a3.o (by omega) (by omega),D.o.add j hv p2 _,?_,(XA l.o _).setCell (p:=⟨H,j,none⟩) i3.o _⟩,?_⟩
         ·rw[e4.o]at E;rcases xx.1 E with E|E
          ·exact i6.o p E
          rw[XN]at E;subst E;exact⟨by rw[w.o,<-m.o];exact hf,⟨k6.2,k6.1⟩,by rw[<-j6.o];exact k0⟩
         ·exact(xd _ _ _ _ (Yl n3)).trans (((XA (xm wr.heap.size wr) _).block ob (zc h7.o)).trans h7.o)
         simp only[intOf];omega
        have k1:((yg:Int) != (o.gd:Int))=true:=by rw[Yh];omega
        have s:Ha (¬yO (xs.map Prod.fst) os rj):=λu=>k0 (a6.o u).2.2
        go_quiet (fail);go_wp2_with fail;go_ret;exact OyP.no s.o (XA l.o nq)
       obtain rfl:C=false:=by cases C<;>simp_all
       have s:Ha (¬yO (xs.map Prod.fst) os rj):=λu=>hC (a6.o u).2.1
       clear hC;go_quiet (fail);go_wp2_with fail;go_ret;exact OyP.no s.o (XA l.o nq)
      have a2:Ha (VF (xs.map Prod.fst) Q=-1):=by unfold Ha VF;rw[xg (by rw[w.o,<-m.o];exact hf)]
      rw[a2.o]at KT;have s:Ha (¬yO (xs.map Prod.fst) os rj):=λu=>hf (a6.o u).1
      clear f t;go_wp2_with (first|(go_at_call 111;refine(KT.o).mono ?_;rintro e F ⟨rfl,c⟩;have d:=c.symm;subst d;clear c)|(go_at_call 67;refine(KC.o).mono ?_;rintro e F ⟨rfl,c⟩;have d:=c.symm;subst d;clear c));go_quiet (fail);go_wp2_with fail;go_ret;exact OyP.no s.o (XA l.o nq)
     have n9:k=P:=by omega
     subst n9;have a1:o.li.take k=o.li:=by rw[a5.o];exact Xs
     have m1:Ha (HsP (xs.map Prod.fst) (os.take (i+1)) [] J):=HsP.next (by rw[<-HO.o];have:=N.o;rwa [a1]at this) b0
     have m3:Ha (∀z∈os.take (i+1),Si (xs.map Prod.fst) z):=by
      intro z hz;rw[xn b0]at hz;rcases xx.1 hz with hz|hz
      ·exact g3.o z hz
      rw[XN]at hz;have e:os[i]=o:=by rw[HO.o];simp[Wc,b0]
      rw[e]at hz;subst hz;exact⟨m4.o,g5.o,j1.o,λe=>by have:=a5.o;rw[e]at this;exact o0 this,λp E=>i6.o p (by rw[a1];exact E)⟩
     have h8:Ha (∀j,J.getD j 0<=(i+1)*9007199254740992):=λj=>xj (a3.o j) (by omega)
     clear f t a1;go_wp2_with fail;refine⟨⟨i+1,J,by omega,by go_num,m3.o,m1.o,h8.o,D.o,l.o⟩,?_⟩;simp[intOf];omega
    have i5:Ha (¬Si (xs.map Prod.fst) o):=λu=>hC ⟨by rw[HA.o];simpa [Pl.mayB] using u.id,by rw[HB.o];simpa [Pl.mayB] using u.gd,HR.o.2 u.ris,by rw[a5.o];intro e;exact u.ne (XD.1 e)⟩
    have s:Ha (¬yO (xs.map Prod.fst) os rj):=λu=>i5.o (d9.o u)
    clear HA HB HR i5 d9;have hD:(A=false)\/(A=true/\B=false)\/(A=true/\B=true/\r=false)\/(A=true/\B=true/\r=true/\P=0):=by
     cases A<;>cases B<;>cases r<;>simp_all
    clear hC;rcases hD with rfl|⟨rfl,rfl⟩|⟨rfl,rfl,rfl⟩|⟨rfl,rfl,rfl,rfl⟩
    all_goals go_wp2_with fail
    all_goals go_ret
    all_goals exact OyP.no s.o f9.o
   have n6:i=m0:=by omega
   subst n6;have a1:os.take i=os:=by rw[b9.o];exact Xs
   rw[a1]at g3 N;have s1:wr.cell? ⟨S,1,none⟩=some (.slice a K cap):=(f.cell (p:=⟨S,1,none⟩) a7).trans e6;have s3:wr.cell? ⟨S,3,none⟩=some (.slice ra r0 M):=(f.cell (p:=⟨S,3,none⟩) a7).trans e7;have r4:hs.length=K:=by rw[a9.len,w.o,m.o]
   have f5:=t;clear c7 a9 c5 a1 f t D;have i1:=zb f5;go_wp2_with fail;go_loopw [12] (λii wq=>∃q:Nat,q<=K/\ii=.int .i64 q/\(∀j,j<q->hs.getD j 0=((xs.map Prod.fst).getD j L0).hd)/\Hd wq H hs/\Below W.heap.size W wq) (λii _=>K-(intOf ii).toNat)
   case atStart=>exact⟨0,by omega,rfl,λj hj=>by omega,i1.o,l.o⟩
   clear i1 f5 l s1 s3;obtain⟨q,hq,rfl,k7,t,f⟩:=hrel;have i9:=zb k7;have D:=zb t;have l:=zb f;have s1:wr.cell? ⟨S,1,none⟩=some (.slice a K cap):=(f.cell (p:=⟨S,1,none⟩) a7).trans e6;have s3:wr.cell? ⟨S,3,none⟩=some (.slice ra r0 M):=(f.cell (p:=⟨S,3,none⟩) a7).trans e7;clear k7;by_cases o2:q<K
   ·have c8:q<xs.length:=by rw[<-m.o];exact o2
    obtain⟨G',h0,d3,X⟩:=f3.o (by omega);subst h0;have y6:wr.cell? ⟨G',q*11+6,none⟩=some (.int .i64 (((xs.map Prod.fst).getD q L0).hd:Int)):=(l.o.cell (p:=⟨G',q*11+6,none⟩) d3).trans (by rw[aX c8];exact X q c8 6 (by omega));have o9:((xs.map Prod.fst).getD q L0).hd<9223372036854775808:=by rw[aX c8];exact(HW.o _ (eF c8)).1.2.2.2.2.2.2.1
    have g9:=t.cell (j:=q) (by omega);have h4:=a3.o q;have m7:Ha (zD os ((xs.map Prod.fst).getD q L0).id=hs.getD q 0):=by
     have:=N.o.at_ q (by rw[w.o];exact c8)
     simp only[xcv,xck,xaN]at this;exact this.symm
    have HX:Ha (yO (xs.map Prod.fst) os rj->hs.getD q 0=((xs.map Prod.fst).getD q L0).hd):=λu=>by
     rw[<-m7.o];exact u.hd q (by rw[w.o];exact c8)
    have d1:Ha (hs.getD q 0=((xs.map Prod.fst).getD q L0).hd->∀j,j<q+1->hs.getD j 0=((xs.map Prod.fst).getD j L0).hd):=λe j hj=>by
     by_cases k3:j=q
     ·subst k3;exact e
     exact i9.o j (by omega)
    obtain⟨yh,m9⟩:=Ww (((xs.map Prod.fst).getD q L0).hd);obtain⟨hv,d8⟩:=Ww (hs.getD q 0);rw[<-m9.o]at y6 o9 HX d1;rw[<-d8.o]at g9 h4 HX d1;have p9:hv<9223372036854775808:=by omega
    have r2:(q:Int)<(K:Int):=by omega
    have r1:(0:Int)<=(q:Int):=by omega
    have l7:Ha (∀n,Hd (wr.drewN n) H hs):=λn=>((XA (xm wr.heap.size wr) n).block H (zc D.o)).trans D.o
    clear X t f;by_cases hE:hv=yh
    ·have n2:((hv:Int) != (yh:Int))=false:=by rw[xax];omega
     have g5:=zb (d1.o hE);clear d1 HX hE;go_wp2_with fail;go_quiet (fail);go_wp2_with fail;refine⟨⟨q+1,by omega,by go_num,g5.o,l7.o _,XA l.o _⟩,?_⟩;simp[intOf];omega
    have n2:((hv:Int) != (yh:Int))=true:=by rw[Yh];omega
    have s:Ha (¬yO (xs.map Prod.fst) os rj):=λu=>hE (HX.o u)
    clear d1 HX hE;go_wp2_with fail;go_quiet (fail);go_wp2_with fail;go_ret;exact OyP.no s.o (XA l.o _)
   obtain rfl:q=K:=by omega
   have m5:Ha (Prs 181 wr (.slice ra r0 M) rj):=by
    have:=rF (zg j2.o.rrow f)
    have e:rv=.slice ra r0 M:=by rw[T.o];exact m6.o
    rw[<-e];exact this
   have KR:=zb (lW rj j0.o (by rw[<-T.o];omega) wr (.slice ra r0 M) m5.o true);have l6:Ha (∀j,j<(xs.map Prod.fst).length->zD os ((xs.map Prod.fst).getD j L0).id=((xs.map Prod.fst).getD j L0).hd):=λj hj=>by
    have:=N.o.at_ j hj
    simp only[xcv,xck,xaN]at this;rw[<-this];exact i9.o j (by rw[m.o,<-w.o];exact hj)
   clear t f;go_wp2_with fail
   with_reducible refine(KR.o).mono ?_
   rintro e W7 ⟨⟨up,rfl,l2⟩,j9⟩;have h6:Ha (Below W.heap.size W W7):=l.o.trans (j9.mono l.o.size);have m8:=zb l2;clear l2 j9 KR s1 s3;go_wp2_with fail;go_loopw [14,15,16] (λii _ _ wq=>∃z:Nat,z<=r0/\ii=.int .i64 z/\(∀p∈rj.take z,Wj p.1 (xs.map Prod.fst)<(xs.map Prod.fst).length/\1<=p.2/\p.2<=2147483647)/\Below W.heap.size W wq) (λii _ _ _=>r0-(intOf ii).toNat)
   case atStart=>exact⟨0,by omega,rfl,λp E=>by simp at E,h6.o⟩
   clear h6;obtain⟨z,hz,rfl,l3,a8⟩:=hrel;have j7:=zb l3;have d7:=zb a8;have s3:wr.cell? ⟨S,3,none⟩=some (.slice ra r0 M):=(a8.cell (p:=⟨S,3,none⟩) a7).trans e7;clear l3;by_cases o4:z<r0
   ·have f0:z<rj.length:=by rw[<-T.o];exact o4
    obtain⟨RG,n4,f4,k9⟩:=g6.o (by omega);subst n4;obtain⟨f7,f8⟩:=k9 z f0;have f1:wr.cell? ⟨RG,z*2,none⟩=some (.int .i64 ((rj.getD z (0,0)).1:Int)):=(a8.cell (p:=⟨RG,z*2,none⟩) f4).trans f7;have f2:wr.cell? ⟨RG,z*2+1,none⟩=some (.int .i64 ((rj.getD z (0,0)).2:Int)):=(a8.cell (p:=⟨RG,z*2+1,none⟩) f4).trans f8;have d0:Ha (rj.getD z (0,0)∈rj):=by unfold Ha;simp[Wc,f0]
    have a0:=j0.o _ d0.o;have e4:Ha (rj.take (z+1)=rj.take z++[rj.getD z (0,0)]):=by
     unfold Ha;rw[xn f0];simp[Wc,f0]
    generalize rj.getD z (0,0)=pr at *;obtain⟨Q,p2⟩:=pr;simp only at f1 f2 a0;have KT:=zb (h5.o wr a8 Q a0.1);obtain⟨C,HC⟩:∃q:Bool,Ha (q=Pl.mayB 105 p2):=⟨_,rfl⟩
    have KC:=zb (g2.o p2 a0.2 wr);rw[<-HC.o]at KC;have a6:Ha (yO (xs.map Prod.fst) os rj->Wj Q (xs.map Prod.fst)<q/\C=true):=λu=>by
     obtain⟨q1,q2⟩:=u.rc _ d0.o;exact⟨by rw[m.o,<-w.o];exact q1,by rw[HC.o];simpa [Pl.mayB] using q2⟩
    clear k9 f7 f8 a8;by_cases hf:Wj Q (xs.map Prod.fst)<q
    ·have a2:Ha (VF (xs.map Prod.fst) Q=((Wj Q (xs.map Prod.fst):Nat):Int)):=by unfold Ha VF;rw[xh (by rw[w.o,<-m.o];exact hf)]
     rw[a2.o]at KT;obtain⟨j,HJ⟩:=Ww (Wj Q (xs.map Prod.fst));rw[<-HJ.o]at KT;have n7:decide ((j:Int)<0)=false:=xy (by omega);have k3:j<q:=by rw[HJ.o];exact hf
     by_cases hC:C=true
     ·subst hC;have l5:Ha (1<=p2/\p2<=2147483647):=by unfold Ha;have:=HC.o.symm;simpa [Pl.mayB] using this
      have n1:Ha (∀p∈rj.take (z+1),Wj p.1 (xs.map Prod.fst)<(xs.map Prod.fst).length/\1<=p.2/\p.2<=2147483647):=λp E=>by
       rw[e4.o]at E;rcases xx.1 E with E|E
       ·exact j7.o p E
       rw[XN]at E;subst E;exact⟨by rw[w.o,<-m.o];exact hf,l5.o⟩
      go_wp2_with (first|(go_at_call 111;refine(KT.o).mono ?_;rintro e F ⟨rfl,c⟩;have d:=c.symm;subst d;clear c)|(go_at_call 67;refine(KC.o).mono ?_;rintro e F ⟨rfl,c⟩;have d:=c.symm;subst d;clear c))
      refine⟨⟨z+1,by omega,by go_num,n1.o,d7.o⟩,?_⟩;simp[intOf];omega
     obtain rfl:C=false:=by cases C<;>simp_all
     have s:Ha (¬yO (xs.map Prod.fst) os rj):=λu=>hC (a6.o u).2
     clear hC;go_wp2_with (first|(go_at_call 111;refine(KT.o).mono ?_;rintro e F ⟨rfl,c⟩;have d:=c.symm;subst d;clear c)|(go_at_call 67;refine(KC.o).mono ?_;rintro e F ⟨rfl,c⟩;have d:=c.symm;subst d;clear c));go_ret;exact OyP.no s.o d7.o
    have a2:Ha (VF (xs.map Prod.fst) Q=-1):=by unfold Ha VF;rw[xg (by rw[w.o,<-m.o];exact hf)]
    rw[a2.o]at KT;have s:Ha (¬yO (xs.map Prod.fst) os rj):=λu=>hf (a6.o u).1
    go_wp2_with (first|(go_at_call 111;refine(KT.o).mono ?_;rintro e F ⟨rfl,c⟩;have d:=c.symm;subst d;clear c)|(go_at_call 67;refine(KC.o).mono ?_;rintro e F ⟨rfl,c⟩;have d:=c.symm;subst d;clear c))
    go_ret;exact OyP.no s.o d7.o
   obtain rfl:z=r0:=by omega
   have i0:Ha (up=true↔yO (xs.map Prod.fst) os rj):=by
    have a1:rj.take z=rj:=by rw[T.o];exact Xs
    have o8:rj.Pairwise (λa b=>WJ true a b=true)↔rj.Pairwise (λa b=>aC a b=true):=by simp[WJ]
    unfold Ha;rw[m8.o,o8];exact⟨λu=>⟨by rw[<-b9.o];exact h1,by rw[<-T.o];exact h2,g3.o,l6.o,λp E=>j7.o p (by rw[a1];exact E),u⟩,λu=>u.up⟩
   clear a8;go_wp2_with fail;go_ret;exact⟨⟨up,rfl,i0.o⟩,d7.o⟩
  have s:Ha (¬yO (xs.map Prod.fst) os rj):=λu=>h2 (by rw[T.o];exact u.rlen)
  go_wp2_with fail;go_ret
  exact OyP.no s.o (xm _ _)
 have s:Ha (¬yO (xs.map Prod.fst) os rj):=λu=>h1 (by rw[b9.o];exact u.olen)
 go_wp2_with fail;go_ret
 exact OyP.no s.o (xm _ _)
end
