import Derived.Test.YtgcedalggnmooaaGreatDoorNuX
import Derived.Deep.OwnRows
set_option linter.all false
set_option maxRecDepth 100000
set_option maxHeartbeats 6400000
namespace Go.Proofs.YtgcedalggnmooaaGreatDoor
open Go.RowKit
structure QF(ls:List L)(o:O):Prop where
 id:1<=o.id/\o.id<=2147483647
 gd:1<=o.gd/\o.gd<=2147483647
 ris:(o.li.map Prod.fst).Pairwise (·<·)
 ne:o.li≠[]
 line:∀p∈o.li,Ur p.1 ls<ls.length/\(1<=p.2/\p.2<=2147483647)/\(zd ls p.1).gd=o.gd
structure yC(ls:List L)(os:List O)(rcs:List (Nat×Nat)):Prop where
 olen:os.length<=10
 rlen:rcs.length<=10
 ord:∀o∈os,QF ls o
 hd:∀i,i<ls.length->zG os (ls.getD i L0).id=(ls.getD i L0).hd
 rc:∀p∈rcs,Ur p.1 ls<ls.length/\1<=p.2/\p.2<=2147483647
 up:rcs.Pairwise (λa b=>bG a b=true)
structure HsP(ls:List L)(A:List O)(B:List (Nat×Nat))(hs:List Nat):Prop where
 len:hs.length=ls.length
 at_:∀j,j<ls.length->hs.getD j 0=zG A (ls.getD j L0).id+(B.lookup (ls.getD j L0).id).getD 0
theorem IA(ls:List L):HsP ls [] [] (List.replicate ls.length 0):=⟨by simp,λj a=>by simp[zG,a,Ul]⟩
variable {l:List (Nat×Nat)}
theorem CD(c:(l.map Prod.fst).Pairwise (·<·)){k:Nat}(d:k<l.length)(n:Nat):((l.take (k+1)).lookup n).getD 0=if (l.getD k (0,0)).1=n then (l.getD k (0,0)).2 else ((l.take k).lookup n).getD 0:=by
 induction l generalizing k with
 |nil=>simp at d
 |cons p l ih=>
  rw[List.map_cons,Xq]at c
  cases k with
  |zero=>
   obtain⟨b,h⟩:=p;simp only[xbc,List.take_zero,YP,xbz,xbL];by_cases e:b=n
   ·subst e;simp
   have:(n==b)=false:=xr.2 (yk e)
   simp[this,e]
  |succ k=>
   have a:k<l.length:=by simpa using d
   have f:=ih c.2 a;obtain⟨b,h⟩:=p;have g:b<(l.getD k (0,0)).1:=c.1 _ (by simp[Ul,a];exact⟨_,yb a⟩);rw[xbc,xbc,List.getD_cons_succ,xbz,xbz];by_cases e:b=n
   ·subst e;have:¬(l.getD k (0,0)).1=b:=by omega
    rw[xe this];simp
   have:(n==b)=false:=xr.2 (yk e)
   simp only[this];exact f
theorem PZ(b:(l.map Prod.fst).Pairwise (·<·)){k:Nat}(a:k<l.length):((l.take k).lookup (l.getD k (0,0)).1)=none:=by
 rw[List.lookup_eq_none_iff];intro p f;obtain⟨j,d,e⟩:=xt f;rw[Xv]at d;rw[xbl]at e;rw[Xz]at b;have:=b j k (by simp;omega) (by simpa using a) (by omega);simp only[xaN]at this;rw[e]at this;have c:l.getD k (0,0)=l[k]:=by simp[Ul,a]
 rw[c];rw[ym];omega
variable {hs:List Nat}{ls:List L}
theorem HsP.step{A:List O}{k:Nat}(h:HsP ls A (l.take k) hs)(c:∀j,j<ls.length->Ur (ls.getD j L0).id ls=j)(n:(l.map Prod.fst).Pairwise (·<·))(g:k<l.length){a p:Nat}(m:(a,p)=l.getD k (0,0))(r:Ur a ls<ls.length):HsP ls A (l.take (k+1)) (hs.set (Ur a ls) (hs.getD (Ur a ls) 0+p)):=by
 refine⟨by rw[xl];exact h.len,λj d=>?_⟩;rw[CD n g,<-m];have i:=PZ n g;rw[<-m]at i;have s:=h.len;by_cases e:Ur a ls=j
 ·have b:(ls.getD j L0).id=a:=by rw[<-e];exact Z6 r
  subst e;have:=h.at_ _ d;rw[b]at this ⊢;simp only[i,xbA]at this;simp only[YC];rw[Ul,Xe,xd rfl,xd (by omega)];simp only[Xw];omega
 have f:¬a=(ls.getD j L0).id:=λq=>e (by rw[q];exact c j d)
 rw[xe f,<-h.at_ j d,Ul,Xe,xe e,<-Ul]
theorem HsP.next{os:List O}{i:Nat}(h:HsP ls (os.take i) (os.getD i O0).li hs)(a:i<os.length):HsP ls (os.take (i+1)) [] hs:=by
 refine⟨h.len,λj b=>?_⟩;rw[h.at_ j b,xk a];have e:os.getD i O0=os[i]:=by simp[Ul,a]
 rw[e];unfold zG;rw[yz,List.sum_append];simp[ZW]
theorem Rf{os:List O}{i:Nat}(h:i<os.length):os.getD i O0∈os:=by simp[Ul,h]
def Hd(w:World)(H:Nat)(hs:List Nat):Prop:=w.heap[H]?=some (.cells (hs.map (λ(n:Nat)=>Value.int .i64 n)).toArray 3 (0,0))
theorem Hd.cell{w:World}{H:Nat}{a:List Nat}(h:Hd w H a){j:Nat}(b:j<a.length):w.cell? ⟨H,j,none⟩=some (.int .i64 (a.getD j 0:Nat)):=by
 rw[za h];simp[Ul,b]
theorem Hd.set{w:World}{H:Nat}{a:List Nat}(h:Hd w H a)(j n:Nat):Hd (w.setCell ⟨H,j,none⟩ (.int .i64 n)) H (a.set j n):=by
 have:=xp w H j _ 3 (.int .i64 n) h
 unfold Hd;rw[this,yu];simp
variable {H:Nat}{w:World}
theorem Hd.add(h:Hd w H hs)(j a b n:Nat):Hd ((w.drewN n).setCell ⟨H,j,none⟩ (.int .i64 ((a:Int)+(b:Int)))) H (hs.set j (a+b)):=by
 have c:Hd (w.drewN n) H hs:=((Xf (xg w.heap.size w) n).block H (zc h)).trans h;have:=c.set j (a+b);rw[show(((a+b:Nat):Int))=(a:Int)+(b:Int) by push_cast;rfl]at this;exact this
theorem Qd{j a B C:Nat}(h:∀i,hs.getD i 0<=B)(b:B<=C)(c:a<=C)(i:Nat):(hs.set j a).getD i 0<=C:=by
 rw[Ul,Xe];by_cases e:j=i
 ·rw[xd e];split
  ·exact c
  exact Nat.zero_le _
 rw[xe e,<-Ul];exact xj (h i) b
theorem FO(n:Nat):(madeCells #[Value.int .i64 0] n).toList=List.replicate n (Value.int .i64 0):=by
 apply yn
 ·simp[size_madeCells]
 intro i a b;simp[madeCells,Nat.mod_one]
theorem Mc:(Tryz.prog.info? 3).map (λi=>(i.zero,i.size,i.bytes))=some (some (.int .i64 0),1,8):=by kernel_rfl
theorem Qj:Tryz.prog.underlying 55=some (.slice 3):=by kernel_rfl
theorem UA(n:Nat)(a:n<=30)(w:World):(Instr.makeSlice 55 (.int .i64 n) (.int .i64 n)).run Tryz.prog w=.ok (.slice (some ⟨w.heap.size,0,none⟩) n n) (w.alloc (.cells (madeCells #[.int .i64 0] n) 3)) :=
 run_make_row' 55 3 (.int .i64 0) 8 Qj Mc rfl .i64 .i64 n (by omega) (by omega) w
theorem Pf(w:World)(n:Nat):Hd (w.alloc (.cells (madeCells #[.int .i64 0] n) 3)) w.heap.size (List.replicate n 0):=by
 unfold Hd;rw[xo];congr 2;apply Array.ext';rw[FO];simp
def OyP(W:World)(ls:List L)(os:List O)(rcs:List (Nat×Nat))(e:Ending)(w':World):Prop:=(∃x,e=.returned (.bool x)/\(x=true↔yC ls os rcs))/\Below W.heap.size W w'
theorem OyP.no{W w':World}{os:List O}{rcs:List (Nat×Nat)}(h:¬yC ls os rcs)(a:Below W.heap.size W w'):OyP W ls os rcs (.returned (.bool false)) w':=⟨⟨false,rfl,λe=>(by cases e),λe=>absurd e h⟩,a⟩
theorem AN:∀(os:List O) (lvs:List Value),lvs.length=os.length->(bF os lvs).length=os.length*3
 |[],_,_=>by simp[bF]
 |_::_,[],h=>by simp at h
 |o::os,f::fs,h=>by
  have:=AN os fs (by simpa using h)
  simp only[bF,List.length_cons,xb,this]at *;omega
section
variable {w0 W:World}{S:Nat}{td:Nat}{v:Value}{xs:List (L×Value)}{ov:Value}{os:List O}{lvs:List Value}{rv:Value}{rcs:List (Nat×Nat)}
theorem RW.ord(h:RW w0 W S td v xs ov os lvs rv rcs):∃a cap,ov=.slice a os.length cap/\W.cell? ⟨S,2,none⟩=some (.slice a os.length cap)/\(0<os.length->∃G,a=some ⟨G,0,none⟩/\G<W.heap.size/\∀i,i<os.length->W.cell? ⟨G,i*3,none⟩=some (.int .i64 ((os.getD i O0).id:Int))/\W.cell? ⟨G,i*3+1,none⟩=some (.int .i64 ((os.getD i O0).gd:Int))/\W.cell? ⟨G,i*3+2,none⟩=some (lvs.getD i default)):=by
 obtain⟨a,cap,d⟩:=zm h.orow;refine⟨a,cap,d,by rw[za h.box,d];rfl,λm=>?_⟩;have b:=h.orow;rw[d]at b;obtain⟨G,n,e,_,c⟩:=ZD b m
 cases e;refine⟨G,rfl,c,λi l=>?_⟩
 obtain⟨g,j,k⟩:=wW os lvs h.llen i l;have f:(bF os lvs).length=os.length*3:=AN os lvs h.llen;refine⟨?_,?_,?_⟩
 ·rw[b.cellAt (i*3) (by omega)];exact g
 ·rw[b.cellAt (i*3+1) (by omega)];exact j
 rw[b.cellAt (i*3+2) (by omega)];exact k
theorem RW.rec_(h:RW w0 W S td v xs ov os lvs rv rcs):∃a cap,rv=.slice a rcs.length cap/\W.cell? ⟨S,3,none⟩=some (.slice a rcs.length cap)/\(0<rcs.length->∃G,a=some ⟨G,0,none⟩/\G<W.heap.size/\∀i,i<rcs.length->W.cell? ⟨G,i*2,none⟩=some (.int .i64 ((rcs.getD i (0,0)).1:Int))/\W.cell? ⟨G,i*2+1,none⟩=some (.int .i64 ((rcs.getD i (0,0)).2:Int))):=by
 obtain⟨a,cap,d⟩:=zm h.rrow;refine⟨a,cap,d,by rw[za h.box,d];rfl,λg=>?_⟩;have c:=h.rrow;rw[d]at c;obtain⟨G,j,e,_,b⟩:=ZD c g
 cases e;exact⟨G,rfl,b,λi f=>cO c i f⟩
end
section
variable {w0 W:World}{S:Nat}{td:Nat}{v:Value}{xs:List (L×Value)}{ov:Value}{os:List O}{lvs:List Value}{rv:Value}{rcs:List (Nat×Nat)}
theorem CU(h:RW w0 W S td v xs ov os lvs rv rcs)(hw:∀x∈xs,Wl x)(hl:xs.length<=30)(k2:∀j,j<(xs.map Prod.fst).length->Ur ((xs.map Prod.fst).getD j L0).id (xs.map Prod.fst)=j)(k5:os.length<=4194304)(d4:∀o∈os,o.id<9223372036854775808/\o.gd<9223372036854775808/\o.li.length<=4194304/\∀p∈o.li,p.1<9223372036854775808/\p.2<9223372036854775808)(l0:rcs.length<=4194304)(k8:∀p∈rcs,p.1<9223372036854775808/\p.2<9223372036854775808):Calls Tryz.prog 92 #[.pointer (some ⟨S,0,none⟩)] W (OyP W (xs.map Prod.fst) os rcs):=by
 obtain⟨a,cap,hv,e6,f6⟩:=h.shape;obtain⟨oa,l4,o6,j8,d5⟩:=h.ord;obtain⟨ra,M,l1,e7,d6⟩:=h.rec_;have a7:=zc h.box;have HW:=zb hw;have h5:Hid (∀(wx:World),Below W.heap.size W wx->∀(n:Nat),n<9223372036854775808->Calls Tryz.prog 111 #[.pointer (some ⟨S,0,none⟩),.int .i64 n] wx λe w'=>e=.returned (.int .i64 (TR (xs.map Prod.fst) n))/\w'=wx):=by
  intro wx hx n hn;have h':=h.below hx;exact BP h' hw (by omega) n hn
 have g2:Hid (∀n:Nat,n<9223372036854775808->∀wx,Calls Tryz.prog 67 #[.int .u8 105,.int .i64 n] wx λe w'=>e=.returned (.bool (Pl.mayB 105 n))/\w'=wx):=λn hn wx=>by have hx:=qH 105 n hn wx;rw[show((105:UInt8).toNat:Int)=105 from rfl]at hx;exact hx
 have l9:Hid (∀n:Nat,n<9223372036854775808->∀wx,Calls Tryz.prog 67 #[.int .u8 99,.int .i64 n] wx λe w'=>e=.returned (.bool (Pl.mayB 99 n))/\w'=wx):=λn hn wx=>by have hx:=qH 99 n hn wx;rw[show((99:UInt8).toNat:Int)=99 from rfl]at hx;exact hx
 have w:Hid ((xs.map Prod.fst).length=xs.length):=Xl ..;have j2:=zb h;have m6:=zb l1;have f3:=zb f6;have g4:=zb d5;have g6:=zb d6;have l8:=zb k2;have m2:=zb d4;have j0:=zb k8;obtain⟨K,m⟩:=UC xs.length;obtain⟨m0,b9⟩:=UC os.length;obtain⟨r0,T⟩:=UC rcs.length;rw[<-m.out]at e6;rw[<-b9.out]at j8;rw[<-T.out]at e7;have o5:K<=30:=by rw[m.out];exact hl
 have q7:m0<=4194304:=by rw[b9.out];exact k5
 have r3:r0<=4194304:=by rw[T.out];exact l0
 clear h hv hw o6 l1 f6 d5 d6 k2 d4 k8 k5 l0 hl;go_enter Tryz.func92,Tryz.ntmps92;by_cases h1:m0<=10
 ·by_cases h2:r0<=10
  ·have q8:=UA K o5;have p6:decide ((10:Int)<(m0:Int))=false:=xu (by omega);have p7:decide ((10:Int)<(r0:Int))=false:=xu (by omega);go_wp2_with fail;have b6:=zb (Pf W K);have y:=zb (TQ W (.cells (madeCells #[.int .i64 0] K) 3));obtain⟨H,g1⟩:=UC W.heap.size;obtain⟨W1,j4⟩:=UC (W.alloc (.cells (madeCells #[.int .i64 0] K) 3));rw[<-j4.out]at b6 y ⊢;rw[<-g1.out]at b6 ⊢;have i2:Hid (Hd W1 H (List.replicate K 0)):=b6.out;have a4:Hid (Below W.heap.size W W1):=y.out;have i3:Hid (W.heap.size<=H):=by rw[Hid,g1.out];exact xc _
   have i8:Hid (HsP (xs.map Prod.fst) (os.take 0) [] (List.replicate K 0)):=by
    rw[Hid,m.out,<-w.out];exact IA _
   clear b6 y j4 g1;go_loopw [4,5,6,7,8,9,10,11] (λii _ _ _ _ _ _ _ wr=>∃(i:Nat) (hs:List Nat),i<=m0/\ii=.int .i64 i/\(∀o∈os.take i,QF (xs.map Prod.fst) o)/\HsP (xs.map Prod.fst) (os.take i) [] hs/\(∀j,hs.getD j 0<=i*9007199254740992)/\Hd wr H hs/\Below W.heap.size W wr) (λii _ _ _ _ _ _ _ _=>m0-(intOf ii).toNat)
   case atStart=>exact⟨0,_,by omega,rfl,λo ho=>by simp at ho,i8.out,λj=>by simp[Ul,xas];split<;>simp,i2.out,a4.out⟩
   clear i2 a4 i8;obtain⟨i,hs,hi,rfl,c7,a9,c5,t,f⟩:=hrel;have g3:=zb c7;have N:=zb a9;have a3:=zb c5;have D:=zb t;have l:=zb f;have d2:wr.cell? ⟨S,2,none⟩=some (.slice oa m0 l4):=(f.cell (p:=⟨S,2,none⟩) a7).trans j8;by_cases o3:i<m0
   ·have b0:i<os.length:=by rw[<-b9.out];exact o3
    obtain⟨G,hG,h3,b7⟩:=g4.out (by omega);subst hG;obtain⟨g7,g8,e5⟩:=b7 i b0;have Z:=j2.out.lin i b0;have d4:=m2.out _ (Rf b0);have d9:Hid (yC (xs.map Prod.fst) os rcs->QF (xs.map Prod.fst) (os.getD i O0)):=λu=>u.ord _ (Rf b0)
    obtain⟨o,HO⟩:=UC (os.getD i O0);rw[<-HO.out]at g7 g8 Z d4 d9;obtain⟨la,g,k4⟩:=zm Z;rw[k4]at e5 Z;obtain⟨P,a5⟩:=UC o.li.length;rw[<-a5.out]at e5;obtain⟨b1,b2,b3,b4⟩:=d4;have p0:P<=4194304:=by rw[a5.out];exact b3
    have c0:wr.cell? ⟨G,i*3,none⟩=some (.int .i64 o.id):=(f.cell (p:=⟨G,i*3,none⟩) h3).trans g7;have c1:wr.cell? ⟨G,i*3+1,none⟩=some (.int .i64 o.gd):=(f.cell (p:=⟨G,i*3+1,none⟩) h3).trans g8;have c2:wr.cell? ⟨G,i*3+2,none⟩=some (.slice la P g):=(f.cell (p:=⟨G,i*3+2,none⟩) h3).trans e5;have i4:=zb Z;clear b7 g7 g8 e5 Z k4 f c7 a9 c5 t;go_wp2_with fail;have b5:=zb (xo wr (.cells #[.int .i64 o.id,.int .i64 o.gd,.slice la P g] 132));have y:=zb (l.out.alloc l.out.size (.cells #[.int .i64 o.id,.int .i64 o.gd,.slice la P g] 132));have c9:=zb (TQ wr (.cells #[.int .i64 o.id,.int .i64 o.gd,.slice la P g] 132));obtain⟨ob,e3⟩:=UC wr.heap.size;obtain⟨W5,j5⟩:∃W5,Hid (W5=wr.alloc (.cells #[.int .i64 o.id,.int .i64 o.gd,.slice la P g] 132)):=⟨_,rfl⟩
    rw[<-j5.out]at b5 y c9 ⊢;rw[<-e3.out]at b5 ⊢;have b8:Hid (W5.heap[ob]?=some (.cells #[.int .i64 o.id,.int .i64 o.gd,.slice la P g] 132 (0,0))):=b5.out;have a4:Hid (Below W.heap.size W W5):=y.out;have g0:Hid (Hd W5 H hs):=(c9.out.block H (zc D.out)).trans D.out;have n3:H≠ob:=by rw[e3.out];exact Nat.ne_of_lt (zc D.out)
    have q9:W.heap.size<=ob:=by rw[e3.out];exact l.out.size
    clear b5 y c9 j5 e3 c0 c1 c2 D l d2;have e0:W5.cell? ⟨ob,0,none⟩=some (.int .i64 o.id):=by rw[za b8.out];rfl
    have e1:W5.cell? ⟨ob,1,none⟩=some (.int .i64 o.gd):=by rw[za b8.out];rfl
    have e2:W5.cell? ⟨ob,2,none⟩=some (.slice la P g):=by rw[za b8.out];rfl
    obtain⟨A,HA⟩:∃q:Bool,Hid (q=Pl.mayB 105 o.id):=⟨_,rfl⟩
    have KA:=zb (g2.out o.id b1 W5);rw[<-HA.out]at KA;obtain⟨B,HB⟩:∃q:Bool,Hid (q=Pl.mayB 105 o.gd):=⟨_,rfl⟩
    have KB:=zb (g2.out o.gd b2 W5);rw[<-HB.out]at KB;have KR:=zb (lJ o.li b4 b3 W5 (.slice la o.li.length g) (qQ (zh i4.out a4.out)) false);rw[<-a5.out]at KR;go_wp2_with (first|(go_at_call 67;with_reducible refine(KA.out).mono ?_;rintro e F ⟨rfl,c⟩;have d:=c.symm;subst d;clear c)|(go_at_call 67;with_reducible refine(KB.out).mono ?_;rintro e F ⟨rfl,c⟩;have d:=c.symm;subst d;clear c))
    with_reducible refine(KR.out).mono ?_
    rintro e W6 ⟨⟨r,rfl,hr⟩,e8⟩;rw[JM]at hr;have HR:=zb hr;have f9:Hid (Below W.heap.size W W6):=a4.out.trans (e8.mono a4.out.size);have R:Hid (W6.heap[ob]?=some (.cells #[.int .i64 o.id,.int .i64 o.gd,.slice la P g] 132 (0,0))):=(e8.block ob (zc b8.out)).trans b8.out;have h9:Hid (Hd W6 H hs):=(e8.block H (zc g0.out)).trans g0.out;have e0:W6.cell? ⟨ob,0,none⟩=some (.int .i64 o.id):=by rw[za R.out];rfl
    have e1:W6.cell? ⟨ob,1,none⟩=some (.int .i64 o.gd):=by rw[za R.out];rfl
    have e2:W6.cell? ⟨ob,2,none⟩=some (.slice la P g):=by rw[za R.out];rfl
    clear hr e8 b8 g0 a4 KA KB KR;by_cases hC:A=true/\B=true/\r=true/\P≠0
    ·obtain⟨rfl,rfl,rfl,o0⟩:=hC;have q6:((P:Int)==0)=false:=xr.2 (by omega);have m4:Hid (1<=o.id/\o.id<=2147483647):=by unfold Hid;have:=HA.out.symm;simpa [Pl.mayB] using this
     have g5:Hid (1<=o.gd/\o.gd<=2147483647):=by unfold Hid;have:=HB.out.symm;simpa [Pl.mayB] using this
     have j1:=zb (HR.out.1 rfl);clear HA HB HR;go_wp2_with fail;clear e0 e1 e2;go_loopw [9,10,11] (λkk _ _ wr=>∃(k:Nat) (J:List Nat),k<=P/\kk=.int .i64 k/\(∀p∈o.li.take k,Ur p.1 (xs.map Prod.fst)<(xs.map Prod.fst).length/\(1<=p.2/\p.2<=2147483647)/\(zd (xs.map Prod.fst) p.1).gd=o.gd)/\HsP (xs.map Prod.fst) (os.take i) (o.li.take k) J/\(∀j,J.getD j 0<=i*9007199254740992+k*2147483647)/\Hd wr H J/\wr.heap[ob]?=some (.cells #[.int .i64 o.id,.int .i64 o.gd,.slice la P g] 132 (0,0))/\Below W.heap.size W wr) (λkk _ _ _=>P-(intOf kk).toNat)
     case atStart=>exact⟨0,hs,by omega,rfl,λp E=>by simp at E,N.out,λj=>xj (a3.out j) (Nat.le_add_right _ _),h9.out,R.out,f9.out⟩
     clear N a3 h9 R f9;obtain⟨k,J,hk,rfl,c7,a9,c5,t,e9,f⟩:=hrel;have i6:=zb c7;have N:=zb a9;have a3:=zb c5;have D:=zb t;have h7:=zb e9;have l:=zb f;have e1:wr.cell? ⟨ob,1,none⟩=some (.int .i64 o.gd):=by rw[za e9];rfl
     have e2:wr.cell? ⟨ob,2,none⟩=some (.slice la P g):=by rw[za e9];rfl
     clear c7 a9 c5 e9;by_cases o1:k<P
     ·have c6:k<o.li.length:=by rw[<-a5.out];exact o1
      obtain⟨pq,o7,p3,f1,f2⟩:=eK (zh i4.out f) k c6;subst o7;have a0:=b4 (o.li.getD k (0,0)) (by simp[Ul,c6]);have d0:Hid (o.li.getD k (0,0)∈o.li):=by unfold Hid;simp[Ul,c6]
      have e4:Hid (o.li.take (k+1)=o.li.take k++[o.li.getD k (0,0)]):=by
       unfold Hid;rw[xk c6];simp[Ul,c6]
      obtain⟨pr,i7⟩:=UC (o.li.getD k (0,0));rw[<-i7.out]at f1 f2 a0 d0 e4;obtain⟨Q,p2⟩:=pr;simp only at f1 f2 a0;have KT:=zb (h5.out wr f Q a0.1);obtain⟨C,HC⟩:∃q:Bool,Hid (q=Pl.mayB 99 p2):=⟨_,rfl⟩
      have KC:=zb (l9.out p2 a0.2 wr);rw[<-HC.out]at KC;have a6:Hid (yC (xs.map Prod.fst) os rcs->Ur Q (xs.map Prod.fst)<K/\C=true/\(zd (xs.map Prod.fst) Q).gd=o.gd):=λu=>by
       obtain⟨q1,q2,q3⟩:=(d9.out u).line _ d0.out;exact⟨by rw[m.out,<-w.out];exact q1,by rw[HC.out];simpa [Pl.mayB] using q2,q3⟩
      by_cases hf:Ur Q (xs.map Prod.fst)<K
      ·have a2:Hid (TR (xs.map Prod.fst) Q=((Ur Q (xs.map Prod.fst):Nat):Int)):=by unfold Hid TR;rw[xd (by rw[w.out,<-m.out];exact hf)]
       rw[a2.out]at KT;obtain⟨j,HJ⟩:=UC (Ur Q (xs.map Prod.fst));have hj:j<xs.length:=by rw[HJ.out,<-m.out];exact hf
       rw[<-HJ.out]at KT;obtain⟨G',h0,d3,X⟩:=f3.out (by omega);subst h0;have s1:wr.cell? ⟨S,1,none⟩=some (.slice (some ⟨G',0,none⟩) K cap):=(f.cell (p:=⟨S,1,none⟩) a7).trans e6;have y1:wr.cell? ⟨G',j*11+1,none⟩=some (.int .i64 ((zd (xs.map Prod.fst) Q).gd:Int)):=(f.cell (p:=⟨G',j*11+1,none⟩) d3).trans (by rw[zd,<-HJ.out,aR hj];exact X j hj 1 (by omega));have n5:(zd (xs.map Prod.fst) Q).gd<9223372036854775808:=by rw[zd,<-HJ.out,aR hj];exact(HW.out _ (eA hj)).1.2.1
       obtain⟨yg,j6⟩:=UC ((zd (xs.map Prod.fst) Q).gd);rw[<-j6.out]at y1 n5 a6;have n8:j<J.length:=by rw[N.out.len,w.out];exact hj
       have g9:=t.cell n8;have p4:=zf t j;have h4:=a3.out j;obtain⟨hv,d8⟩:=UC (J.getD j 0);rw[<-d8.out]at g9 h4;have p5:=zc t;have q4:(j:Int)<(K:Int):=by rw[m.out];omega
       have q0:(0:Int)<=(j:Int):=by omega
       have n7:decide ((j:Int)<0)=false:=xu (by omega);have q5:j<K:=by omega
       clear f t X;go_wp2_with (first|(go_at_call 111;refine(KT.out).mono ?_;rintro e F ⟨rfl,c⟩;have d:=c.symm;subst d;clear c)|(go_at_call 67;refine(KC.out).mono ?_;rintro e F ⟨rfl,c⟩;have d:=c.symm;subst d;clear c));by_cases hC:C=true
       ·subst hC;by_cases k0:yg=o.gd
        ·have k1:((yg:Int) != (o.gd:Int))=false:=by rw[YO];omega
         have k6:p2<=2147483647/\1<=p2:=by have:=HC.out.symm;simp[Pl.mayB]at this;omega
         have p8:hv+p2<9223372036854775808:=by omega
         go_quiet (fail);go_wp2_with fail
         all_goals go_region
         all_goals go_wp2_with fail
         have j3:=zb (N.out.step l8.out j1.out c6 i7.out (by rw[w.out,<-m.out];exact hf));rw[<-HJ.out,<-d8.out]at j3;refine⟨⟨k+1,J.set j (hv+p2),by omega,by push_cast;rfl,λp E=>?_,j3.out,Qd a3.out (by omega) (by omega),D.out.add j hv p2 _,?_,(Xf l.out _).setCell (p:=⟨H,j,none⟩) i3.out _⟩,?_⟩
         ·rw[e4.out]at E;rcases xw.1 E with E|E
          ·exact i6.out p E
          rw[Xp]at E;subst E;exact⟨by rw[w.out,<-m.out];exact hf,⟨k6.2,k6.1⟩,by rw[<-j6.out];exact k0⟩
         ·exact(xa _ _ _ _ (yk n3)).trans (((Xf (xg wr.heap.size wr) _).block ob (zc h7.out)).trans h7.out)
         simp only[intOf];omega
        have k1:((yg:Int) != (o.gd:Int))=true:=by rw[ym];omega
        have s:Hid (¬yC (xs.map Prod.fst) os rcs):=λu=>k0 (a6.out u).2.2
        go_quiet (fail);go_wp2_with fail;go_ret;exact OyP.no s.out (Xf l.out nq)
       obtain rfl:C=false:=by cases C<;>simp_all
       have s:Hid (¬yC (xs.map Prod.fst) os rcs):=λu=>hC (a6.out u).2.1
       clear hC;go_quiet (fail);go_wp2_with fail;go_ret;exact OyP.no s.out (Xf l.out nq)
      have a2:Hid (TR (xs.map Prod.fst) Q=-1):=by unfold Hid TR;rw[xe (by rw[w.out,<-m.out];exact hf)]
      rw[a2.out]at KT;have s:Hid (¬yC (xs.map Prod.fst) os rcs):=λu=>hf (a6.out u).1
      clear f t;go_wp2_with (first|(go_at_call 111;refine(KT.out).mono ?_;rintro e F ⟨rfl,c⟩;have d:=c.symm;subst d;clear c)|(go_at_call 67;refine(KC.out).mono ?_;rintro e F ⟨rfl,c⟩;have d:=c.symm;subst d;clear c));go_quiet (fail);go_wp2_with fail;go_ret;exact OyP.no s.out (Xf l.out nq)
     have n9:k=P:=by omega
     subst n9;have a1:o.li.take k=o.li:=by rw[a5.out];exact Xa
     have m1:Hid (HsP (xs.map Prod.fst) (os.take (i+1)) [] J):=HsP.next (by rw[<-HO.out];have:=N.out;rwa [a1]at this) b0
     have m3:Hid (∀z∈os.take (i+1),QF (xs.map Prod.fst) z):=by
      intro z hz;rw[xk b0]at hz;rcases xw.1 hz with hz|hz
      ·exact g3.out z hz
      rw[Xp]at hz;have e:os[i]=o:=by rw[HO.out];simp[Ul,b0]
      rw[e]at hz;subst hz;exact⟨m4.out,g5.out,j1.out,λe=>by have:=a5.out;rw[e]at this;exact o0 this,λp E=>i6.out p (by rw[a1];exact E)⟩
     have h8:Hid (∀j,J.getD j 0<=(i+1)*9007199254740992):=λj=>xj (a3.out j) (by omega)
     clear f t a1;go_wp2_with fail;refine⟨⟨i+1,J,by omega,by go_num,m3.out,m1.out,h8.out,D.out,l.out⟩,?_⟩;simp[intOf];omega
    have i5:Hid (¬QF (xs.map Prod.fst) o):=λu=>hC ⟨by rw[HA.out];simpa [Pl.mayB] using u.id,by rw[HB.out];simpa [Pl.mayB] using u.gd,HR.out.2 u.ris,by rw[a5.out];intro e;exact u.ne (Xn.1 e)⟩
    have s:Hid (¬yC (xs.map Prod.fst) os rcs):=λu=>i5.out (d9.out u)
    clear HA HB HR i5 d9;have hD:(A=false)\/(A=true/\B=false)\/(A=true/\B=true/\r=false)\/(A=true/\B=true/\r=true/\P=0):=by
     cases A<;>cases B<;>cases r<;>simp_all
    clear hC;rcases hD with rfl|⟨rfl,rfl⟩|⟨rfl,rfl,rfl⟩|⟨rfl,rfl,rfl,rfl⟩
    all_goals go_wp2_with fail
    all_goals go_ret
    all_goals exact OyP.no s.out f9.out
   have n6:i=m0:=by omega
   subst n6;have a1:os.take i=os:=by rw[b9.out];exact Xa
   rw[a1]at g3 N;have s1:wr.cell? ⟨S,1,none⟩=some (.slice a K cap):=(f.cell (p:=⟨S,1,none⟩) a7).trans e6;have s3:wr.cell? ⟨S,3,none⟩=some (.slice ra r0 M):=(f.cell (p:=⟨S,3,none⟩) a7).trans e7;have r4:hs.length=K:=by rw[a9.len,w.out,m.out]
   have f5:=t;clear c7 a9 c5 a1 f t D;have i1:=zb f5;go_wp2_with fail;go_loopw [12] (λii wq=>∃q:Nat,q<=K/\ii=.int .i64 q/\(∀j,j<q->hs.getD j 0=((xs.map Prod.fst).getD j L0).hd)/\Hd wq H hs/\Below W.heap.size W wq) (λii _=>K-(intOf ii).toNat)
   case atStart=>exact⟨0,by omega,rfl,λj hj=>by omega,i1.out,l.out⟩
   clear i1 f5 l s1 s3;obtain⟨q,hq,rfl,k7,t,f⟩:=hrel;have i9:=zb k7;have D:=zb t;have l:=zb f;have s1:wr.cell? ⟨S,1,none⟩=some (.slice a K cap):=(f.cell (p:=⟨S,1,none⟩) a7).trans e6;have s3:wr.cell? ⟨S,3,none⟩=some (.slice ra r0 M):=(f.cell (p:=⟨S,3,none⟩) a7).trans e7;clear k7;by_cases o2:q<K
   ·have c8:q<xs.length:=by rw[<-m.out];exact o2
    obtain⟨G',h0,d3,X⟩:=f3.out (by omega);subst h0;have y6:wr.cell? ⟨G',q*11+6,none⟩=some (.int .i64 (((xs.map Prod.fst).getD q L0).hd:Int)):=(l.out.cell (p:=⟨G',q*11+6,none⟩) d3).trans (by rw[aR c8];exact X q c8 6 (by omega));have o9:((xs.map Prod.fst).getD q L0).hd<9223372036854775808:=by rw[aR c8];exact(HW.out _ (eA c8)).1.2.2.2.2.2.2.1
    have g9:=t.cell (j:=q) (by omega);have h4:=a3.out q;have m7:Hid (zG os ((xs.map Prod.fst).getD q L0).id=hs.getD q 0):=by
     have:=N.out.at_ q (by rw[w.out];exact c8)
     simp only[xbL,xbA,xal]at this;exact this.symm
    have HX:Hid (yC (xs.map Prod.fst) os rcs->hs.getD q 0=((xs.map Prod.fst).getD q L0).hd):=λu=>by
     rw[<-m7.out];exact u.hd q (by rw[w.out];exact c8)
    have d1:Hid (hs.getD q 0=((xs.map Prod.fst).getD q L0).hd->∀j,j<q+1->hs.getD j 0=((xs.map Prod.fst).getD j L0).hd):=λe j hj=>by
     by_cases k3:j=q
     ·subst k3;exact e
     exact i9.out j (by omega)
    obtain⟨yh,m9⟩:=UC (((xs.map Prod.fst).getD q L0).hd);obtain⟨hv,d8⟩:=UC (hs.getD q 0);rw[<-m9.out]at y6 o9 HX d1;rw[<-d8.out]at g9 h4 HX d1;have p9:hv<9223372036854775808:=by omega
    have r2:(q:Int)<(K:Int):=by omega
    have r1:(0:Int)<=(q:Int):=by omega
    have l7:Hid (∀n,Hd (wr.drewN n) H hs):=λn=>((Xf (xg wr.heap.size wr) n).block H (zc D.out)).trans D.out
    clear X t f;by_cases hE:hv=yh
    ·have n2:((hv:Int) != (yh:Int))=false:=by rw[YO];omega
     have g5:=zb (d1.out hE);clear d1 HX hE;go_wp2_with fail;go_quiet (fail);go_wp2_with fail;refine⟨⟨q+1,by omega,by go_num,g5.out,l7.out _,Xf l.out _⟩,?_⟩;simp[intOf];omega
    have n2:((hv:Int) != (yh:Int))=true:=by rw[ym];omega
    have s:Hid (¬yC (xs.map Prod.fst) os rcs):=λu=>hE (HX.out u)
    clear d1 HX hE;go_wp2_with fail;go_quiet (fail);go_wp2_with fail;go_ret;exact OyP.no s.out (Xf l.out _)
   obtain rfl:q=K:=by omega
   have m5:Hid (Prs 181 wr (.slice ra r0 M) rcs):=by
    have:=qQ (zh j2.out.rrow f)
    have e:rv=.slice ra r0 M:=by rw[T.out];exact m6.out
    rw[<-e];exact this
   have KR:=zb (lJ rcs j0.out (by rw[<-T.out];omega) wr (.slice ra r0 M) m5.out true);have l6:Hid (∀j,j<(xs.map Prod.fst).length->zG os ((xs.map Prod.fst).getD j L0).id=((xs.map Prod.fst).getD j L0).hd):=λj hj=>by
    have:=N.out.at_ j hj
    simp only[xbL,xbA,xal]at this;rw[<-this];exact i9.out j (by rw[m.out,<-w.out];exact hj)
   clear t f;go_wp2_with fail
   with_reducible refine(KR.out).mono ?_
   rintro e W7 ⟨⟨up,rfl,l2⟩,j9⟩;have h6:Hid (Below W.heap.size W W7):=l.out.trans (j9.mono l.out.size);have m8:=zb l2;clear l2 j9 KR s1 s3;go_wp2_with fail;go_loopw [14,15,16] (λii _ _ wq=>∃z:Nat,z<=r0/\ii=.int .i64 z/\(∀p∈rcs.take z,Ur p.1 (xs.map Prod.fst)<(xs.map Prod.fst).length/\1<=p.2/\p.2<=2147483647)/\Below W.heap.size W wq) (λii _ _ _=>r0-(intOf ii).toNat)
   case atStart=>exact⟨0,by omega,rfl,λp E=>by simp at E,h6.out⟩
   clear h6;obtain⟨z,hz,rfl,l3,a8⟩:=hrel;have j7:=zb l3;have d7:=zb a8;have s3:wr.cell? ⟨S,3,none⟩=some (.slice ra r0 M):=(a8.cell (p:=⟨S,3,none⟩) a7).trans e7;clear l3;by_cases o4:z<r0
   ·have f0:z<rcs.length:=by rw[<-T.out];exact o4
    obtain⟨RG,n4,f4,k9⟩:=g6.out (by omega);subst n4;obtain⟨f7,f8⟩:=k9 z f0;have f1:wr.cell? ⟨RG,z*2,none⟩=some (.int .i64 ((rcs.getD z (0,0)).1:Int)):=(a8.cell (p:=⟨RG,z*2,none⟩) f4).trans f7;have f2:wr.cell? ⟨RG,z*2+1,none⟩=some (.int .i64 ((rcs.getD z (0,0)).2:Int)):=(a8.cell (p:=⟨RG,z*2+1,none⟩) f4).trans f8;have d0:Hid (rcs.getD z (0,0)∈rcs):=by unfold Hid;simp[Ul,f0]
    have a0:=j0.out _ d0.out;have e4:Hid (rcs.take (z+1)=rcs.take z++[rcs.getD z (0,0)]):=by
     unfold Hid;rw[xk f0];simp[Ul,f0]
    generalize rcs.getD z (0,0)=pr at *;obtain⟨Q,p2⟩:=pr;simp only at f1 f2 a0;have KT:=zb (h5.out wr a8 Q a0.1);obtain⟨C,HC⟩:∃q:Bool,Hid (q=Pl.mayB 105 p2):=⟨_,rfl⟩
    have KC:=zb (g2.out p2 a0.2 wr);rw[<-HC.out]at KC;have a6:Hid (yC (xs.map Prod.fst) os rcs->Ur Q (xs.map Prod.fst)<q/\C=true):=λu=>by
     obtain⟨q1,q2⟩:=u.rc _ d0.out;exact⟨by rw[m.out,<-w.out];exact q1,by rw[HC.out];simpa [Pl.mayB] using q2⟩
    clear k9 f7 f8 a8;by_cases hf:Ur Q (xs.map Prod.fst)<q
    ·have a2:Hid (TR (xs.map Prod.fst) Q=((Ur Q (xs.map Prod.fst):Nat):Int)):=by unfold Hid TR;rw[xd (by rw[w.out,<-m.out];exact hf)]
     rw[a2.out]at KT;obtain⟨j,HJ⟩:=UC (Ur Q (xs.map Prod.fst));rw[<-HJ.out]at KT;have n7:decide ((j:Int)<0)=false:=xu (by omega);have k3:j<q:=by rw[HJ.out];exact hf
     by_cases hC:C=true
     ·subst hC;have l5:Hid (1<=p2/\p2<=2147483647):=by unfold Hid;have:=HC.out.symm;simpa [Pl.mayB] using this
      have n1:Hid (∀p∈rcs.take (z+1),Ur p.1 (xs.map Prod.fst)<(xs.map Prod.fst).length/\1<=p.2/\p.2<=2147483647):=λp E=>by
       rw[e4.out]at E;rcases xw.1 E with E|E
       ·exact j7.out p E
       rw[Xp]at E;subst E;exact⟨by rw[w.out,<-m.out];exact hf,l5.out⟩
      go_wp2_with (first|(go_at_call 111;refine(KT.out).mono ?_;rintro e F ⟨rfl,c⟩;have d:=c.symm;subst d;clear c)|(go_at_call 67;refine(KC.out).mono ?_;rintro e F ⟨rfl,c⟩;have d:=c.symm;subst d;clear c))
      refine⟨⟨z+1,by omega,by go_num,n1.out,d7.out⟩,?_⟩;simp[intOf];omega
     obtain rfl:C=false:=by cases C<;>simp_all
     have s:Hid (¬yC (xs.map Prod.fst) os rcs):=λu=>hC (a6.out u).2
     clear hC;go_wp2_with (first|(go_at_call 111;refine(KT.out).mono ?_;rintro e F ⟨rfl,c⟩;have d:=c.symm;subst d;clear c)|(go_at_call 67;refine(KC.out).mono ?_;rintro e F ⟨rfl,c⟩;have d:=c.symm;subst d;clear c));go_ret;exact OyP.no s.out d7.out
    have a2:Hid (TR (xs.map Prod.fst) Q=-1):=by unfold Hid TR;rw[xe (by rw[w.out,<-m.out];exact hf)]
    rw[a2.out]at KT;have s:Hid (¬yC (xs.map Prod.fst) os rcs):=λu=>hf (a6.out u).1
    go_wp2_with (first|(go_at_call 111;refine(KT.out).mono ?_;rintro e F ⟨rfl,c⟩;have d:=c.symm;subst d;clear c)|(go_at_call 67;refine(KC.out).mono ?_;rintro e F ⟨rfl,c⟩;have d:=c.symm;subst d;clear c))
    go_ret;exact OyP.no s.out d7.out
   obtain rfl:z=r0:=by omega
   have i0:Hid (up=true↔yC (xs.map Prod.fst) os rcs):=by
    have a1:rcs.take z=rcs:=by rw[T.out];exact Xa
    have o8:rcs.Pairwise (λa b=>UO true a b=true)↔rcs.Pairwise (λa b=>bG a b=true):=by simp[UO]
    unfold Hid;rw[m8.out,o8];exact⟨λu=>⟨by rw[<-b9.out];exact h1,by rw[<-T.out];exact h2,g3.out,l6.out,λp E=>j7.out p (by rw[a1];exact E),u⟩,λu=>u.up⟩
   clear a8;go_wp2_with fail;go_ret;exact⟨⟨up,rfl,i0.out⟩,d7.out⟩
  have s:Hid (¬yC (xs.map Prod.fst) os rcs):=λu=>h2 (by rw[T.out];exact u.rlen)
  go_wp2_with fail;go_ret
  exact OyP.no s.out (xg _ _)
 have s:Hid (¬yC (xs.map Prod.fst) os rcs):=λu=>h1 (by rw[b9.out];exact u.olen)
 go_wp2_with fail;go_ret
 exact OyP.no s.out (xg _ _)
end
