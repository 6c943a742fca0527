import Derived.Test.YtgcedalggnmooaaGreatDoorOrdX
import Derived.Test.YtgcedalggnmooaaGreatDoorR0X
import Derived.Handy
set_option linter.all false
set_option maxRecDepth 100000
set_option maxHeartbeats 3200000
namespace Go.Proofs.YtgcedalggnmooaaGreatDoor
open Go.RowKit
theorem Le(d f:Nat)(li a:L)(pi n:Value)(w:World)(k:w.heap[d]?=some (.cells (zo li pi) 231 (0,0)))(l:w.heap[f]?=some (.cells (zo a n) 231 (0,0)))(i:L.Ok li)(j:L.Ok a)(x:Ex):Calls Tryz.prog 294 #[.agg #[],.pointer (some ⟨d,0,none⟩),.pointer (some ⟨f,0,none⟩)] (ext w x) λe w'=>e=.returned (.bool (TV true li a))/\∃t,w'=ext w t:=by
 have g:=zc k;have h:=zc l;have b:((ext w x).alloc (.cells #[] 267)).heap[d]?=some (.cells (zo li pi) 231 (0,0)):=((TQ _ _).block d (xn g (zw w x).size)).trans (((zw w x).block d g).trans k);have c:((ext w x).alloc (.cells #[] 267)).heap[f]?=some (.cells (zo a n) 231 (0,0)):=((TQ _ _).block f (xn h (zw w x).size)).trans (((zw w x).block f h).trans l);have u:((ext w x).alloc (.cells #[] 267)).cell? ⟨d,3,none⟩=some (.int .i64 li.place):=by rw[za b];rfl
 have v:((ext w x).alloc (.cells #[] 267)).cell? ⟨f,3,none⟩=some (.int .i64 a.place):=by rw[za c];rfl
 have p:((ext w x).alloc (.cells #[] 267)).cell? ⟨d,2,none⟩=some (.int .i64 li.ex):=by rw[za b];rfl
 have q:((ext w x).alloc (.cells #[] 267)).cell? ⟨f,2,none⟩=some (.int .i64 a.ex):=by rw[za c];rfl
 have r:((ext w x).alloc (.cells #[] 267)).cell? ⟨d,0,none⟩=some (.int .i64 li.id):=by rw[za b];rfl
 have s:((ext w x).alloc (.cells #[] 267)).cell? ⟨f,0,none⟩=some (.int .i64 a.id):=by rw[za c];rfl
 have y:=i.place;have z:=j.place;have A:=i.ex;have B:=j.ex;have C:=i.id;have D:=j.id;have m:Hid (TV true li a=decide (li.place<a.place)):=by unfold Hid TV;rfl
 generalize TV true li a=bb at m ⊢;generalize li.place=a1 at *;generalize a.place=a2 at *;clear k l b c i j p q r s;go_enter Tryz.func294,Tryz.ntmps294;go_wp2_with fail;go_quiet (fail);go_wp2_with fail;go_ret;exact⟨by rw[m.out];rfl,_,by rw[aC,pD]⟩
theorem Lf(d f:Nat)(li a:L)(pi s:Value)(w:World)(m:w.heap[d]?=some (.cells (zo li pi) 231 (0,0)))(n:w.heap[f]?=some (.cells (zo a s) 231 (0,0)))(k:L.Ok li)(l:L.Ok a)(x:Ex):Calls Tryz.prog 295 #[.agg #[],.pointer (some ⟨d,0,none⟩),.pointer (some ⟨f,0,none⟩)] (ext w x) λe w'=>e=.returned (.bool (TV false li a))/\∃t,w'=ext w t:=by
 have i:=zc m;have j:=zc n;have b:((ext w x).alloc (.cells #[] 268)).heap[d]?=some (.cells (zo li pi) 231 (0,0)):=((TQ _ _).block d (xn i (zw w x).size)).trans (((zw w x).block d i).trans m);have c:((ext w x).alloc (.cells #[] 268)).heap[f]?=some (.cells (zo a s) 231 (0,0)):=((TQ _ _).block f (xn j (zw w x).size)).trans (((zw w x).block f j).trans n);have q:((ext w x).alloc (.cells #[] 268)).cell? ⟨d,3,none⟩=some (.int .i64 li.place):=by rw[za b];rfl
 have r:((ext w x).alloc (.cells #[] 268)).cell? ⟨f,3,none⟩=some (.int .i64 a.place):=by rw[za c];rfl
 have u:((ext w x).alloc (.cells #[] 268)).cell? ⟨d,2,none⟩=some (.int .i64 li.ex):=by rw[za b];rfl
 have v:((ext w x).alloc (.cells #[] 268)).cell? ⟨f,2,none⟩=some (.int .i64 a.ex):=by rw[za c];rfl
 have y:((ext w x).alloc (.cells #[] 268)).cell? ⟨d,0,none⟩=some (.int .i64 li.id):=by rw[za b];rfl
 have z:((ext w x).alloc (.cells #[] 268)).cell? ⟨f,0,none⟩=some (.int .i64 a.id):=by rw[za c];rfl
 have A:=k.place;have B:=l.place;have C:=k.ex;have D:=l.ex;have E:=k.id;have F:=l.id;by_cases h:li.ex=a.ex
 ·have g:Hid (TV false li a=decide (li.id<a.id)):=by unfold Hid TV;simp[h]
  have p:((li.ex:Int) != (a.ex:Int))=false:=by rw[h];simp
  generalize TV false li a=bb at g ⊢;generalize li.id=a1 at *;generalize a.id=a2 at *;generalize li.ex=a3 at *;generalize a.ex=a4 at *;clear m n b c k l q r h;go_enter Tryz.func295,Tryz.ntmps295;go_wp2_with fail;go_quiet (fail);go_wp2_with fail;go_quiet (fail);go_wp2_with fail;go_ret;exact⟨by rw[g.out];rfl,_,by simp only[aC,pD];rfl⟩
 have g:Hid (TV false li a=decide (li.ex<a.ex)):=by unfold Hid TV;simp[h]
 have p:((li.ex:Int) != (a.ex:Int))=true:=by simp;omega
 generalize TV false li a=bb at g ⊢;generalize li.id=a1 at *;generalize a.id=a2 at *;generalize li.ex=a3 at *;generalize a.ex=a4 at *;clear m n b c k l q r h;go_enter Tryz.func295,Tryz.ntmps295;go_wp2_with fail;go_quiet (fail);go_wp2_with fail;go_quiet (fail);go_wp2_with fail;go_ret;exact⟨by rw[g.out];rfl,_,by simp only[aC,pD];rfl⟩
theorem Lg(z t:Bool)(j:t=z)(b c:Nat)(li a:L)(pi d:Value)(w:World)(f:w.heap[b]?=some (.cells (zo li pi) 231 (0,0)))(g:w.heap[c]?=some (.cells (zo a d) 231 (0,0)))(h:L.Ok li)(i:L.Ok a)(x:Ex):Calls Tryz.prog (cond z 294 295) #[.agg #[],.pointer (some ⟨b,0,none⟩),.pointer (some ⟨c,0,none⟩)] (ext w x) λe w'=>e=.returned (.bool (TV t li a))/\∃k,w'=ext w k:=by
 subst j
 cases t
 ·exact Lf b c li a pi d w f g h i x
 exact Le b c li a pi d w f g h i x
theorem Rx(v : Value)(w : World): (method 459 267 v "Before").run Tryz.prog w = .ok (294, v) w := by kernel_rfl
theorem Ry(v : Value)(w : World): (method 459 268 v "Before").run Tryz.prog w = .ok (295, v) w := by kernel_rfl
structure HVz(t:Bool)(w:World)(Q:Nat)(v:Value)(xs:List Nat):Prop where
 cell:w.heap[Q]?=some (.cells #[v] (cond t 285 289) (0,0))
 row:w.ownsRow 0 191 1 v xs.length (bX xs)
variable {Q:Nat}{t:Bool}{v:Value}{w:World}{xs:List Nat}
theorem HVz.shape(h:HVz t w Q v xs):∃a cap,v=.slice a xs.length cap/\(0<xs.length->∃G,a=some ⟨G,0,none⟩/\G<w.heap.size/\∀i,i<xs.length->w.cell? ⟨G,i,none⟩=some (.pointer (some ⟨xs.getD i 0,0,none⟩))):=by
 obtain⟨a,cap,d⟩:=zQ h.row;refine⟨a,cap,d,λk=>?_⟩;obtain⟨g,e,b,_,c⟩:=zJ h.row k;rw[d]at b
 cases b;refine⟨g,rfl,c,λi j=>?_⟩
 have f:=h.row;rw[d]at f;rw[f.cellAt i (by omega)];simp[bX,Ul,j]
theorem LX:Tryz.prog.cellsOf 285=1:=by kernel_rfl
theorem LY:Tryz.prog.cellsOf 289=1:=by kernel_rfl
theorem Pd:byteOfCell Tryz.prog Tryz.prog.depth 285 0=some 0:=by kernel_rfl
theorem Pe:byteOfCell Tryz.prog Tryz.prog.depth 289 0=some 0:=by kernel_rfl
theorem Lp(h:w.heap[Q]?=some (.cells #[v] 285 (0,0))):(byteOf ⟨Q,0,none⟩).run Tryz.prog w=.ok 0 w:=by
 have a:w.shape? Q=some (285,1):=by unfold World.shape?;rw[h];rfl
 simp[byteOf,noView,viewAt,shape,program,Sem.run,a,LX,Pd]
theorem Lr(h:w.heap[Q]?=some (.cells #[v] 289 (0,0))):(byteOf ⟨Q,0,none⟩).run Tryz.prog w=.ok 0 w:=by
 have a:w.shape? Q=some (289,1):=by unfold World.shape?;rw[h];rfl
 simp[byteOf,noView,viewAt,shape,program,Sem.run,a,LY,Pe]
theorem PH(h:w.heap[Q]?=some (.cells #[v] 285 (0,0))):(partAt ⟨Q,0,none⟩ 0 0).run Tryz.prog w=.ok ⟨Q,0,none⟩ w:=by
 simp[partAt,Lp h]
theorem PJ(h:w.heap[Q]?=some (.cells #[v] 289 (0,0))):(partAt ⟨Q,0,none⟩ 0 0).run Tryz.prog w=.ok ⟨Q,0,none⟩ w:=by
 simp[partAt,Lr h]
theorem PK(h:w.heap[Q]?=some (.cells #[v] (cond t 285 289) (0,0))):(partAt ⟨Q,0,none⟩ 0 0).run Tryz.prog w=.ok ⟨Q,0,none⟩ w:=by
 cases t
 ·exact PJ h
 exact PH h
theorem DK(z t:Bool)(y:t=z){w:World}{Q:Nat}{v:Value}{xs:List Nat}(h:HVz t w Q v xs)(i j:Nat)(H:i<xs.length)(J:j<xs.length)(S:xs.length<=30)(li k:L)(pi D:Value)(r:w.heap[xs.getD i 0]?=some (.cells (zo li pi) 231 (0,0)))(s:w.heap[xs.getD j 0]?=some (.cells (zo k D) 231 (0,0)))(B:L.Ok li)(C:L.Ok k):Calls Tryz.prog (cond z 256 258) #[.pointer (some ⟨Q,0,none⟩),.int .i64 i,.int .i64 j] w λe w'=>e=.returned (.bool (TV t li k))/\Below w.heap.size w w':=by
 have m:=zb y;clear y
 cases z
 all_goals
  simp only[yw,ye];obtain⟨a,cap,A,f⟩:=h.shape;obtain⟨G,F,c,b⟩:=f (by omega);subst F;have d:=zc h.cell;have c0:w.cell? ⟨Q,0,none⟩=some v:=by rw[za h.cell];rfl
  rw[A]at c0;have E:=b i H;have gj:=b j J;have l:=λx=>zb (Lg _ t m (xs.getD i 0) (xs.getD j 0) li k pi D w r s B C x)
  simp only[yw,ye]at l;have K:=Rx;have u:=Ry;generalize xs.getD i 0=bi at *;generalize xs.getD j 0=bj at *;generalize TV t li k=bb at *;generalize xs.length=n at *;have R:∀x,(partAt ⟨Q,0,none⟩ 0 0).run Tryz.prog (ext w x)=.ok ⟨Q,0,none⟩ (ext w x):=λx=>PK (((zw w x).block Q d).trans h.cell)
  have M:∀x,(ext w x).cell? ⟨Q,0,none⟩=some (.slice (some ⟨G,0,none⟩) n cap):=λx=>((zw w x).cell (by exact d)).trans c0
  have N:∀x,(ext w x).cell? ⟨G,i,none⟩=some (.pointer (some ⟨bi,0,none⟩)):=λx=>((zw w x).cell (by exact c)).trans E
  have P:∀x,(ext w x).cell? ⟨G,j,none⟩=some (.pointer (some ⟨bj,0,none⟩)):=λx=>((zw w x).cell (by exact c)).trans gj
  clear A b h r s B C f
  first
  |go_enter Tryz.func256,Tryz.ntmps256
  |go_enter Tryz.func258,Tryz.ntmps258
  go_wp2_with fail;haveI hinh:Inhabited Ex:=⟨⟨0,#[]⟩⟩
  refine bD (by kernel_rfl) (by kernel_rfl) ?_
  repeat (go_big_quiet_step (exact(l _)))
  refine XN ?_
  intro _ q;obtain⟨x,g⟩:=q;subst g;have p:=zw w x;generalize ext w x=wx at *;clear M N P R l;go_wp2_with fail;go_ret;exact⟨rfl,p⟩
theorem Ki(z t:Bool)(D:t=z){w:World}{Q:Nat}{v:Value}{xs:List Nat}(h:HVz t w Q v xs)(i j:Nat)(B:i<xs.length)(C:j<xs.length)(M:i≠j)(P:xs.length<=30):Calls Tryz.prog (cond z 257 259) #[.pointer (some ⟨Q,0,none⟩),.int .i64 i,.int .i64 j] w λe w'=>e=.returned (.tuple #[])/\HVz t w' Q v (UW xs i j)/\w'.heap.size=w.heap.size/\Kp (λk=>v.ownBlock=some k) w w':=by
 have J:=zb D;clear D
 cases z
 all_goals
  simp only[yw,ye];obtain⟨a,cap,u,d⟩:=h.shape;obtain⟨G,K,x,b⟩:=d (by omega);subst K;have y:=zc h.cell;have c0:w.cell? ⟨Q,0,none⟩=some v:=by rw[za h.cell];rfl
  have f:=h.row;rw[u]at c0 f;obtain⟨T,c⟩:=zi f rfl;have W:=zf c i;have X:=zf c j;have g:¬Q=G:=zv h.cell c (by cases t<;>decide);have Z:=b i B;have gj:=b j C;have F:=zb h;have s:=zb u;generalize l:xs.getD i 0=bi at *;generalize m:xs.getD j 0=bj at *;have q:=zb l;have r:=zb m;obtain⟨n,H⟩:=UC xs.length;rw[<-H.out]at c0 B C P;clear u b h d f c l m
  first
  |go_enter Tryz.func257,Tryz.ntmps257
  |go_enter Tryz.func259,Tryz.ntmps259
  go_wp2_with fail;go_region
  go_wp2_with fail;go_end0
  have h:=F.out;have f:=h.row;rw[s.out]at f;have S:=(f.stored i (.pointer (some ⟨bj,0,none⟩))).1;have E:=(S.stored j (.pointer (some ⟨bi,0,none⟩))).1;have R:((bX xs).set i (.pointer (some ⟨bj,0,none⟩))).set j (.pointer (some ⟨bi,0,none⟩))=bX (UW xs i j):=by
   rw[<-q.out,<-r.out];simp[bX,UW,yu]
  refine⟨rfl,⟨?_,?_⟩,by simp[World.drew,World.setCell],?_⟩
  ·show((w.setCell ⟨G,i,none⟩ _).setCell ⟨G,j,none⟩ _).heap[Q]?=_;rw[xa _ _ _ _ g,xa _ _ _ _ g];exact h.cell
  ·rw[R]at E;have N:(UW xs i j).length=xs.length:=by simp[UW]
   rw[N,s.out];exact E
  have A:v.ownBlock=some G:=by rw[s.out];rfl
  exact(((Kp.refl _ w).setCell (p:=⟨G,i,none⟩) (Or.inl A) _).setCell (p:=⟨G,j,none⟩) (Or.inl A) _).after ((xg _ _).drew)
theorem HVz.below{w':World}(h:HVz t w Q v xs)(a:Below w.heap.size w w'):HVz t w' Q v xs :=
 ⟨(a.block Q (zc h.cell)).trans h.cell,zh h.row a⟩
theorem HVz.lotne(h:HVz t w Q v xs){a:List Nat}{ls:List L}(d:LotsOK w a ls)(i:Nat)(c:i<ls.length):¬v.ownBlock=some (a.getD i 0):=λe=>by
 obtain⟨g,b⟩:=zi h.row e;obtain⟨pv,f⟩:=d i c;exact zv f b (by cases t<;>decide) rfl
theorem RM(z t:Bool)(ht:t=z){w:World}{Q:Nat}{v:Value}{D y:List Nat}{ls:List L}(h:HVz t w Q v (sb D y))(N:LotsOK w D ls)(K:∀l∈ls,L.Ok l)(G:∀c∈y,c<ls.length)(i:Nat)(Z:i<y.length)(hn:y.length<=30)(P:RiseI (bE t ls) y i):Calls Tryz.prog (cond z 238 240) #[.pointer (some ⟨Q,0,none⟩),.int .i64 i] w λe w'=>e=.returned (.tuple #[])/\Kp (λk=>v.ownBlock=some k) w w'/\∃hs',hs'.Perm y/\Hp (bE t ls) hs'/\HVz t w' Q v (sb D hs'):=by
 have F:=zb ht;clear ht
 cases z
 all_goals
  simp only[yw,ye]
  first
  |go_enter Tryz.func238,Tryz.ntmps238
  |go_enter Tryz.func240,Tryz.ntmps240
  go_wp2_with fail;go_loopw [1,4] (λii _ wr=>∃(k:Nat) (hs':List Nat),ii=.int .i64 k/\k<y.length/\hs'.Perm y/\RiseI (bE t ls) hs' k/\HVz t wr Q v (sb D hs')/\LotsOK wr D ls/\Kp (λk=>v.ownBlock=some k) w wr) (λii _ _=>(intOf ii).toNat)
  case atStart=>exact⟨i,y,rfl,Z,YT _,P,h,N,Kp.refl _ _⟩
  obtain⟨k,hs',rfl,hk,x,j,a,b,g⟩:=hrel;have a4:=x.length_eq;by_cases a0:k=0
  ·subst a0;have E:=zb j.top;have B:=zb a;have m:=zb g;have n:=zb x;clear h N j a b g x P;go_wp2_with fail;go_end0;exact⟨rfl,m,hs',n,E,B⟩
  have q:(k-1) / 2<hs'.length:=by omega
  have f:k<hs'.length:=by omega
  have s:hs'.getD k 0<ls.length:=G _ (x.mem_iff.1 (zK f));have u:hs'.getD ((k-1) / 2) 0<ls.length:=G _ (x.mem_iff.1 (zK q));obtain⟨a2,R⟩:=b _ s;obtain⟨a3,S⟩:=b _ u;rw[<-fX f]at R;rw[<-fX q]at S;have C:=zb (DK _ t F a k ((k-1) / 2) (by rw[Zu];exact f) (by rw[Zu];exact q) (by rw[Zu];omega) _ _ a2 a3 R S (K _ (zg s)) (K _ (zg u)));simp only[yw,ye]at C;have X:Hid ((((k-1) / 2:Nat):Int)=((k:Int)-1) / 2):=by unfold Hid;omega
  have A:=λ(w1:World) (hb:Below wr.heap.size wr w1)=>zb (Ki _ t F (a.below hb) k ((k-1) / 2) (by rw[Zu];exact f) (by rw[Zu];exact q) (by omega) (by rw[Zu];omega))
  simp only[yw,ye]at A;rw[X.out]at C
  cases d:TV t (ls.getD (hs'.getD k 0) L0) (ls.getD (hs'.getD ((k-1) / 2) 0) L0) with
  |false=>
   rw[d]at C;have E:=zb (j.done d);have B:=zb a;have m:=zb g;have n:=zb x;clear R S h N A j a b g x P d s u;go_wp2_with ((first|go_at_call 256|go_at_call 258);with_reducible refine(C.out).mono ?_;rintro e w1 ⟨rfl,p⟩);go_returns;exact⟨rfl,m.after p,hs',n,E,B.below p⟩
  |true=>
   rw[d]at C;have E:=zb (j.step (fB _ ls) (by omega) f d);have J:∀i,i<ls.length->¬v.ownBlock=some (D.getD i 0):=λi Z=>a.lotne b i Z
   have W:=zb J;have T:=zb b;have m:=zb g;have n:=zb x;have r:Hid (k<hs'.length/\(k-1) / 2<hs'.length):=⟨f,q⟩
   clear R S h N j a b g x P d s u J;go_wp2_with ((first|go_at_call 256|go_at_call 258);with_reducible refine(C.out).mono ?_;rintro e w1 ⟨rfl,p⟩);have HS:=A w1 p;rw[X.out]at HS;clear A
   with_reducible refine(HS.out).mono ?_
   rintro e w2 ⟨rfl,M,_,a1⟩;go_wp2_with fail;go_roundw
   case rel=>
    rw[JN r.out.1 r.out.2]at M;have H:Kp (λk=>v.ownBlock=some k) wr w2:=Kp.before p (a1.mono (λk h=>Or.inl h));exact⟨(k-1) / 2,UW hs' k ((k-1) / 2),by rw[X.out],by omega,(xP r.1 r.2).trans n,E,M,T.kp H W,m.trans (H.mono (λk h=>Or.inl h))⟩
   simp[intOf];omega
structure Fst_z(t:Bool)(ls:List L)(hs:List Nat)(i b m:Nat):Prop where
 at':m=i\/(2*i+1<=m/\m<b/\m<hs.length/\bE t ls (hs.getD m 0) (hs.getD i 0)=true)
 min:∀j,2*i+1<=j->j<b->j<hs.length->bE t ls (hs.getD j 0) (hs.getD m 0)=false
variable {ls:List L}
theorem Fst_z.yes{a:List Nat}{i b m:Nat}(h:Fst_z t ls a i b m)(l:b<a.length)(c:2*i+1<=b)(d:bE t ls (a.getD b 0) (a.getD m 0)=true):Fst_z t ls a i (b+1) b:=by
 have O:=fB t ls;refine⟨Or.inr ⟨c,by omega,l,?_⟩,λj f q g=>?_⟩
 ·rcases h.at' with rfl|⟨_,_,_,k⟩
  ·exact d
  cases n:bE t ls (a.getD b 0) (a.getD i 0) with
  |true=>rfl
  |false=>
   have e:=O.trans (O.asymm k) n;rw[d]at e;cases e
 by_cases p:j=b
 ·subst p;exact O.irrefl _
 exact O.trans (O.asymm d) (h.min j f (by omega) g)
theorem Fst_z.no{a:List Nat}{i b m:Nat}(h:Fst_z t ls a i b m)(f:bE t ls (a.getD b 0) (a.getD m 0)=false):Fst_z t ls a i (b+1) m:=by
 refine⟨?_,λj c p d=>?_⟩
 ·rcases h.at' with e|⟨k,q,l,n⟩
  ·exact Or.inl e
  exact Or.inr ⟨k,by omega,l,n⟩
 by_cases g:j=b
 ·subst g;exact f
 exact h.min j c (by omega) d
theorem RP(z t:Bool)(ht:t=z){w:World}{Q:Nat}{v:Value}{W M:List Nat}{ls:List L}(h:HVz t w Q v (sb W M))(hl:LotsOK w W ls)(a4:∀l∈ls,L.Ok l)(a1:∀c∈M,c<ls.length)(hn:M.length<=30)(hr:SinkI (bE t ls) M 0):Calls Tryz.prog (cond z 239 241) #[.pointer (some ⟨Q,0,none⟩),.int .i64 0] w λe w'=>e=.returned (.tuple #[])/\Kp (λk=>v.ownBlock=some k) w w'/\∃hs',hs'.Perm M/\Hp (bE t ls) hs'/\HVz t w' Q v (sb W hs'):=by
 have T:=zb ht;clear ht
 cases z
 all_goals
  simp only[yw,ye]
  first
  |go_enter Tryz.func239,Tryz.ntmps239
  |go_enter Tryz.func241,Tryz.ntmps241
  go_wp2_with fail;go_loopw [1,4,5] (λii _ _ wr=>∃(k:Nat) (hs':List Nat),ii=.int .i64 k/\(k<M.length\/k=0)/\hs'.Perm M/\SinkI (bE t ls) hs' k/\HVz t wr Q v (sb W hs')/\LotsOK wr W ls/\Kp (λk=>v.ownBlock=some k) w wr) (λii _ _ _=>M.length-(intOf ii).toNat)
  case atStart=>exact⟨0,M,rfl,Or.inr rfl,YT _,hr,h,hl,Kp.refl _ _⟩
  obtain⟨k,hs',rfl,hk,hp,a5,a7,a3,a2⟩:=hrel;have b4:=hp.length_eq;have b3:k<=30:=by omega
  have G:=zb a5;have F:=zb a2;have B:=zb hp;clear h hl hr a5 a2 hp;rename World=>wo
  go_wp2_with fail;go_loopw [4,5] (λmm bb w2=>∃(m b:Nat),mm=.int .i64 m/\bb=.int .i64 b/\2*k+1<=b/\b<=2*k+3/\m<=100/\Fst_z t ls hs' k b m/\HVz t w2 Q v (sb W hs')/\LotsOK w2 W ls/\Below wo.heap.size wo w2) (λ_ bb _=>2*k+3-(intOf bb).toNat)
  case atStart=>exact⟨k,2*k+1,rfl,by go_num,by omega,by omega,by omega,⟨Or.inl rfl,λj h1 N _=>by omega⟩,a7,a3,xg _ _⟩
  clear a7 a3;obtain⟨m,b,rfl,rfl,a8,b6,a9,D,f,p,s⟩:=hrel;obtain⟨a,cap,a0,a6⟩:=f.shape;have c0:wr.cell? ⟨Q,0,none⟩=some v:=by rw[za f.cell];rfl
  rw[a0,Zu]at c0;have b5:=zb a0;clear a0 a6;by_cases b7:b<=2*k+2
  ·by_cases H:b<hs'.length
   ·have d:m<hs'.length:=by
     rcases D.at' with h|⟨_,_,h,_⟩
     ·omega
     exact h
    have J:hs'.getD b 0<ls.length:=a1 _ (B.mem_iff.1 (zK H));have K:hs'.getD m 0<ls.length:=a1 _ (B.mem_iff.1 (zK d));obtain⟨b1,q1⟩:=p _ J;obtain⟨b2,q2⟩:=p _ K;rw[<-fX H]at q1;rw[<-fX d]at q2;have HB:=zb (DK _ t T f b m (by rw[Zu];exact H) (by rw[Zu];exact d) (by rw[Zu];omega) _ _ b1 b2 q1 q2 (a4 _ (zg J)) (a4 _ (zg K)));simp only[yw,ye]at HB;have C:=zb f;have A:=zb p
    cases r:TV t (ls.getD (hs'.getD b 0) L0) (ls.getD (hs'.getD m 0) L0) with
    |true=>
     rw[r]at HB;have HF:=zb (D.yes H a8 r);clear q1 q2 f p D J K r;generalize hs'.length=n at *;go_wp2_with ((first|go_at_call 256|go_at_call 258);with_reducible refine(HB.out).mono ?_;rintro e w1 ⟨rfl,x⟩);go_roundw
     case rel=>exact⟨b,b+1,rfl,by go_num,by omega,by omega,by omega,HF,C.below x,A.below x,s.trans (x.mono s.size)⟩
     simp[intOf];omega
    |false=>
     rw[r]at HB;have HF:=zb (D.no r);clear q1 q2 f p D J K r;generalize hs'.length=n at *;go_wp2_with ((first|go_at_call 256|go_at_call 258);with_reducible refine(HB.out).mono ?_;rintro e w1 ⟨rfl,x⟩);go_roundw
     case rel=>exact⟨m,b+1,rfl,by go_num,by omega,by omega,by omega,HF,C.below x,A.below x,s.trans (x.mono s.size)⟩
     simp[intOf];omega
   have g:∀j,0<j->j<hs'.length->(j-1) / 2=k->bE t ls (hs'.getD j 0) (hs'.getD m 0)=false:=λj h1 N h3=>D.min j (by omega) (by omega) N
   by_cases q:m=k
   ·have X:=aM q;have P:Hid (Hp (bE t ls) hs'):=G.done (by rw[<-q];exact λj h1 N h3=>g j h1 N (by omega));have C:=zb f;clear D g p f q;generalize hs'.length=n at *;go_wp2_with fail;go_returns;exact⟨rfl,F.after s,hs',B,P,C⟩
   have X:=ZU q;have d:2*k+1<=m/\m<b/\m<hs'.length/\bE t ls (hs'.getD m 0) (hs'.getD k 0)=true:=D.at'.resolve_left q;have y:k<hs'.length:=by omega
   have P:=zb (G.step (fB _ ls) (m:=m) (by omega) d.2.2.1 (by omega) g d.2.2.2);have u:=zb (Ki _ t T f k m (by rw[Zu];omega) (by rw[Zu];exact d.2.2.1) (by omega) (by rw[Zu];omega));simp only[yw,ye]at u;rw[JN y d.2.2.1]at u;have R:=zb (λi hi=>f.lotne p i hi);have A:=zb p;have S:=zb ((xP y d.2.2.1).trans B);have b0:k<m/\m<hs'.length:=⟨by omega,d.2.2.1⟩
   clear D g p f q d y;go_wp2_with ((first|go_at_call 257|go_at_call 259);with_reducible refine(u.out).mono ?_;rintro e w2 ⟨rfl,Z,_,E⟩);go_roundw
   case rel=>exact⟨m,UW hs' k m,rfl,Or.inl (by omega),S,P,Z,A.kp E R,(F.after s).trans (E.mono (λk h=>Or.inl h))⟩
   simp[intOf];omega
  have g:∀j,0<j->j<hs'.length->(j-1) / 2=k->bE t ls (hs'.getD j 0) (hs'.getD m 0)=false:=λj h1 N h3=>D.min j (by omega) (by omega) N
  by_cases q:m=k
  ·have X:=aM q;have P:Hid (Hp (bE t ls) hs'):=G.done (by rw[<-q];exact λj h1 N h3=>g j h1 N (by omega));have C:=zb f;clear D g p f q;generalize hs'.length=n at *;go_wp2_with fail;go_returns;exact⟨rfl,F.after s,hs',B,P,C⟩
  have X:=ZU q;have d:2*k+1<=m/\m<b/\m<hs'.length/\bE t ls (hs'.getD m 0) (hs'.getD k 0)=true:=D.at'.resolve_left q;have y:k<hs'.length:=by omega
  have P:=zb (G.step (fB _ ls) (m:=m) (by omega) d.2.2.1 (by omega) g d.2.2.2);have u:=zb (Ki _ t T f k m (by rw[Zu];omega) (by rw[Zu];exact d.2.2.1) (by omega) (by rw[Zu];omega));simp only[yw,ye]at u;rw[JN y d.2.2.1]at u;have R:=zb (λi hi=>f.lotne p i hi);have A:=zb p;have S:=zb ((xP y d.2.2.1).trans B);have b0:k<m/\m<hs'.length:=⟨by omega,d.2.2.1⟩
  clear D g p f q d y;go_wp2_with ((first|go_at_call 257|go_at_call 259);with_reducible refine(u.out).mono ?_;rintro e w2 ⟨rfl,Z,_,E⟩);go_roundw
  case rel=>exact⟨m,UW hs' k m,rfl,Or.inl (by omega),S,P,Z,A.kp E R,(F.after s).trans (E.mono (λk h=>Or.inl h))⟩
  simp[intOf];omega
theorem RJ(z t:Bool)(ht:t=z){w:World}{Q:Nat}{v:Value}{r j:List Nat}{ls:List L}(h:HVz t w Q v (sb r j))(hl:LotsOK w r ls)(N:∀l∈ls,L.Ok l)(K:∀c∈j,c<ls.length)(hn:j.length<30)(hr:Hp (bE t ls) j)(c:Nat)(hc:c<ls.length):Calls Tryz.prog (cond z 198 200) #[.pointer (some ⟨Q,0,none⟩),.pointer (some ⟨r.getD c 0,0,none⟩)] w λe w'=>e=.returned (.tuple #[])/\Kp (λk=>k=Q\/v.ownBlock=some k) w w'/\∃v' hs',hs'.Perm (j++[c])/\Hp (bE t ls) hs'/\HVz t w' Q v' (sb r hs')/\(∀g,v'.ownBlock=some g->v.ownBlock=some g\/w.heap.size<=g):=by
 have a1:=zb ht;clear ht
 cases z
 all_goals
  simp only[yw,ye];obtain⟨i0,G,a8,a9,b0⟩:=XH Cy;obtain⟨a,cap,W,_⟩:=h.shape;have hQ:=zc h.cell;have c1:w.cell? ⟨Q,0,none⟩=some v:=by rw[za h.cell];rfl
  have f1:=zf h.cell 0;have f:=h.row;rw[Zu]at f;rw[W,Zu]at c1;rw[W,Zu]at f;have HP:=zb h;have HV:=zb W;have HL:=zb hl;have a0:=zb (λi G=>h.lotne hl i G);obtain⟨n,T⟩:=UC j.length;rw[<-T.out]at c1 f hn;generalize J:r.getD c 0=bc at *;have Z:=zb J;clear h W hl J
  first
  |go_enter Tryz.func198,Tryz.ntmps198
  |go_enter Tryz.func200,Tryz.ntmps200
  go_wp2_with (at_builtin;refine wpList_append_own_at _ rfl _ _ 115 rfl 0 191 i0 (.pointer none) 1 8 SO G a8 a9 b0 rfl (by decide) _ n (bX (sb r j)) rfl ?ho ⟨w.heap.size,0,none⟩ 1 1 [.pointer (some ⟨bc,0,none⟩)] rfl rfl ?c1 ?c2 ?c3 ?c4 ?c5 ?_)
  case ho=>exact f.alloc _
  case c1=>exact aV _ _ _
  case c2=>intro u hu;simp at hu;subst hu;rfl
  case c3=>unfold maxLen;omega
  case c4=>omega
  case c5=>exact Nat.zero_le _
  intro v' w2 d p a5 H;have h:=HP.out;have F:v.ownBlock=(Value.slice a n cap).ownBlock:=by rw[HV.out,Zu,<-T.out]
  have b:(w.alloc (.cells #[.pointer (some ⟨bc,0,none⟩)] 191)).grownBy w2 v.ownBlock:=by rw[F];exact p
  have R:v.ownBlock≠some Q:=λe=>by
   obtain⟨cs,C⟩:=zi h.row e;exact zv h.cell C (by cases t<;>decide) rfl
  have old:∀k,k<w.heap.size->v.ownBlock≠some k->w2.heap[k]?=w.heap[k]?:=λk D a4=>(b.block k (by simp;omega) (λe=>a4 e.symm)).trans (XO _ _ _ D)
  have m:w2.heap[Q]?=some (.cells #[v] (cond t 285 289) (0,0)):=(old Q hQ R).trans h.cell;have b2:w2.cell? ⟨Q,0,none⟩=some v:=by rw[za m];rfl
  have b3:=zf m 0;have P:(j++[c]).length=n+1:=by rw[xb,Xc,T.out]
  have B:HVz t (w2.setCell ⟨Q,0,none⟩ v') Q v' (sb r (j++[c])):=by
   have e:bX (sb r (j++[c]))=bX (sb r j)++[.pointer (some ⟨bc,0,none⟩)]:=by simp[bX,sb,<-Z.out]
   refine⟨?_,?_⟩
   ·have:=xp w2 Q 0 _ (cond t 285 289) v' m
    simpa using this
   have D:=d.kept (zS w2 ⟨Q,0,none⟩ v') (Or.inr (λe=>by
    obtain⟨cs,C⟩:=zi d (g:=Q) e;exact zv m C (by cases t<;>decide) rfl))
   rw[e,Zu,P];exact D
  have q:LotsOK (w2.setCell ⟨Q,0,none⟩ v') r ls:=λi G=>by
   obtain⟨pv,hp⟩:=HL.out i G;refine⟨pv,?_⟩;rw[xa _ _ _ _ (zv hp h.cell (by cases t<;>decide)),old _ (zc hp) (a0.out i G)];exact hp
  have A:∀x∈j++[c],x<ls.length:=λx S=>by
   rcases xw.1 S with S|S
   ·exact K x S
   simp at S;omega
  have s:=zb (RM _ t a1 B q N A j.length (by simp) (by rw[P];omega) (hr.push c));simp only[yw,ye]at s;have M:Kp (λk=>k=Q\/v.ownBlock=some k) w (w2.setCell ⟨Q,0,none⟩ v'):=by
   refine Kp.setCell ?_ (Or.inl (Or.inl rfl)) _
   exact Kp.grown (Ut (TQ w _)) b (λk D=>Or.inl (Or.inr D))
  have y:∀g,v'.ownBlock=some g->v.ownBlock=some g\/w.heap.size<=g:=λg hg=>by
   rcases H with h|h
   ·left;rw[F];exact h.symm.trans hg
   right;rw[h]at hg;simp at hg;omega
  have HK:=zb M;have X:=zb y;rw[<-T.out]at s;obtain⟨g,b1,E,_,_⟩:=zJ d (by omega);rw[E]at s HK X;rw[E];clear d p b B q M y H a5 E old m R h f c1 f1 F hr K N A;go_wp2_with ((first|go_at_call 238|go_at_call 240);with_reducible refine(s.out).mono ?_;rintro e w3 ⟨rfl,a3,hs',a6,a2,a7⟩);go_end0;refine⟨rfl,HK.trans (a3.mono (λk D=>?_)),_,hs',a6,a2,a7,X⟩;rcases X k D with h|h
  ·exact Or.inl (Or.inr h)
  exact Or.inr h
theorem Gf(z t:Bool)(b:t=z){w:World}{Q:Nat}{v:Value}(h:HVz t w Q v []):Calls Tryz.prog (cond z 199 201) #[.pointer (some ⟨Q,0,none⟩)] w λe w'=>e=.returned (.tuple #[.pointer none,.bool false])/\w'=w:=by
 have d:=zb b;clear b
 cases z
 all_goals
  simp only[yw,ye];obtain⟨a,cap,c,_⟩:=h.shape;have c1:w.cell? ⟨Q,0,none⟩=some v:=by rw[za h.cell];rfl
  rw[c]at c1;simp only[XB]at c1;clear h c
  first
  |go_enter Tryz.func199,Tryz.ntmps199
  |go_enter Tryz.func201,Tryz.ntmps201
  go_wp2_with fail;go_ret2
  exact⟨rfl,rfl⟩
theorem SH(z t:Bool)(ht:t=z){w:World}{Q:Nat}{v:Value}{g b:List Nat}{ls:List L}(h:HVz t w Q v (sb g b))(hl:LotsOK w g ls)(a3:∀l∈ls,L.Ok l)(a0:∀c∈b,c<ls.length)(hn:b.length<=30)(m:0<b.length)(hr:Hp (bE t ls) b):Calls Tryz.prog (cond z 199 201) #[.pointer (some ⟨Q,0,none⟩)] w λe w'=>e=.returned (.tuple #[.pointer (some ⟨g.getD (b.getD 0 0) 0,0,none⟩),.bool true])/\Kp (λk=>k=Q\/v.ownBlock=some k) w w'/\∃v' hs',hs'.Perm (AS b)/\Hp (bE t ls) hs'/\HVz t w' Q v' (sb g hs')/\v'.ownBlock=v.ownBlock:=by
 have W:=zb ht;clear ht
 cases z
 all_goals
  simp only[yw,ye];obtain⟨a,cap,R,r⟩:=h.shape;obtain⟨G,hG,a7,f⟩:=r (by rw[Zu];exact m);subst hG;have hQ:=zc h.cell;have c1:w.cell? ⟨Q,0,none⟩=some v:=by rw[za h.cell];rfl
  have f1:=zf h.cell 0;have d:=h.row;rw[R,Zu]at c1;rw[R,Zu]at d;obtain⟨cs,y⟩:=zi d rfl;have fG:=zf y 0;have F:¬Q=G:=zv h.cell y (by cases t<;>decide);have g0:=f 0 (by rw[Zu];exact m);have gl:=f (b.length-1) (by rw[Zu];omega);rw[fX m]at g0;rw[fX (by omega)]at gl;have HP:=zb h;have HV:=zb R;have HL:=zb hl;have T:=zb (λi P=>h.lotne hl i P);obtain⟨n,HN⟩:∃n,Hid (n+1=b.length):=⟨b.length-1,by unfold Hid;omega⟩
  have A:b.length-1=n:=by have:=HN.out;omega
  rw[A]at gl;rw[<-HN.out]at c1 d hn;generalize H:g.getD (b.getD 0 0) 0=b0 at *;generalize J:g.getD (b.getD n 0) 0=bl at *;have a9:=zb H;have S:=zb J;have C:=zb A;have a8:n+1<=cap:=by
   rcases d.2 with ⟨X,_⟩|⟨g',a6,b1,X,_,_,a2,_⟩
   ·cases X
   cases X;exact a2
  clear h R hl H J f r y A
  first
  |go_enter Tryz.func199,Tryz.ntmps199
  |go_enter Tryz.func201,Tryz.ntmps201
  go_wp2_with fail;go_region
  go_wp2_with fail;have h:=HP.out
  have r1:=(d.stored 0 (.pointer (some ⟨bl,0,none⟩))).1;have e1:(bX (sb g b)).set 0 (.pointer (some ⟨bl,0,none⟩))=bX (sb g (AS b))++((bX (sb g b)).set 0 (.pointer (some ⟨bl,0,none⟩))).drop n:=by
   have:bX (sb g (AS b))=((bX (sb g b)).set 0 (.pointer (some ⟨bl,0,none⟩))).take n:=by
    unfold AS;rw[C.out,<-S.out];simp[bX,sb,yu,List.map_take]
   rw[this,XV]
  rw[e1]at r1;have B:(AS b).length=n:=by rw[EG,C.out]
  have r2:=ownsRow_pop (by simp[bX,sb,B]) r1;have j:(w.setCell ⟨G,0,none⟩ (.pointer (some ⟨bl,0,none⟩))).heap[Q]?=some (.cells #[v] (cond t 285 289) (0,0)):=by rw[xa _ _ _ _ F];exact h.cell
  have s:v.ownBlock=some G:=by rw[HV.out];rfl
  have u:HVz t ((w.setCell ⟨G,0,none⟩ (.pointer (some ⟨bl,0,none⟩))).setCell ⟨Q,0,none⟩ (.slice (some ⟨G,0,none⟩) n cap)).drew Q (.slice (some ⟨G,0,none⟩) n cap) (sb g (AS b)):=by
   refine⟨?_,?_⟩
   ·show((w.setCell ⟨G,0,none⟩ (.pointer (some ⟨bl,0,none⟩))).setCell ⟨Q,0,none⟩ (.slice (some ⟨G,0,none⟩) n cap)).heap[Q]?=_;have:=xp _ Q 0 _ (cond t 285 289) (.slice (some ⟨G,0,none⟩) n cap) j;simpa using this
   have hk:=r2.kept (zS _ ⟨Q,0,none⟩ (.slice (some ⟨G,0,none⟩) n cap)) (Or.inr (λe=>by
    have e':G=Q:=by simpa [Value.ownBlock] using e
    exact F e'.symm))
   rw[Zu,B];exact hk
  have q:LotsOK ((w.setCell ⟨G,0,none⟩ (.pointer (some ⟨bl,0,none⟩))).setCell ⟨Q,0,none⟩ (.slice (some ⟨G,0,none⟩) n cap)).drew g ls:=λi P=>by
   obtain⟨pv,hp⟩:=HL.out i P;refine⟨pv,?_⟩;show((w.setCell ⟨G,0,none⟩ (.pointer (some ⟨bl,0,none⟩))).setCell ⟨Q,0,none⟩ (.slice (some ⟨G,0,none⟩) n cap)).heap[g.getD i 0]?=_;have N:=T.out i P;rw[s]at N;rw[xa _ _ _ _ (zv hp h.cell (by cases t<;>decide)),xa _ _ _ _ (λe=>N (by rw[e]))];exact hp
  have K:∀x∈AS b,x<ls.length:=λx hx=>a0 x ((AT m).mem_iff.2 (Yx _ hx))
  have D:=zb (RP _ t W u q a3 K (by rw[B];omega) hr.pop);simp only[yw,ye]at D;have M:Kp (λk=>k=Q\/v.ownBlock=some k) w ((w.setCell ⟨G,0,none⟩ (.pointer (some ⟨bl,0,none⟩))).setCell ⟨Q,0,none⟩ (.slice (some ⟨G,0,none⟩) n cap)).drew :=
   (((Kp.refl _ w).setCell (p:=⟨G,0,none⟩) (Or.inl (Or.inr s)) _).setCell (p:=⟨Q,0,none⟩) (Or.inl (Or.inl rfl)) _).after ((xg _ _).drew)
  have HK:=zb M;have E:=zb s;generalize ((w.setCell ⟨G,0,none⟩ (.pointer (some ⟨bl,0,none⟩))).setCell ⟨Q,0,none⟩ (.slice (some ⟨G,0,none⟩) n cap)).drew=w4 at *;clear r1 r2 e1 j u q M s h d c1 f1 fG g0 gl
  with_reducible refine(D.out).mono ?_
  rintro e w3 ⟨rfl,a1,hs',a4,Z,a5⟩;go_wp2_with fail;go_ret2;refine⟨rfl,HK.trans (a1.mono (λk hk=>Or.inl (Or.inr (by rw[E.out];exact hk)))),_,hs',a4,Z,a5,by rw[E.out];rfl⟩
theorem GS(z t:Bool)(ht:t=z){w:World}{v:List Nat}{ls:List L}{os:List O}(hl:LotsOK w v ls)(h7:∀l∈ls,L.Ok l)(h0:Good os ls)(f:List Nat)(h3:∀c∈f,c<ls.length)(g8:∀c∈f,0<(ls.getD c L0).free)(h5:f.length<=30)(a:Option Addr)(cap:Nat)(c6:w.ownsRow 0 191 1 (.slice a f.length cap) f.length (bX (sb v f)))(A:Nat)(hw:A<=2147483647):Calls Tryz.prog (cond z 181 182) #[.slice a f.length cap,.int .i64 A] w λe w'=>Below w.heap.size w w'/\∃v',e=.returned v'/\w'.ownsRow w.heap.size 241 2 v' (ZT ls (yF (bE t ls) f) A).length (zl v (ZT ls (yF (bE t ls) f) A)):=by
 have b1:=zb ht;clear ht
 cases z
 all_goals
  simp only[yw,ye];obtain⟨i0,hi,i2,i3,i4⟩:=XH wH;have a1:∀k,k<f.length->∃G,a=some ⟨G,0,none⟩/\G<w.heap.size/\w.cell? ⟨G,k,none⟩=some (.pointer (some ⟨v.getD (f.getD k 0) 0,0,none⟩)):=λk hk=>by
   obtain⟨g,j9,a5,_,m⟩:=zJ c6 (by omega)
   cases a5;refine⟨g,rfl,m,?_⟩
   rw[c6.cellAt k (by omega)];simp[bX,sb,Ul,hk]
  first
  |(have f1:Hid (HVz t (w.alloc (.cells #[.slice none 0 0] 285)) w.heap.size (.slice none 0 0) (sb v [])):=⟨by rw[b1.out];exact xo w _,Xi _ _ _ _⟩)
  |(have f1:Hid (HVz t (w.alloc (.cells #[.slice none 0 0] 289)) w.heap.size (.slice none 0 0) (sb v [])):=⟨by rw[b1.out];exact xo w _,Xi _ _ _ _⟩)
  have f9:=zb a1;have e6:=zb hl;have e9:=zb h7;have a6:=zb h3;have i5:=zb g8;have i6:=zb h0;clear c6 a1 hl h7 h3 h0 g8
  first
  |go_enter Tryz.func181,Tryz.ntmps181
  |go_enter Tryz.func182,Tryz.ntmps182
  go_wp2_with fail;go_loopw [7,14] (λ_ ii wr=>∃(k:Nat) (hs:List Nat) (v':Value),ii=.int .i64 k/\k<=f.length/\hs.Perm (f.take k)/\Hp (bE t ls) hs/\HVz t wr w.heap.size v' (sb v hs)/\Below w.heap.size w wr/\w.heap.size<wr.heap.size/\(∀g,v'.ownBlock=some g->w.heap.size<=g)) (λ_ ii _=>f.length-(intOf ii).toNat)
  case atStart=>exact⟨0,[],_,rfl,by omega,by simp,λj h1 h2=>absurd h2 (by simp),f1,TQ w _,by simp,λg n=>by cases n⟩
  obtain⟨k,hs,v',rfl,hk,N,hh,a5,X,a4,K⟩:=hrel;by_cases m:k<f.length
  ·obtain⟨G,hG,g5,g6⟩:=f9.out k m;subst hG;have k0:wr.cell? ⟨G,k,none⟩=some (.pointer (some ⟨v.getD (f.getD k 0) 0,0,none⟩)):=(X.cell (by exact g5)).trans g6;have hc:f.getD k 0<ls.length:=a6.out _ (zK m);have d5:∀c∈hs,c<ls.length:=λc j0=>a6 c (yt (N.mem_iff.1 j0))
   have k3:hs.length=k:=by have:=N.length_eq;rw[Xv]at this;omega
   have g3:=zb (RJ _ t b1 a5 (e6.below X) e9 d5 (by omega) hh (f.getD k 0) hc);simp only[yw,ye]at g3;have i8:Hid ((hs++[f.getD k 0]).Perm (f.take (k+1))):=by
    have e:f.take (k+1)=f.take k++[f.getD k 0]:=by
     rw[xk m];simp[Ul,m]
    unfold Hid;rw[e];exact N.append_right _
   have HB:=zb X;have J:=zb K;generalize v.getD (f.getD k 0) 0=bk at *;generalize f.getD k 0=ck at *;clear g6 a5 hh N X K hc d5;go_wp2_with ((first|go_at_call 198|go_at_call 200);with_reducible refine(g3.out).mono ?_;rintro e w1 ⟨rfl,p,v1,j7,j5,j3,j8,i9⟩);go_roundw
   case rel=>
    refine⟨k+1,j7,v1,by go_num,by omega,j5.trans i8,j3,j8,vC HB HB.size p (λi hi=>?_),xn a4 p.size,λg n=>?_⟩
    ·rcases hi with h|h
     ·omega
     exact J i h
    rcases i9 g n with h|h
    ·exact J g h
    omega
   simp[intOf];omega
  obtain rfl:k=f.length:=by omega
  rw[Xa]at N;have d9:=xN t ls f;have h8:hs.Perm (yF (bE t ls) f):=N.trans (dB _ f).symm;have d7:∀c∈yF (bE t ls) f,c∈f:=λc hc=>(dB _ f).mem_iff.1 hc
  have b7:(yF (bE t ls) f).length<=30:=by rw[(dB _ f).length_eq];exact h5
  generalize hq:yF (bE t ls) f=q at *;have HQ:=zb hq;have g1:=zb h8;have a9:=zb d9;have a7:=zb d7;have HH:=zb hh;have g4:=zb a5;have HB:=zb X;have J:=zb K;clear hq h8 d9 d7 hh a5 X K N f1 f9 m hk;rename World=>wo
  go_wp2_with fail;go_loopw [1,8,9,10,11] (λww lv _ _ _ w2=>∃(b:Nat) (H hs2:List Nat) (done:List (Nat×Nat)) (v2:Value),ww=.int .i64 b/\b<=A/\hs2.Perm H/\H.length+done.length<=30/\TL (bE t ls) H/\(∀c∈H,c∈f)/\ZT ls q A=done++ZT ls H b/\w2.ownsRow w.heap.size 241 2 lv done.length (zl v done)/\Hp (bE t ls) hs2/\HVz t w2 w.heap.size v2 (sb v hs2)/\Below w.heap.size w w2/\w.heap.size<w2.heap.size/\(∀g,v2.ownBlock=some g->w.heap.size<=g)) (λww _ _ _ _ _=>(intOf ww).toNat)
  case atStart=>exact⟨A,q,hs,[],v',rfl,by omega,g1,by simpa using b7,a9,a7,by simp,Xi _ _ _ _,HH,g4,HB,a4,J⟩
  clear g1 a9 a7 HH g4 HB J a4 b7;obtain⟨b,H,hs2,done,v2,rfl,k4,N,h6,c8,m,M,y,hh,a0,X,a4,K⟩:=hrel;obtain⟨la,s,j4⟩:=zm y;subst j4;by_cases i1:b=0
  ·subst i1;rw[tO,XR]at M;have HO:=zb y;have HB:=zb X;have P:=zb M;clear y X M a0 hh N c8 m K;go_wp2_with fail;go_ret;exact⟨HB,_,rfl,by rw[HQ.out,P.out];exact HO⟩
  cases b9:H with
  |nil=>
   subst b9;have j6:hs2=[]:=List.Perm.eq_nil N;subst j6;rw[ZT,XR]at M;have g0:=zb (Gf _ t b1 a0);simp only[yw,ye]at g0;have HO:=zb y;have HB:=zb X;have P:=zb M;clear y X M a0 hh N c8 m K;go_wp2_with ((first|go_at_call 199|go_at_call 201);with_reducible refine(g0.out).mono ?_;rintro e w1 ⟨rfl,rfl⟩);go_ret;exact⟨HB,_,rfl,by rw[HQ.out,P.out];exact HO⟩
  |cons c r=>
   subst b9;have d6:∀x∈hs2,x<ls.length:=λx hx=>a6 x (m x (N.mem_iff.1 hx))
   have a3:0<hs2.length:=by rw[N.length_eq];simp
   have h4:hs2.length<=30:=by rw[N.length_eq];omega
   have hm:hs2.getD 0 0=c:=by
    refine tQ i6 c8 (λx hx=>a6 x (m x hx)) (N.mem_iff.1 (zK a3)) (λx hx=>?_);obtain⟨j,hj,rfl⟩:=xt (N.mem_iff.2 hx);have:=Hp.root (fB t ls) hh j j (xc _) hj;rw[Ul,xh hj]at this;simpa using this
   have S:=zb (SH _ t b1 a0 (e6.below X) e9 d6 h4 a3 hh);simp only[yw,ye]at S;rw[hm]at S;have h9:(AS hs2).Perm r:=by
    have:=(AT a3).symm.trans N
    rw[hm]at this;exact this.cons_inv
   have hc:c<ls.length:=a6.out c (m c (by simp));have d8:=e9.out _ (zg hc);obtain⟨pv,f4⟩:=e6.out c hc;have b4:=zc f4;have a2:wr.heap[v.getD c 0]?=some (.cells (zo (ls.getD c L0) pv) 231 (0,0)):=(X.block _ b4).trans f4;have g2:=zb h9;have HO:=zb y;have HB:=zb X;have J:=zb K;have a9:Hid (TL (bE t ls) r):=(Xq.1 c8).2;have a7:Hid (∀x∈r,x∈f):=λx hx=>m x (by simp[hx])
   have e5:Hid (r.length+(done.length+1)<=30):=by
    have:r.length+1+done.length<=30:=by simpa using h6
    unfold Hid;omega
   have j1:done.length<30:=by have:=e5.out;omega
   have e7:Hid (∀k,(k=w.heap.size\/v2.ownBlock=some k)->k≠v.getD c 0):=λk hk e=>by
    rcases hk with h|h
    ·omega
    have:=K k h;omega
   have R:Hid (∀k,(k=w.heap.size\/v2.ownBlock=some k)->(Value.slice la done.length s).ownBlock≠some k):=λk hk e=>by
    obtain⟨cs,f5⟩:=zi y e;rcases hk with h|h
    ·rw[h]at f5;exact zv a0.cell f5 (by cases t<;>decide) rfl
    obtain⟨k2,g7⟩:=zi a0.row h;exact zv g7 f5 (by decide) rfl
   have j2:(ls.getD c L0).free<=2147483647:=by have:=d8.sum;omega
   obtain⟨W,e3⟩:=UC ((ls.getD c L0).free);have g9:0<(ls.getD c L0).free:=i5.out c (m c (by simp));rw[<-e3.out]at j2 g9;have P:Hid (ZT ls q A=(done++[(c,min W b)])++ZT ls r (b-min W b)):=by
    rw[ZT,xe i1,<-e3.out]at M;unfold Hid;rw[M];simp
   obtain⟨bc,e2⟩:=UC (v.getD c 0);rw[<-e2.out]at S a2 e7;have d2:Hid (wr.cell? ⟨bc,6,none⟩=some (.int .i64 W)):=by rw[e3.out];unfold Hid;rw[za a2];rfl
   have d4:bc<wr.heap.size:=zc a2;obtain⟨dl,d3⟩:=UC done.length;rw[<-d3.out]at HO R j1;clear y X K c8 m N hm h9 a3 h4 d6 M f4 a2 d8 a0 hh hc b4 h6;rw[show(Value.slice la done.length s)=Value.slice la dl s by rw[d3.out]];by_cases k1:W<=b
   ·have f6:min W b=W:=by omega
    rw[f6]at P;go_wp2_with fail
    with_reducible refine(S.out).mono ?_
    rintro e w1 ⟨rfl,p,v3,c7,b8,b6,c9,F⟩;have b5:w1.cell? ⟨bc,6,none⟩=some (.int .i64 W):=(xm (a:=⟨bc,6,none⟩) (p.block bc d4 (λhz=>e7 bc hz rfl))).trans d2;have Z:w1.ownsRow w.heap.size 241 2 (.slice la dl s) dl (zl v done):=ze HO (λg n=>p.block g (HO.lt g n).2 (λhz=>R g hz n));have b2:Below w.heap.size w w1:=vC HB HB.size p (λi hq=>Or.elim hq (λh=>by omega) (J i));have E:w.heap.size<w1.heap.size:=xn a4 p.size;have e0:=zb b2;have b0:Hid (∀g,v3.ownBlock=some g->w.heap.size<=g):=λg n=>J g (by rw[<-F];exact n)
    have T:=zb c9;have e4:=zb b6;have f0:=zb (b8.trans g2);have a8:Hid (∀g,(Value.slice la dl s).ownBlock=some g->v3.ownBlock≠some g/\g≠w.heap.size):=λg n=>⟨λe=>R g (Or.inr (by rw[<-F];exact e)) n,λe=>R g (Or.inl e) n⟩
    clear p b2 c9 b6 b8 F S HO d2;go_wp2_with (at_builtin;refine Xb _ rfl _ _ 197 rfl (w.heap.size) 241 i0 (.agg #[.pointer none,.int .i64 0]) 2 16 xT hi i2 i3 i4 rfl (by decide) _ dl (zl v done) rfl (Z.alloc _) ⟨w1.heap.size,0,none⟩ 1 1 [.pointer (some ⟨bc,0,none⟩),.int .i64 W] rfl rfl ?c1 ?c2 ?c3 ?c4 ?c5 ?_)
    case c1=>exact Yb _ _ _ _
    case c2=>intro u hu;simp at hu;rcases hu with rfl|rfl<;>rfl
    case c3=>unfold maxLen;omega
    case c4=>omega
    case c5=>simp;omega
    intro d1 w2 C d f8;have D:w2.ownsRow w.heap.size 241 2 d1 (done++[(c,W)]).length (zl v (done++[(c,W)])):=by
     rw[aE,xb,Xc,<-d3.out];show w2.ownsRow w.heap.size 241 2 d1 (dl+1) (zl v done++[.pointer (some ⟨v.getD c 0,0,none⟩),.int .i64 W]);rw[<-e2.out];exact C
    have B:∀g,g<w1.heap.size->(Value.slice la dl s).ownBlock≠some g->w2.heap[g]?=w1.heap[g]?:=λg n f7=>(d.block g (by simp;omega) (λe=>f7 e.symm)).trans (XO _ _ _ n)
    have d0:HVz t w2 w.heap.size v3 (sb v c7):=⟨(B _ E (λe=>(a8 _ e).2 rfl)).trans T.cell,ze T.row (λg n=>B g (T.row.lt g n).2 (λe=>(a8 g e).1 n))⟩
    have b3:Below w.heap.size w w2:=(e0.alloc (xbE E) _).grown d (by simp;omega) (λk hk=>(Z.lt k hk).1);have Q:w.heap.size<w2.heap.size:=xn E (xj (by simp) d.size);have e8:=zb D;have f3:=zb d0;have e1:=zb b3;have f2:=zb Q;have i7:=zb d.size;clear C D d0 b3 Q d f8 B Z b5;go_wp2_with fail;go_roundw
    case rel=>exact⟨b-W,r,c7,done++[(c,W)],v3,by congr 1;omega,by omega,f0,by have:=e5.out;simp;omega,a9,a7,P,e8,e4,f3,e1,f2,b0⟩
    simp[intOf];omega
   have f6:min W b=b:=by omega
   rw[f6]at P;go_wp2_with fail
   with_reducible refine(S.out).mono ?_
   rintro e w1 ⟨rfl,p,v3,c7,b8,b6,c9,F⟩;have b5:w1.cell? ⟨bc,6,none⟩=some (.int .i64 W):=(xm (a:=⟨bc,6,none⟩) (p.block bc d4 (λhz=>e7 bc hz rfl))).trans d2;have Z:w1.ownsRow w.heap.size 241 2 (.slice la dl s) dl (zl v done):=ze HO (λg n=>p.block g (HO.lt g n).2 (λhz=>R g hz n));have b2:Below w.heap.size w w1:=vC HB HB.size p (λi hq=>Or.elim hq (λh=>by omega) (J i));have E:w.heap.size<w1.heap.size:=xn a4 p.size;have e0:=zb b2;have b0:Hid (∀g,v3.ownBlock=some g->w.heap.size<=g):=λg n=>J g (by rw[<-F];exact n)
   have T:=zb c9;have e4:=zb b6;have f0:=zb (b8.trans g2);have a8:Hid (∀g,(Value.slice la dl s).ownBlock=some g->v3.ownBlock≠some g/\g≠w.heap.size):=λg n=>⟨λe=>R g (Or.inr (by rw[<-F];exact e)) n,λe=>R g (Or.inl e) n⟩
   clear p b2 c9 b6 b8 F S HO d2;go_wp2_with (at_builtin;refine Xb _ rfl _ _ 197 rfl (w.heap.size) 241 i0 (.agg #[.pointer none,.int .i64 0]) 2 16 xT hi i2 i3 i4 rfl (by decide) _ dl (zl v done) rfl (Z.alloc _) ⟨w1.heap.size,0,none⟩ 1 1 [.pointer (some ⟨bc,0,none⟩),.int .i64 b] rfl rfl ?c1 ?c2 ?c3 ?c4 ?c5 ?_)
   case c1=>exact Yb _ _ _ _
   case c2=>intro u hu;simp at hu;rcases hu with rfl|rfl<;>rfl
   case c3=>unfold maxLen;omega
   case c4=>omega
   case c5=>simp;omega
   intro d1 w2 C d f8;have D:w2.ownsRow w.heap.size 241 2 d1 (done++[(c,b)]).length (zl v (done++[(c,b)])):=by
    rw[aE,xb,Xc,<-d3.out];show w2.ownsRow w.heap.size 241 2 d1 (dl+1) (zl v done++[.pointer (some ⟨v.getD c 0,0,none⟩),.int .i64 b]);rw[<-e2.out];exact C
   have B:∀g,g<w1.heap.size->(Value.slice la dl s).ownBlock≠some g->w2.heap[g]?=w1.heap[g]?:=λg n f7=>(d.block g (by simp;omega) (λe=>f7 e.symm)).trans (XO _ _ _ n)
   have d0:HVz t w2 w.heap.size v3 (sb v c7):=⟨(B _ E (λe=>(a8 _ e).2 rfl)).trans T.cell,ze T.row (λg n=>B g (T.row.lt g n).2 (λe=>(a8 g e).1 n))⟩
   have b3:Below w.heap.size w w2:=(e0.alloc (xbE E) _).grown d (by simp;omega) (λk hk=>(Z.lt k hk).1);have Q:w.heap.size<w2.heap.size:=xn E (xj (by simp) d.size);have e8:=zb D;have f3:=zb d0;have e1:=zb b3;have f2:=zb Q;have i7:=zb d.size;clear C D d0 b3 Q d f8 B Z b5;go_wp2_with fail;go_roundw
   case rel=>exact⟨b-b,r,c7,done++[(c,b)],v3,by congr 1;omega,by omega,f0,by have:=e5.out;simp;omega,a9,a7,P,e8,e4,f3,e1,f2,b0⟩
   simp[intOf];omega
theorem Ol{h:List Nat}{os:List O}(n:LotsOK w h ls)(m:∀l∈ls,L.Ok l)(j:Good os ls)(d:List Nat)(k:∀c∈d,c<ls.length)(i:∀c∈d,0<(ls.getD c L0).free)(f:d.length<=30)(a:Option Addr)(cap:Nat)(g:w.ownsRow 0 191 1 (.slice a d.length cap) d.length (bX (sb h d)))(b:Nat)(p:b<=2147483647):Calls Tryz.prog 181 #[.slice a d.length cap,.int .i64 b] w λe w'=>Below w.heap.size w w'/\∃v',e=.returned v'/\w'.ownsRow w.heap.size 241 2 v' (ZT ls (yF (bE true ls) d) b).length (zl h (ZT ls (yF (bE true ls) d) b)) :=
 GS true true rfl n m j d k i f a cap g b p
theorem Om{h:List Nat}{os:List O}(n:LotsOK w h ls)(m:∀l∈ls,L.Ok l)(j:Good os ls)(d:List Nat)(k:∀c∈d,c<ls.length)(i:∀c∈d,0<(ls.getD c L0).free)(f:d.length<=30)(a:Option Addr)(cap:Nat)(g:w.ownsRow 0 191 1 (.slice a d.length cap) d.length (bX (sb h d)))(b:Nat)(p:b<=2147483647):Calls Tryz.prog 182 #[.slice a d.length cap,.int .i64 b] w λe w'=>Below w.heap.size w w'/\∃v',e=.returned v'/\w'.ownsRow w.heap.size 241 2 v' (ZT ls (yF (bE false ls) d) b).length (zl h (ZT ls (yF (bE false ls) d) b)) :=
 GS false false rfl n m j d k i f a cap g b p
