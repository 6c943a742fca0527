import Derived.Test.YtgcedalggnmooaaGreatDoorRkX
set_option linter.all false
set_option maxRecDepth 100000
set_option maxHeartbeats 6400000
namespace Go.Proofs.YtgcedalggnmooaaGreatDoor
open Tryz
structure Tiny(td:Nat)(os:List O)(rj:List (Nat×Nat))(ls:List L):Prop where
 td:td<=2147483647
 ok:∀l∈ls,L.Ok l
 room:ls.length<=30
 good:Good os ls
 sml:Vt os ls
 rc:Rc rj
variable {S g td:Nat}{ls:List L}{os:List O}{rj:List (Nat×Nat)}
def Tiny.nlines(h:Tiny td os rj ls){o:O}(a:o∈os):o.li.length<=30:=by
 have:=ZH (l:=o.li.map Prod.fst) (m:=ls.map L.id) (h.good.keys o a) (λx d=>by
  obtain⟨p,c,rfl⟩:=Xz.1 d;obtain⟨i,b,e⟩:=h.good.mem o a p c;rw[<-e];exact Xu (zf b))
 rw[List.length_map,List.length_map]at this;have:=h.room;omega
def Tiny.line(h:Tiny td os rj ls){o:O}(b:o∈os){p:Nat×Nat}(d:p∈o.li):p.1<=2147483647/\p.2<=2147483647:=by
 obtain⟨i,c,e⟩:=h.good.mem o b p d;have a:=h.ok _ (zf c);refine⟨by rw[<-e];exact a.id,?_⟩;have g:zq os o.id (ls.getD i L0).id=some p.2:=by rw[iF h.good.oids b,e];exact zN (h.good.keys o b) d
 have f:=lL g;rw[<-h.good.hd i c]at f;have:=a.sum;omega
def Di{l:List (Nat×Nat)}{n:Nat}(h:n∈VW l):n=l.length\/∃p∈l,n=p.1\/n=p.2:=by
 unfold VW at h;rcases xz.1 h with h|h
 ·exact Or.inl h
 obtain⟨p,b,a⟩:=YH.1 h;simp at a;exact Or.inr ⟨p,b,a⟩
def Tiny.small(h:Tiny td os rj ls):∀n∈WS td os rj ls,n<=2147483647:=by
 intro n a;have k:=h.room;have w:=h.td;have j:=h.good.olen;simp only[WS,xx]at a;rcases a with (((a|a)|a)|a)|a
 ·simp at a;omega
 ·obtain⟨i,g,a⟩:=YH.1 a;rw[<-nT h.good.ids (λl v=>(h.sml.lot l v).1)]at g;have c:=eH.1 g;have b:=h.ok _ (zf c);have m:=h.sml.lot _ (zf c);have r:=b.id;have s:=b.gd;have t:=b.ex;have z:=b.place;have A:=b.sum;have B:=b.got;have u:=b.par;unfold bU at a;rcases xx.1 a with a|a
  ·rcases xx.1 a with a|a
   ·simp only[xz,yf,xah]at a;omega
   rcases Di a with e|⟨p,d,e⟩
   ·rw[ZN]at e;omega
   rw[gK]at d;have:=u.2 p d;have:=m.2 p d;omega
  split at a
  ·simp only[xz,yf,xah]at a;omega
  simp at a
 ·simp at a;omega
 ·obtain⟨i,g,a⟩:=YH.1 a;obtain⟨_,y⟩:=Zf (x:=λi=>(os.getD i O0).id) (eS h.good.oids) (os.length+1) 0 (by have:=bK (λi=>(os.getD i O0).id) 0 os.length;omega);have c:=((y i).1 g).1;have f:=CO c;have r:=h.good.oid _ f;have s:=h.sml.ord _ f;have t:=h.nlines f;unfold bV at a;rcases xx.1 a with a|a
  ·simp only[xz,yf,xah]at a;omega
  obtain⟨_,q⟩:=zZ (Z6 (h.good.keys _ f));rcases Di a with e|⟨p,d,e⟩
  ·rw[eV]at e;omega
  rw[q]at d;have:=h.line f d;omega
 obtain⟨_,q⟩:=zZ h.rc.nodup;rcases Di a with e|⟨p,d,e⟩
 ·rw[eV]at e;have:=h.rc.len;omega
 rw[q]at d;have:=h.rc.fits p d;omega
def Tiny.len{td:Nat}{os:List O}{rj:List (Nat×Nat)}{ls:List L}(h:Tiny td os rj ls):(WS td os rj ls).length<=1100:=by
 have d:=h.room;have c:=h.good.olen;have q:(WR ls).length<=ls.length*14:=by
  unfold WR;rw[<-nT h.good.ids (λl n=>(h.sml.lot l n).1)];have:=aG (f:=λi=>bU (ls.getD i L0)) 14 (VO ls) (λi b=>xF (h.ok _ (zf (eH.1 b))));rw[bX]at this;exact this
 have r:(WT os).length<=os.length*63:=by
  unfold WT;obtain⟨p,k⟩:=Zf (x:=λi=>(os.getD i O0).id) (eS h.good.oids) (os.length+1) 0 (by have:=bK (λi=>(os.getD i O0).id) 0 os.length;omega);have g:=aG (f:=λi=>bV (os.getD i O0)) 63 (Zb (λi=>(os.getD i O0).id) os.length (os.length+1) 0) (λi b=>by
   have:=h.nlines (CO ((k i).1 b).1)
   show(bV (os.getD i O0)).length<=63;rw[Fb];omega)
  have j:=ZH (l:=Zb (λi=>(os.getD i O0).id) os.length (os.length+1) 0) (m:=List.range os.length) (p.imp (λa e=>by rw[e]at a;exact Yr _ a)) (λi b=>by simp;exact((k i).1 b).1);rw[List.length_range]at j;exact xj g (xas _ j)
 have g:(VW (cA rj)).length<=21:=by
  rw[<-eK,eL (xe _),eV];have:=h.rc.len;omega
 simp only[WS,xc,List.length_cons,XO];omega
def Tiny.bytes(h:Tiny td os rj ls):(WO td os rj ls).length<=10000:=by
 have b:=Pl.toldB_len (WS td os rj ls) (λn a=>by have:=h.small n a;omega);have c:=h.len;unfold WO;rw[List.length_cons];omega
def Tiny.same(h:Tiny td os rj ls):pN td os rj ls=WS td os rj ls :=
 Up h.good (λl a=>(h.sml.lot l a).1) (λo b=>(h.sml.ord o b).1) (λl a=>(h.ok l a).par.1) h.rc.nodup
open Go.RowKit
def Nr(B:Nat)(w:World)(g c:Nat)(T:List Nat):Prop:=w.ownsRow B 2 1 (.slice (some ⟨g,0,none⟩) T.length c) T.length (I T)
variable {w:World}
def Nr.below{B:Nat}{w':World}{c:Nat}{T:List Nat}(h:Nr B w g c T)(a:Below w.heap.size w w'):Nr B w' g c T:=zg h a
def Nr.lt{B:Nat}{w:World}{g c:Nat}{T:List Nat}(h:Nr B w g c T):B<=g/\g<w.heap.size:=World.ownsRow.lt h g rfl
def vE{wr d w':World}{G g':Nat}(c:Below wr.heap.size wr d)(i:d.grownBy w' (some g))(f:G<wr.heap.size)(a:G≠g)(b:some g=some g'\/g'=d.heap.size):w'.heap[G]?=wr.heap[G]?/\G≠g':=by
 refine⟨(i.block G (xl f c.size) (λe=>a (xt e))).trans (c.block G f),?_⟩;rcases b with h|h
 ·rw[<-xt h];exact a
 have:=c.size;omega
def NK{M:Mx}{v:Value}{bs:List Nat}{y4:List Value}(h:PV os rj w S M v td bs y4 ls)(h5:Good os ls)(l3:Vt os ls):Calls prog 79 #[.pointer (some ⟨S,0,none⟩)] w λe w'=>Below w.heap.size w w'/\∃g c,e=.returned (.slice (some ⟨g,0,none⟩) (pN td os rj ls).length c)/\Nr w.heap.size w' g c (pN td os rj ls):=by
 obtain⟨i0,hi,b5,b6,b7⟩:=XT QA;obtain⟨a,cap,hv,-⟩:=h.shape;have c0:=h.c0;have c1:=h.c1;rw[hv]at c1;have hS:=zc h.store;have l2:=h.room;have P:=zb h;have HT:=zb (Tiny.mk h.today h.ok h.room h5 l3 h.maps.rc);have D:=zb h5;have o0:=zb l3;obtain⟨N,hN⟩:∃N,N=ls.length:=⟨_,rfl⟩
 have d0:=zb hN;rw[<-hN]at c1 l2;have i4:=zb (λ(w1:World) (K:Below w.heap.size w w1)=>fL (h.below K) h5.ids);rw[<-hN]at i4;clear h h5 l3 hv hN;go_enter func79,ntmps79;go_wp2_with fail;have e6:Ha (Below w.heap.size w (w.alloc (.cells #[.int .i64 td,.int .i64 N,.int .i64 N] 2))):=VE w _;have m7:Ha (Nr w.heap.size (w.alloc (.cells #[.int .i64 td,.int .i64 N,.int .i64 N] 2)) w.heap.size 3 [td,N,N]):=Yb w #[.int .i64 td,.int .i64 N,.int .i64 N] 3 (xe _) (by unfold maxLen;omega) rfl;refine(i4.o _ e6.o).mono ?_
 rintro e w2 ⟨j9,pa,y8,rfl,o7⟩;have l6:Ha (Below w.heap.size w w2):=e6.o.trans (j9.mono e6.o.size);have m8:=zb (m7.o.below j9);have l5:Ha (∀k,k<N->∃G,pa=some ⟨G,0,none⟩/\G≠w.heap.size/\G<w2.heap.size/\w2.cell? ⟨G,k,none⟩=some (.pointer (some ⟨bs.getD ((VO ls).getD k 0) 0,0,none⟩))):=λk hk=>by
  obtain⟨G,q1,q2,q3,q4⟩:=o7 k (by rw[bX,<-d0.o];exact hk);exact⟨G,q1,by simp at q2;omega,q3,q4⟩
 obtain⟨F,f1⟩:∃F:Nat->List Nat,Ha (F=λi=>yP (ls.getD i L0)):=⟨_,rfl⟩
 obtain⟨js,b9⟩:=Ww (VO ls);rw[<-b9.o]at l5;clear j9 o7 e6 m7 i4 c0 c1;go_wp2_with fail;go_loopw [4,6,26] (λnv _ ii wr=>∃(k g c:Nat) (T:List Nat),ii=.int .i64 k/\k<=N/\T=[td,N,N]++(js.take k).flatMap F/\nv=.slice (some ⟨g,0,none⟩) T.length c/\Nr w.heap.size wr g c T/\T.length<=3+k*14/\Below w.heap.size w wr/\w2.heap.size<=wr.heap.size/\(∀G,pa=some ⟨G,0,none⟩->G<w2.heap.size->G≠w.heap.size->wr.heap[G]?=w2.heap[G]?/\G≠g)) (λ_ _ ii _=>N-(intOf ii).toNat)
 case atStart=>exact⟨0,w.heap.size,3,_,rfl,by omega,rfl,rfl,m8.o,by simp,l6.o,xe _,λG _ _ h=>⟨rfl,h⟩⟩
 clear m8 l6;obtain⟨k,g,c,T,rfl,hk,hT,rfl,a0,d5,K,b4,n⟩:=hrel;have R:Below w.heap.size w wr:=K;by_cases C:k<N
 ·obtain⟨G,rfl,d2,d3,d9⟩:=l5.o k C;obtain⟨j6,v2⟩:=n G rfl d3 d2;have k0:wr.cell? ⟨G,k,none⟩=some (.pointer (some ⟨bs.getD (js.getD k 0) 0,0,none⟩)):=(xo (a:=⟨G,k,none⟩) j6).trans d9;have hj:js.getD k 0<ls.length:=by rw[b9.o];exact vU (by rw[<-d0.o];exact C)
  have p6:js.take (k+1)=js.take k++[js.getD k 0]:=ZY (by rw[b9.o,bX,<-d0.o];exact C);have s:=P.o.below K;have h7:=s.ok _ (zf hj);have f3:=zb (De (s.lot _ hj) (s.par _ hj) h7);have v0:(F (js.getD k 0)).length<=14:=by rw[f1.o];show(yP _).length<=14;rw[Ka h7.par.1];exact xF h7
  have o4:0<(F (js.getD k 0)).length:=by rw[f1.o];show 0<(yP _).length;simp[yP]
  have m0:Ha (F (js.getD k 0)=yP (ls.getD (js.getD k 0) L0)):=by unfold Ha;rw[f1.o]
  rw[<-m0.o]at f3;have j1:Ha (T++F (js.getD k 0)=[td,N,N]++(js.take (k+1)).flatMap F):=by unfold Ha;rw[p6,yw,hT];simp
  have t:=zb a0;have f:=zb K;have c6:=zb n;obtain⟨m,hm⟩:∃m,m=T.length:=⟨_,rfl⟩
  have b0:=zb hm;rw[<-hm]at d5 ⊢;generalize F (js.getD k 0)=Fj at *;generalize bs.getD (js.getD k 0) 0=bj at *;obtain⟨q,hq⟩:∃q,q=Fj.length:=⟨_,rfl⟩
  have a1:=zb hq;rw[<-hq]at f3 v0 o4;clear a0 K n s h7 d9 hj p6 R hT hm hq m0;go_wp2_with (first
   |(go_at_call 124;refine(f3.o).mono ?_;rintro e w3 ⟨R,g3,c3,rfl,e3⟩)
   |(at_builtin;refine YD _ rfl _ _ 81 rfl w.heap.size 2 i0 (.int .i64 0) 1 8 Mn hi b5 b6 b7 rfl (by decide) _ m (I T) rfl ?r1 ⟨g3,0,none⟩ q c3 (I Fj) rfl ?r2 ?r3 (Il Fj) o4 ?r5 ?r6 ?r7 _ rfl ?_))
  case r1=>have:=t.o.below R;unfold Nr at this;rw[<-b0.o]at this;exact this
  case r2=>rw[vA,a1.o];omega
  case r3=>exact λj u hj=>e3.cells (g:=g3) rfl j u hj
  case r5=>unfold maxLen;omega
  case r6=>omega
  case r7=>have W:=f.o.size;have h2:=R.size;omega
  intro g4 c4 w4 b3 h3 i1 q0;have t3:Ha (Nr w.heap.size w4 g4 c4 (T++Fj)):=by
   unfold Ha Nr;rw[xc,<-b0.o,<-a1.o,show I (T++Fj)=I T++I Fj by simp[I]];exact b3
  have r8:Ha (Below w.heap.size w w4):=(f.o.trans (R.mono f.o.size)).grown h3 (by have W:=f.o.size;have h2:=R.size;omega) (λz hz=>by cases hz;exact t.o.lt.1);have s9:Ha (∀B,some (⟨G,0,none⟩:Addr)=some ⟨B,0,none⟩->B<w2.heap.size->B≠w.heap.size->w4.heap[B]?=w2.heap[B]?/\B≠g4):=λB e W h2=>by
   obtain⟨q1,q2⟩:=c6.o B e W h2;obtain⟨q3,q4⟩:=vE R h3 (xl W b4) q2 i1;exact⟨q3.trans q1,q4⟩
  have y0:w2.heap.size<=w4.heap.size:=xj b4 (xj R.size h3.size);have o6:(T++Fj).length=m+q:=by rw[xc,<-b0.o,<-a1.o]
  clear e3 R b3 h3 i1 q0 t f c6 f3 k0;go_wp2_with fail;go_roundw
  case rel=>exact⟨k+1,g4,c4,T++Fj,by go_num,by omega,j1.o,by rw[o6],t3.o,by rw[o6];omega,r8.o,y0,s9.o⟩
  simp[intOf];omega
 have x0:k=N:=by omega
 subst x0;have p5:js.take k=js:=Xy (by rw[b9.o,bX,<-d0.o];exact xe _);rw[p5]at hT;have s:=P.o.below K;obtain⟨Do,Z,a2⟩:=s.maps.o;have H:=xaf Z Ii;rw[a2.size]at H;have c2:=s.c2;have t:=zb a0;have f:=zb K;have u2:=zb hT;have x7:=D.o.olen;obtain⟨m,hm⟩:∃m,m=T.length:=⟨_,rfl⟩
 have b0:=zb hm;rw[<-hm]at d5 ⊢;obtain⟨no,k9⟩:∃no,no=os.length:=⟨_,rfl⟩
 have t8:=zb k9;rw[<-k9]at H x7;clear a0 K n s hT hm k9 Z a2 R C p5;go_wp2_with (at_builtin;refine YD _ rfl _ _ 81 rfl w.heap.size 2 i0 (.int .i64 0) 1 8 Mn hi b5 b6 b7 rfl (by decide) _ m (I T) rfl ?r1 ⟨wr.heap.size,0,none⟩ 1 1 [.int .i64 no] rfl rfl ?r3 ?r4 (by decide) ?r5 ?r6 ?r7 _ rfl ?_)
 case r1=>have:=t.o.below (VE wr (.cells #[.int .i64 no] 2));unfold Nr at this;rw[<-b0.o]at this;exact this
 case r3=>exact Zy _ _ _
 case r4=>intro u hu;simp at hu;subst hu;rfl
 case r5=>unfold maxLen;omega
 case r6=>omega
 case r7=>have W:=f.o.size;simp;omega
 intro g5 c5 w5 e4 b2 d6 e0;obtain⟨U,j2⟩:∃U:List Nat,Ha (U=T++[no]):=⟨_,rfl⟩
 have j3:Ha (U.length=m+1):=by unfold Ha;rw[j2.o,xc,<-b0.o];rfl
 have i7:Ha (Nr w.heap.size w5 g5 c5 U):=by
  unfold Ha Nr;rw[j3.o,j2.o,show I (T++[no])=I T++[.int .i64 no] by simp[I]];exact e4
 have a9:Ha (Below w.heap.size w w5):=(f.o.alloc f.o.size _).grown b2 (by have W:=f.o.size;simp;omega) (λz hz=>by cases hz;exact t.o.lt.1);have f8:=P.o.below a9.o;have u8:=f8.c2;clear e4 b2 d6 e0 t f H c2;go_wp2_with (go_at_call 126;refine(JM _ _).mono ?_;rintro e w' ⟨rfl,rfl⟩);have a3:=VE w5 (.cells #[.map (some M.o)] 112);obtain⟨Do,Z,a2⟩:=f8.maps.o;have a7:∀o∈os,1<=o.id/\o.id<=2147483647:=λo ho=>⟨(o0.o.ord o ho).1,D.o.oid o ho⟩
 refine(DT (w:=w5.alloc (.cells #[.map (some M.o)] 112)) (Bm:=w5.heap.size) (b:=M.o) D.o.oids a7 D.o.olen (by simp) (by rw[za (xp w5 _)];rfl) (zu Z (a3.block M.o (XG Z))) a2).mono ?_
 rintro e w6 ⟨o9,sv,rfl,e5⟩;have d7:=a3.trans (o9.mono a3.size);have l7:Ha (Below w.heap.size w w6):=a9.o.trans (d7.mono a9.o.size);have n0:=zb (i7.o.below d7);obtain⟨A,f2⟩:=Ww (Wz os);rw[<-f2.o]at e5;have m4:Ha (∀x∈A,∃o∈os,x=o.id):=λx hx=>by
  rw[f2.o]at hx;obtain⟨o,ho,e⟩:=Xz.1 (((rD D.o.oids (λo ho=>(a7 o ho).1)).2 x).1 hx);exact⟨o,ho,e.symm⟩
 have i5:Ha (A.length<=10):=by
  unfold Ha;have W:=ZH (l:=A) (m:=os.map O.id) (by rw[f2.o];exact(rD D.o.oids (λo ho=>(a7 o ho).1)).1.imp (λh e=>by omega)) (λx hx=>by obtain⟨o,ho,rfl⟩:=m4.o x hx;exact Xu ho);rw[List.length_map]at W;exact xj W D.o.olen
 obtain⟨sa,y9,y2⟩:=zj e5;subst y2;have n9:Ha (∀i,i<A.length->∃G,sa=some ⟨G,0,none⟩/\w5.heap.size<=G/\G<w6.heap.size/\w6.cell? ⟨G,i,none⟩=some (.int .i64 ((A.getD i 0:Nat):Int))):=λi hi=>by
  obtain⟨G,y5,y3,d2,d3⟩:=zL e5 (by omega)
  cases y3;refine⟨G,rfl,by simp at d2;omega,d3,?_⟩
  rw[e5.cellAt i (by omega)];simp[I,Wc,hi]
 have s8:Ha (g5<w5.heap.size):=i7.o.lt.2;obtain⟨nk,k8⟩:∃nk,nk=A.length:=⟨_,rfl⟩
 have n3:=zb k8;rw[<-k8]at i5 n9 ⊢;have z3:=i5.o;have z0:=zb f8;clear a3 Z a2 o9 d7 e5 a9 i7 f8 u8 a7 k8 i5;go_wp2_with fail;go_loopw [4,8,50] (λnv _ ii wr=>∃(y g c:Nat) (J:List Nat),ii=.int .i64 y/\y<=nk/\J=U++(A.take y).flatMap (Ku os ls)/\nv=.slice (some ⟨g,0,none⟩) J.length c/\Nr w.heap.size wr g c J/\J.length<=424+y*63/\Below w.heap.size w wr/\w6.heap.size<=wr.heap.size/\(∀G,sa=some ⟨G,0,none⟩->w5.heap.size<=G->G<w6.heap.size->wr.heap[G]?=w6.heap[G]?/\G≠g)) (λ_ _ ii _=>nk-(intOf ii).toNat)
 case atStart=>
  refine⟨0,g5,c5,U,rfl,by omega,by simp,by rw[j3.o],n0.o,by rw[j3.o];omega,l7.o,xe _,λG _ h _=>⟨rfl,?_⟩⟩;have:=s8.o;omega
 clear n0 l7;obtain⟨y,g,c,J,rfl,z2,hT,rfl,a0,d5,K,b4,n⟩:=hrel;by_cases C:y<nk
 ·obtain⟨G,rfl,d2,d3,d9⟩:=n9.o y C;obtain⟨j6,v2⟩:=n G rfl d2 d3;have k0:wr.cell? ⟨G,y,none⟩=some (.int .i64 ((A.getD y 0:Nat):Int)):=(xo (a:=⟨G,y,none⟩) j6).trans d9;have k4:y<A.length:=by rw[<-n3.o];exact C
  obtain⟨o,ho,l1⟩:=m4.o (A.getD y 0) (by simp[Wc,k4]);have p8:A.take (y+1)=A.take y++[A.getD y 0]:=ZY k4;have a3:A.getD y 0<=2147483647:=by rw[l1];exact D.o.oid o ho
  have s:=P.o.below K;have z1:Zu os (A.getD y 0)<=2147483647:=by rw[l1,uD D.o.oids ho];exact(o0.o.ord o ho).2
  obtain⟨Do,Z,a2⟩:=s.maps.o;obtain⟨gc,x5,k1,_⟩:=xaU Z AV Ii WZ (Mg wr) (qS a3);rw[a2.val _ a3]at k1;have p4:gc=((Zu os (A.getD y 0):Nat):Int):=by simpa using k1.symm
  subst p4;have c2:=s.c2;have HQ:Ha (∀p∈bH os (A.getD y 0) ls ls.length,p.2<=2147483647):=λp hp=>by
   obtain⟨q1,q2⟩:=dM hp;have W:=lL q2;rw[<-D.o.hd p.1 q1]at W;have:=(P.o.ok _ (zf q1)).sum;omega
  have q9:(bH os (A.getD y 0) ls ls.length).length<=30:=xj (jI _ _ _ _) P.o.room;have j1:Ha (J++Ku os ls (A.getD y 0)=U++(A.take (y+1)).flatMap (Ku os ls)):=by unfold Ha;rw[p8,yw,hT];simp
  have f6:Ha (Ku os ls (A.getD y 0)=[A.getD y 0,Zu os (A.getD y 0)]++zA ls (bH os (A.getD y 0) ls ls.length)):=rfl;have t:=zb a0;have f:=zb K;have c6:=zb n;obtain⟨m2,hm⟩:∃m2,m2=J.length:=⟨_,rfl⟩
  have f4:=zb hm;rw[<-hm]at d5 ⊢;generalize Zu os (A.getD y 0)=gd at *;generalize A.getD y 0=ao at *;clear a0 K n s d9 p8 hT hm Z a2 k1 l1 ho k4;go_wp2_with (at_builtin;refine YD _ rfl _ _ 81 rfl w.heap.size 2 i0 (.int .i64 0) 1 8 Mn hi b5 b6 b7 rfl (by decide) _ m2 (I J) rfl ?s1 ⟨wr.heap.size,0,none⟩ 2 2 [.int .i64 ao,.int .i64 gd] rfl rfl ?s3 ?s4 (by decide) ?s5 ?s6 ?s7 _ rfl ?_)
  case s1=>have:=t.o.below (VE wr (.cells #[.int .i64 ao,.int .i64 gd] 2));unfold Nr at this;rw[<-f4.o]at this;exact this
  case s3=>exact jU _ _ _ _ rfl
  case s4=>intro u hu;simp at hu;rcases hu with rfl|rfl<;>rfl
  case s5=>unfold maxLen;omega
  case s6=>omega
  case s7=>have W:=f.o.size;simp;omega
  intro g3 c3 w3 e3 h0 h9 p9;have m9:Ha (Nr w.heap.size w3 g3 c3 (J++[ao,gd])):=by
   unfold Ha Nr;rw[xc,<-f4.o,show I (J++[ao,gd])=I J++[.int .i64 ao,.int .i64 gd] by simp[I]];exact e3
  have g0:=VE wr (.cells #[.int .i64 ao,.int .i64 gd] 2);have e7:Ha (Below w.heap.size w w3):=(f.o.trans (g0.mono f.o.size)).grown h0 (by have W:=f.o.size;simp;omega) (λz hz=>by cases hz;exact t.o.lt.1);have r0:w6.heap.size<=w3.heap.size:=xj b4 (xj g0.size h0.size);have m1:Ha (∀B,some (⟨G,0,none⟩:Addr)=some ⟨B,0,none⟩->w5.heap.size<=B->B<w6.heap.size->w3.heap[B]?=w6.heap[B]?/\B≠g3):=λB e W h2=>by
   obtain⟨q1,q2⟩:=c6.o B e W h2;obtain⟨q3,q4⟩:=vE g0 h0 (xl h2 b4) q2 (g':=g3) (h9.elim (λh=>Or.inl h) (λh=>Or.inr (by rw[h];simp)));exact⟨q3.trans q1,q4⟩
  have j7:=P.o.below e7.o;have i6:=zb (qW j7 D.o.ids ao a3);obtain⟨E,l9⟩:=Ww (bH os ao ls ls.length);have s0:Ha (∀p∈E,p.1<ls.length):=λp hp=>by rw[l9.o]at hp;exact(dM hp).1
  rw[<-l9.o]at i6 HQ q9 f6;have n5:=zb j7;clear e3 h0 h9 p9 g0 j7 t f c6 x5 c2 k0 b4;go_wp2_with (go_at_call 128;refine(i6.o).mono ?_;rintro e w4 ⟨g6,lv,rfl,b3⟩);obtain⟨la,y7,x6⟩:=zj b3;subst x6;have j8:=n5.o.below g6;refine(LZ (oH b3 (Nat.zero_le _)) q9 HQ.o j8.lots j8.ok s0.o).mono ?_
  rintro e w7 ⟨p0,g7,c7,rfl,l0⟩;have a6:=g6.trans (p0.mono g6.size);obtain⟨Q,a1⟩:=Ww (zA ls E);rw[<-a1.o]at l0 f6;have v8:Q.length<=61:=by rw[a1.o,zA,List.length_cons,dF];omega
  have o5:0<Q.length:=by rw[a1.o,zA,List.length_cons];omega
  rw[show(Value.slice (some ⟨g7,0,none⟩) (zA ls E).length c7)=Value.slice (some ⟨g7,0,none⟩) Q.length c7 by rw[a1.o]];have n4:=zb (λj u hj=>l0.cells (g:=g7) rfl j u hj);have i8:=zb (m9.o.below a6);have e8:Ha (Below w.heap.size w w7):=e7.o.trans (a6.mono e7.o.size);obtain⟨q,hq⟩:∃q,q=Q.length:=⟨_,rfl⟩
  have n7:=zb hq;rw[<-hq]at v8 o5 ⊢;have b8:=zb a6;clear g6 p0 b3 l0 j8 hq i6 n5 a6;go_wp2_with (at_builtin;refine YD _ rfl _ _ 81 rfl w.heap.size 2 i0 (.int .i64 0) 1 8 Mn hi b5 b6 b7 rfl (by decide) _ (m2+2) (I (J++[ao,gd])) rfl ?t1 ⟨g7,0,none⟩ q c7 (I Q) rfl ?t2 n4.o (Il Q) o5 ?t5 ?t6 ?t7 _ rfl ?_)
  case t1=>have:=i8.o;unfold Nr at this;rw[xc,<-f4.o]at this;exact this
  case t2=>rw[vA,n7.o];omega
  case t5=>unfold maxLen;omega
  case t6=>omega
  case t7=>exact e8.o.size
  intro g8 c8 w8 q7 h4 i2 q5;have k6:(J++Ku os ls ao).length=m2+2+q:=by rw[f6.o,xc,xc,<-f4.o,<-n7.o];simp;omega
  have t4:Ha (Nr w.heap.size w8 g8 c8 (J++Ku os ls ao)):=by
   unfold Ha Nr;rw[k6,f6.o,show I (J++([ao,gd]++Q))=I (J++[ao,gd])++I Q by simp[I]];exact q7
  have r9:Ha (Below w.heap.size w w8):=e8.o.grown h4 e8.o.size (λz hz=>by cases hz;exact i8.o.lt.1);have t0:Ha (∀B,some (⟨G,0,none⟩:Addr)=some ⟨B,0,none⟩->w5.heap.size<=B->B<w6.heap.size->w8.heap[B]?=w6.heap[B]?/\B≠g8):=λB e W h2=>by
   obtain⟨q1,q2⟩:=m1.o B e W h2;obtain⟨q3,q4⟩:=vE b8.o h4 (xl h2 r0) q2 i2;exact⟨q3.trans q1,q4⟩
  have y1:w6.heap.size<=w8.heap.size:=xj r0 (xj b8.o.size h4.size);clear q7 h4 i2 q5 i8 e8 b8 n4 m9 e7 m1;go_wp2_with fail;go_roundw
  case rel=>exact⟨y+1,g8,c8,J++Ku os ls ao,by go_num,by omega,j1.o,by rw[k6],t4.o,by rw[k6];omega,r9.o,y1,t0.o⟩
  simp[intOf];omega
 have x3:y=nk:=by omega
 subst x3;have p7:A.take y=A:=Xy (by rw[<-n3.o];exact xe _);rw[p7]at hT;have s:=P.o.below K;obtain⟨Dr,b1,d4⟩:=s.maps.r;have H:=xaf b1 OC;rw[d4.size]at H;have c4:=s.c4;have t:=zb a0;have f:=zb K;have u0:=zb hT;have x8:=P.o.maps.rc.len;obtain⟨m3,hm⟩:∃m3,m3=J.length:=⟨_,rfl⟩
 have m5:=zb hm;rw[<-hm]at d5 ⊢;obtain⟨nr,e2⟩:∃nr,nr=rj.length:=⟨_,rfl⟩
 have d1:=zb e2;rw[<-e2]at H x8;clear a0 K n s hT hm e2 b1 d4 C p7;go_wp2_with (at_builtin;refine YD _ rfl _ _ 81 rfl w.heap.size 2 i0 (.int .i64 0) 1 8 Mn hi b5 b6 b7 rfl (by decide) _ m3 (I J) rfl ?u1 ⟨wr.heap.size,0,none⟩ 1 1 [.int .i64 nr] rfl rfl ?u3 ?u4 (by decide) ?u5 ?u6 ?u7 _ rfl ?_)
 case u1=>have:=t.o.below (VE wr (.cells #[.int .i64 nr] 2));unfold Nr at this;rw[<-m5.o]at this;exact this
 case u3=>exact Zy _ _ _
 case u4=>intro u hu;simp at hu;subst hu;rfl
 case u5=>unfold maxLen;omega
 case u6=>omega
 case u7=>have W:=f.o.size;simp;omega
 intro g9 c9 w9 q8 p3 o8 q6;obtain⟨V,j4⟩:∃V:List Nat,Ha (V=J++[nr]):=⟨_,rfl⟩
 have j5:Ha (V.length=m3+1):=by unfold Ha;rw[j4.o,xc,<-m5.o];rfl
 have n1:Ha (Nr w.heap.size w9 g9 c9 V):=by
  unfold Ha Nr;rw[j5.o,j4.o,show I (J++[nr])=I J++[.int .i64 nr] by simp[I]];exact q8
 have e9:Ha (Below w.heap.size w w9):=(f.o.alloc f.o.size _).grown p3 (by have W:=f.o.size;simp;omega) (λz hz=>by cases hz;exact t.o.lt.1);have f9:=P.o.below e9.o;have u9:=f9.c4;clear q8 p3 o8 q6 t f H c4;go_wp2_with (go_at_call 130;refine(JN _ _).mono ?_;rintro e w' ⟨rfl,rfl⟩);have a5:=VE w9 (.cells #[.map (some M.r)] 114);obtain⟨Dr,b1,d4⟩:=f9.maps.r;refine(DU (w:=w9.alloc (.cells #[.map (some M.r)] 114)) (Bm:=w9.heap.size) (b:=M.r) f9.maps.rc d4 (by simp) (by rw[za (xp w9 _)];rfl) (zu b1 (a5.block M.r (XG b1)))).mono ?_
 rintro e wA ⟨p1,sv,rfl,h6⟩;have d8:=a5.trans (p1.mono a5.size);have l8:Ha (Below w.heap.size w wA):=e9.o.trans (d8.mono e9.o.size);have n2:=zb (n1.o.below d8);obtain⟨R3,j0⟩:=Ww (cA rj);have f7:Ha (nr=R3.length):=by unfold Ha;rw[j0.o,eV];exact d1.o
 rw[<-j0.o,<-d1.o]at h6;obtain⟨ra,i3,x9⟩:=zj h6;subst x9;have n8:=zb h6;clear a5 b1 d4 p1 d8 h6 e9 n1 f9 u9;go_wp2_with fail;go_loopw [4,10,86] (λnv _ ii wr=>∃(k3 g c:Nat) (X:List Nat),ii=.int .i64 k3/\k3<=nr/\X=V++(R3.take k3).flatMap (λp=>[p.1,p.2])/\nv=.slice (some ⟨g,0,none⟩) X.length c/\X.length<=1100+k3*2/\Nr w.heap.size wr g c X/\(∃a4,wr.ownsRow a4 202 2 (.slice ra nr i3) nr (zl R3))/\Below w.heap.size w wr) (λ_ _ ii _=>nr-(intOf ii).toNat)
 case atStart=>exact⟨0,g9,c9,V,rfl,by omega,by simp,by rw[j5.o],by rw[j5.o];omega,n2.o,⟨_,n8.o⟩,l8.o⟩
 clear n2 n8 l8;obtain⟨k3,g,c,X,rfl,hk,hX,rfl,v9,a8,⟨a4,h8⟩,K⟩:=hrel;by_cases C:k3<nr
 ·obtain⟨G,rfl,y6,g1,g2⟩:=eT h8 k3 (by rw[<-f7.o];exact C) f7.o;have o1:Ha (X++[(R3.getD k3 (0,0)).1,(R3.getD k3 (0,0)).2]=V++(R3.take (k3+1)).flatMap (λp=>[p.1,p.2])):=by
   unfold Ha;rw[ZY (d:=(0,0)) (by rw[<-f7.o];exact C),yw,hX];simp
  generalize R3.getD k3 (0,0)=x at *;obtain⟨x1,x2⟩:=x;simp only at g1 g2 o1;have hB:=VE wr (.cells #[.int .i64 x1,.int .i64 x2] 202);have f5:=zb (a8.below hB);have i9:=zb (zg h8 hB);have f0:=zb (K.trans (hB.mono K.size));have z4:=K.size;obtain⟨mx,k7⟩:∃mx,mx=X.length:=⟨_,rfl⟩
  have m6:=zb k7;rw[<-k7]at v9 ⊢;clear a8 K hB h8 hX k7;go_wp2_with (at_builtin;refine YD _ rfl _ _ 81 rfl w.heap.size 2 i0 (.int .i64 0) 1 8 Mn hi b5 b6 b7 rfl (by decide) _ mx (I X) rfl ?v1 ⟨wr.heap.size+1,0,none⟩ 2 2 [.int .i64 x1,.int .i64 x2] rfl rfl ?v3 ?v4 (by decide) ?v5 ?v6 ?v7 _ rfl ?_)
  case v1=>have:=f5.o.below (VE _ (.cells #[.int .i64 x1,.int .i64 x2] 2));unfold Nr at this;rw[<-m6.o]at this;exact this
  case v3=>exact jU _ _ _ _ (by simp)
  case v4=>intro u hu;simp at hu;rcases hu with rfl|rfl<;>rfl
  case v5=>unfold maxLen;omega
  case v6=>omega
  case v7=>simp;omega
  intro o3 o2 l4 e4 b2 d6 e0;have k5:(X++[x1,x2]).length=mx+2:=by rw[xc,<-m6.o];rfl
  have t9:Ha (Nr w.heap.size l4 o3 o2 (X++[x1,x2])):=by
   unfold Ha Nr;rw[k5,show I (X++[x1,x2])=I X++[.int .i64 x1,.int .i64 x2] by simp[I]];exact e4
  have a9:Ha (Below w.heap.size w l4):=(f0.o.alloc f0.o.size _).grown b2 (by have:=f0.o.size;simp at *;omega) (λq hq=>by cases hq;exact f5.o.lt.1);have n6:Ha (l4.ownsRow a4 202 2 (.slice (some ⟨G,0,none⟩) nr i3) nr (zl R3)):=by
   refine zd (i9.o.alloc (.cells #[.int .i64 x1,.int .i64 x2] 2)) (λq hq=>?_);obtain⟨cs,p2⟩:=zh (i9.o.alloc (.cells #[.int .i64 x1,.int .i64 x2] 2)) hq;obtain⟨ds,w0⟩:=zh (World.ownsRow.alloc f5.o (.cells #[.int .i64 x1,.int .i64 x2] 2)) (g:=g) rfl;exact b2.block q (zc p2) (λe=>zt p2 w0 (by decide) (xt e))
  clear e4 b2 d6 e0 f5 i9 f0 g1 g2;go_wp2_with fail;go_roundw
  case rel=>exact⟨k3+1,o3,o2,X++[x1,x2],by go_num,by omega,o1.o,by rw[k5],by rw[k5];omega,t9.o,⟨a4,n6.o⟩,a9.o⟩
  simp[intOf];omega
 have x4:k3=nr:=by omega
 subst x4;have HE:Ha (pN td os rj ls=X):=by
  have e1:R3.take k3=R3:=Xy (by rw[f7.o];exact xe _);unfold Ha pN;rw[hX,e1,j4.o,u0.o,j2.o,u2.o,j0.o,d1.o,t8.o,f2.o,f1.o,b9.o,d0.o]
 have HO:=zb a8;clear C a8 h8 hX;go_wp2_with fail;go_ret;refine⟨K,g,c,by rw[HE.o];rfl,?_⟩;rw[HE.o];exact HO.o
def JH(c:Nat)(K:c<256)(b cap:Nat)(a:List Nat)(B:∀n∈a,n<9223372036854775808)(W:a.length<=2000)(H:0<a.length)(w:World)(A:b<w.heap.size)
  (r:∀j,j<a.length->w.cell? ⟨b,j,none⟩=some (.int .i64 (a.getD j 0:Nat))) :
  Calls prog 47 #[.int .u8 (c:Int),.slice (some ⟨b,0,none⟩) a.length cap] w λe w'=>e=.returned (.string ⟨(UInt8.ofNat c::Pl.toldB a).toArray⟩)/\Below w.heap.size w w':=by
 have v:(w.alloc (.cells #[.int .u8 (c:Int)] 5)).ownsRow w.heap.size 5 1 (.slice (some ⟨w.heap.size,0,none⟩) 1 1) 1 (U8 [UInt8.ofNat c]):=by
  have h:=Yb (e:=5) (size:=1) w #[.int .u8 (c:Int)] 1 (xe _) (by unfold maxLen;simp) rfl;have e:U8 [UInt8.ofNat c]=[Value.int .u8 (c:Int)]:=by simp[U8,xaO K]
  rw[e];exact h
 have m:=zb v;clear v;generalize UInt8.ofNat c=u at *;go_enter func47,ntmps47;go_wp2_with fail;go_loopw [5,7,12] (λt _ i wr=>∃k:Nat,k<=a.length/\i=.int .i64 k/\wr.ownsRow w.heap.size 5 1 t (u::Pl.toldB (a.take k)).length (U8 (u::Pl.toldB (a.take k)))/\w.heap.size<=wr.heap.size/\Below w.heap.size w wr) (λ_ _ i _=>a.length-(intOf i).toNat)
 case atStart=>exact⟨0,by omega,rfl,m.o,by simp,(xm _ _).alloc (xe _) _⟩
 clear m;obtain⟨k,T,rfl,l,y,z⟩:=hrel;by_cases f:k<a.length
 ·obtain⟨n,d⟩:∃n,n=a.getD k 0:=⟨_,rfl⟩
  have N:wr.cell? ⟨b,k,none⟩=some (.int .i64 n):=(z.cell (by exact A)).trans (by rw[d];exact r k f);have C:n<9223372036854775808:=by rw[d];exact B _ (by simp[Wc,f])
  have E:(u::Pl.toldB (a.take k)).length<=1000000:=by
   have:=Pl.toldB_len (a.take k) (λx Q=>B x (Yg Q))
   have R:(a.take k).length<=k:=Yw _ _;simp;omega
  have J:Ha (u::Pl.toldB (a.take (k+1))=(u::Pl.toldB (a.take k))++Pl.num n):=by rw[Pl.toldB_take a k f,<-d];rfl
  have G:=zb (kN w.heap.size _ _ n C E wr y l);rw[<-J.o]at G;clear d r B l;go_wp2_with (go_at_call 64;refine(G.o).mono ?_;rintro e w1 ⟨v',rfl,D,q⟩);go_roundw
  case rel=>exact⟨k+1,by omega,by go_num,D,xj y q.size,z.trans q⟩
  simp[intOf];omega
 have s:a.take k=a:=Xy (by omega);rw[s,List.length_cons]at l;obtain⟨g,p,F,S,P⟩:=zG l (by simp);rw[F]at l;rw[F];have M:=gI wr _ g _ p _ (by simp) l;clear l F s;go_wp2_with fail;go_ret;exact⟨rfl,z⟩
def Hn{M:Mx}{v:Value}{u:List Nat}{q:List Value}(h:PV os rj w S M v td u q ls)(a:Good os ls)(d:Vt os ls):Calls prog 55 #[.pointer (some ⟨S,0,none⟩)] w λe w'=>e=.returned (.string ⟨(WO td os rj ls).toArray⟩)/\Below w.heap.size w w':=by
 have k:=Tiny.mk h.today h.ok h.room a d h.maps.rc;have r:=zb (NK h a d);rw[k.same]at r;have z:=k.len;have m:=zb k.small;have t:Ha (0<(WS td os rj ls).length):=by unfold Ha;simp[WS]
 have l:Ha (WO td os rj ls=13::Pl.toldB (WS td os rj ls)):=rfl;rw[l.o];generalize WS td os rj ls=ns at *;clear h a d k;go_enter func55,ntmps55;go_wp2_with (go_at_call 79;refine(r.o).mono ?_;rintro e w1 ⟨i,g,c,rfl,b⟩);have s:=zb (JH 13 (by omega) g c ns (λn y=>by have:=m.o n y;omega) (by omega) t.o w1 b.lt.2 (λj x=>by
  have:=World.ownsRow.cellAt b j (by omega)
  rw[this];simp[I,Wc,x]))
 have f:=zb i;clear i b;go_wp2_with (go_at_call 47;refine(s.o).mono ?_;rintro e w2 ⟨rfl,p⟩);go_ret;exact⟨rfl,f.o.trans (p.mono f.o.size)⟩
def PS.anew{lg f:List UInt8}{Z m:Nat->Prop}{w5:World}{c:Nat}{lv a:Value}(h:PS lg os rj Z w c td ls S m lv)(y:f≠[])
  (t:w5.ownsRow w.heap.size 5 1 a f.length (U8 f)) (q:Below w.heap.size w w5) (l:∀k,m k->k<w.heap.size) :
  Kp Z w (w5.setCell ⟨c,1,none⟩ a)/\PL f os rj (Zn Z w) (w5.setCell ⟨c,1,none⟩ a) c td ls:=by
 have r:=zc h.here;have n:=(q.block c r).trans h.here;have i:=xu w5 c 1 _ 91 a n;have g:∀k,k≠c->(w5.setCell ⟨c,1,none⟩ a).heap[k]?=w5.heap[k]?:=λk b=>xd _ _ _ _ b
 have d:∀k,a.ownBlock=some k->w.heap.size<=k:=λk b=>(t.lt k b).1
 refine⟨(Wo q).setCell (p:=⟨c,1,none⟩) (Or.inl h.inZ) _,S,m,a,i,Or.inl h.inZ,h.nin,λk b=>Or.inl (h.sub k b),?_,⟨zd (oH t (Nat.zero_le _)) (λk b=>g k (λe=>?_)),λe=>absurd e y⟩,λk b=>?_⟩
 ·obtain⟨M,v,u,s,x,j⟩:=h.pi;exact⟨M,v,u,s,x.congr j (λk b=>(g k (λe=>h.nin (e ▸ b))).trans (q.block k (l k b))),j⟩
 ·have:=d k b;omega
 have:=d k b
 exact⟨Or.inr this,by omega,λz=>by have:=l k z;omega⟩
def Ap{lg:List UInt8}{Z:Nat->Prop}{i:Nat}(h:PL lg os rj Z w i td ls)(f:Good os ls)(g:Vt os ls):Calls prog 39 #[.pointer (some ⟨i,0,none⟩)] w λe w'=>e=.returned (.tuple #[])/\Kp Z w w'/\PL (bM (WO td os rj ls)) os rj (Zn Z w) w' i td ls:=by
 obtain⟨S,N,lv,a⟩:=h.ps;have a:=a.bnd;obtain⟨M,v,P,H,j,u⟩:=a.pi;have c0:w.cell? ⟨i,0,none⟩=some (.pointer (some ⟨S,0,none⟩)):=by rw[za a.here];rfl
 have s:=zb (Hn j f g);have G:=(Tiny.mk j.today j.ok j.room f g j.maps.rc).bytes;have l:=zb (λ(w1:World)=>iE w1.heap.size (.slice none 0 0) [] ⟨(WO td os rj ls).toArray⟩ (by rw[YY];simp;omega) (by simp) w1 (xe _) (Xx _ _ _ _));have b:=zb a;have q:(⟨(WO td os rj ls).toArray⟩:ByteArray).data.toList=WO td os rj ls:=by simp
 rw[q]at l;generalize WO td os rj ls=B at *;have d:0<([]++bM B).length:=by have:=Yx.2 (lC B);simpa using this
 clear h a j u f g q;go_enter func39,ntmps39;go_wp2_with (first
  |(go_at_call 55;refine(s.o).mono ?_;rintro e w1 ⟨rfl,c⟩)
  |(go_at_call 54;refine(l.o _).mono ?_;rintro e w5 ⟨Q,rfl,r,t,E⟩;have p:Below w.heap.size w w5:=c.grown t c.size (λk x=>by cases x);obtain⟨D,m,z,_,_⟩:=zL r d;subst z;have n:=(p.block i (zc b.o.here)).trans b.o.here;have A:w5.cell? ⟨i,1,none⟩=some lv:=(by rw[za n];rfl);have C:=ze n 1))
 go_end0
 have F:=c.size;have y:w5.ownsRow w.heap.size 5 1 (.slice (some ⟨D,0,none⟩) (bM B).length m) (bM B).length (U8 (bM B)):=oH (by simpa using r) F;obtain⟨J,K⟩:=b.o.anew (lC B) y p (λk x=>x.2);refine⟨rfl,?_,?_⟩
 ·simpa using J
 simpa using K
