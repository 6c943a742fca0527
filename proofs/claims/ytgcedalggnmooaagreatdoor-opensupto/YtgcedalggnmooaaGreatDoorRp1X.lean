import Derived.Test.YtgcedalggnmooaaGreatDoorAn1X
set_option linter.all false
set_option maxRecDepth 100000
set_option maxHeartbeats 3200000
namespace Go.Proofs.YtgcedalggnmooaaGreatDoor
open Go.RowKit
theorem Ma(a b:Nat):WideAt.IsKeyLit (eT a b):=trivial
theorem yX(rcs:List (Nat×Nat))(p q:Nat×Nat):(rcs++[p]).contains q=(rcs.contains q||q==p):=by
 rw[xz];simp
theorem RD.put{rcs:List (Nat×Nat)}{D:DataW Unit}(h:RD rcs D)(m:Maps.Tidy D){a b:Nat}(g:a<=2147483647)(i:b<=2147483647)(s:rcs.contains (a,b)=false)(d:DataW Unit):RD (rcs++[(a,b)]) (D.put (eT a b) d) where
 size:=by rw[Maps.size_put m,h.has a b g i,s,h.size];simp
 has:=λc e j k=>by
  rw[yX];by_cases f:(c,e)=(a,b)
  ·cases f;rw[xaG m.isMap (Ma _ _)];simp
  rw[YJ (λx=>f (by obtain⟨q,r⟩:=jE j k g i x;rw[q,r])),h.has c e j k];have:((c,e)==(a,b))=false:=by rw[xr];exact f
  rw[this,YE]
 keys:=λn l=>by
  by_cases f:n=eT a b
  ·exact⟨(a,b),by simp,f⟩
  rw[YJ f]at l;obtain⟨p,t,e⟩:=h.keys n l;exact⟨p,by simp[t],e⟩
variable {rcs:List (Nat×Nat)}
theorem Rc.put(h:Rc rcs){a b:Nat}(g:a<=2147483647)(i:b<=2147483647)(d:rcs.contains (a,b)=false)(k:¬10<=rcs.length):Rc (rcs++[(a,b)]) where
 nodup:=by
  rw[Xx];refine⟨h.nodup,by simp,λx j y f e=>?_⟩;simp at f;subst f;subst e;have:rcs.contains (a,b)=true:=by rw[XG];exact j
  rw[this]at d;cases d
 len:=by simp;omega
 fits:=λp c=>by
  rcases xw.1 c with c|c
  ·exact h.fits p c
  simp at c;subst c;exact⟨g,i⟩
theorem RD.del{rcs:List (Nat×Nat)}{D:DataW Unit}(h:RD rcs D)(g:Rc rcs)(v:Maps.Tidy D){a b:Nat}(j:a<=2147483647)(l:b<=2147483647)(q:rcs.contains (a,b)=true):RD (rcs.erase (a,b)) (D.del (eT a b)) where
 size:=by
  have i:=Maps.size_del (k:=eT a b) v;rw[h.has a b j l,q,h.size]at i;rw[xap (XG.1 q)];simp at i;omega
 has:=λc e m n=>by
  by_cases d:(c,e)=(a,b)
  ·cases d;rw[xae]
   symm
   rw[Bool.eq_false_iff];intro w;exact(g.nodup.not_mem_erase) (XG.1 w)
  rw[YY (λx=>d (by obtain⟨s,t⟩:=jE m n j l x;rw[s,t])),h.has c e m n];rw[xz,XG,XG,g.nodup.mem_erase_iff];exact⟨λx=>⟨d,x⟩,λx=>x.2⟩
 keys:=λr f=>by
  by_cases d:r=eT a b
  ·subst d;rw[xae]at f;cases f
  rw[YY d]at f;obtain⟨p,u,e⟩:=h.keys r f;refine⟨p,g.nodup.mem_erase_iff.2 ⟨λx=>d (by rw[e,x]),u⟩,e⟩
theorem Rc.del(h:Rc rcs)(p:Nat×Nat):Rc (rcs.erase p) where
 nodup:=h.nodup.erase p
 len:=xj (List.length_erase_le) h.len
 fits:=λq a=>h.fits q (List.mem_of_mem_erase a)
variable {M:Mx}{S td:Nat}{bs:List Nat}{ls:List L}{os:List O}{pvs:List Value}{v:Value}{w:World}
theorem PV.rmap{a:List (Nat×Nat)}{w':World}(h:PV os rcs w S M v td bs pvs ls)(u:w.grownBy w' (some M.r)){n:DataW Unit}{N:Nat}(E:Lj w' M.r N n)(C:RD a n)(D:Rc a):PV os a w' S M v td bs pvs ls:=by
 obtain⟨_,_,y⟩:=h.maps.mr;have m:∀(k:Nat) (l:Array Value) (t:TypeId),w.heap[k]?=some (.cells l t (0,0))->w'.heap[k]?=w.heap[k]?:=λk l t z=>u.block k (zc z) (λe=>Zb z y (xq e))
 have c:=h.maps;obtain⟨B,f,s⟩:=c.o;obtain⟨A,d,p⟩:=c.h;exact {
  store:=(m _ _ _ h.store).trans h.store
  maps:=⟨⟨n,Z5 E,C⟩,D,⟨B,zz f (u.block _ (Xr f) (λe=>c.ro (xq e).symm)),s⟩,⟨A,zz d (u.block _ (Xr d) (λe=>c.rh (xq e).symm)),p⟩,c.ro,c.rh,c.oh⟩
  row:=ze h.row (λg x=>by obtain⟨l,b⟩:=zi h.row x;exact m _ _ _ b)
  len:=h.len
  plen:=h.plen
  lot:=λi j=>(m _ _ _ (h.lot i j)).trans (h.lot i j)
  par:=λi j=>(h.par i j).congr (λq F=>by obtain⟨l,b⟩:=(h.par i j).blk F;exact m _ _ _ b)
  nodup:=h.nodup
  today:=h.today
  ok:=h.ok
  room:=h.room }
variable {D:DataW Unit}
theorem IW{b n:Nat}(h:Lj w b n D)(hd:RD rcs D)(x y:Nat)(a:x<=2147483647)(c:y<=2147483647):(Instr.lookup 114 (.map (some b)) (.agg #[.int .i64 x,.int .i64 y]) true).run Tryz.prog w=.ok (.tuple #[.agg #[],.bool (rcs.contains (x,y))]) w:=by
 obtain⟨v,ps,d,e⟩:=xab h KY Qi (rA w) xat (IJ a c);obtain⟨rfl,_⟩:=unitElem_inv e;rw[d,hd.has x y a c]
theorem eF(h:PV os rcs w S M v td bs pvs ls)(x y:Nat)(b:x<=2147483647)(c:y<=2147483647):Calls Tryz.prog 155 #[.pointer (some ⟨S,0,none⟩),.agg #[.int .i64 x,.int .i64 y]] w λe w'=>e=.returned (.bool (rcs.contains (x,y)))/\Below w.heap.size w w':=by
 have i:=TQ w (Obj.cells #[.int .i64 x,.int .i64 y] 202);have d:=h.below i;obtain⟨D,a,hd⟩:=d.maps.r;have j:=IW (w:=(w.alloc (Obj.cells #[.int .i64 x,.int .i64 y] 202)).drew) a hd x y b c;have f:=IW a hd x y b c;have g:=IW (w:=((w.alloc (Obj.cells #[.int .i64 x,.int .i64 y] 202)).alloc (Obj.cells #[] 206)).drew) (World.ownsMap.alloc a _) hd x y b c;have c4:=h.c4;have k:=zc h.store;generalize rcs.contains (x,y)=bb at *;clear h a hd d;go_enter Tryz.func155,Tryz.ntmps155;go_wp2_with fail;go_region
 all_goals (go_wp2_with fail;go_ret;exact⟨rfl,((TQ w _).alloc (by simp) _).drew⟩)
def zZ(rcs:List (Nat×Nat))(a m:Nat):Nat:=if rcs.contains (a,m) then 0 else 10
def Zg(rcs:List (Nat×Nat))(a m:Nat):List (Nat×Nat):=if rcs.contains (a,m) then rcs.erase (a,m) else rcs
theorem Dm(h:PV os rcs w S M v td bs pvs ls)(a m:Nat)(E:a<=2147483647)(F:m<=2147483647):Calls Tryz.prog 105 #[.pointer (some ⟨S,0,none⟩),.agg #[.int .i64 a,.int .i64 m]] w λe w'=>Kp (λk=>k=M.r) w w'/\e=.returned (.int .i64 (zZ rcs a m:Int))/\PV os (Zg rcs a m) w' S M v td bs pvs ls:=by
 have y:=(TQ w (Obj.cells #[.int .i64 a,.int .i64 m] 165)).alloc (by simp) (Obj.cells #[.int .i64 a,.int .i64 m] 202);have x:=h.below y;have u:=zb (eF x a m E F);have l:=xo (w.alloc (Obj.cells #[.int .i64 a,.int .i64 m] 165)) (Obj.cells #[.int .i64 a,.int .i64 m] 202);have H:=zb x;have t:=zb y
 cases i:rcs.contains (a,m) with
 |false=>
  have z:Hid (zZ rcs a m=10):=by unfold Hid zZ;rw[i];rfl
  have C:Hid (Zg rcs a m=rcs):=by unfold Hid Zg;rw[i];rfl
  rw[i]at u;rw[z.out,C.out];clear i h x l y;go_enter Tryz.func105,Tryz.ntmps105;go_wp2_with (go_at_call 155;refine u.mono ?_;rintro e w1 ⟨rfl,b⟩);go_ret;exact⟨Ut (t.trans (b.mono t.size)),rfl,H.below b⟩
 |true=>
  have z:Hid (zZ rcs a m=0):=by unfold Hid zZ;rw[i];rfl
  have C:Hid (Zg rcs a m=rcs.erase (a,m)):=by unfold Hid Zg;rw[i];rfl
  have p:=zb i;rw[i]at u;rw[z.out,C.out];have n:=zb l;clear i h x l y;go_enter Tryz.func105,Tryz.ntmps105;go_wp2_with fail;refine u.mono ?_
  rintro e w1 ⟨rfl,b⟩;have f:=H.below b;have d:=(b.block _ (zc n)).trans n;simp only[xbB]at d;have N:w1.cell? ⟨w.heap.size+1,0,none⟩=some (.int .i64 a):=by rw[za d];rfl
  have P:w1.cell? ⟨w.heap.size+1,1,none⟩=some (.int .i64 m):=by rw[za d];rfl
  have Q:=f.c4;obtain⟨D,G,s⟩:=f.maps.r;obtain⟨K,J,g,c⟩:=xbg (w:=w1.drew) G KY Qi (IJ E F) 0;have j:=c.grown;have q:=(f.below (xg _ _).drew).rmap j g (s.del f.maps.rc (yl G KY) E F p) (f.maps.rc.del _);have B:=zb q;have A:Hid (Kp (λk=>k=M.r) w K):=(Ut ((t.trans (b.mono t.size)).drew)).trans (rK c (Or.inl rfl));clear G s g c j q f d b;go_wp2_with fail;go_region;go_wp2_with fail;go_ret;exact⟨A,rfl,B⟩
def gL(ls:List L)(f:Nat->Bool)(k:Nat):List Nat:=((TX ls).take k).filter (pR ls f)
theorem Iy{f:Nat->Bool}{k:Nat}(a:k<ls.length)(h:pR ls f ((TX ls).getD k 0)=true):gL ls f (k+1)=gL ls f k++[(TX ls).getD k 0]:=by
 unfold gL;rw[DN a,Ys];simp only[List.filter,h]
theorem LZ{f:Nat->Bool}{k:Nat}(a:k<ls.length)(h:pR ls f ((TX ls).getD k 0)=false):gL ls f (k+1)=gL ls f k:=by
 unfold gL;rw[DN a,Ys];simp only[List.filter,h,XR]
theorem Ix(ls:List L)(f:Nat->Bool)(k:Nat):(gL ls f k).length<=k:=xj (yx _ _) (Ym _ _)
theorem Iw(a:∀i j,i<ls.length->j<ls.length->(ls.getD i L0).id=(ls.getD j L0).id->i=j)(n:Nat):gL ls (iO ls n) ls.length=sP ls n:=by
 have e:gL ls (iO ls n) ls.length=(TX ls).filter (pR ls (iO ls n)):=by
  unfold gL;rw[Xh (by rw[fC];exact xc _)]
 rw[e];exact Ef a ((iL ls).filter _) ((GY ls).filter _)
theorem FC(h:PV os rcs w S M v td bs pvs ls)(Q:∀i j,i<ls.length->j<ls.length->(ls.getD i L0).id=(ls.getD j L0).id->i=j)(n:Nat)(hn:n<=2147483647)(e8:0<ls.length):Calls Tryz.prog 156 #[.pointer (some ⟨S,0,none⟩),.int .i64 n] w λe w'=>Below w.heap.size w w'/\∃a cap,e=.returned (.slice a (ZM ls n).length cap)/\LineAt w' bs a (ZM ls n):=by
 have f5:=@run_makeMap Tryz.prog;obtain⟨i0,hi,e3,e4,e5⟩:=XH wH;obtain⟨a,cap,hv,_⟩:=h.shape;have c1:=h.c1;rw[hv]at c1;have e2:=h.room;have b3:=zc h.store;have f3:M.r<w.heap.size:=by obtain⟨_,_,q⟩:=h.maps.mr;exact zc q
 have f2:M.o<w.heap.size:=by obtain⟨_,_,q⟩:=h.maps.mo;exact zc q
 have f1:M.h<w.heap.size:=by obtain⟨_,_,q⟩:=h.maps.mh;exact zc q
 have Z:gV (w.alloc (.map #[] 0)) w.heap.size 0 (.map []):=World.ownsMap_made _ _ _ _;obtain⟨wf,c7,B,P⟩:=yr Z BJ Ni (by unfold maxLen;omega) (sU hn) xat;have a0:Below w.heap.size w wf:=(TQ w _).grown P (TQ w _).size (λk hk=>by cases hk;exact xc _);have t:FD (λm=>m==n) ((DataW.map []).put (dU n) (.agg [])):=by
  have h0:FD (λ_=>false) (DataW.map []:DataW Unit):=λm _=>rfl
  have h1:=h0.put (xbb Z) n (.agg []);have e:(λx=>false||x==n)=λm=>m==n:=by funext x;simp
  rw[e]at h1;exact h1
 have HG:=zb (Ec (h.below a0) B t (by omega) ⟨by omega,by omega,by omega⟩);have HV:=zb hv;have HP:=zb h;have a7:=zb a0;have J:=zb Q;clear h hv Z B P t Q a0;go_enter Tryz.func156,Tryz.ntmps156;go_wp2_with fail;refine HG.mono ?_
 rintro e w1 ⟨rfl,b7,N,D,b9,t⟩;have C:Hid (Below w.heap.size w w1):=a7.grown b7 a7.size (λk hk=>by cases hk;exact xc _);have f0:w1.cell? ⟨S,1,none⟩=some (.slice a ls.length cap):=(C.cell (by exact b3)).trans c1;have b2:=zb b9;have d2:=zb t;have d4:=zb (HP.below C);have a9:=zb (lU d4 J);clear b7 b9 t c7 HG c1;go_wp2_with (go_at_call 123;refine a9.mono ?_;rintro e R ⟨b5,pa,e9,rfl,b4⟩);have a6:=zb b5;have c8:=zb b4;clear b5 b4 a9;go_wp2_with fail;go_loopw [6,8,19] (λlv _ ii wr=>∃k:Nat,k<=ls.length/\ii=.int .i64 k/\wr.ownsRow R.heap.size 241 2 lv (gL ls (iO ls n) k).length (zl bs (ZS ls (gL ls (iO ls n) k)))/\Below R.heap.size R wr) (λ_ _ ii _=>ls.length-(intOf ii).toNat)
 case atStart=>exact⟨0,by omega,rfl,Xi _ _ _ _,xg _ _⟩
 obtain⟨k,hk,rfl,d,hb⟩:=hrel;obtain⟨la,lc,d9⟩:=zm d;subst d9;have b8:=Ix ls (iO ls n) k;have F:Below w1.heap.size w1 wr:=a6.trans (hb.mono a6.size);have E:Below w.heap.size w wr:=C.trans (F.mono C.size);have l:=HP.below E;by_cases z:k<ls.length
 ·obtain⟨G,rfl,_,e7,d6⟩:=(c8.below hb) k (by rw[fC];exact z);have hj:=BQ z;have g:=zb (Iy (f:=iO ls n) z);have s:=zb (LZ (f:=iO ls n) z);generalize (TX ls).getD k 0=j at *;have a4:=l.ok _ (zg hj);have a2:wr.cell? ⟨bs.getD j 0,0,none⟩=some (.int .i64 ((ls.getD j L0).id:Int)):=by rw[l.cl j hj 0];rfl
  have a3:wr.cell? ⟨bs.getD j 0,7,none⟩=some (.int .i64 ((ls.getD j L0).hd:Int)):=by rw[l.cl j hj 7];rfl
  have K:bs.getD j 0<wr.heap.size:=zc (l.lot j hj);have a1:=a4.id;have d8:(ls.getD j L0).hd<=2147483647:=by have:=a4.sum;omega
  have c6:gV wr w.heap.size N D:=zz b2 (F.block _ (Xr b2));have c:=zb (Ip c6 a1 a2);rw[d2.out _ a1]at c;have p:Hid (pR ls (iO ls n) j=(decide (0<(ls.getD j L0).hd)&&iO ls n (ls.getD j L0).id)):=rfl;obtain⟨bk,a8⟩:=UC (bs.getD j 0);rw[<-a8.out]at d6 a2 a3 K c;obtain⟨hd,b0⟩:=UC ((ls.getD j L0).hd);rw[<-b0.out]at a3 d8 p;obtain⟨a5,b1⟩:=UC ((ls.getD j L0).id);rw[<-b1.out]at a2 a1 p c;have d1:Hid (jX ls (λm=>m==n) a5=iO ls n a5):=rfl;rw[d1.out]at c;have X:=zb d;have H:=zb hb;clear l a4 c6 d hb E F;by_cases hh:0<hd
  ·have d7:decide ((0:Int)<(hd:Int))=true:=by simp;omega
   cases hc:iO ls n a5 with
   |true=>
    rw[hc]at c;have HY:=g.out (by rw[p.out,hc];simp[hh]);have d5:=zb HY;clear g s HY hc;obtain⟨hl,T⟩:=UC ((gL ls (iO ls n) k).length);rw[<-T.out]at X b8;rw[<-T.out];go_wp2_with (first
     |(go_at_call 158;refine c.mono ?_;rintro e w2 ⟨rfl,b⟩;have f4:w2.cell? ⟨bk,7,none⟩=some (.int .i64 hd):=(b.cell (by exact K)).trans a3)
     |(at_builtin;refine Xb _ rfl _ _ 197 rfl R.heap.size 241 i0 (.agg #[.pointer none,.int .i64 0]) 2 16 xT hi e3 e4 e5 rfl (by decide) _ hl (zl bs (ZS ls (gL ls (iO ls n) k))) rfl ((zh X b).alloc _) ⟨w2.heap.size,0,none⟩ 1 1 [.pointer (some ⟨bk,0,none⟩),.int .i64 hd] rfl rfl ?c1 ?c2 ?c3 ?c4 ?c5 ?_))
    case c1=>exact Yb w2 _ _ _
    case c2=>intro u hu;simp at hu;rcases hu with rfl|rfl<;>rfl
    case c3=>unfold maxLen;omega
    case c4=>omega
    case c5=>have:=H.size;have:=b.size;simp;omega
    intro e6 w6 A y e0;have b6:Below R.heap.size R w6:=((H.trans (b.mono H.size)).alloc (by have:=H.size;have:=b.size;omega) _).grown y (by have:=H.size;have:=b.size;simp;omega) (λq hq=>(X.lt q hq).1);have d3:Hid (w6.ownsRow R.heap.size 241 2 e6 (gL ls (iO ls n) (k+1)).length (zl bs (ZS ls (gL ls (iO ls n) (k+1))))):=by
     unfold Hid;rw[d5.out,yA,aE,xb,Xc,<-T.out,<-b0.out,<-a8.out];exact A
    have d0:=zb b6;clear A y e0 b6 b;go_wp2_with fail;go_roundw
    case rel=>exact⟨k+1,by omega,by go_num,d3,d0⟩
    simp[intOf];omega
   |false=>
    rw[hc]at c;have W:=zb (s (by rw[p.out,hc];simp));clear g s hc;go_wp2_with (first|(go_at_call 158;refine c.mono ?_;rintro e w2 ⟨rfl,b⟩)|fail);go_roundw
    case rel=>exact⟨k+1,by omega,by go_num,by rw[W.out];exact zh X b,H.trans (b.mono H.size)⟩
    simp[intOf];omega
  have d7:decide ((0:Int)<(hd:Int))=false:=by simp;omega
  have W:=zb (s (by rw[p.out];simp[hh]));clear g s;go_wp2_with fail;go_roundw
  case rel=>exact⟨k+1,by omega,by go_num,by rw[W.out];exact X,H⟩
  simp[intOf];omega
 obtain rfl:k=ls.length:=by omega
 have c9:=zb E;have X:=zb d;have HE:=zb (Iw J n);clear d hb E F l z;go_wp2_with fail;go_ret;have ho:=X.out;rw[HE.out]at ho;refine⟨c9,la,lc,by rw[HE.out];unfold ZM;rw[dL];rfl,?_⟩;intro k hk;unfold ZM at hk ⊢;have e1:wr.ownsRow R.heap.size 241 2 (.slice la (ZS ls (sP ls n)).length lc) (ZS ls (sP ls n)).length (zl bs (ZS ls (sP ls n))):=by rw[dL];exact ho
 exact aK e1 k hk
def zE(rcs:List (Nat×Nat))(ls:List L)(a m:Nat):Nat:=if Ur a ls<ls.length then (if rcs.contains (a,m) then 5 else if 10<=rcs.length then 6 else 0) else 4
def aY(rcs:List (Nat×Nat))(ls:List L)(a m:Nat):List (Nat×Nat):=if zE rcs ls a m=0 then rcs++[(a,m)] else rcs
theorem LineAt.below{w':World}{a:Option Addr}{l:List (Nat×Nat)}(h:LineAt w bs a l)(c:Below w.heap.size w w'):LineAt w' bs a l:=λk g=>by
 obtain⟨G,d,b,e,f⟩:=h k g;exact⟨G,d,xn b c.size,(c.cell (p:=⟨G,k*2,none⟩) b).trans e,(c.cell (p:=⟨G,k*2+1,none⟩) b).trans f⟩
theorem JC(h:PV os rcs w S M v td bs pvs ls)(a m:Nat)(F:a<=2147483647)(H:m<=2147483647)(b:zE rcs ls a m≠0):Calls Tryz.prog 104 #[.pointer (some ⟨S,0,none⟩),.agg #[.int .i64 a,.int .i64 m]] w λe w'=>Below w.heap.size w w'/\e=.returned (.tuple #[.slice none 0 0,.int .i64 (zE rcs ls a m:Int)]):=by
 have y:=TQ w (Obj.cells #[.int .i64 a,.int .i64 m] 163);have c:=y.alloc (by simp) (Obj.cells #[.int .i64 a,.int .i64 m] 202);have A:=h.below y;have g:=h.below c;have s:=zb (Zz A a F);have t:=zb (eF g a m F H);by_cases j:Ur a ls<ls.length
 ·have d:zM bs ls a=.pointer (some ⟨bs.getD (Ur a ls) 0,0,none⟩):=by unfold zM;rw[xd j]
  rw[d]at s;generalize bs.getD (Ur a ls) 0=bb at *
  cases l:rcs.contains (a,m) with
  |true=>
   have p:Hid (zE rcs ls a m=5):=by unfold Hid zE;rw[xd j,l];rfl
   rw[l]at t;rw[p.out];have f:=zb c;clear l h A g j d b y c;go_enter Tryz.func104,Tryz.ntmps104;go_wp2_with (first
    |(go_at_call 148;refine s.mono ?_;rintro e w1 ⟨rfl,rfl⟩)
    |(go_at_call 155;refine t.mono ?_;rintro e w2 ⟨rfl,i⟩))
   go_ret2;exact⟨f.trans (i.mono f.size),rfl⟩
  |false=>
   have u:10<=rcs.length:=by
    unfold zE at b;rw[xd j,l]at b;by_cases q:10<=rcs.length
    ·exact q
    rw[xe q]at b;simp at b
   have p:Hid (zE rcs ls a m=6):=by unfold Hid zE;rw[xd j,l,xd u];rfl
   rw[l]at t;rw[p.out];have f:=zb c;have C:=h.maps.rc.len;have B:=zb g;obtain⟨n,E⟩:=UC rcs.length;rw[<-E.out]at u C;clear l h A g j d b y c;go_enter Tryz.func104,Tryz.ntmps104;go_wp2_with (first|(go_at_call 148;refine s.mono ?_;rintro e w1 ⟨rfl,rfl⟩)|fail);refine t.mono ?_
   rintro e w2 ⟨rfl,i⟩;have k:=B.below i;have c4:=k.c4;obtain⟨D,G,x⟩:=k.maps.r;have z:=xag G Qi;rw[x.size,<-E.out]at z;clear k G x;go_wp2_with fail;go_ret2;exact⟨f.trans (i.mono f.size),rfl⟩
 have d:zM bs ls a=.pointer none:=by unfold zM;rw[xe j]
 rw[d]at s;have p:Hid (zE rcs ls a m=4):=by unfold Hid zE;rw[xe j]
 rw[p.out];clear h A g j d b t c;go_enter Tryz.func104,Tryz.ntmps104;go_wp2_with (go_at_call 148;refine s.mono ?_;rintro e w1 ⟨rfl,rfl⟩);go_ret2;exact⟨y,rfl⟩
theorem pS(f:ls.length<=30)(b:∀x∈ls,L.Ok x)(n:Nat):(ZM ls n).length<=30/\(∀p∈ZM ls n,p.1<ls.length/\p.2<=2147483647)/\(∀k,k<(ZM ls n).length->((ZM ls n).getD k (0,0)).2<=2147483647):=by
 have c:∀p∈ZM ls n,p.1<ls.length/\p.2<=2147483647:=λp g=>by
  obtain⟨i,d,rfl⟩:=Xg.1 g;have a:=(It.1 d).1;have:=(b _ (zg a)).sum;exact⟨a,by show(ls.getD i L0).hd<=_;omega⟩
 refine⟨?_,c,λk e=>(c _ ?_).2⟩
 ·unfold ZM;rw[dL];exact xj (Ir ls n) f
 simp[Ul,e]
theorem JD(h:PV os rcs w S M v td bs pvs ls)(A:∀i j,i<ls.length->j<ls.length->(ls.getD i L0).id=(ls.getD j L0).id->i=j)(a m:Nat)(J:a<=2147483647)(h2:m<=2147483647)(hi:Ur a ls<ls.length)(hc:rcs.contains (a,m)=false)(W:¬10<=rcs.length):Calls Tryz.prog 104 #[.pointer (some ⟨S,0,none⟩),.agg #[.int .i64 a,.int .i64 m]] w λe w'=>Kp (λk=>k=M.r) w w'/\PV os (rcs++[(a,m)]) w' S M v td bs pvs ls /\
   ∃g c,e=.returned (.tuple #[.slice (some ⟨g,0,none⟩) (zF ls (ZM ls a)).length c,.int .i64 0])/\w'.ownsRow 0 2 1 (.slice (some ⟨g,0,none⟩) (zF ls (ZM ls a)).length c) (zF ls (ZM ls a)).length (I (zF ls (ZM ls a))):=by
 have ha:=TQ w (Obj.cells #[.int .i64 a,.int .i64 m] 163);have G:=ha.alloc (by simp) (Obj.cells #[.int .i64 a,.int .i64 m] 202);have hP:=h.below ha;have E:=h.below G;have HF:=zb (Zz hP a J);have HH:=zb (eF E a m J h2);have a2:zM bs ls a=.pointer (some ⟨bs.getD (Ur a ls) 0,0,none⟩):=by unfold zM;rw[xd hi]
 rw[a2]at HF;rw[hc]at HH;generalize bs.getD (Ur a ls) 0=bb at *;have y:=zb hc;have K:=zb G;have b0:=zb E;have b2:=zb h.maps.rc;have R:=zb A;have t:=zb (pS h.room h.ok a);have a6:0<ls.length:=by omega
 have a1:=(XO (w.alloc (Obj.cells #[.int .i64 a,.int .i64 m] 163)) (Obj.cells #[.int .i64 a,.int .i64 m] 202) w.heap.size (by simp)).trans (xo w (Obj.cells #[.int .i64 a,.int .i64 m] 163));have a0:=xo (w.alloc (Obj.cells #[.int .i64 a,.int .i64 m] 163)) (Obj.cells #[.int .i64 a,.int .i64 m] 202);have P:=zb a1;have N:=zb a0;have a4:rcs.length<10:=by omega
 have T:=zb W;obtain⟨n,HN⟩:=UC rcs.length;rw[<-HN.out]at a4;obtain⟨hq,Q⟩:=UC (ZM ls a);rw[<-Q.out]at t ⊢;clear hc h hP E hi a2 ha G a1 a0 W A;go_enter Tryz.func104,Tryz.ntmps104;go_wp2_with (first|(go_at_call 148;refine HF.mono ?_;rintro e w1 ⟨rfl,rfl⟩)|fail);refine HH.mono ?_
 rintro e w2 ⟨rfl,q⟩;have l:=b0.below q;have c4:=l.c4;obtain⟨D,hD,u⟩:=l.maps.r;have a3:=xag hD Qi;rw[u.size,<-HN.out]at a3;have d:=(q.block _ (zc P)).trans P;have b:=(q.block _ (zc N)).trans N;simp only[xbB]at b;have k0:w2.cell? ⟨w.heap.size+1,0,none⟩=some (.int .i64 a):=by rw[za b];rfl
 have k1:w2.cell? ⟨w.heap.size+1,1,none⟩=some (.int .i64 m):=by rw[za b];rfl
 obtain⟨w4,b4,s,f⟩:=yr (w:=w2.drew) hD KY Qi (by rw[u.size,<-HN.out];unfold maxLen;omega) (IJ J h2) (xat (H:=Unit));have F:=(l.below (xg _ _).drew).rmap f s (u.put (yl hD KY) J h2 y _) (b2.put J h2 y T);have z:w4.heap[w.heap.size]?=some (Obj.cells #[.int .i64 a,.int .i64 m] 163 (0,0)):=by
  refine(f.block _ (zc d) (λe=>?_)).trans d;obtain⟨_,_,b3⟩:=l.maps.mr;exact Zb d b3 (xq e)
 have j0:w4.cell? ⟨w.heap.size,0,none⟩=some (.int .i64 a):=by rw[za z];rfl
 have B:=zb (FC F R a J a6);rw[<-Q.out]at B;have C:=zb F;have a8:Hid (Kp (λk=>k=M.r) w w4):=(Ut ((K.trans (q.mono K.size)).drew)).trans (jB f (Or.inl rfl));clear l hD u d b s f F z q HH HF;go_wp2_with fail;go_region;go_wp2_with fail;refine B.mono ?_
 rintro e w5 ⟨x,la,lc,rfl,X⟩;have HT:=zb (BE (ls:=ls) (cap:=lc) X t.1 t.2.2 (C.below x).lots C.ok (λp hp=>(t.2.1 p hp).1));have b1:=zb (C.below x);have a7:=zb x;clear X x B;go_wp2_with fail;refine HT.mono ?_
 rintro e w6 ⟨Z,g,c,rfl,a5⟩;have a9:=zb a5;clear a5;go_wp2_with fail;go_ret2;exact⟨(a8.after a7).after Z,b1.below Z,g,c,rfl,aI a9⟩
def bZ(rcs:List (Nat×Nat))(ls:List L)(a m:Nat):List UInt8:=if zE rcs ls a m=0 then 0::Pl.toldB (zF ls (ZM ls a)) else [UInt8.ofNat (zE rcs ls a m)]
theorem uI(rcs:List (Nat×Nat))(ls:List L)(a m:Nat):zE rcs ls a m<=6:=by unfold zE;split<;>(try split)<;>(try split)<;>omega
theorem qY(rcs:List (Nat×Nat))(a m:Nat):zZ rcs a m<=10:=by unfold zZ;split<;>omega
theorem fT{a m:Nat}(h:zE rcs ls a m=0):Ur a ls<ls.length/\rcs.contains (a,m)=false/\¬10<=rcs.length:=by
 unfold zE at h;by_cases c:Ur a ls<ls.length
 ·rw[xd c]at h
  cases d:rcs.contains (a,m) with
  |true=>rw[d]at h;simp at h
  |false=>
   rw[d]at h;by_cases b:10<=rcs.length
   ·rw[xd b]at h;simp at h
   exact⟨c,rfl,b⟩
 rw[xe c]at h;omega
theorem pU(b:∀x∈ls,L.Ok x)(e:ls.length<=30)(a:Nat):(∀n∈zF ls (ZM ls a),n<9223372036854775808)/\(zF ls (ZM ls a)).length<=61:=by
 obtain⟨f,d,g⟩:=pS e b a;refine⟨λn c=>?_,?_⟩
 ·simp only[zF,xx]at c;rcases c with rfl|c
  ·omega
  exact hJ b _ d n c
 simp only[zF,List.length_cons,dY];omega
variable {Z:Nat->Prop}
theorem JE(h:PI os rcs Z w S td ls)(n:Good os ls)(a m:Nat)(r:a<=2147483647)(s:m<=2147483647):Calls Tryz.prog 104 #[.pointer (some ⟨S,0,none⟩),.agg #[.int .i64 a,.int .i64 m]] w λe w'=>Kp Z w w'/\PI os (aY rcs ls a m) (Zn Z w) w' S td ls /\
   ((zE rcs ls a m≠0/\e=.returned (.tuple #[.slice none 0 0,.int .i64 (zE rcs ls a m:Int)]))\/(zE rcs ls a m=0/\∃g c,e=.returned (.tuple #[.slice (some ⟨g,0,none⟩) (zF ls (ZM ls a)).length c,.int .i64 0])/\Rw w' g (zF ls (ZM ls a)))):=by
 obtain⟨M,v,q,i,j,b⟩:=h;by_cases f:zE rcs ls a m=0
 ·obtain⟨x,y,z⟩:=fT f;unfold aY;rw[xd f];refine(JD j n.ids a m r s x y z).mono ?_
  rintro e w' ⟨d,p,g,c,l,u⟩;exact⟨d.mono (λk d=>by rw[d];exact b.m),⟨M,v,q,i,p,b.mono (λk d=>Or.inl d)⟩,Or.inr ⟨f,g,c,l,Rw.of u (by simp[zF])⟩⟩
 unfold aY;rw[xe f];refine(JC j a m r s f).mono ?_
 rintro e w' ⟨t,l⟩;exact⟨Ut t,⟨M,v,q,i,j.below t,b.mono (λk d=>Or.inl d)⟩,Or.inl ⟨f,l⟩⟩
theorem Hj(h:PI os rcs Z w S td ls)(l:Good os ls)(a m:Nat)(F:a<=2147483647)(G:m<=2147483647):Calls Tryz.prog 62 #[.pointer (some ⟨S,0,none⟩),.iface 163 (.agg #[.int .i64 a,.int .i64 m])] w λe w'=>Kp Z w w'/\PI os (aY rcs ls a m) (Zn Z w) w' S td ls /\
   ((zE rcs ls a m≠0/\e=.returned (.tuple #[.slice none 0 0,.int .i64 (zE rcs ls a m:Int)]))\/(zE rcs ls a m=0/\∃g c,e=.returned (.tuple #[.slice (some ⟨g,0,none⟩) (zF ls (ZM ls a)).length c,.int .i64 0])/\Rw w' g (zF ls (ZM ls a)))):=by
 have f:=TQ w (Obj.cells #[.int .i64 a,.int .i64 m] 163);obtain⟨M,v,D,u,x,n⟩:=h;have HD:=zb (JE (Z:=Z) ⟨M,v,D,u,x.below f,n⟩ l a m F G);generalize aY rcs ls a m=rs' at HD ⊢;generalize zE rcs ls a m=rc at HD ⊢;generalize zF ls (ZM ls a)=tq at HD ⊢;clear x l n;have z:=uT.o;have A:=kD.o;have B:=oL.o;have C:=oJ.o;have q:=oK.o;have i:=mN.o;have r:=sA.o;have j:=mO.o;go_enter Tryz.func62,Tryz.ntmps62;go_wp2_with fail;refine HD.mono ?_
 rintro e w1 ⟨y,b,⟨t,rfl⟩|⟨E,g,c,rfl,p⟩⟩
 ·have d:=zb b;clear b;go_wp2_with fail;go_ret2;exact⟨Kp.before f (y.mono (λk h=>Or.inl h)),d.mono (bN w _),Or.inl ⟨t,rfl⟩⟩
 have d:=zb b;have s:=zb p;clear b p;go_wp2_with fail;go_ret2;exact⟨Kp.before f (y.mono (λk h=>Or.inl h)),d.mono (bN w _),Or.inr ⟨E,g,c,rfl,s⟩⟩
theorem Fo(h:PI os rcs Z w S td ls)(a m:Nat)(A:a<=2147483647)(B:m<=2147483647):Calls Tryz.prog 62 #[.pointer (some ⟨S,0,none⟩),.iface 165 (.agg #[.int .i64 a,.int .i64 m])] w λe w'=>Kp Z w w'/\e=.returned (.tuple #[.slice none 0 0,.int .i64 (zZ rcs a m:Int)])/\PI os (Zg rcs a m) (Zn Z w) w' S td ls:=by
 have g:=TQ w (Obj.cells #[.int .i64 a,.int .i64 m] 165);obtain⟨M,v,z,r,s,i⟩:=h;have HD:=zb (Dm (s.below g) a m A B);have f:=zb i;generalize Zg rcs a m=rs' at HD ⊢;generalize zZ rcs a m=rc at HD ⊢;clear s i;have t:=sC.o;have u:=iI.o;have x:=mT.o;have y:=mQ.o;have n:=mS.o;have c:=kF.o;have p:=oO.o;have d:=kG.o;have b:=iJ.o;go_enter Tryz.func62,Tryz.ntmps62;go_wp2_with fail;refine HD.mono ?_
 rintro e w1 ⟨j,rfl,l⟩;have q:=zb l;clear l;go_wp2_with fail;go_ret2;exact⟨Kp.before g (j.mono (λk j=>Or.inl (by rw[j];exact f.m))),rfl,M,v,z,r,q,f.mono (λk j=>Or.inl j)⟩
def zO(rcs:List (Nat×Nat))(td:Nat)(os:List O)(ls:List L):Pl.Cmd->List UInt8×Nat×List O×List (Nat×Nat)×List L
 | .ok (8,[a,m])=>(bZ rcs ls a m,td,os,aY rcs ls a m,ls)
 | .ok (9,[a,m])=>([UInt8.ofNat (zZ rcs a m)],td,os,Zg rcs a m,ls)
 |c=>((ZN rcs td os ls c).1,(ZN rcs td os ls c).2.1,(ZN rcs td os ls c).2.2.1,rcs,(ZN rcs td os ls c).2.2.2)
theorem Bu{c:Pl.Cmd}(h:oC c)(td:Nat)(os:List O)(ls:List L):zO rcs td os ls c=((ZN rcs td os ls c).1,(ZN rcs td os ls c).2.1,(ZN rcs td os ls c).2.2.1,rcs,(ZN rcs td os ls c).2.2.2):=by
 cases c with
 |error e=>rfl
 |ok p=>
  obtain⟨n,a⟩:=p;rcases h n a rfl with rfl|rfl|rfl|rfl|rfl|rfl|rfl|rfl|rfl|rfl<;>rfl
theorem lG(l:List UInt8):oC (Pl.cmd l)\/∃c d,ZP l=some (c,d)/\Pl.mays (Pl.kindsL c) d=true/\Pl.cmd l=.ok (c,d)/\(c=8\/c=9)/\d.length=(Pl.kindsL c).length/\∀n∈d,n<9223372036854775808:=by
 have a:=dJ l
 cases b:ZP l with
 |none=>left;intro n d e;rw[b]at a;rw[a]at e;cases e
 |some p=>
  obtain⟨c,d⟩:=p;rw[b]at a;obtain⟨j,k,f,g⟩:=bJ b
  cases h:Pl.mays (Pl.kindsL c) d with
  |false=>
   simp only[h,XA,Yc]at a;left;intro n d e;rw[a]at e;cases e
  |true=>
   simp only[h,YC]at a;by_cases i:c=8\/c=9
   ·right;exact⟨c,d,rfl,h,a,i,f,g⟩
   left;intro n m e;rw[a]at e;cases e;omega
theorem SU{b:List Nat}(h:b.length=(Pl.kindsL 8).length):∃a m,b=[a,m]:=by
 match b,h with
 |[a,m],_=>exact⟨a,m,rfl⟩
theorem SV{b:List Nat}(h:b.length=(Pl.kindsL 9).length):∃a m,b=[a,m]:=by
 match b,h with
 |[a,m],_=>exact⟨a,m,rfl⟩
theorem kS(h:Good os ls)(i:ls.length<=30)(l:List UInt8):Good (zO rcs td os ls (Pl.cmd l)).2.2.1 (zO rcs td os ls (Pl.cmd l)).2.2.2.2:=by
 rcases lG l with d|⟨c,n,f,k,e,g,b,j⟩
 ·rw[Bu d];exact Fx h i l d
 rw[e];rcases g with rfl|rfl
 ·obtain⟨a,m,rfl⟩:=SU b;exact h
 obtain⟨a,m,rfl⟩:=SV b;exact h
