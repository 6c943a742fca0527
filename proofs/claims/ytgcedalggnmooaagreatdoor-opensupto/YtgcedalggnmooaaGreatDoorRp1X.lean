import Derived.Test.YtgcedalggnmooaaGreatDoorAn1X
set_option linter.all false
set_option maxRecDepth 100000
set_option maxHeartbeats 3200000
namespace Go.Proofs.YtgcedalggnmooaaGreatDoor
open Go.RowKit
open Tryz
theorem Md(a b:Nat):WideAt.IsKeyLit (eW a b):=trivial
theorem yV(rj:List (Nat×Nat))(p q:Nat×Nat):(rj++[p]).contains q=(rj.contains q||q==p):=by
 rw[xz];simp
theorem RD.put{rj:List (Nat×Nat)}{D:DataW Unit}(h:RD rj D)(m:Maps.Tidy D){a b:Nat}(g:a<=2147483647)(i:b<=2147483647)(s:rj.contains (a,b)=false)(d:DataW Unit):RD (rj++[(a,b)]) (D.put (eW a b) d):={
 size:=by rw[Maps.size_put m,h.has a b g i,s,h.size];simp
 has:=λc e j k=>by
  rw[yV];by_cases f:(c,e)=(a,b)
  ·cases f;rw[xaG m.isMap (Md _ _)];simp
  rw[YK (λx=>f (by obtain⟨q,r⟩:=jG j k g i x;rw[q,r])),h.has c e j k];have:((c,e)==(a,b))=false:=by rw[xp];exact f
  rw[this,YF]
 keys:=λn l=>by
  by_cases f:n=eW a b
  ·exact⟨(a,b),by simp,f⟩
  rw[YK f]at l;obtain⟨p,t,e⟩:=h.keys n l;exact⟨p,by simp[t],e⟩}
variable {rj:List (Nat×Nat)}
theorem Rc.put(h:Rc rj){a b:Nat}(g:a<=2147483647)(i:b<=2147483647)(d:rj.contains (a,b)=false)(k:¬10<=rj.length):Rc (rj++[(a,b)]):={
 nodup:=by
  rw[Xx];refine⟨h.nodup,by simp,λx j y f e=>?_⟩;simp at f;subst f;subst e;have:rj.contains (a,b)=true:=by rw[XG];exact j
  rw[this]at d;cases d
 len:=by simp;omega
 fits:=λp c=>by
  rcases xw.1 c with c|c
  ·exact h.fits p c
  simp at c;subst c;exact⟨g,i⟩}
theorem RD.del{rj:List (Nat×Nat)}{D:DataW Unit}(h:RD rj D)(g:Rc rj)(v:Maps.Tidy D){a b:Nat}(j:a<=2147483647)(l:b<=2147483647)(q:rj.contains (a,b)=true):RD (rj.erase (a,b)) (D.del (eW a b)):={
 size:=by
  have i:=Maps.size_del (k:=eW a b) v;rw[h.has a b j l,q,h.size]at i;rw[xap (XG.1 q)];simp at i;omega
 has:=λc e m n=>by
  by_cases d:(c,e)=(a,b)
  ·cases d;rw[xae]
   symm
   rw[Bool.eq_false_iff];intro w;exact(g.nodup.not_mem_erase) (XG.1 w)
  rw[YY (λx=>d (by obtain⟨s,t⟩:=jG m n j l x;rw[s,t])),h.has c e m n];rw[xz,XG,XG,g.nodup.mem_erase_iff];exact⟨λx=>⟨d,x⟩,λx=>x.2⟩
 keys:=λr f=>by
  by_cases d:r=eW a b
  ·subst d;rw[xae]at f;cases f
  rw[YY d]at f;obtain⟨p,u,e⟩:=h.keys r f;refine⟨p,g.nodup.mem_erase_iff.2 ⟨λx=>d (by rw[e,x]),u⟩,e⟩}
theorem Rc.del(h:Rc rj)(p:Nat×Nat):Rc (rj.erase p):={
 nodup:=h.nodup.erase p
 len:=xj (List.length_erase_le) h.len
 fits:=λq a=>h.fits q (List.mem_of_mem_erase a)}
variable {M:Mx}{S td:Nat}{bs:List Nat}{ls:List L}{os:List O}{pvs:List Value}{v:Value}{w:World}
theorem PV.rmap{a:List (Nat×Nat)}{w':World}(h:PV os rj w S M v td bs pvs ls)(u:w.grownBy w' (some M.r)){n:DataW Unit}{N:Nat}(E:Ln w' M.r N n)(C:RD a n)(D:Rc a):PV os a w' S M v td bs pvs ls:=by
 obtain⟨_,_,y⟩:=h.maps.mr;have m:∀(k:Nat) (l:Array Value) (t:TypeId),w.heap[k]?=some (.cells l t (0,0))->w'.heap[k]?=w.heap[k]?:=λk l t z=>u.block k (zc z) (λe=>Zb z y (xr e))
 have c:=h.maps;obtain⟨B,f,s⟩:=c.o;obtain⟨A,d,p⟩:=c.h;exact {
  store:=(m _ _ _ h.store).trans h.store
  maps:=⟨⟨n,Z7 E,C⟩,D,⟨B,zB f (u.block _ (Xr f) (λe=>c.ro (xr e).symm)),s⟩,⟨A,zB d (u.block _ (Xr d) (λe=>c.rh (xr e).symm)),p⟩,c.ro,c.rh,c.oh⟩
  row:=ze h.row (λg x=>by obtain⟨l,b⟩:=zi h.row x;exact m _ _ _ b)
  len:=h.len
  plen:=h.plen
  lot:=λi j=>(m _ _ _ (h.lot i j)).trans (h.lot i j)
  par:=λi j=>(h.par i j).congr (λq F=>by obtain⟨l,b⟩:=(h.par i j).blk F;exact m _ _ _ b)
  nodup:=h.nodup
  today:=h.today
  ok:=h.ok
  room:=h.room }
variable {D:DataW Unit}
theorem IZ{b n:Nat}(h:Ln w b n D)(hd:RD rj D)(x y:Nat)(a:x<=2147483647)(c:y<=2147483647):(Instr.lookup 114 (.map (some b)) (.agg #[.int .i64 x,.int .i64 y]) true).run prog w=.ok (.tuple #[.agg #[],.bool (rj.contains (x,y))]) w:=by
 obtain⟨v,ps,d,e⟩:=xab h Lc Qr (qZ w) xat (IM a c);obtain⟨rfl,_⟩:=unitElem_inv e;rw[d,hd.has x y a c]
theorem eI(h:PV os rj w S M v td bs pvs ls)(x y:Nat)(b:x<=2147483647)(c:y<=2147483647):Calls prog 155 #[.pointer (some ⟨S,0,none⟩),.agg #[.int .i64 x,.int .i64 y]] w λe w'=>e=.returned (.bool (rj.contains (x,y)))/\Below w.heap.size w w':=by
 have i:=TZ w (Obj.cells #[.int .i64 x,.int .i64 y] 202);have d:=h.below i;obtain⟨D,a,hd⟩:=d.maps.r;have j:=IZ (w:=(w.alloc (Obj.cells #[.int .i64 x,.int .i64 y] 202)).drew) a hd x y b c;have f:=IZ a hd x y b c;have g:=IZ (w:=((w.alloc (Obj.cells #[.int .i64 x,.int .i64 y] 202)).alloc (Obj.cells #[] 206)).drew) (World.ownsMap.alloc a _) hd x y b c;have c4:=h.c4;have k:=zc h.store;generalize rj.contains (x,y)=bb at *;clear h a hd d;go_enter func155,ntmps155;go_wp2_with fail;go_region
 all_goals (go_wp2_with fail;go_ret;exact⟨rfl,((TZ w _).alloc (by simp) _).drew⟩)
def zZ(rj:List (Nat×Nat))(a m:Nat):Nat:=if rj.contains (a,m) then 0 else 10
def Zz(rj:List (Nat×Nat))(a m:Nat):List (Nat×Nat):=if rj.contains (a,m) then rj.erase (a,m) else rj
theorem Dj(h:PV os rj w S M v td bs pvs ls)(a m:Nat)(E:a<=2147483647)(F:m<=2147483647):Calls prog 105 #[.pointer (some ⟨S,0,none⟩),.agg #[.int .i64 a,.int .i64 m]] w λe w'=>Kp (λk=>k=M.r) w w'/\e=.returned (.int .i64 (zZ rj a m:Int))/\PV os (Zz rj a m) w' S M v td bs pvs ls:=by
 have y:=(TZ w (Obj.cells #[.int .i64 a,.int .i64 m] 165)).alloc (by simp) (Obj.cells #[.int .i64 a,.int .i64 m] 202);have x:=h.below y;have u:=zb (eI x a m E F);have l:=xo (w.alloc (Obj.cells #[.int .i64 a,.int .i64 m] 165)) (Obj.cells #[.int .i64 a,.int .i64 m] 202);have H:=zb x;have t:=zb y
 cases i:rj.contains (a,m) with
 |false=>
  have z:Ha (zZ rj a m=10):=by unfold Ha zZ;rw[i];rfl
  have C:Ha (Zz rj a m=rj):=by unfold Ha Zz;rw[i];rfl
  rw[i]at u;rw[z.o,C.o];clear i h x l y;go_enter func105,ntmps105;go_wp2_with (go_at_call 155;refine u.mono ?_;rintro e w1 ⟨rfl,b⟩);go_ret;exact⟨UD (t.trans (b.mono t.size)),rfl,H.below b⟩
 |true=>
  have z:Ha (zZ rj a m=0):=by unfold Ha zZ;rw[i];rfl
  have C:Ha (Zz rj a m=rj.erase (a,m)):=by unfold Ha Zz;rw[i];rfl
  have p:=zb i;rw[i]at u;rw[z.o,C.o];have n:=zb l;clear i h x l y;go_enter func105,ntmps105;go_wp2_with fail;refine u.mono ?_
  rintro e w1 ⟨rfl,b⟩;have f:=H.below b;have d:=(b.block _ (zc n)).trans n;simp only[xbB]at d;have N:w1.cell? ⟨w.heap.size+1,0,none⟩=some (.int .i64 a):=by rw[za d];rfl
  have P:w1.cell? ⟨w.heap.size+1,1,none⟩=some (.int .i64 m):=by rw[za d];rfl
  have Q:=f.c4;obtain⟨D,G,s⟩:=f.maps.r;obtain⟨K,J,g,c⟩:=xbg (w:=w1.drew) G Lc Qr (IM E F) 0;have j:=c.grown;have q:=(f.below (xh _ _).drew).rmap j g (s.del f.maps.rc (ym G Lc) E F p) (f.maps.rc.del _);have B:=zb q;have A:Ha (Kp (λk=>k=M.r) w K):=(UD ((t.trans (b.mono t.size)).drew)).trans (rJ c (Or.inl rfl));clear G s g c j q f d b;go_wp2_with fail;go_region;go_wp2_with fail;go_ret;exact⟨A,rfl,B⟩
def gM(ls:List L)(f:Nat->Bool)(k:Nat):List Nat:=((Uh ls).take k).filter (pQ ls f)
theorem IB{f:Nat->Bool}{k:Nat}(a:k<ls.length)(h:pQ ls f ((Uh ls).getD k 0)=true):gM ls f (k+1)=gM ls f k++[(Uh ls).getD k 0]:=by
 unfold gM;rw[DK a,Ys];simp only[List.filter,h]
theorem Mc{f:Nat->Bool}{k:Nat}(a:k<ls.length)(h:pQ ls f ((Uh ls).getD k 0)=false):gM ls f (k+1)=gM ls f k:=by
 unfold gM;rw[DK a,Ys];simp only[List.filter,h,XR]
theorem IA(ls:List L)(f:Nat->Bool)(k:Nat):(gM ls f k).length<=k:=xj (yx _ _) (Ym _ _)
theorem Iz(a:∀i j,i<ls.length->j<ls.length->(ls.getD i L0).id=(ls.getD j L0).id->i=j)(n:Nat):gM ls (iQ ls n) ls.length=sN ls n:=by
 have e:gM ls (iQ ls n) ls.length=(Uh ls).filter (pQ ls (iQ ls n)):=by
  unfold gM;rw[Xh (by rw[fE];exact xc _)]
 rw[e];exact Ec a ((iN ls).filter _) ((Hb ls).filter _)
theorem Fz(h:PV os rj w S M v td bs pvs ls)(Q:∀i j,i<ls.length->j<ls.length->(ls.getD i L0).id=(ls.getD j L0).id->i=j)(n:Nat)(hn:n<=2147483647)(e8:0<ls.length):Calls prog 156 #[.pointer (some ⟨S,0,none⟩),.int .i64 n] w λe w'=>Below w.heap.size w w'/\∃a cap,e=.returned (.slice a (ZO ls n).length cap)/\LineAt w' bs a (ZO ls n):=by
 have f5:=@run_makeMap prog;obtain⟨i0,hi,e3,e4,e5⟩:=XH wG;obtain⟨a,cap,hv,_⟩:=h.shape;have c1:=h.c1;rw[hv]at c1;have e2:=h.room;have b3:=zc h.store;have f3:M.r<w.heap.size:=by obtain⟨_,_,q⟩:=h.maps.mr;exact zc q
 have f2:M.o<w.heap.size:=by obtain⟨_,_,q⟩:=h.maps.mo;exact zc q
 have f1:M.h<w.heap.size:=by obtain⟨_,_,q⟩:=h.maps.mh;exact zc q
 have Z:gW (w.alloc (.map #[] 0)) w.heap.size 0 (.map []):=World.ownsMap_made _ _ _ _;obtain⟨wf,c7,B,P⟩:=yr Z BJ No (by unfold maxLen;omega) (sS hn) xat;have a0:Below w.heap.size w wf:=(TZ w _).grown P (TZ w _).size (λk hk=>by cases hk;exact xc _);have t:FD (λm=>m==n) ((DataW.map []).put (dX n) (.agg [])):=by
  have h0:FD (λ_=>false) (DataW.map []:DataW Unit):=λm _=>rfl
  have h1:=h0.put (xbb Z) n (.agg []);have e:(λx=>false||x==n)=λm=>m==n:=by funext x;simp
  rw[e]at h1;exact h1
 have HG:=zb (DZ (h.below a0) B t (by omega) ⟨by omega,by omega,by omega⟩);have HV:=zb hv;have HP:=zb h;have a7:=zb a0;have J:=zb Q;clear h hv Z B P t Q a0;go_enter func156,ntmps156;go_wp2_with fail;refine HG.mono ?_
 rintro e w1 ⟨rfl,b7,N,D,b9,t⟩;have C:Ha (Below w.heap.size w w1):=a7.grown b7 a7.size (λk hk=>by cases hk;exact xc _);have f0:w1.cell? ⟨S,1,none⟩=some (.slice a ls.length cap):=(C.cell (by exact b3)).trans c1;have b2:=zb b9;have d2:=zb t;have d4:=zb (HP.below C);have a9:=zb (lU d4 J);clear b7 b9 t c7 HG c1;go_wp2_with (go_at_call 123;refine a9.mono ?_;rintro e R ⟨b5,pa,e9,rfl,b4⟩);have a6:=zb b5;have c8:=zb b4;clear b5 b4 a9;go_wp2_with fail;go_loopw [6,8,19] (λlv _ ii wr=>∃k:Nat,k<=ls.length/\ii=.int .i64 k/\wr.ownsRow R.heap.size 241 2 lv (gM ls (iQ ls n) k).length (zl bs (ZU ls (gM ls (iQ ls n) k)))/\Below R.heap.size R wr) (λ_ _ ii _=>ls.length-(intOf ii).toNat)
 case atStart=>exact⟨0,by omega,rfl,Xi _ _ _ _,xh _ _⟩
 obtain⟨k,hk,rfl,d,hb⟩:=hrel;obtain⟨la,lc,d9⟩:=zm d;subst d9;have b8:=IA ls (iQ ls n) k;have F:Below w1.heap.size w1 wr:=a6.trans (hb.mono a6.size);have E:Below w.heap.size w wr:=C.trans (F.mono C.size);have l:=HP.below E;by_cases z:k<ls.length
 ·obtain⟨G,rfl,_,e7,d6⟩:=(c8.below hb) k (by rw[fE];exact z);have hj:=BQ z;have g:=zb (IB (f:=iQ ls n) z);have s:=zb (Mc (f:=iQ ls n) z);generalize (Uh ls).getD k 0=j at *;have a4:=l.ok _ (zg hj);have a2:wr.cell? ⟨bs.getD j 0,0,none⟩=some (.int .i64 ((ls.getD j L0).id:Int)):=by rw[l.cl j hj 0];rfl
  have a3:wr.cell? ⟨bs.getD j 0,7,none⟩=some (.int .i64 ((ls.getD j L0).hd:Int)):=by rw[l.cl j hj 7];rfl
  have K:bs.getD j 0<wr.heap.size:=zc (l.lot j hj);have a1:=a4.id;have d8:(ls.getD j L0).hd<=2147483647:=by have:=a4.sum;omega
  have c6:gW wr w.heap.size N D:=zB b2 (F.block _ (Xr b2));have c:=zb (It c6 a1 a2);rw[d2.o _ a1]at c;have p:Ha (pQ ls (iQ ls n) j=(decide (0<(ls.getD j L0).hd)&&iQ ls n (ls.getD j L0).id)):=rfl;obtain⟨bk,a8⟩:=UM (bs.getD j 0);rw[<-a8.o]at d6 a2 a3 K c;obtain⟨hd,b0⟩:=UM ((ls.getD j L0).hd);rw[<-b0.o]at a3 d8 p;obtain⟨a5,b1⟩:=UM ((ls.getD j L0).id);rw[<-b1.o]at a2 a1 p c;have d1:Ha (jY ls (λm=>m==n) a5=iQ ls n a5):=rfl;rw[d1.o]at c;have X:=zb d;have H:=zb hb;clear l a4 c6 d hb E F;by_cases hh:0<hd
  ·have d7:decide ((0:Int)<(hd:Int))=true:=by simp;omega
   cases hc:iQ ls n a5 with
   |true=>
    rw[hc]at c;have HY:=g.o (by rw[p.o,hc];simp[hh]);have d5:=zb HY;clear g s HY hc;obtain⟨hl,T⟩:=UM ((gM ls (iQ ls n) k).length);rw[<-T.o]at X b8;rw[<-T.o];go_wp2_with (first
     |(go_at_call 158;refine c.mono ?_;rintro e w2 ⟨rfl,b⟩;have f4:w2.cell? ⟨bk,7,none⟩=some (.int .i64 hd):=(b.cell (by exact K)).trans a3)
     |(at_builtin;refine Xb _ rfl _ _ 197 rfl R.heap.size 241 i0 (.agg #[.pointer none,.int .i64 0]) 2 16 xO hi e3 e4 e5 rfl (by decide) _ hl (zl bs (ZU ls (gM ls (iQ ls n) k))) rfl ((zh X b).alloc _) ⟨w2.heap.size,0,none⟩ 1 1 [.pointer (some ⟨bk,0,none⟩),.int .i64 hd] rfl rfl ?c1 ?c2 ?c3 ?c4 ?c5 ?_))
    case c1=>exact Yb w2 _ _ _
    case c2=>intro u hu;simp at hu;rcases hu with rfl|rfl<;>rfl
    case c3=>unfold maxLen;omega
    case c4=>omega
    case c5=>have:=H.size;have:=b.size;simp;omega
    intro e6 w6 A y e0;have b6:Below R.heap.size R w6:=((H.trans (b.mono H.size)).alloc (by have:=H.size;have:=b.size;omega) _).grown y (by have:=H.size;have:=b.size;simp;omega) (λq hq=>(X.lt q hq).1);have d3:Ha (w6.ownsRow R.heap.size 241 2 e6 (gM ls (iQ ls n) (k+1)).length (zl bs (ZU ls (gM ls (iQ ls n) (k+1))))):=by
     unfold Ha;rw[d5.o,xX,aG,xb,Xc,<-T.o,<-b0.o,<-a8.o];exact A
    have d0:=zb b6;clear A y e0 b6 b;go_wp2_with fail;go_roundw
    case rel=>exact⟨k+1,by omega,by go_num,d3,d0⟩
    simp[intOf];omega
   |false=>
    rw[hc]at c;have W:=zb (s (by rw[p.o,hc];simp));clear g s hc;go_wp2_with (first|(go_at_call 158;refine c.mono ?_;rintro e w2 ⟨rfl,b⟩)|fail);go_roundw
    case rel=>exact⟨k+1,by omega,by go_num,by rw[W.o];exact zh X b,H.trans (b.mono H.size)⟩
    simp[intOf];omega
  have d7:decide ((0:Int)<(hd:Int))=false:=by simp;omega
  have W:=zb (s (by rw[p.o];simp[hh]));clear g s;go_wp2_with fail;go_roundw
  case rel=>exact⟨k+1,by omega,by go_num,by rw[W.o];exact X,H⟩
  simp[intOf];omega
 obtain rfl:k=ls.length:=by omega
 have c9:=zb E;have X:=zb d;have HE:=zb (Iz J n);clear d hb E F l z;go_wp2_with fail;go_ret;have ho:=X.o;rw[HE.o]at ho;refine⟨c9,la,lc,by rw[HE.o];unfold ZO;rw[dN];rfl,?_⟩;intro k hk;unfold ZO at hk ⊢;have e1:wr.ownsRow R.heap.size 241 2 (.slice la (ZU ls (sN ls n)).length lc) (ZU ls (sN ls n)).length (zl bs (ZU ls (sN ls n))):=by rw[dN];exact ho
 exact aM e1 k hk
def zE(rj:List (Nat×Nat))(ls:List L)(a m:Nat):Nat:=if UB a ls<ls.length then (if rj.contains (a,m) then 5 else if 10<=rj.length then 6 else 0) else 4
def cB(rj:List (Nat×Nat))(ls:List L)(a m:Nat):List (Nat×Nat):=if zE rj ls a m=0 then rj++[(a,m)] else rj
theorem LineAt.below{w':World}{a:Option Addr}{l:List (Nat×Nat)}(h:LineAt w bs a l)(c:Below w.heap.size w w'):LineAt w' bs a l:=λk g=>by
 obtain⟨G,d,b,e,f⟩:=h k g;exact⟨G,d,xn b c.size,(c.cell (p:=⟨G,k*2,none⟩) b).trans e,(c.cell (p:=⟨G,k*2+1,none⟩) b).trans f⟩
theorem JF(h:PV os rj w S M v td bs pvs ls)(a m:Nat)(F:a<=2147483647)(H:m<=2147483647)(b:zE rj ls a m≠0):Calls prog 104 #[.pointer (some ⟨S,0,none⟩),.agg #[.int .i64 a,.int .i64 m]] w λe w'=>Below w.heap.size w w'/\e=.returned (.tuple #[.slice none 0 0,.int .i64 (zE rj ls a m:Int)]):=by
 have y:=TZ w (Obj.cells #[.int .i64 a,.int .i64 m] 163);have c:=y.alloc (by simp) (Obj.cells #[.int .i64 a,.int .i64 m] 202);have A:=h.below y;have g:=h.below c;have s:=zb (Zy A a F);have t:=zb (eI g a m F H);by_cases j:UB a ls<ls.length
 ·have d:zN bs ls a=.pointer (some ⟨bs.getD (UB a ls) 0,0,none⟩):=by unfold zN;rw[xe j]
  rw[d]at s;generalize bs.getD (UB a ls) 0=bb at *
  cases l:rj.contains (a,m) with
  |true=>
   have p:Ha (zE rj ls a m=5):=by unfold Ha zE;rw[xe j,l];rfl
   rw[l]at t;rw[p.o];have f:=zb c;clear l h A g j d b y c;go_enter func104,ntmps104;go_wp2_with (first
    |(go_at_call 148;refine s.mono ?_;rintro e w1 ⟨rfl,rfl⟩)
    |(go_at_call 155;refine t.mono ?_;rintro e w2 ⟨rfl,i⟩))
   go_ret2;exact⟨f.trans (i.mono f.size),rfl⟩
  |false=>
   have u:10<=rj.length:=by
    unfold zE at b;rw[xe j,l]at b;by_cases q:10<=rj.length
    ·exact q
    rw[xg q]at b;simp at b
   have p:Ha (zE rj ls a m=6):=by unfold Ha zE;rw[xe j,l,xe u];rfl
   rw[l]at t;rw[p.o];have f:=zb c;have C:=h.maps.rc.len;have B:=zb g;obtain⟨n,E⟩:=UM rj.length;rw[<-E.o]at u C;clear l h A g j d b y c;go_enter func104,ntmps104;go_wp2_with (first|(go_at_call 148;refine s.mono ?_;rintro e w1 ⟨rfl,rfl⟩)|fail);refine t.mono ?_
   rintro e w2 ⟨rfl,i⟩;have k:=B.below i;have c4:=k.c4;obtain⟨D,G,x⟩:=k.maps.r;have z:=xag G Qr;rw[x.size,<-E.o]at z;clear k G x;go_wp2_with fail;go_ret2;exact⟨f.trans (i.mono f.size),rfl⟩
 have d:zN bs ls a=.pointer none:=by unfold zN;rw[xg j]
 rw[d]at s;have p:Ha (zE rj ls a m=4):=by unfold Ha zE;rw[xg j]
 rw[p.o];clear h A g j d b t c;go_enter func104,ntmps104;go_wp2_with (go_at_call 148;refine s.mono ?_;rintro e w1 ⟨rfl,rfl⟩);go_ret2;exact⟨y,rfl⟩
theorem pR(f:ls.length<=30)(b:∀x∈ls,L.Ok x)(n:Nat):(ZO ls n).length<=30/\(∀p∈ZO ls n,p.1<ls.length/\p.2<=2147483647)/\(∀k,k<(ZO ls n).length->((ZO ls n).getD k (0,0)).2<=2147483647):=by
 have c:∀p∈ZO ls n,p.1<ls.length/\p.2<=2147483647:=λp g=>by
  obtain⟨i,d,rfl⟩:=Xg.1 g;have a:=(Iw.1 d).1;have:=(b _ (zg a)).sum;exact⟨a,by show(ls.getD i L0).hd<=_;omega⟩
 refine⟨?_,c,λk e=>(c _ ?_).2⟩
 ·unfold ZO;rw[dN];exact xj (Iv ls n) f
 simp[Uv,e]
theorem JG(h:PV os rj w S M v td bs pvs ls)(A:∀i j,i<ls.length->j<ls.length->(ls.getD i L0).id=(ls.getD j L0).id->i=j)(a m:Nat)(J:a<=2147483647)(h2:m<=2147483647)(hi:UB a ls<ls.length)(hc:rj.contains (a,m)=false)(W:¬10<=rj.length):Calls prog 104 #[.pointer (some ⟨S,0,none⟩),.agg #[.int .i64 a,.int .i64 m]] w λe w'=>Kp (λk=>k=M.r) w w'/\PV os (rj++[(a,m)]) w' S M v td bs pvs ls /\
   ∃g c,e=.returned (.tuple #[.slice (some ⟨g,0,none⟩) (zG ls (ZO ls a)).length c,.int .i64 0])/\w'.ownsRow 0 2 1 (.slice (some ⟨g,0,none⟩) (zG ls (ZO ls a)).length c) (zG ls (ZO ls a)).length (I (zG ls (ZO ls a))):=by
 have ha:=TZ w (Obj.cells #[.int .i64 a,.int .i64 m] 163);have G:=ha.alloc (by simp) (Obj.cells #[.int .i64 a,.int .i64 m] 202);have hP:=h.below ha;have E:=h.below G;have HF:=zb (Zy hP a J);have HH:=zb (eI E a m J h2);have a2:zN bs ls a=.pointer (some ⟨bs.getD (UB a ls) 0,0,none⟩):=by unfold zN;rw[xe hi]
 rw[a2]at HF;rw[hc]at HH;generalize bs.getD (UB a ls) 0=bb at *;have y:=zb hc;have K:=zb G;have b0:=zb E;have b2:=zb h.maps.rc;have R:=zb A;have t:=zb (pR h.room h.ok a);have a6:0<ls.length:=by omega
 have a1:=(XO (w.alloc (Obj.cells #[.int .i64 a,.int .i64 m] 163)) (Obj.cells #[.int .i64 a,.int .i64 m] 202) w.heap.size (by simp)).trans (xo w (Obj.cells #[.int .i64 a,.int .i64 m] 163));have a0:=xo (w.alloc (Obj.cells #[.int .i64 a,.int .i64 m] 163)) (Obj.cells #[.int .i64 a,.int .i64 m] 202);have P:=zb a1;have N:=zb a0;have a4:rj.length<10:=by omega
 have T:=zb W;obtain⟨n,HN⟩:=UM rj.length;rw[<-HN.o]at a4;obtain⟨hq,Q⟩:=UM (ZO ls a);rw[<-Q.o]at t ⊢;clear hc h hP E hi a2 ha G a1 a0 W A;go_enter func104,ntmps104;go_wp2_with (first|(go_at_call 148;refine HF.mono ?_;rintro e w1 ⟨rfl,rfl⟩)|fail);refine HH.mono ?_
 rintro e w2 ⟨rfl,q⟩;have l:=b0.below q;have c4:=l.c4;obtain⟨D,hD,u⟩:=l.maps.r;have a3:=xag hD Qr;rw[u.size,<-HN.o]at a3;have d:=(q.block _ (zc P)).trans P;have b:=(q.block _ (zc N)).trans N;simp only[xbB]at b;have k0:w2.cell? ⟨w.heap.size+1,0,none⟩=some (.int .i64 a):=by rw[za b];rfl
 have k1:w2.cell? ⟨w.heap.size+1,1,none⟩=some (.int .i64 m):=by rw[za b];rfl
 obtain⟨w4,b4,s,f⟩:=yr (w:=w2.drew) hD Lc Qr (by rw[u.size,<-HN.o];unfold maxLen;omega) (IM J h2) (xat (H:=Unit));have F:=(l.below (xh _ _).drew).rmap f s (u.put (ym hD Lc) J h2 y _) (b2.put J h2 y T);have z:w4.heap[w.heap.size]?=some (Obj.cells #[.int .i64 a,.int .i64 m] 163 (0,0)):=by
  refine(f.block _ (zc d) (λe=>?_)).trans d;obtain⟨_,_,b3⟩:=l.maps.mr;exact Zb d b3 (xr e)
 have j0:w4.cell? ⟨w.heap.size,0,none⟩=some (.int .i64 a):=by rw[za z];rfl
 have B:=zb (Fz F R a J a6);rw[<-Q.o]at B;have C:=zb F;have a8:Ha (Kp (λk=>k=M.r) w w4):=(UD ((K.trans (q.mono K.size)).drew)).trans (jD f (Or.inl rfl));clear l hD u d b s f F z q HH HF;go_wp2_with fail;go_region;go_wp2_with fail;refine B.mono ?_
 rintro e w5 ⟨x,la,lc,rfl,X⟩;have HT:=zb (BE (ls:=ls) (cap:=lc) X t.1 t.2.2 (C.below x).lots C.ok (λp hp=>(t.2.1 p hp).1));have b1:=zb (C.below x);have a7:=zb x;clear X x B;go_wp2_with fail;refine HT.mono ?_
 rintro e w6 ⟨Z,g,c,rfl,a5⟩;have a9:=zb a5;clear a5;go_wp2_with fail;go_ret2;exact⟨(a8.after a7).after Z,b1.below Z,g,c,rfl,aK a9⟩
def cA(rj:List (Nat×Nat))(ls:List L)(a m:Nat):List UInt8:=if zE rj ls a m=0 then 0::Pl.toldB (zG ls (ZO ls a)) else [UInt8.ofNat (zE rj ls a m)]
theorem uH(rj:List (Nat×Nat))(ls:List L)(a m:Nat):zE rj ls a m<=6:=by unfold zE;split<;>(try split)<;>(try split)<;>omega
theorem qX(rj:List (Nat×Nat))(a m:Nat):zZ rj a m<=10:=by unfold zZ;split<;>omega
theorem mF{a m:Nat}(h:zE rj ls a m=0):UB a ls<ls.length/\rj.contains (a,m)=false/\¬10<=rj.length:=by
 unfold zE at h;by_cases c:UB a ls<ls.length
 ·rw[xe c]at h
  cases d:rj.contains (a,m) with
  |true=>rw[d]at h;simp at h
  |false=>
   rw[d]at h;by_cases b:10<=rj.length
   ·rw[xe b]at h;simp at h
   exact⟨c,rfl,b⟩
 rw[xg c]at h;omega
theorem pT(b:∀x∈ls,L.Ok x)(e:ls.length<=30)(a:Nat):(∀n∈zG ls (ZO ls a),n<9223372036854775808)/\(zG ls (ZO ls a)).length<=61:=by
 obtain⟨f,d,g⟩:=pR e b a;refine⟨λn c=>?_,?_⟩
 ·simp only[zG,xx]at c;rcases c with rfl|c
  ·omega
  exact hU b _ d n c
 simp only[zG,List.length_cons,eC];omega
variable {Z:Nat->Prop}
theorem JH(h:PI os rj Z w S td ls)(n:Good os ls)(a m:Nat)(r:a<=2147483647)(s:m<=2147483647):Calls prog 104 #[.pointer (some ⟨S,0,none⟩),.agg #[.int .i64 a,.int .i64 m]] w λe w'=>Kp Z w w'/\PI os (cB rj ls a m) (Zn Z w) w' S td ls /\
   ((zE rj ls a m≠0/\e=.returned (.tuple #[.slice none 0 0,.int .i64 (zE rj ls a m:Int)]))\/(zE rj ls a m=0/\∃g c,e=.returned (.tuple #[.slice (some ⟨g,0,none⟩) (zG ls (ZO ls a)).length c,.int .i64 0])/\Rw w' g (zG ls (ZO ls a)))):=by
 obtain⟨M,v,q,i,j,b⟩:=h;by_cases f:zE rj ls a m=0
 ·obtain⟨x,y,z⟩:=mF f;unfold cB;rw[xe f];refine(JG j n.ids a m r s x y z).mono ?_
  rintro e w' ⟨d,p,g,c,l,u⟩;exact⟨d.mono (λk d=>by rw[d];exact b.m),⟨M,v,q,i,p,b.mono (λk d=>Or.inl d)⟩,Or.inr ⟨f,g,c,l,Rw.of u (by simp[zG])⟩⟩
 unfold cB;rw[xg f];refine(JF j a m r s f).mono ?_
 rintro e w' ⟨t,l⟩;exact⟨UD t,⟨M,v,q,i,j.below t,b.mono (λk d=>Or.inl d)⟩,Or.inl ⟨f,l⟩⟩
theorem Hm(h:PI os rj Z w S td ls)(l:Good os ls)(a m:Nat)(F:a<=2147483647)(G:m<=2147483647):Calls prog 62 #[.pointer (some ⟨S,0,none⟩),.iface 163 (.agg #[.int .i64 a,.int .i64 m])] w λe w'=>Kp Z w w'/\PI os (cB rj ls a m) (Zn Z w) w' S td ls /\
   ((zE rj ls a m≠0/\e=.returned (.tuple #[.slice none 0 0,.int .i64 (zE rj ls a m:Int)]))\/(zE rj ls a m=0/\∃g c,e=.returned (.tuple #[.slice (some ⟨g,0,none⟩) (zG ls (ZO ls a)).length c,.int .i64 0])/\Rw w' g (zG ls (ZO ls a)))):=by
 have f:=TZ w (Obj.cells #[.int .i64 a,.int .i64 m] 163);obtain⟨M,v,D,u,x,n⟩:=h;have HD:=zb (JH (Z:=Z) ⟨M,v,D,u,x.below f,n⟩ l a m F G);generalize cB rj ls a m=rs' at HD ⊢;generalize zE rj ls a m=rc at HD ⊢;generalize zG ls (ZO ls a)=tq at HD ⊢;clear x l n;have z:=uR.o;have A:=kD.o;have B:=oK.o;have C:=oI.o;have q:=oJ.o;have i:=mO.o;have r:=rY.o;have j:=mP.o;go_enter func62,ntmps62;go_wp2_with fail;refine HD.mono ?_
 rintro e w1 ⟨y,b,⟨t,rfl⟩|⟨E,g,c,rfl,p⟩⟩
 ·have d:=zb b;clear b;go_wp2_with fail;go_ret2;exact⟨Kp.before f (y.mono (λk h=>Or.inl h)),d.mono (bN w _),Or.inl ⟨t,rfl⟩⟩
 have d:=zb b;have s:=zb p;clear b p;go_wp2_with fail;go_ret2;exact⟨Kp.before f (y.mono (λk h=>Or.inl h)),d.mono (bN w _),Or.inr ⟨E,g,c,rfl,s⟩⟩
theorem Fl(h:PI os rj Z w S td ls)(a m:Nat)(A:a<=2147483647)(B:m<=2147483647):Calls prog 62 #[.pointer (some ⟨S,0,none⟩),.iface 165 (.agg #[.int .i64 a,.int .i64 m])] w λe w'=>Kp Z w w'/\e=.returned (.tuple #[.slice none 0 0,.int .i64 (zZ rj a m:Int)])/\PI os (Zz rj a m) (Zn Z w) w' S td ls:=by
 have g:=TZ w (Obj.cells #[.int .i64 a,.int .i64 m] 165);obtain⟨M,v,z,r,s,i⟩:=h;have HD:=zb (Dj (s.below g) a m A B);have f:=zb i;generalize Zz rj a m=rs' at HD ⊢;generalize zZ rj a m=rc at HD ⊢;clear s i;have t:=sA.o;have u:=iJ.o;have x:=mU.o;have y:=mS.o;have n:=mT.o;have c:=kF.o;have p:=oN.o;have d:=kG.o;have b:=iK.o;go_enter func62,ntmps62;go_wp2_with fail;refine HD.mono ?_
 rintro e w1 ⟨j,rfl,l⟩;have q:=zb l;clear l;go_wp2_with fail;go_ret2;exact⟨Kp.before g (j.mono (λk j=>Or.inl (by rw[j];exact f.m))),rfl,M,v,z,r,q,f.mono (λk j=>Or.inl j)⟩
def zO(rj:List (Nat×Nat))(td:Nat)(os:List O)(ls:List L):Pl.Cmd->List UInt8×Nat×List O×List (Nat×Nat)×List L
 | .ok (8,[a,m])=>(cA rj ls a m,td,os,cB rj ls a m,ls)
 | .ok (9,[a,m])=>([UInt8.ofNat (zZ rj a m)],td,os,Zz rj a m,ls)
 |c=>((ZP rj td os ls c).1,(ZP rj td os ls c).2.1,(ZP rj td os ls c).2.2.1,rj,(ZP rj td os ls c).2.2.2)
theorem Bu{c:Pl.Cmd}(h:oB c)(td:Nat)(os:List O)(ls:List L):zO rj td os ls c=((ZP rj td os ls c).1,(ZP rj td os ls c).2.1,(ZP rj td os ls c).2.2.1,rj,(ZP rj td os ls c).2.2.2):=by
 cases c with
 |error e=>rfl
 |ok p=>
  obtain⟨n,a⟩:=p;rcases h n a rfl with rfl|rfl|rfl|rfl|rfl|rfl|rfl|rfl|rfl|rfl<;>rfl
theorem lF(l:List UInt8):oB (Pl.cmd l)\/∃c d,ZR l=some (c,d)/\Pl.mays (Pl.kindsL c) d=true/\Pl.cmd l=.ok (c,d)/\(c=8\/c=9)/\d.length=(Pl.kindsL c).length/\∀n∈d,n<9223372036854775808:=by
 have a:=dL l
 cases b:ZR l with
 |none=>left;intro n d e;rw[b]at a;rw[a]at e;cases e
 |some p=>
  obtain⟨c,d⟩:=p;rw[b]at a;obtain⟨j,k,f,g⟩:=bK b
  cases h:Pl.mays (Pl.kindsL c) d with
  |false=>
   simp only[h,XA,Yc]at a;left;intro n d e;rw[a]at e;cases e
  |true=>
   simp only[h,YC]at a;by_cases i:c=8\/c=9
   ·right;exact⟨c,d,rfl,h,a,i,f,g⟩
   left;intro n m e;rw[a]at e;cases e;omega
theorem Tc{b:List Nat}(h:b.length=(Pl.kindsL 8).length):∃a m,b=[a,m]:=by
 match b,h with
 |[a,m],_=>exact⟨a,m,rfl⟩
theorem Td{b:List Nat}(h:b.length=(Pl.kindsL 9).length):∃a m,b=[a,m]:=by
 match b,h with
 |[a,m],_=>exact⟨a,m,rfl⟩
theorem kR(h:Good os ls)(i:ls.length<=30)(l:List UInt8):Good (zO rj td os ls (Pl.cmd l)).2.2.1 (zO rj td os ls (Pl.cmd l)).2.2.2.2:=by
 rcases lF l with d|⟨c,n,f,k,e,g,b,j⟩
 ·rw[Bu d];exact Fv h i l d
 rw[e];rcases g with rfl|rfl
 ·obtain⟨a,m,rfl⟩:=Tc b;exact h
 obtain⟨a,m,rfl⟩:=Td b;exact h
