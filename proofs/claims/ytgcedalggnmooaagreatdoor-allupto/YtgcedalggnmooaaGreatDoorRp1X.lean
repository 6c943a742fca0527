import Derived.Test.YtgcedalggnmooaaGreatDoorDo1X
import Derived.Deep.CutRange
set_option linter.all false
set_option maxRecDepth 100000
set_option maxHeartbeats 3200000
namespace Go.Proofs.YtgcedalggnmooaaGreatDoor
open Go.RowKit
open Tryz
def Nl(a b:Nat):WideAt.IsKeyLit (cG a b):=trivial
def Ar(rj:List (Nat×Nat))(p q:Nat×Nat):(rj++[p]).contains q=(rj.contains q||q==p):=by
 rw[Ys];simp
def RD.put{rj:List (Nat×Nat)}{D:DataW Unit}(h:RD rj D)(m:Maps.Tidy D){a b:Nat}(g:a<=2147483647)(i:b<=2147483647)(s:rj.contains (a,b)=false)(d:DataW Unit):RD (rj++[(a,b)]) (D.put (cG a b) d):={
 size:=by rw[Maps.size_put m,h.has a b g i,s,h.size];simp
 has:=λc e j k=>by
  rw[Ar];by_cases f:(c,e)=(a,b)
  ·cases f;rw[xbn m.isMap (Nl _ _)];simp
  rw[xao (λx=>f (by obtain⟨q,r⟩:=gO j k g i x;rw[q,r])),h.has c e j k];have:((c,e)==(a,b))=false:=by rw[xr];exact f
  rw[this,xaj]
 keys:=λn l=>by
  by_cases f:n=cG a b
  ·exact⟨(a,b),by simp,f⟩
  rw[xao f]at l;obtain⟨p,t,e⟩:=h.keys n l;exact⟨p,by simp[t],e⟩}
variable {rj:List (Nat×Nat)}
def Rc.put(h:Rc rj){a b:Nat}(g:a<=2147483647)(i:b<=2147483647)(d:rj.contains (a,b)=false)(k:¬10<=rj.length):Rc (rj++[(a,b)]):={
 nodup:=by
  rw[XP];refine⟨h.nodup,by simp,λx j y f e=>?_⟩;simp at f;subst f;subst e;have:rj.contains (a,b)=true:=by rw[XW];exact j
  rw[this]at d;cases d
 len:=by simp;omega
 fits:=λp c=>by
  rcases xx.1 c with c|c
  ·exact h.fits p c
  simp at c;subst c;exact⟨g,i⟩}
def RD.del{rj:List (Nat×Nat)}{D:DataW Unit}(h:RD rj D)(g:Rc rj)(v:Maps.Tidy D){a b:Nat}(j:a<=2147483647)(l:b<=2147483647)(q:rj.contains (a,b)=true):RD (rj.erase (a,b)) (D.del (cG a b)):={
 size:=by
  have i:=Maps.size_del (k:=cG a b) v;rw[h.has a b j l,q,h.size]at i;rw[xav (XW.1 q)];simp at i;omega
 has:=λc e m n=>by
  by_cases d:(c,e)=(a,b)
  ·cases d;rw[xaI]
   symm
   rw[Bool.eq_false_iff];intro w;exact(g.nodup.not_mem_erase) (XW.1 w)
  rw[xaD (λx=>d (by obtain⟨s,t⟩:=gO m n j l x;rw[s,t])),h.has c e m n];rw[Ys,XW,XW,g.nodup.mem_erase_iff];exact⟨λx=>⟨d,x⟩,λx=>x.2⟩
 keys:=λr f=>by
  by_cases d:r=cG a b
  ·subst d;rw[xaI]at f;cases f
  rw[xaD d]at f;obtain⟨p,u,e⟩:=h.keys r f;refine⟨p,g.nodup.mem_erase_iff.2 ⟨λx=>d (by rw[e,x]),u⟩,e⟩}
def Rc.del(h:Rc rj)(p:Nat×Nat):Rc (rj.erase p):={
 nodup:=h.nodup.erase p
 len:=xj (List.length_erase_le) h.len
 fits:=λq a=>h.fits q (List.mem_of_mem_erase a)}
variable {Lb S td:Nat}{M:Mx}{bs ns:List Nat}{ls:List L}{os:List O}{pvs:List Value}{v:Value}{w w':World}
def PV.rmap{a:List (Nat×Nat)}(h:PV os rj w S M v td bs pvs ls)(u:w.grownBy w' (some M.r)){n:DataW Unit}{N:Nat}(E:yU w' M.r N n)(C:RD a n)(D:Rc a):PV os a w' S M v td bs pvs ls:=by
 obtain⟨_,_,y⟩:=h.maps.mr;have m:∀(k:Nat) (l:Array Value) (t:TypeId),w.heap[k]?=some (.cells l t (0,0))->w'.heap[k]?=w.heap[k]?:=λk l t z=>u.block k (zc z) (λe=>zX z y (xt e))
 have c:=h.maps;obtain⟨B,f,s⟩:=c.o;obtain⟨A,d,p⟩:=c.h;exact {
  store:=(m _ _ _ h.store).trans h.store
  maps:=⟨⟨n,Z7 E,C⟩,D,⟨B,zu f (u.block _ (XG f) (λe=>c.ro (xt e).symm)),s⟩,⟨A,zu d (u.block _ (XG d) (λe=>c.rh (xt e).symm)),p⟩,c.ro,c.rh,c.oh⟩
  row:=zd h.row (λg x=>by obtain⟨l,b⟩:=zh h.row x;exact m _ _ _ b)
  len:=h.len
  plen:=h.plen
  lot:=λi j=>(m _ _ _ (h.lot i j)).trans (h.lot i j)
  par:=λi j=>(h.par i j).congr (λq F=>by obtain⟨l,b⟩:=(h.par i j).blk F;exact m _ _ _ b)
  nodup:=h.nodup
  today:=h.today
  ok:=h.ok
  room:=h.room }
variable {D:DataW Unit}
def JX{b n:Nat}(h:yU w b n D)(hd:RD rj D)(x y:Nat)(a:x<=2147483647)(c:y<=2147483647):(Instr.lookup 114 (.map (some b)) (.agg #[.int .i64 x,.int .i64 y]) true).run prog w=.ok (.tuple #[.agg #[],.bool (rj.contains (x,y))]) w:=by
 obtain⟨v,ps,d,e⟩:=xaG h Ib OC (rQ w) xaZ (JK a c);obtain⟨rfl,_⟩:=xco e;rw[d,hd.has x y a c]
def eO(h:PV os rj w S M v td bs pvs ls)(x y:Nat)(b:x<=2147483647)(c:y<=2147483647):Calls prog 155 #[.pointer (some ⟨S,0,none⟩),.agg #[.int .i64 x,.int .i64 y]] w λe w'=>e=.returned (.bool (rj.contains (x,y)))/\Below w.heap.size w w':=by
 have i:=VE w (Obj.cells #[.int .i64 x,.int .i64 y] 202);have d:=h.below i;obtain⟨D,a,hd⟩:=d.maps.r;have j:=JX (w:=(w.alloc (Obj.cells #[.int .i64 x,.int .i64 y] 202)).drew) a hd x y b c;have f:=JX a hd x y b c;have g:=JX (w:=((w.alloc (Obj.cells #[.int .i64 x,.int .i64 y] 202)).alloc (Obj.cells #[] 206)).drew) (World.ownsMap.alloc a _) hd x y b c;have c4:=h.c4;have k:=zc h.store;generalize rj.contains (x,y)=bb at *;clear h a hd d;go_enter func155,ntmps155;go_wp2_with fail;go_region
 all_goals (go_wp2_with fail;go_ret;exact⟨rfl,((VE w _).alloc (by simp) _).drew⟩)
def zW(rj:List (Nat×Nat))(a m:Nat):Nat:=if rj.contains (a,m) then 0 else 10
def Zq(rj:List (Nat×Nat))(a m:Nat):List (Nat×Nat):=if rj.contains (a,m) then rj.erase (a,m) else rj
def DN(h:PV os rj w S M v td bs pvs ls)(a m:Nat)(E:a<=2147483647)(F:m<=2147483647):Calls prog 105 #[.pointer (some ⟨S,0,none⟩),.agg #[.int .i64 a,.int .i64 m]] w λe w'=>Kp (λk=>k=M.r) w w'/\e=.returned (.int .i64 (zW rj a m:Int))/\PV os (Zq rj a m) w' S M v td bs pvs ls:=by
 have y:=(VE w (Obj.cells #[.int .i64 a,.int .i64 m] 165)).alloc (by simp) (Obj.cells #[.int .i64 a,.int .i64 m] 202);have x:=h.below y;have u:=zb (eO x a m E F);have l:=xp (w.alloc (Obj.cells #[.int .i64 a,.int .i64 m] 165)) (Obj.cells #[.int .i64 a,.int .i64 m] 202);have H:=zb x;have t:=zb y
 cases i:rj.contains (a,m) with
 |false=>
  have z:Ha (zW rj a m=10):=by unfold Ha zW;rw[i];rfl
  have C:Ha (Zq rj a m=rj):=by unfold Ha Zq;rw[i];rfl
  rw[i]at u;rw[z.o,C.o];clear i h x l y;go_enter func105,ntmps105;go_wp2_with (go_at_call 155;refine u.mono ?_;rintro e w1 ⟨rfl,b⟩);go_ret;exact⟨Wo (t.trans (b.mono t.size)),rfl,H.below b⟩
 |true=>
  have z:Ha (zW rj a m=0):=by unfold Ha zW;rw[i];rfl
  have C:Ha (Zq rj a m=rj.erase (a,m)):=by unfold Ha Zq;rw[i];rfl
  have p:=zb i;rw[i]at u;rw[z.o,C.o];have n:=zb l;clear i h x l y;go_enter func105,ntmps105;go_wp2_with fail;refine u.mono ?_
  rintro e w1 ⟨rfl,b⟩;have f:=H.below b;have d:=(b.block _ (zc n)).trans n;simp only[xcl]at d;have N:w1.cell? ⟨w.heap.size+1,0,none⟩=some (.int .i64 a):=by rw[za d];rfl
  have P:w1.cell? ⟨w.heap.size+1,1,none⟩=some (.int .i64 m):=by rw[za d];rfl
  have Q:=f.c4;obtain⟨D,G,s⟩:=f.maps.r;obtain⟨K,J,g,c⟩:=xbO (w:=w1.drew) G Ib OC (JK E F) 0;have j:=c.grown;have q:=(f.below (xm _ _).drew).rmap j g (s.del f.maps.rc (Yj G Ib) E F p) (f.maps.rc.del _);have B:=zb q;have A:Ha (Kp (λk=>k=M.r) w K):=(Wo ((t.trans (b.mono t.size)).drew)).trans (sB c (Or.inl rfl));clear G s g c j q f d b;go_wp2_with fail;go_region;go_wp2_with fail;go_ret;exact⟨A,rfl,B⟩
def gT(ls:List L)(f:Nat->Bool)(k:Nat):List Nat:=((VO ls).take k).filter (qG ls f)
def Jv{f:Nat->Bool}{k:Nat}(a:k<ls.length)(h:qG ls f ((VO ls).getD k 0)=true):gT ls f (k+1)=gT ls f k++[(VO ls).getD k 0]:=by
 unfold gT;rw[Es a,xaa];simp only[List.filter,h]
def Nk{f:Nat->Bool}{k:Nat}(a:k<ls.length)(h:qG ls f ((VO ls).getD k 0)=false):gT ls f (k+1)=gT ls f k:=by
 unfold gT;rw[Es a,xaa];simp only[List.filter,h,yo]
def Ju(ls:List L)(f:Nat->Bool)(k:Nat):(gT ls f k).length<=k:=xj (Yy _ _) (Yw _ _)
def Jt(a:∀i j,i<ls.length->j<ls.length->(ls.getD i L0).id=(ls.getD j L0).id->i=j)(n:Nat):gT ls (jA ls n) ls.length=tF ls n:=by
 have e:gT ls (jA ls n) ls.length=(VO ls).filter (qG ls (jA ls n)):=by
  unfold gT;rw[Xy (by rw[bX];exact xe _)]
 rw[e];exact EJ a ((iX ls).filter _) ((Cv ls).filter _)
def Gm(h:PV os rj w S M v td bs pvs ls)(Q:∀i j,i<ls.length->j<ls.length->(ls.getD i L0).id=(ls.getD j L0).id->i=j)(n:Nat)(hn:n<=2147483647)(e8:0<ls.length):Calls prog 156 #[.pointer (some ⟨S,0,none⟩),.int .i64 n] w λe w'=>Below w.heap.size w w'/\∃a cap,e=.returned (.slice a (ZK ls n).length cap)/\OS w' bs a (ZK ls n):=by
 have f5:=@xbT prog;obtain⟨i0,hi,e3,e4,e5⟩:=XT wU;obtain⟨a,cap,hv,_⟩:=h.shape;have c1:=h.c1;rw[hv]at c1;have e2:=h.room;have b3:=zc h.store;have f3:M.r<w.heap.size:=by obtain⟨_,_,q⟩:=h.maps.mr;exact zc q
 have f2:M.o<w.heap.size:=by obtain⟨_,_,q⟩:=h.maps.mo;exact zc q
 have f1:M.h<w.heap.size:=by obtain⟨_,_,q⟩:=h.maps.mh;exact zc q
 have Z:iC (w.alloc (.map #[] 0)) w.heap.size 0 (.map []):=World.ownsMap_made _ _ _ _;obtain⟨wf,c7,B,P⟩:=Yp Z AV OA (by unfold maxLen;omega) (qS hn) xaZ;have a0:Below w.heap.size w wf:=(VE w _).grown P (VE w _).size (λk hk=>by cases hk;exact xe _);have t:FD (λm=>m==n) ((DataW.map []).put (dT n) (.agg [])):=by
  have h0:FD (λ_=>false) (DataW.map []:DataW Unit):=λm _=>rfl
  have h1:=h0.put (xbH Z) n (.agg []);have e:(λx=>false||x==n)=λm=>m==n:=by funext x;simp
  rw[e]at h1;exact h1
 have HG:=zb (EH (h.below a0) B t (by omega) ⟨by omega,by omega,by omega⟩);have HV:=zb hv;have HP:=zb h;have a7:=zb a0;have J:=zb Q;clear h hv Z B P t Q a0;go_enter func156,ntmps156;go_wp2_with fail;refine HG.mono ?_
 rintro e w1 ⟨rfl,b7,N,D,b9,t⟩;have C:Ha (Below w.heap.size w w1):=a7.grown b7 a7.size (λk hk=>by cases hk;exact xe _);have f0:w1.cell? ⟨S,1,none⟩=some (.slice a ls.length cap):=(C.cell (by exact b3)).trans c1;have b2:=zb b9;have d2:=zb t;have d4:=zb (HP.below C);have a9:=zb (fL d4 J);clear b7 b9 t c7 HG c1;go_wp2_with (go_at_call 123;refine a9.mono ?_;rintro e R ⟨b5,pa,e9,rfl,b4⟩);have a6:=zb b5;have c8:=zb b4;clear b5 b4 a9;go_wp2_with fail;go_loopw [6,8,19] (λlv _ ii wr=>∃k:Nat,k<=ls.length/\ii=.int .i64 k/\wr.ownsRow R.heap.size 241 2 lv (gT ls (jA ls n) k).length (zk bs (ZS ls (gT ls (jA ls n) k)))/\Below R.heap.size R wr) (λ_ _ ii _=>ls.length-(intOf ii).toNat)
 case atStart=>exact⟨0,by omega,rfl,Xx _ _ _ _,xm _ _⟩
 obtain⟨k,hk,rfl,d,hb⟩:=hrel;obtain⟨la,lc,d9⟩:=zj d;subst d9;have b8:=Ju ls (jA ls n) k;have F:Below w1.heap.size w1 wr:=a6.trans (hb.mono a6.size);have E:Below w.heap.size w wr:=C.trans (F.mono C.size);have l:=HP.below E;by_cases z:k<ls.length
 ·obtain⟨G,rfl,_,e7,d6⟩:=(c8.below hb) k (by rw[bX];exact z);have hj:=vU z;have g:=zb (Jv (f:=jA ls n) z);have s:=zb (Nk (f:=jA ls n) z);generalize (VO ls).getD k 0=j at *;have a4:=l.ok _ (zf hj);have a2:wr.cell? ⟨bs.getD j 0,0,none⟩=some (.int .i64 ((ls.getD j L0).id:Int)):=by rw[l.cl j hj 0];rfl
  have a3:wr.cell? ⟨bs.getD j 0,7,none⟩=some (.int .i64 ((ls.getD j L0).hd:Int)):=by rw[l.cl j hj 7];rfl
  have K:bs.getD j 0<wr.heap.size:=zc (l.lot j hj);have a1:=a4.id;have d8:(ls.getD j L0).hd<=2147483647:=by have:=a4.sum;omega
  have c6:iC wr w.heap.size N D:=zu b2 (F.block _ (XG b2));have c:=zb (Jn c6 a1 a2);rw[d2.o _ a1]at c;have p:Ha (qG ls (jA ls n) j=(decide (0<(ls.getD j L0).hd)&&jA ls n (ls.getD j L0).id)):=rfl;obtain⟨bk,a8⟩:=Ww (bs.getD j 0);rw[<-a8.o]at d6 a2 a3 K c;obtain⟨hd,b0⟩:=Ww ((ls.getD j L0).hd);rw[<-b0.o]at a3 d8 p;obtain⟨a5,b1⟩:=Ww ((ls.getD j L0).id);rw[<-b1.o]at a2 a1 p c;have d1:Ha (kK ls (λm=>m==n) a5=jA ls n a5):=rfl;rw[d1.o]at c;have X:=zb d;have H:=zb hb;clear l a4 c6 d hb E F;by_cases hh:0<hd
  ·have d7:decide ((0:Int)<(hd:Int))=true:=by simp;omega
   cases hc:jA ls n a5 with
   |true=>
    rw[hc]at c;have HY:=g.o (by rw[p.o,hc];simp[hh]);have d5:=zb HY;clear g s HY hc;obtain⟨hl,T⟩:=Ww ((gT ls (jA ls n) k).length);rw[<-T.o]at X b8;rw[<-T.o];go_wp2_with (first
     |(go_at_call 158;refine c.mono ?_;rintro e w2 ⟨rfl,b⟩;have f4:w2.cell? ⟨bk,7,none⟩=some (.int .i64 hd):=(b.cell (by exact K)).trans a3)
     |(at_builtin;refine Xr _ rfl _ _ 197 rfl R.heap.size 241 i0 (.agg #[.pointer none,.int .i64 0]) 2 16 yF hi e3 e4 e5 rfl (by decide) _ hl (zk bs (ZS ls (gT ls (jA ls n) k))) rfl ((zg X b).alloc _) ⟨w2.heap.size,0,none⟩ 1 1 [.pointer (some ⟨bk,0,none⟩),.int .i64 hd] rfl rfl ?c1 ?c2 ?c3 ?c4 ?c5 ?_))
    case c1=>exact Yt w2 _ _ _
    case c2=>intro u hu;simp at hu;rcases hu with rfl|rfl<;>rfl
    case c3=>unfold maxLen;omega
    case c4=>omega
    case c5=>have:=H.size;have:=b.size;simp;omega
    intro e6 w6 A y e0;have b6:Below R.heap.size R w6:=((H.trans (b.mono H.size)).alloc (by have:=H.size;have:=b.size;omega) _).grown y (by have:=H.size;have:=b.size;simp;omega) (λq hq=>(X.lt q hq).1);have d3:Ha (w6.ownsRow R.heap.size 241 2 e6 (gT ls (jA ls n) (k+1)).length (zk bs (ZS ls (gT ls (jA ls n) (k+1))))):=by
     unfold Ha;rw[d5.o,yM,aH,xc,Xw,<-T.o,<-b0.o,<-a8.o];exact A
    have d0:=zb b6;clear A y e0 b6 b;go_wp2_with fail;go_roundw
    case rel=>exact⟨k+1,by omega,by go_num,d3,d0⟩
    simp[intOf];omega
   |false=>
    rw[hc]at c;have W:=zb (s (by rw[p.o,hc];simp));clear g s hc;go_wp2_with (first|(go_at_call 158;refine c.mono ?_;rintro e w2 ⟨rfl,b⟩)|fail);go_roundw
    case rel=>exact⟨k+1,by omega,by go_num,by rw[W.o];exact zg X b,H.trans (b.mono H.size)⟩
    simp[intOf];omega
  have d7:decide ((0:Int)<(hd:Int))=false:=by simp;omega
  have W:=zb (s (by rw[p.o];simp[hh]));clear g s;go_wp2_with fail;go_roundw
  case rel=>exact⟨k+1,by omega,by go_num,by rw[W.o];exact X,H⟩
  simp[intOf];omega
 obtain rfl:k=ls.length:=by omega
 have c9:=zb E;have X:=zb d;have HE:=zb (Jt J n);clear d hb E F l z;go_wp2_with fail;go_ret;have ho:=X.o;rw[HE.o]at ho;refine⟨c9,la,lc,by rw[HE.o];unfold ZK;rw[dQ];rfl,?_⟩;intro k hk;unfold ZK at hk ⊢;have e1:wr.ownsRow R.heap.size 241 2 (.slice la (ZS ls (tF ls n)).length lc) (ZS ls (tF ls n)).length (zk bs (ZS ls (tF ls n))):=by rw[dQ];exact ho
 exact ZW e1 k hk
def zC(rj:List (Nat×Nat))(ls:List L)(a m:Nat):Nat:=if Wj a ls<ls.length then (if rj.contains (a,m) then 5 else if 10<=rj.length then 6 else 0) else 4
def cC(rj:List (Nat×Nat))(ls:List L)(a m:Nat):List (Nat×Nat):=if zC rj ls a m=0 then rj++[(a,m)] else rj
def KV(h:PV os rj w S M v td bs pvs ls)(a m:Nat)(F:a<=2147483647)(H:m<=2147483647)(b:zC rj ls a m≠0):Calls prog 104 #[.pointer (some ⟨S,0,none⟩),.agg #[.int .i64 a,.int .i64 m]] w λe w'=>Below w.heap.size w w'/\e=.returned (.tuple #[.slice none 0 0,.int .i64 (zC rj ls a m:Int)]):=by
 have y:=VE w (Obj.cells #[.int .i64 a,.int .i64 m] 163);have c:=y.alloc (by simp) (Obj.cells #[.int .i64 a,.int .i64 m] 202);have A:=h.below y;have g:=h.below c;have s:=zb (Zm A a F);have t:=zb (eO g a m F H);by_cases j:Wj a ls<ls.length
 ·have d:zJ bs ls a=.pointer (some ⟨bs.getD (Wj a ls) 0,0,none⟩):=by unfold zJ;rw[xh j]
  rw[d]at s;generalize bs.getD (Wj a ls) 0=bb at *
  cases l:rj.contains (a,m) with
  |true=>
   have p:Ha (zC rj ls a m=5):=by unfold Ha zC;rw[xh j,l];rfl
   rw[l]at t;rw[p.o];have f:=zb c;clear l h A g j d b y c;go_enter func104,ntmps104;go_wp2_with (first
    |(go_at_call 148;refine s.mono ?_;rintro e w1 ⟨rfl,rfl⟩)
    |(go_at_call 155;refine t.mono ?_;rintro e w2 ⟨rfl,i⟩))
   go_ret2;exact⟨f.trans (i.mono f.size),rfl⟩
  |false=>
   have u:10<=rj.length:=by
    unfold zC at b;rw[xh j,l]at b;by_cases q:10<=rj.length
    ·exact q
    rw[xg q]at b;simp at b
   have p:Ha (zC rj ls a m=6):=by unfold Ha zC;rw[xh j,l,xh u];rfl
   rw[l]at t;rw[p.o];have f:=zb c;have C:=h.maps.rc.len;have B:=zb g;obtain⟨n,E⟩:=Ww rj.length;rw[<-E.o]at u C;clear l h A g j d b y c;go_enter func104,ntmps104;go_wp2_with (first|(go_at_call 148;refine s.mono ?_;rintro e w1 ⟨rfl,rfl⟩)|fail);refine t.mono ?_
   rintro e w2 ⟨rfl,i⟩;have k:=B.below i;have c4:=k.c4;obtain⟨D,G,x⟩:=k.maps.r;have z:=xaf G OC;rw[x.size,<-E.o]at z;clear k G x;go_wp2_with fail;go_ret2;exact⟨f.trans (i.mono f.size),rfl⟩
 have d:zJ bs ls a=.pointer none:=by unfold zJ;rw[xg j]
 rw[d]at s;have p:Ha (zC rj ls a m=4):=by unfold Ha zC;rw[xg j]
 rw[p.o];clear h A g j d b t c;go_enter func104,ntmps104;go_wp2_with (go_at_call 148;refine s.mono ?_;rintro e w1 ⟨rfl,rfl⟩);go_ret2;exact⟨y,rfl⟩
def qH(f:ls.length<=30)(b:∀x∈ls,L.Ok x)(n:Nat):(ZK ls n).length<=30/\(∀p∈ZK ls n,p.1<ls.length/\p.2<=2147483647)/\(∀k,k<(ZK ls n).length->((ZK ls n).getD k (0,0)).2<=2147483647):=by
 have c:∀p∈ZK ls n,p.1<ls.length/\p.2<=2147483647:=λp g=>by
  obtain⟨i,d,rfl⟩:=Xz.1 g;have a:=(Jq.1 d).1;have:=(b _ (zf a)).sum;exact⟨a,by show(ls.getD i L0).hd<=_;omega⟩
 refine⟨?_,c,λk e=>(c _ ?_).2⟩
 ·unfold ZK;rw[dQ];exact xj (Jp ls n) f
 simp[Wc,e]
def KW(h:PV os rj w S M v td bs pvs ls)(A:∀i j,i<ls.length->j<ls.length->(ls.getD i L0).id=(ls.getD j L0).id->i=j)(a m:Nat)(J:a<=2147483647)(h2:m<=2147483647)(hi:Wj a ls<ls.length)(hc:rj.contains (a,m)=false)(W:¬10<=rj.length):Calls prog 104 #[.pointer (some ⟨S,0,none⟩),.agg #[.int .i64 a,.int .i64 m]] w λe w'=>Kp (λk=>k=M.r) w w'/\PV os (rj++[(a,m)]) w' S M v td bs pvs ls /\
   ∃g c,e=.returned (.tuple #[.slice (some ⟨g,0,none⟩) (zA ls (ZK ls a)).length c,.int .i64 0])/\w'.ownsRow 0 2 1 (.slice (some ⟨g,0,none⟩) (zA ls (ZK ls a)).length c) (zA ls (ZK ls a)).length (I (zA ls (ZK ls a))):=by
 have ha:=VE w (Obj.cells #[.int .i64 a,.int .i64 m] 163);have G:=ha.alloc (by simp) (Obj.cells #[.int .i64 a,.int .i64 m] 202);have hP:=h.below ha;have E:=h.below G;have HF:=zb (Zm hP a J);have HH:=zb (eO E a m J h2);have a2:zJ bs ls a=.pointer (some ⟨bs.getD (Wj a ls) 0,0,none⟩):=by unfold zJ;rw[xh hi]
 rw[a2]at HF;rw[hc]at HH;generalize bs.getD (Wj a ls) 0=bb at *;have y:=zb hc;have K:=zb G;have b0:=zb E;have b2:=zb h.maps.rc;have R:=zb A;have t:=zb (qH h.room h.ok a);have a6:0<ls.length:=by omega
 have a1:=(yl (w.alloc (Obj.cells #[.int .i64 a,.int .i64 m] 163)) (Obj.cells #[.int .i64 a,.int .i64 m] 202) w.heap.size (by simp)).trans (xp w (Obj.cells #[.int .i64 a,.int .i64 m] 163));have a0:=xp (w.alloc (Obj.cells #[.int .i64 a,.int .i64 m] 163)) (Obj.cells #[.int .i64 a,.int .i64 m] 202);have P:=zb a1;have N:=zb a0;have a4:rj.length<10:=by omega
 have T:=zb W;obtain⟨n,HN⟩:=Ww rj.length;rw[<-HN.o]at a4;obtain⟨hq,Q⟩:=Ww (ZK ls a);rw[<-Q.o]at t ⊢;clear hc h hP E hi a2 ha G a1 a0 W A;go_enter func104,ntmps104;go_wp2_with (first|(go_at_call 148;refine HF.mono ?_;rintro e w1 ⟨rfl,rfl⟩)|fail);refine HH.mono ?_
 rintro e w2 ⟨rfl,q⟩;have l:=b0.below q;have c4:=l.c4;obtain⟨D,hD,u⟩:=l.maps.r;have a3:=xaf hD OC;rw[u.size,<-HN.o]at a3;have d:=(q.block _ (zc P)).trans P;have b:=(q.block _ (zc N)).trans N;simp only[xcl]at b;have k0:w2.cell? ⟨w.heap.size+1,0,none⟩=some (.int .i64 a):=by rw[za b];rfl
 have k1:w2.cell? ⟨w.heap.size+1,1,none⟩=some (.int .i64 m):=by rw[za b];rfl
 obtain⟨w4,b4,s,f⟩:=Yp (w:=w2.drew) hD Ib OC (by rw[u.size,<-HN.o];unfold maxLen;omega) (JK J h2) (xaZ (H:=Unit));have F:=(l.below (xm _ _).drew).rmap f s (u.put (Yj hD Ib) J h2 y _) (b2.put J h2 y T);have z:w4.heap[w.heap.size]?=some (Obj.cells #[.int .i64 a,.int .i64 m] 163 (0,0)):=by
  refine(f.block _ (zc d) (λe=>?_)).trans d;obtain⟨_,_,b3⟩:=l.maps.mr;exact zX d b3 (xt e)
 have j0:w4.cell? ⟨w.heap.size,0,none⟩=some (.int .i64 a):=by rw[za z];rfl
 have B:=zb (Gm F R a J a6);rw[<-Q.o]at B;have C:=zb F;have a8:Ha (Kp (λk=>k=M.r) w w4):=(Wo ((K.trans (q.mono K.size)).drew)).trans (jM f (Or.inl rfl));clear l hD u d b s f F z q HH HF;go_wp2_with fail;go_region;go_wp2_with fail;refine B.mono ?_
 rintro e w5 ⟨x,la,lc,rfl,X⟩;have HT:=zb (sA (ls:=ls) (cap:=lc) X t.1 t.2.2 (C.below x).lots C.ok (λp hp=>(t.2.1 p hp).1));have b1:=zb (C.below x);have a7:=zb x;clear X x B;go_wp2_with fail;refine HT.mono ?_
 rintro e w6 ⟨Z,g,c,rfl,a5⟩;have a9:=zb a5;clear a5;go_wp2_with fail;go_ret2;exact⟨(a8.after a7).after Z,b1.below Z,g,c,rfl,aK a9⟩
def cB(rj:List (Nat×Nat))(ls:List L)(a m:Nat):List UInt8:=if zC rj ls a m=0 then 0::Pl.toldB (zA ls (ZK ls a)) else [UInt8.ofNat (zC rj ls a m)]
def uW(rj:List (Nat×Nat))(ls:List L)(a m:Nat):zC rj ls a m<=6:=by unfold zC;split<;>(try split)<;>(try split)<;>omega
def rO(rj:List (Nat×Nat))(a m:Nat):zW rj a m<=10:=by unfold zW;split<;>omega
def mT{a m:Nat}(h:zC rj ls a m=0):Wj a ls<ls.length/\rj.contains (a,m)=false/\¬10<=rj.length:=by
 unfold zC at h;by_cases c:Wj a ls<ls.length
 ·rw[xh c]at h
  cases d:rj.contains (a,m) with
  |true=>rw[d]at h;simp at h
  |false=>
   rw[d]at h;by_cases b:10<=rj.length
   ·rw[xh b]at h;simp at h
   exact⟨c,rfl,b⟩
 rw[xg c]at h;omega
def qJ(b:∀x∈ls,L.Ok x)(e:ls.length<=30)(a:Nat):(∀n∈zA ls (ZK ls a),n<9223372036854775808)/\(zA ls (ZK ls a)).length<=61:=by
 obtain⟨f,d,g⟩:=qH e b a;refine⟨λn c=>?_,?_⟩
 ·simp only[zA,xz]at c;rcases c with rfl|c
  ·omega
  exact iJ b _ d n c
 simp only[zA,List.length_cons,dF];omega
variable {Z:Nat->Prop}
def KX(h:PI os rj Z w S td ls)(n:Good os ls)(a m:Nat)(r:a<=2147483647)(s:m<=2147483647):Calls prog 104 #[.pointer (some ⟨S,0,none⟩),.agg #[.int .i64 a,.int .i64 m]] w λe w'=>Kp Z w w'/\PI os (cC rj ls a m) (Zn Z w) w' S td ls /\
   ((zC rj ls a m≠0/\e=.returned (.tuple #[.slice none 0 0,.int .i64 (zC rj ls a m:Int)]))\/(zC rj ls a m=0/\∃g c,e=.returned (.tuple #[.slice (some ⟨g,0,none⟩) (zA ls (ZK ls a)).length c,.int .i64 0])/\Rw w' g (zA ls (ZK ls a)))):=by
 obtain⟨M,v,q,i,j,b⟩:=h;by_cases f:zC rj ls a m=0
 ·obtain⟨x,y,z⟩:=mT f;unfold cC;rw[xh f];refine(KW j n.ids a m r s x y z).mono ?_
  rintro e w' ⟨d,p,g,c,l,u⟩;exact⟨d.mono (λk d=>by rw[d];exact b.m),⟨M,v,q,i,p,b.mono (λk d=>Or.inl d)⟩,Or.inr ⟨f,g,c,l,Rw.of u (by simp[zA])⟩⟩
 unfold cC;rw[xg f];refine(KV j a m r s f).mono ?_
 rintro e w' ⟨t,l⟩;exact⟨Wo t,⟨M,v,q,i,j.below t,b.mono (λk d=>Or.inl d)⟩,Or.inl ⟨f,l⟩⟩
def IJ(h:PI os rj Z w S td ls)(l:Good os ls)(a m:Nat)(F:a<=2147483647)(G:m<=2147483647):Calls prog 62 #[.pointer (some ⟨S,0,none⟩),.iface 163 (.agg #[.int .i64 a,.int .i64 m])] w λe w'=>Kp Z w w'/\PI os (cC rj ls a m) (Zn Z w) w' S td ls /\
   ((zC rj ls a m≠0/\e=.returned (.tuple #[.slice none 0 0,.int .i64 (zC rj ls a m:Int)]))\/(zC rj ls a m=0/\∃g c,e=.returned (.tuple #[.slice (some ⟨g,0,none⟩) (zA ls (ZK ls a)).length c,.int .i64 0])/\Rw w' g (zA ls (ZK ls a)))):=by
 have f:=VE w (Obj.cells #[.int .i64 a,.int .i64 m] 163);obtain⟨M,v,D,u,x,n⟩:=h;have HD:=zb (KX (Z:=Z) ⟨M,v,D,u,x.below f,n⟩ l a m F G);generalize cC rj ls a m=rs' at HD ⊢;generalize zC rj ls a m=rc at HD ⊢;generalize zA ls (ZK ls a)=tq at HD ⊢;clear x l n;have z:=vJ.o;have A:=kP.o;have B:=pA.o;have C:=oY.o;have q:=oZ.o;have i:=nC.o;have r:=sQ.o;have j:=nD.o;go_enter func62,ntmps62;go_wp2_with fail;refine HD.mono ?_
 rintro e w1 ⟨y,b,⟨t,rfl⟩|⟨E,g,c,rfl,p⟩⟩
 ·have d:=zb b;clear b;go_wp2_with fail;go_ret2;exact⟨Kp.before f (y.mono (λk h=>Or.inl h)),d.mono (bP w _),Or.inl ⟨t,rfl⟩⟩
 have d:=zb b;have s:=zb p;clear b p;go_wp2_with fail;go_ret2;exact⟨Kp.before f (y.mono (λk h=>Or.inl h)),d.mono (bP w _),Or.inr ⟨E,g,c,rfl,s⟩⟩
def FY(h:PI os rj Z w S td ls)(a m:Nat)(A:a<=2147483647)(B:m<=2147483647):Calls prog 62 #[.pointer (some ⟨S,0,none⟩),.iface 165 (.agg #[.int .i64 a,.int .i64 m])] w λe w'=>Kp Z w w'/\e=.returned (.tuple #[.slice none 0 0,.int .i64 (zW rj a m:Int)])/\PI os (Zq rj a m) (Zn Z w) w' S td ls:=by
 have g:=VE w (Obj.cells #[.int .i64 a,.int .i64 m] 165);obtain⟨M,v,z,r,s,i⟩:=h;have HD:=zb (DN (s.below g) a m A B);have f:=zb i;generalize Zq rj a m=rs' at HD ⊢;generalize zW rj a m=rc at HD ⊢;clear s i;have t:=sS.o;have u:=iT.o;have x:=nH.o;have y:=nF.o;have n:=nG.o;have c:=kR.o;have p:=pD.o;have d:=kS.o;have b:=iU.o;go_enter func62,ntmps62;go_wp2_with fail;refine HD.mono ?_
 rintro e w1 ⟨j,rfl,l⟩;have q:=zb l;clear l;go_wp2_with fail;go_ret2;exact⟨Kp.before g (j.mono (λk j=>Or.inl (by rw[j];exact f.m))),rfl,M,v,z,r,q,f.mono (λk j=>Or.inl j)⟩
def zO(rj:List (Nat×Nat))(td:Nat)(os:List O)(ls:List L):Pl.Cmd->List UInt8×Nat×List O×List (Nat×Nat)×List L
 | .ok (8,[a,m])=>(cB rj ls a m,td,os,cC rj ls a m,ls)
 | .ok (9,[a,m])=>([UInt8.ofNat (zW rj a m)],td,os,Zq rj a m,ls)
 |c=>((ZL rj td os ls c).1,(ZL rj td os ls c).2.1,(ZL rj td os ls c).2.2.1,rj,(ZL rj td os ls c).2.2.2)
def Cb{c:Pl.Cmd}(h:oR c)(td:Nat)(os:List O)(ls:List L):zO rj td os ls c=((ZL rj td os ls c).1,(ZL rj td os ls c).2.1,(ZL rj td os ls c).2.2.1,rj,(ZL rj td os ls c).2.2.2):=by
 cases c with
 |error e=>rfl
 |ok p=>
  obtain⟨n,a⟩:=p;rcases h n a rfl with rfl|rfl|rfl|rfl|rfl|rfl|rfl|rfl|rfl|rfl<;>rfl
def lT(l:List UInt8):oR (Pl.cmd l)\/∃c d,ZO l=some (c,d)/\Pl.mays (Pl.kindsL c) d=true/\Pl.cmd l=.ok (c,d)/\(c=8\/c=9)/\d.length=(Pl.kindsL c).length/\∀n∈d,n<9223372036854775808:=by
 have a:=dL l
 cases b:ZO l with
 |none=>left;intro n d e;rw[b]at a;rw[a]at e;cases e
 |some p=>
  obtain⟨c,d⟩:=p;rw[b]at a;obtain⟨j,k,f,g⟩:=bL b
  cases h:Pl.mays (Pl.kindsL c) d with
  |false=>
   simp only[h,XV,YF]at a;left;intro n d e;rw[a]at e;cases e
  |true=>
   simp only[h,Yo]at a;by_cases i:c=8\/c=9
   ·right;exact⟨c,d,rfl,h,a,i,f,g⟩
   left;intro n m e;rw[a]at e;cases e;omega
def UE(h:ns.length=(Pl.kindsL 8).length):∃a m,ns=[a,m]:=by
 match ns,h with
 |[a,m],_=>exact⟨a,m,rfl⟩
def UF(h:ns.length=(Pl.kindsL 9).length):∃a m,ns=[a,m]:=by
 match ns,h with
 |[a,m],_=>exact⟨a,m,rfl⟩
def lF(h:Good os ls)(i:ls.length<=30)(l:List UInt8):Good (zO rj td os ls (Pl.cmd l)).2.2.1 (zO rj td os ls (Pl.cmd l)).2.2.2.2:=by
 rcases lT l with d|⟨c,n,f,k,e,g,b,j⟩
 ·rw[Cb d];exact Gh h i l d
 rw[e];rcases g with rfl|rfl
 ·obtain⟨a,m,rfl⟩:=UE b;exact h
 obtain⟨a,m,rfl⟩:=UF b;exact h
def DoP(Z:Nat->Prop)(w:World)(S:Nat)(r:List UInt8×Nat×List O×List (Nat×Nat)×List L)(e:Ending)(w':World):Prop :=
 Kp Z w w'/\PI r.2.2.1 r.2.2.2.1 (Zn Z w) w' S r.2.1 r.2.2.2.2/\∃vn ms er,e=.returned (.tuple #[vn,.int .i64 ((er:Nat):Int)])/\er<256/\Nums w' vn ms/\r.1=UInt8.ofNat er::Pl.toldB ms
def DoP.code{r:List UInt8×Nat×List O×List (Nat×Nat)×List L}{e:Ending}(a:Nat)(b:Kp Z w w')(c:e=.returned (.tuple #[.slice none 0 0,.int .i64 ((a:Nat):Int)]))(d:PI r.2.2.1 r.2.2.2.1 (Zn Z w) w' S r.2.1 r.2.2.2.2)(f:a<256)(g:r.1=[UInt8.ofNat a]):DoP Z w S r e w' :=
 ⟨b,d,_,[],a,c,f,Nums.nil _,by rw[g];rfl⟩
def Rw.nums{g:Nat}(h:Rw w g ns)(c:Nat)(a:0<ns.length)(b:ns.length<=1000)(d:∀n∈ns,n<9223372036854775808):Nums w (.slice (some ⟨g,0,none⟩) ns.length c) ns:=Or.inr ⟨g,c,rfl,h.1,a,b,d,h.2⟩
def Qj(h:PI os rj Z w S td ls)(z:Good os ls)(c:Nat)(J:List Nat)(X:1<=c)(a0:c<=12)(m:J.length=(Pl.kindsL c).length)(y:Pl.mays (Pl.kindsL c) J=true):Calls prog 62 #[.pointer (some ⟨S,0,none⟩),.iface (Mo c) (.agg (I J).toArray)] w (DoP Z w S (zO rj td os ls (.ok (c,J)))):=by
 rcases(show c=1\/c=2\/c=3\/c=4\/c=5\/c=6\/c=7\/c=8\/c=9\/c=10\/c=11\/c=12 from by omega) with rfl|rfl|rfl|rfl|rfl|rfl|rfl|rfl|rfl|rfl|rfl|rfl
 ·obtain⟨a,rfl⟩:=ER m;have k:a<=2147483647:=by simp[Pl.mays,Pl.kindsL,Pl.mayB]at y;omega
  refine(SD h a k).mono ?_
  rintro e w' ⟨q,⟨P,p,r⟩|⟨P,p,r⟩⟩
  ·have B:zO rj td os ls (.ok (1,[a]))=([3],td,os,rj,ls):=by simp[zO,ZL,aI,aE,P]
   rw[B];exact DoP.code 3 q p r (by omega) rfl
  have B:zO rj td os ls (.ok (1,[a]))=([0],a,os,rj,ls):=by simp[zO,ZL,aI,aE,show ¬a<td by omega]
  rw[B];exact DoP.code 0 q p r (by omega) rfl
 ·obtain⟨a,b,c,d,rfl⟩:=TU m;have k:a<=2147483647/\b<=2147483647/\c<=2147483647/\d<=2147483647:=by simp[Pl.mays,Pl.kindsL,Pl.mayB]at y;omega
  refine(FX h a b c d k.1 k.2.1 k.2.2.1 k.2.2.2).mono ?_
  rintro e w' ⟨q,p,r⟩;have H:=eX ls a;exact DoP.code (zz ls a) q p r (by omega) rfl
 ·obtain⟨a,b,c,rfl⟩:=Po m;have k:a<=2147483647/\b<=2147483647/\c<=2147483647:=by simp[Pl.mays,Pl.kindsL,Pl.mayB]at y;omega
  refine(MR h a b c k.1 k.2.1 k.2.2).mono ?_
  rintro e w' ⟨q,p,r⟩;have H:=BX ls a b c;exact DoP.code (zU ls a b c) q p r (by omega) rfl
 ·obtain⟨a,b,c,rfl⟩:=Po m;have k:a<=2147483647/\b<=2147483647/\c<=2147483647:=by simp[Pl.mays,Pl.kindsL,Pl.mayB]at y;omega
  refine(MO h a b c k.1 k.2.1 k.2.2).mono ?_
  rintro e w' ⟨q,p,r⟩;have H:=Bh ls a b c;exact DoP.code (zQ ls a b c) q p r (by omega) rfl
 ·obtain⟨a,b,c,d,f,rfl⟩:=Um m;have k:a<=2147483647/\b<=2147483647/\c<=2147483647/\d<=2147483647/\f<=3:=by simp[Pl.mays,Pl.kindsL,Pl.mayB]at y;omega
  refine(MP h z a b c d f k.1 k.2.1 k.2.2.1 k.2.2.2.1 k.2.2.2.2).mono ?_
  have W:=Iv (rj:=rj) os td ls a b c d f;rintro e w' ⟨q,r,⟨D,p⟩|⟨N,g,K,p,t⟩⟩
  ·refine DoP.code (dG rj os td ls a b c d f) q p r (by omega) ?_
   show Ia rj os td ls a b c d f=_;unfold Ia;rw[xg D]
  have E:(∀n∈zA ls (zn rj td b c d f ls),n<9223372036854775808)/\(zA ls (zn rj td b c d f ls)).length<=61:=by
   obtain⟨M,v,F,x,s,_⟩:=h;exact rZ s.ok s.room td b c d f
  refine⟨q,r,_,_,0,p,by omega,t.nums K (by simp[zA]) (by omega) E.1,?_⟩;show Ia rj os td ls a b c d f=_;unfold Ia;rw[xh N];rfl
 ·obtain⟨a,rfl⟩:=ER m;have k:a<=2147483647:=by simp[Pl.mays,Pl.kindsL,Pl.mayB]at y;omega
  refine(II h z a k).mono ?_
  rintro e w' ⟨q,p,r⟩;have H:=wE os a;exact DoP.code (fE os a) q p r (by omega) rfl
 ·obtain⟨a,rfl⟩:=ER m;have k:a<=2147483647:=by simp[Pl.mays,Pl.kindsL,Pl.mayB]at y;omega
  refine(Ql h z a k).mono ?_
  rintro e w' ⟨q,p,r⟩;have H:=wE os a;exact DoP.code (fE os a) q p r (by omega) rfl
 ·obtain⟨a,b,rfl⟩:=ES m;have k:a<=2147483647/\b<=2147483647:=by simp[Pl.mays,Pl.kindsL,Pl.mayB]at y;omega
  refine(IJ h z a b k.1 k.2).mono ?_
  have a2:=uW rj ls a b;rintro e w' ⟨q,r,⟨D,p⟩|⟨N,g,K,p,t⟩⟩
  ·refine DoP.code (zC rj ls a b) q p r (by omega) ?_
   show cB rj ls a b=_;unfold cB;rw[xg D]
  have E:(∀n∈zA ls (ZK ls a),n<9223372036854775808)/\(zA ls (ZK ls a)).length<=61:=by
   obtain⟨M,v,F,x,s,_⟩:=h;exact qJ s.ok s.room a
  refine⟨q,r,_,_,0,p,by omega,t.nums K (by simp[zA]) (by omega) E.1,?_⟩;show cB rj ls a b=_;unfold cB;rw[xh N];rfl
 ·obtain⟨a,b,rfl⟩:=ES m;have k:a<=2147483647/\b<=2147483647:=by simp[Pl.mays,Pl.kindsL,Pl.mayB]at y;omega
  refine(FY h a b k.1 k.2).mono ?_
  rintro e w' ⟨q,p,r⟩;have H:=rO rj a b;exact DoP.code (zW rj a b) q p r (by omega) rfl
 ·obtain⟨a,b,rfl⟩:=ES m;have k:a<=2147483647/\b<=2147483647:=by simp[Pl.mays,Pl.kindsL,Pl.mayB]at y;omega
  refine(MQ h a b k.1 k.2).mono ?_
  rintro e w' ⟨q,p,r⟩;have H:=BR ls a b;exact DoP.code (ZC ls a b) q p r (by omega) rfl
 ·obtain⟨a,rfl⟩:=ER m;have k:a<=2147483647:=by simp[Pl.mays,Pl.kindsL,Pl.mayB]at y;omega
  obtain⟨M,v,F,x,s,A⟩:=h;refine(Qk s a k).mono ?_
  rintro e w' ⟨C,⟨G,g,p,u⟩|⟨G,p⟩⟩
  ·have B:zO rj td os ls (.ok (11,[a]))=(0::Pl.toldB (gV (cI rj ls) (ls.getD (Wj a ls) L0)),td,os,rj,ls):=by simp[zO,ZL,aI,aE,G]
   rw[B];have T:=s.ok _ (zf G);generalize ls.getD (Wj a ls) L0=l at T u ⊢;have t:Rw w' g (gV (cI rj ls) l):=⟨zc u,λj Q=>by rw[za u];simp[I,Wc,Q]⟩
   refine⟨Wo C,(PI.below ⟨M,v,F,x,s,A⟩ C).mono (λ_ q=>Or.inl q),_,_,0,p,by omega,t.nums 10 (by simp[gV]) (by simp[gV]) ?_,rfl⟩;obtain⟨q1,q2,q3,q4,q5,q6,_⟩:=T;simp only[gV,xz,yf,xah];rintro n (rfl|rfl|rfl|rfl|rfl|rfl|rfl|rfl|rfl|rfl)<;>(try split)<;>omega
  have B:zO rj td os ls (.ok (11,[a]))=([4],td,os,rj,ls):=by simp[zO,ZL,aI,aE,G]
  rw[B];exact DoP.code 4 (Wo C) p ((PI.below ⟨M,v,F,x,s,A⟩ C).mono (λ_ q=>Or.inl q)) (by omega) rfl
 obtain⟨a,b,rfl⟩:=ES m;have k:a<=2147483647/\b<=2147483647:=by simp[Pl.mays,Pl.kindsL,Pl.mayB]at y;omega
 obtain⟨M,v,F,x,s,A⟩:=h;refine(IK s a b k.1 k.2).mono ?_
 rintro e w' ⟨C,g,p,u⟩;have R:=s.ok;have a1:=s.room;have t:Rw w' g (Hr rj td a b ls):=⟨zc u,λj Q=>by rw[za u];simp[I,Wc,Q]⟩
 refine⟨Wo C,(PI.below ⟨M,v,F,x,s,A⟩ C).mono (λ_ q=>Or.inl q),_,_,0,p,by omega,t.nums 2 (by simp[Hr]) (by simp[Hr]) ?_,rfl⟩;have P:=dP (rj:=rj) td a b ls ls.length;have p:=fT ls R (dE rj td a b ls ls.length) (λi G=>rV G);simp only[Hr,xz,yf,xah];rintro n (rfl|rfl)
 ·omega
 have:2147483647*(dE rj td a b ls ls.length).length<=2147483647*30:=xbJ _ (by omega)
 omega
def Sd:Nat->Nat
 |1=>279|2=>281|3=>284|4=>285|5=>286|6=>287|7=>288|8=>289|9=>290|10=>291|11=>292|_=>293
def EV(c : Nat)(a : 1 <= c)(b : c <= 12)(v : Value)(w : World): (method 459 (Mo c) v "InRange").run prog w = .ok (Sd c, v) w := by
 rcases(show c=1\/c=2\/c=3\/c=4\/c=5\/c=6\/c=7\/c=8\/c=9\/c=10\/c=11\/c=12 from by omega) with rfl|rfl|rfl|rfl|rfl|rfl|rfl|rfl|rfl|rfl|rfl|rfl
 ·exact NF v w
 ·exact Bj v w
 ·exact GN v w
 ·exact GK v w
 ·exact GL v w
 ·exact Dn v w
 ·exact Kh v w
 ·exact Dp v w
 ·exact Bl v w
 ·exact GM v w
 ·exact Kg v w
 exact Dq v w
def AE(c:Nat)(a:1<=c)(b:c<=12)(args:Array Value)(w:World):(callFunc (Sd c) args).run prog w=.ok (.enter (Sd c) args) w:=by
 rcases(show c=1\/c=2\/c=3\/c=4\/c=5\/c=6\/c=7\/c=8\/c=9\/c=10\/c=11\/c=12 from by omega) with rfl|rfl|rfl|rfl|rfl|rfl|rfl|rfl|rfl|rfl|rfl|rfl
 ·exact YI func279 (by kernel_rfl) rfl args w
 ·exact YI func281 (by kernel_rfl) rfl args w
 ·exact YI func284 (by kernel_rfl) rfl args w
 ·exact YI func285 (by kernel_rfl) rfl args w
 ·exact YI func286 (by kernel_rfl) rfl args w
 ·exact YI func287 (by kernel_rfl) rfl args w
 ·exact YI func288 (by kernel_rfl) rfl args w
 ·exact YI func289 (by kernel_rfl) rfl args w
 ·exact YI func290 (by kernel_rfl) rfl args w
 ·exact YI func291 (by kernel_rfl) rfl args w
 ·exact YI func292 (by kernel_rfl) rfl args w
 exact YI func293 (by kernel_rfl) rfl args w
def JD(c:Nat)(i:List Nat)(j:1<=c)(k:c<=12)(h:i.length=(Pl.kindsL c).length)(g:∀n∈i,n<9223372036854775808)(w:World):Calls prog (Sd c) #[.agg (I i).toArray] w λe w'=>e=.returned (.bool (Pl.mays (Pl.kindsL c) i))/\Below w.heap.size w w':=by
 rcases(show c=1\/c=2\/c=3\/c=4\/c=5\/c=6\/c=7\/c=8\/c=9\/c=10\/c=11\/c=12 from by omega) with rfl|rfl|rfl|rfl|rfl|rfl|rfl|rfl|rfl|rfl|rfl|rfl
 ·obtain⟨a,rfl⟩:=ER h;exact CV a (g a (by simp)) w
 ·obtain⟨a,b,c,d,rfl⟩:=TU h;exact qP a b c d (g a (by simp)) (g b (by simp)) (g c (by simp)) (g d (by simp)) w
 ·obtain⟨a,b,c,rfl⟩:=Po h;exact wT a b c (g a (by simp)) (g b (by simp)) (g c (by simp)) w
 ·obtain⟨a,b,c,rfl⟩:=Po h;exact wQ a b c (g a (by simp)) (g b (by simp)) (g c (by simp)) w
 ·obtain⟨a,b,c,d,f,rfl⟩:=Um h;exact wR a b c d f (g a (by simp)) (g b (by simp)) (g c (by simp)) (g d (by simp)) (g f (by simp)) w
 ·obtain⟨a,rfl⟩:=ER h;exact tH a (g a (by simp)) w
 ·obtain⟨a,rfl⟩:=ER h;exact AQ a (g a (by simp)) w
 ·obtain⟨a,b,rfl⟩:=ES h;exact tI a b (g a (by simp)) (g b (by simp)) w
 ·obtain⟨a,b,rfl⟩:=ES h;exact qQ a b (g a (by simp)) (g b (by simp)) w
 ·obtain⟨a,b,rfl⟩:=ES h;exact wS a b (g a (by simp)) (g b (by simp)) w
 ·obtain⟨a,rfl⟩:=ER h;exact AP a (g a (by simp)) w
 obtain⟨a,b,rfl⟩:=ES h;exact tJ a b (g a (by simp)) (g b (by simp)) w
def Gw(c:Nat)(d:1<=c)(f:c<=12)(v:Value)(w:World):Calls prog 63 #[.iface (Mo c) v] w λe w'=>e=.returned (.bool (decide (c<=10)))/\w'=w:=by
 rcases(show c=1\/c=2\/c=3\/c=4\/c=5\/c=6\/c=7\/c=8\/c=9\/c=10\/c=11\/c=12 from by omega) with rfl|rfl|rfl|rfl|rfl|rfl|rfl|rfl|rfl|rfl|rfl|rfl
 ·have a:=Cr.o;have b:=vG.o;show Calls prog 63 #[.iface 143 v] w _;go_enter func63,ntmps63;go_wp2_with fail;go_ret;exact⟨rfl,rfl⟩
 ·have a:=pB.o;have b:=kQ.o;show Calls prog 63 #[.iface 146 v] w _;go_enter func63,ntmps63;go_wp2_with fail;go_ret;exact⟨rfl,rfl⟩
 ·have a:=vP.o;have b:=pI.o;show Calls prog 63 #[.iface 149 v] w _;go_enter func63,ntmps63;go_wp2_with fail;go_ret;exact⟨rfl,rfl⟩
 ·have a:=vH.o;have b:=oW.o;show Calls prog 63 #[.iface 152 v] w _;go_enter func63,ntmps63;go_wp2_with fail;go_ret;exact⟨rfl,rfl⟩
 ·have a:=vI.o;have b:=oX.o;show Calls prog 63 #[.iface 155 v] w _;go_enter func63,ntmps63;go_wp2_with fail;go_ret;exact⟨rfl,rfl⟩
 ·have a:=sH.o;have b:=mZ.o;show Calls prog 63 #[.iface 158 v] w _;go_enter func63,ntmps63;go_wp2_with fail;go_ret;exact⟨rfl,rfl⟩
 ·have a:=Ab.o;have b:=sY.o;show Calls prog 63 #[.iface 160 v] w _;go_enter func63,ntmps63;go_wp2_with fail;go_ret;exact⟨rfl,rfl⟩
 ·have a:=sP.o;have b:=nE.o;show Calls prog 63 #[.iface 163 v] w _;go_enter func63,ntmps63;go_wp2_with fail;go_ret;exact⟨rfl,rfl⟩
 ·have a:=pC.o;have b:=kT.o;show Calls prog 63 #[.iface 165 v] w _;go_enter func63,ntmps63;go_wp2_with fail;go_ret;exact⟨rfl,rfl⟩
 ·have a:=vK.o;have b:=pG.o;show Calls prog 63 #[.iface 168 v] w _;go_enter func63,ntmps63;go_wp2_with fail;go_ret;exact⟨rfl,rfl⟩
 ·have a:=fH.o;have b:=sJ.o;show Calls prog 63 #[.iface 171 v] w _;go_enter func63,ntmps63;go_wp2_with fail;go_ret;exact⟨rfl,rfl⟩
 have a:=gY.o;have b:=eZ.o;show Calls prog 63 #[.iface 174 v] w _;go_enter func63,ntmps63;go_wp2_with fail;go_ret;exact⟨rfl,rfl⟩
def Wp(lg:List UInt8)(s:ByteArray)(rep:List UInt8):List UInt8:=if qX s.data.toList rep=true then lg++bM s.data.toList else lg
def TS(lg:List UInt8)(s:ByteArray)(Z:Nat->Prop)(w:World)(Lb:Nat)(r:List UInt8×Nat×List O×List (Nat×Nat)×List L)(e:Ending)(w':World):Prop :=
 (∃vn ms er,e=.returned (.tuple #[vn,.int .i64 ((er:Nat):Int)])/\er<256/\Nums w' vn ms/\r.1=UInt8.ofNat er::Pl.toldB ms)/\Kp Z w w'/\PL (Wp lg s r.1) r.2.2.1 r.2.2.2.1 (Zn Z w) w' Lb r.2.1 r.2.2.2.2
variable {lg:List UInt8}
def PS.bnd{c:Nat->Prop}{lv:Value}(h:PS lg os rj Z w Lb td ls S c lv):PS lg os rj Z w Lb td ls S (λk=>c k/\k<w.heap.size) lv:=by
 obtain⟨M,v,e,b,d,f⟩:=h.pi;exact⟨h.here,h.inZ,λq=>h.nin q.1,λk q=>h.sub k q.1,⟨M,v,e,b,d,d.bound f⟩,h.log,λk a=>⟨(h.blk k a).1,(h.blk k a).2.1,λq=>(h.blk k a).2.2 q.1⟩⟩
def lC(c:List UInt8):bM c≠[]:=λh=>by
 have:=YK List.length h
 simp[bM,eI]at this
def Nums.away(h:Nums w v ns)(n:w.heap.size<=w'.heap.size)(m:∀b x,b<w.heap.size->w.cell? ⟨b,0,none⟩=some (.int .i64 x)->w'.heap[b]?=w.heap[b]?):Nums w' v ns:=by
 rcases h with h|⟨b,cap,f,c,d,g,i,e⟩
 ·exact Or.inl h
 refine Or.inr ⟨b,cap,f,xl c n,d,g,i,λj l=>?_⟩;have k:=m b _ c (e 0 d);exact(xo (a:=⟨b,j,none⟩) k).trans (e j l)
def tK{a:Nat}(h:a<256):(UInt8.ofNat a==0)=decide (a=0):=by
 by_cases b:a=0
 ·subst b;rfl
 rw[xy b,xr];exact dY b (by omega)
def QI(h:PL lg os rj Z w Lb td ls)(f:Gl w)(s:ByteArray)(i:s.size<=4194304)(a:ZO s.data.toList=none):Calls prog 46 #[.pointer (some ⟨Lb,0,none⟩),.string s] w (TS lg s Z w Lb ([1],td,os,rj,ls)):=by
 have d:Ha (Calls prog 61 #[.string s] w λe w'=>e=.returned (.tuple #[.nilIface,.bool false])/\Below w.heap.size w w') :=
  (xX s i w f).mono λe w' ⟨h1,h2⟩=>by rw[a]at h2;exact⟨h2,h1⟩
 have c:Ha (Wp lg s [1]=lg):=by unfold Ha Wp qX;rw[xg];simp
 go_enter func46,ntmps46;go_wp2_with (go_at_call 61;refine d.mono ?_;rintro e w1 ⟨rfl,b⟩);go_ret2;exact⟨⟨_,[],1,rfl,by omega,Nums.nil _,rfl⟩,Wo b,by show PL (Wp lg s [1]) _ _ _ _ _ _ _;rw[c.o];exact(h.below b).mono (λ_ g=>Or.inl g)⟩
def QJ(h:PL lg os rj Z w Lb td ls)(t:Gl w)(s:ByteArray)(x:s.size<=4194304)(c:Nat)(k:List Nat)(a:ZO s.data.toList=some (c,k))(p:Pl.mays (Pl.kindsL c) k=false):Calls prog 46 #[.pointer (some ⟨Lb,0,none⟩),.string s] w (TS lg s Z w Lb ([2],td,os,rj,ls)):=by
 obtain⟨f,g,d,j⟩:=bL a;have r:Ha (Calls prog 61 #[.string s] w λe w'=>e=.returned (.tuple #[.iface (Mo c) (.agg (I k).toArray),.bool true])/\Below w.heap.size w w') :=
  (xX s x w t).mono λe w' ⟨h1,h2⟩=>by rw[a]at h2;exact⟨h2,h1⟩
 have m:=zb (λw=>JD c k f g d j w);rw[p]at m;have v:=EV c f g;have n:=AE c f g;have q:Ha (Wp lg s [2]=lg):=by unfold Ha Wp qX;rw[xg];simp
 generalize Mo c=tc at *;generalize Sd c=fm at *;generalize (Value.agg (I k).toArray)=ag at *;clear p a d j;go_enter func46,ntmps46;go_wp2_with (go_at_call 61;refine r.mono ?_;rintro e w1 ⟨rfl,i⟩);refine(m _).mono ?_
 rintro e w2 ⟨rfl,l⟩;go_wp2_with fail;go_ret2;have b:=i.trans (l.mono i.size);exact⟨⟨_,[],2,rfl,by omega,Nums.nil _,rfl⟩,Wo b,by show PL (Wp lg s [2]) _ _ _ _ _ _ _;rw[q.o];exact(h.below b).mono (λ_ u=>Or.inl u)⟩
def Ta(h:PL lg os rj Z w Lb td ls)(a5:Good os ls)(hg:Gl w)(s:ByteArray)(hs:s.size<=4194304)(a8:(s.data.toList.getD 0 0).toNat<=10->lg.length<=35184372088832)(c:Nat)(D:List Nat)(f:ZO s.data.toList=some (c,D))(hm:Pl.mays (Pl.kindsL c) D=true)(a4:Pl.cmd s.data.toList=.ok (c,D)):Calls prog 46 #[.pointer (some ⟨Lb,0,none⟩),.string s] w (TS lg s Z w Lb (zO rj td os ls (.ok (c,D)))):=by
 obtain⟨t,l,z,a9⟩:=bL f;have HR:Ha (Calls prog 61 #[.string s] w λe w'=>e=.returned (.tuple #[.iface (Mo c) (.agg (I D).toArray),.bool true])/\Below w.heap.size w w') :=
  (xX s hs w hg).mono λe w' ⟨h1,h2⟩=>by rw[f]at h2;exact⟨h2,h1⟩
 have HI:=zb (λw=>JD c D t l z a9 w);rw[hm]at HI;have c9:=EV c t l;have c6:=AE c t l;have m:=zb (λv w=>Gw c t l v w);have H:=zb (λ(w2:World) (S:Nat) (Zs:Nat->Prop) (b8:PI os rj Zs w2 S td ls)=>Qj b8 a5 c D t l z hm);have T:=zb (gH a4);have b3:Ha (c<=10->lg.length<=35184372088832):=λh=>a8 (by rw[T.o];exact h)
 clear a8;obtain⟨S,Zs,lv,b0⟩:=h.ps;generalize zO rj td os ls (.ok (c,D))=r at H ⊢;generalize Mo c=tc at *;generalize Sd c=fm at *;generalize (Value.agg (I D).toArray)=ag at *;have A:=zb b0;clear hm f z a9 a5 h a4 b0;go_enter func46,ntmps46;go_wp2_with (go_at_call 61;refine HR.mono ?_;rintro e w1 ⟨rfl,K⟩);refine(HI _).mono ?_
 rintro e w2 ⟨rfl,a3⟩;have i:=K.trans (a3.mono K.size);have a1:=(i.block Lb (zc A.here)).trans A.here;have l:w2.cell? ⟨Lb,0,none⟩=some (.pointer (some ⟨S,0,none⟩)):=by rw[za a1];rfl
 have HD:=zb (H w2 S Zs (A.pi.below i));have R:=zb i;clear H K a3 i a1;go_wp2_with fail;refine HD.mono ?_
 rintro e w3 ⟨a6,F,vn,ms,er,rfl,b7,E,G⟩;have Q:=A.step R a6 F (xm _ _);have a:=zb Q;have a2:=Q.2.here;have c7:w3.cell? ⟨Lb,1,none⟩=some lv:=by rw[za a2];rfl
 have g:=zb G;have n:=zb E;have j:Ha (Wp lg s r.1=if er=0/\c<=10 then lg++bM s.data.toList else lg):=by
  unfold Ha Wp qX;rw[g.o,T.o];simp only[xay,tK b7];by_cases h0:er=0<;>by_cases h1:c<=10<;>simp[h0,h1]
 clear Q a2 G E a6 F HD HI HR;by_cases h0:er=0
 ·subst h0;by_cases p:c<=10
  ·have d:=zb (λw=>m ag w);simp only[Xt p]at d;have b1:=zb (iE 0 lv lg s (by omega) (b3 p) w3 (Nat.zero_le _) a.2.log.1);rw[xh ⟨rfl,p⟩]at j;have M:0<(lg++bM s.data.toList).length:=by have:=Yx.2 (lC s.data.toList);rw[xc];omega
   clear m;go_wp2_with (first
    |(go_at_call 63;refine(d _).mono ?_;rintro e w4 ⟨rfl,rfl⟩)
    |(go_at_call 54;refine b1.mono ?_;rintro e w5 ⟨v5,rfl,C,u,P⟩;obtain⟨g5,a0,c5,_,_⟩:=zG C M;subst c5;have J:=(u.block Lb (zc a.2.here) (λe=>(a.2.blk Lb e.symm).2.1 rfl)).trans a.2.here;have b4:w5.cell? ⟨Lb,1,none⟩=some lv:=(by rw[za J];rfl);have b5:=ze J 1))
   obtain⟨v5,B⟩:=Ww (Value.slice (some ⟨g5,0,none⟩) (lg.length+(bM s.data.toList).length) a0);have a7:(lg++bM s.data.toList).length=lg.length+(bM s.data.toList).length:=xc;rw[<-a7]at B;rw[<-B.o]at C P;rw[a7]at B;rw[<-B.o];have N:=a.2.bnd.frame (lC s.data.toList) C u P (λk hk=>hk.2);have b2:Ha (Kp Z w (w5.setCell ⟨Lb,1,none⟩ v5)):=a.1.trans N.1;have b9:=a.1.size;have X:Ha (PL (lg++bM s.data.toList) r.2.2.1 r.2.2.2.1 (Zn Z w) (w5.setCell ⟨Lb,1,none⟩ v5) Lb r.2.1 r.2.2.2.2):=N.2.pl.mono (λk hk=>hk.elim id (λq=>Or.inr (xj b9 q)));have W:Ha (Nums (w5.setCell ⟨Lb,1,none⟩ v5) vn ms):=n.away (by simp[World.setCell];exact u.size) (λb x hb hc=>by
    have b6:b≠Lb:=λe=>by
     subst e;rw[za a.o.2.here]at hc
     cases hc
    rw[xd _ _ _ _ b6];refine u.block b hb (λe=>?_);obtain⟨y,hy⟩:=a.2.log.byte e.symm;rw[hy]at hc
    cases hc)
   clear N C u P b4 b5 J;go_ret2;exact⟨⟨_,ms,0,rfl,by omega,W,g⟩,b2,by rw[j.o];exact X⟩
  have d:=zb (λw=>m ag w);simp only[xy p]at d;rw[xg (λq=>p q.2)]at j;clear m;go_wp2_with (go_at_call 63;refine(d _).mono ?_;rintro e w4 ⟨rfl,rfl⟩);go_ret2;exact⟨⟨_,ms,0,rfl,by omega,n,g⟩,a.1,by rw[j.o];exact a.2.pl⟩
 have c8:((er:Int)==0)=false:=by rw[xr];omega
 rw[xg (λq=>h0 q.1)]at j;clear m h0;go_wp2_with fail;go_ret2;exact⟨⟨_,ms,er,rfl,by omega,n,g⟩,a.1,by rw[j.o];exact a.2.pl⟩
def JQ(h:PL lg os rj Z w Lb td ls)(f:Good os ls)(e:Gl w)(s:ByteArray)(i:s.size<=4194304)(g:(s.data.toList.getD 0 0).toNat<=10->lg.length<=35184372088832):Calls prog 46 #[.pointer (some ⟨Lb,0,none⟩),.string s] w (TS lg s Z w Lb (zO rj td os ls (Pl.cmd s.data.toList))):=by
 have b:=dL s.data.toList
 cases a:ZO s.data.toList with
 |none=>
  rw[a]at b;rw[b];exact QI h e s i a
 |some p=>
  obtain⟨c,j⟩:=p;rw[a]at b
  cases d:Pl.mays (Pl.kindsL c) j with
  |false=>
   simp only[d,XV,YF]at b;rw[b];exact QJ h e s i c j a d
  |true=>
   simp only[d,Yo]at b;rw[b];exact Ta h f e s i g c j a d b
def AK(h:PL lg os rj Z w Lb td ls)(f:Good os ls)(n:Gl w)(s:ByteArray)(q:s.size<=4194304)(g:(s.data.toList.getD 0 0).toNat<=10->lg.length<=35184372088832):Calls prog 23 #[.pointer (some ⟨Lb,0,none⟩),.string s] w λe w'=>Kp Z w w'/\e=.returned (.string ⟨(zO rj td os ls (Pl.cmd s.data.toList)).1.toArray⟩)/\PL (Wp lg s (zO rj td os ls (Pl.cmd s.data.toList)).1) (zO rj td os ls (Pl.cmd s.data.toList)).2.2.1 (zO rj td os ls (Pl.cmd s.data.toList)).2.2.2.1 (Zn Z w) w' Lb (zO rj td os ls (Pl.cmd s.data.toList)).2.1 (zO rj td os ls (Pl.cmd s.data.toList)).2.2.2.2:=by
 have l:=zb (JQ h f n s q g);generalize zO rj td os ls (Pl.cmd s.data.toList)=st at l ⊢;clear h f g;go_enter func23,ntmps23;go_wp2_with (go_at_call 46;refine l.mono ?_;rintro e w1 ⟨⟨u,t,i,rfl,j,a,b⟩,p,k⟩);have m:=zb (Nv a i j);have c:=zb b;have r:(i:Int)%256=(i:Int):=by omega
 clear a b;refine m.mono ?_
 rintro e w2 ⟨rfl,d⟩;go_wp2_with fail;go_ret;exact⟨p.after d,by rw[c.o];rfl,k.below d⟩
def Qd(w:World):(convert 89 9 (.slice none 0 0)).run prog w=.ok (.string ⟨#[]⟩) w:=by kernel_rfl
def QM(h:PL lg os rj Z w Lb td ls):Calls prog 38 #[.pointer (some ⟨Lb,0,none⟩)] w λe w'=>e=.returned (.string ⟨lg.toArray⟩)/\w'=w:=by
 obtain⟨S,n,lv,c⟩:=h.ps;have c1:w.cell? ⟨Lb,1,none⟩=some lv:=by rw[za c.here];rfl
 have a:=c.log;clear h c
 cases lg with
 |nil=>
  obtain rfl:=a.2 rfl;have j:=Qd;clear a;go_enter func38,ntmps38;go_wp2_with fail;go_ret;exact⟨rfl,rfl⟩
 |cons b r=>
  have f:=a.1;clear a;generalize i:b::r=l at *;have d:0<l.length:=by rw[<-i];simp
  clear i;obtain⟨g,cap,m,_,_⟩:=zG f d;subst m;have k:=gI w _ g _ cap _ rfl f;clear f;go_enter func38,ntmps38;go_wp2_with fail;go_ret;exact⟨rfl,rfl⟩
namespace Pl
def EY:∀(k n:Nat),n<=k->∃p b,num n=p++[b]/\(∀c∈p,128<=c.toNat)/\b.toNat<128/\val (num n)=n
 |0,n,h=>⟨[],UInt8.ofNat n,by rw[num_lt (by omega)];rfl,by simp,by rw[yp];omega,by rw[num_lt (by omega)];simp only[val,yp];omega⟩
 |k+1,n,h=>by
  by_cases a:n<128
  ·exact⟨[],UInt8.ofNat n,by rw[num_lt a];rfl,by simp,by rw[yp];omega,by rw[num_lt a];simp only[val,yp];omega⟩
  obtain⟨p,b,e,g,f,i⟩:=EY k (n / 128) (by omega);refine⟨UInt8.ofNat (n%128+128)::p,b,by rw[num_ge a,e];rfl,λc d=>?_,f,?_⟩
  ·rcases xz.1 d with rfl|d
   ·rw[yp];omega
   exact g c d
  rw[num_ge a];simp only[val,i,yp];omega
def read_num(n:Nat)(h:n<9223372036854775808)(a:List UInt8):fst (num n++a)=n/\snd (num n++a)=(num n).length:=by
 obtain⟨p,b,e,l,i,g⟩:=EY n n (xe _);have r:=num_len n h;have c:(num n).length=p.length+1:=by rw[e];simp
 have d:(num n++a).take (p.length+1)=num n:=by
  rw[<-c,List.take_left'];rfl
 have k:∀j,j<p.length->128<=((num n++a).getD j 0).toNat:=λj f=>by
  rw[e,yc,Wc,XH f,xi f];exact l _ (yy _)
 have m:((num n++a).getD p.length 0).toNat<128:=by
  rw[e,yc,Wc,Yc (xe _)];simpa using i
 have q:=(first_stop (num n++a) p.length (by omega) (by rw[xc];omega) k m).1 (by rw[d,g]);rw[d,g]at q;exact⟨q.1,by rw[q.2,c]⟩
def nums_told:∀(b:List Nat),(∀n∈b,n<9223372036854775808)->nums (toldB b)=some b
 |[],_=>rfl
 |n::r,h=>by
  have e:toldB (n::r)=num n++toldB r:=by simp[toldB]
  obtain⟨f,c⟩:=read_num n (h n (by simp)) (toldB r);have d:=num_len_pos n;have a:num n++toldB r≠[]:=λq=>by
   rw[(List.append_eq_nil_iff.1 q).1]at d;simp at d
  rw[e,nums_cons a (by rw[c];omega),f,c,List.drop_left' rfl,nums_told r (λx g=>h x (by simp[g]))];rfl
def cmdB(c:Nat)(ns:List Nat):List UInt8:=UInt8.ofNat c::toldB ns
end Pl
def pk(c:Int)(n:Nat):Nat:=((if c<0 then -(c+1) else c)%(n:Int)).toNat
def Ri(c:Int){n:Nat}(d:0<n):pk c n<n:=by
 unfold pk;have a:=Int.emod_nonneg (if c<0 then -(c+1) else c) (show(n:Int)≠0 by omega);have b:=Int.emod_lt_of_pos (if c<0 then -(c+1) else c) (show(0:Int)<n by omega);omega
def Ur(c:Int){n:Nat}(b:0<n):(pk c n:Int)=(if c<0 then -(c+1) else c)%(n:Int):=by
 unfold pk;have a:=Int.emod_nonneg (if c<0 then -(c+1) else c) (show(n:Int)≠0 by omega);omega
def Vi(c:Int):Prop:=-9223372036854775808<=c/\c<=9223372036854775807
structure Sv where
 td:Nat
 os:List O
 rj:List (Nat×Nat)
 ls:List L
 lg:List UInt8
structure Kv(B:Nat)(w0 w:World)(Z:Nat->Prop)(Lb:Nat)(s:Sv):Prop where
 old:Below B w0 w
 size:B<=w.heap.size
 two:4<=B
 gl:Gl w
 pl:PL s.lg s.os s.rj Z w Lb s.td s.ls
 zin:∀k,Z k->B<=k/\k<w.heap.size
 good:Good s.os s.ls
def Kv.below{B:Nat}{d w w':World}{Z:Nat->Prop}{b:Nat}{s:Sv}(h:Kv B d w Z b s)(a:Below w.heap.size w w'):Kv B d w' Z b s :=
 ⟨h.old.trans (a.mono h.size),xj h.size a.size,h.two,h.gl.below a,h.pl.below a,λk c=>⟨(h.zin k c).1,xl (h.zin k c).2 a.size⟩,h.good⟩
def Kv.room{B:Nat}{d w:World}{Z:Nat->Prop}{a:Nat}{s:Sv}(h:Kv B d w Z a s):s.ls.length<=30:=by
 obtain⟨S,e,lv,_,_,_,_,⟨M,v,f,c,b,_⟩,_⟩:=h.pl;exact b.room
def Kv.ok{B:Nat}{d w:World}{Z:Nat->Prop}{a:Nat}{s:Sv}(h:Kv B d w Z a s):∀l∈s.ls,L.Ok l:=by
 obtain⟨S,e,lv,_,_,_,_,⟨M,v,f,c,b,_⟩,_⟩:=h.pl;exact b.ok
structure Kn(Z:Nat->Prop)(w:World)(Z':Nat->Prop)(w':World):Prop where
 size:w.heap.size<=w'.heap.size
 keep:∀k,k<w.heap.size->¬Z k->w'.heap[k]?=w.heap[k]?/\¬Z' k
def Kn.refl(Z:Nat->Prop)(w:World):Kn Z w Z w:=⟨xe _,λk _ a=>⟨rfl,a⟩⟩
def Kn.trans{Z Z' a:Nat->Prop}{w w' b:World}(h:Kn Z w Z' w')(k:Kn Z' w' a b):Kn Z w a b :=
 ⟨xj h.size k.size,λi c f=>by
  obtain⟨d,e⟩:=h.keep i c f;obtain⟨g,j⟩:=k.keep i (xl c h.size) e;exact⟨g.trans d,j⟩⟩
def Kn.below(a:Below w.heap.size w w'):Kn Z w Z w':=⟨a.size,λk b c=>⟨a.block k b,c⟩⟩
def s1:Sv:=⟨0,[],[],[⟨13,9,100,1,5,5,0,0,0,0,[]⟩],bM (Pl.cmdB 2 [13,9,5,100])⟩
def s2:Sv:=⟨0,[],[],[⟨13,9,100,1,5,3,0,0,0,2,[]⟩,⟨14,9,100,2,2,2,0,0,0,0,[(13,2)]⟩],bM (Pl.cmdB 2 [13,9,5,100])++bM (Pl.cmdB 3 [13,14,2])⟩
def Ml:Sv:=⟨0,[],[],[],[]⟩
def aZ(w:World)(o:Obj)(k:Nat)(h:k=w.heap.size):(w.alloc o).heap[k]?=some o:=by
 subst h;exact xp w o
def Cp(w:World):World :=
 (((((w.alloc (.map #[] 0)).alloc (.map #[] 0)).alloc (.map #[] 0)).alloc (.cells #[.int .i64 0,.slice none 0 0,.map (some w.heap.size),.map (some (w.heap.size+1)),.map (some (w.heap.size+1+1))] 117)).alloc (.cells #[.pointer (some ⟨w.heap.size+1+1+1,0,none⟩),.slice none 0 0] 91))
def Tj(w:World)(d:Gl w):Kv w.heap.size w (Cp w) (λk=>w.heap.size<=k/\k<=w.heap.size+4) (w.heap.size+1+1+1+1) Ml:=by
 have c:Below w.heap.size w (Cp w):=by
  unfold Cp;exact(((((xm _ _).alloc (xe _) _).alloc (by simp) _).alloc (by first|(simp;done)|(simp;omega)) _).alloc (by first|(simp;done)|(simp;omega)) _).alloc (by first|(simp;done)|(simp;omega)) _
 have r:(Cp w).heap.size=w.heap.size+5:=by unfold Cp;simp
 have e:(Cp w).heap[w.heap.size]?=some (.map #[] 0):=by
  unfold Cp;exact zx (zx (zx (zx (xp w _) (by first|(simp;done)|(simp;omega))) (by first|(simp;done)|(simp;omega))) (by first|(simp;done)|(simp;omega))) (by first|(simp;done)|(simp;omega))
 have f:(Cp w).heap[w.heap.size+1]?=some (.map #[] 0):=by
  unfold Cp;exact zx (zx (zx (aZ _ _ _ (by first|(simp;done)|(simp;omega))) (by first|(simp;done)|(simp;omega))) (by first|(simp;done)|(simp;omega))) (by first|(simp;done)|(simp;omega))
 have j:(Cp w).heap[w.heap.size+2]?=some (.map #[] 0):=by
  unfold Cp;exact zx (zx (aZ _ _ _ (by first|(simp;done)|(simp;omega))) (by first|(simp;done)|(simp;omega))) (by first|(simp;done)|(simp;omega))
 have m:(Cp w).heap[w.heap.size+3]?=some (.cells #[.int .i64 0,.slice none 0 0,.map (some w.heap.size),.map (some (w.heap.size+1)),.map (some (w.heap.size+1+1))] 117):=by
  unfold Cp;exact zx (aZ _ _ _ (by first|(simp;done)|(simp;omega))) (by first|(simp;done)|(simp;omega))
 have p:(Cp w).heap[w.heap.size+4]?=some (.cells #[.pointer (some ⟨w.heap.size+1+1+1,0,none⟩),.slice none 0 0] 91):=by
  unfold Cp;exact aZ _ _ _ (by simp)
 generalize Cp w=W at *;have q:PV [] [] W (w.heap.size+1+1+1) ⟨w.heap.size+1+1,w.heap.size,w.heap.size+1⟩ (.slice none 0 0) 0 [] [] []:=⟨m,⟨⟨.map [],cO j,⟨rfl,λa b _ _=>rfl,λs h=>by cases h⟩⟩,⟨by simp,by simp,by simp⟩,⟨.map [],cO e,⟨rfl,λn _=>rfl,λn _=>rfl,λs h=>by cases h⟩⟩,⟨.map [],cO f,⟨rfl,λa b _ _=>rfl,λa b _ _=>rfl⟩⟩,(by show w.heap.size+1+1≠w.heap.size;omega),(by show w.heap.size+1+1≠w.heap.size+1;omega),(by show w.heap.size≠w.heap.size+1;omega)⟩,Xx _ _ _ _,rfl,rfl,λi h=>absurd h (by simp),λi h=>absurd h (by simp),by simp,by omega,λl h=>absurd h (by simp),by simp⟩
 refine⟨c,by omega,d.2.2,d.below c,?_,λk h=>by omega,wL⟩;exact⟨w.heap.size+1+1+1,λk=>w.heap.size<=k/\k<=w.heap.size+3,.slice none 0 0,p,by omega,λh=>by omega,λk h=>by omega,⟨_,_,_,_,q,⟨by omega,by show _/\_;simp only[];omega,by show _/\_;simp only[];omega,by show _/\_;simp only[];omega,(λg h=>by cases h),(λk h=>absurd h (by simp)),(λk h=>absurd h (by simp))⟩⟩,⟨Xx _ _ _ _,λ_=>rfl⟩,λk h=>by cases h⟩
def QQ(w:World)(b:Gl w):Calls prog 36 #[] w λe w'=>∃a Z,e=.returned (.pointer (some ⟨a,0,none⟩))/\Kv w.heap.size w w' Z a Ml:=by
 have c:=@xbT prog;go_enter func36,ntmps36;go_wp2_with (go_at_call 49;go_in);go_ret;exact⟨_,_,rfl,Tj w b⟩
def BP(rj:List (Nat×Nat))(td:Nat)(os:List O)(ls:List L)(l:List UInt8):(zO rj td os ls (Pl.cmd l)).1≠[]:=by
 have g:=dL l
 cases h:ZO l with
 |none=>rw[h]at g;rw[g];simp[zO,ZL,aI,aE]
 |some p=>
  obtain⟨c,m⟩:=p;rw[h]at g;obtain⟨j,k,e,_⟩:=bL h
  cases i:Pl.mays (Pl.kindsL c) m with
  |false=>simp only[i,XV,YF]at g;rw[g];simp[zO,ZL,aI,aE]
  |true=>
   simp only[i,Yo]at g;rw[g];rcases(show c=1\/c=2\/c=3\/c=4\/c=5\/c=6\/c=7\/c=8\/c=9\/c=10\/c=11\/c=12 from by omega) with rfl|rfl|rfl|rfl|rfl|rfl|rfl|rfl|rfl|rfl|rfl|rfl
   ·obtain⟨a,rfl⟩:=ER e;simp only[zO,ZL,aI,aE];split<;>simp
   ·obtain⟨a,b,c,d,rfl⟩:=TU e;simp[zO,ZL,aI,aE]
   ·obtain⟨a,b,c,rfl⟩:=Po e;simp[zO,ZL,aI,aE]
   ·obtain⟨a,b,c,rfl⟩:=Po e;simp[zO,ZL,aI,aE]
   ·obtain⟨a,b,c,d,f,rfl⟩:=Um e;simp only[zO,ZL,Ia];split<;>simp
   ·obtain⟨a,rfl⟩:=ER e;simp[zO,ZL,aI,aE]
   ·obtain⟨a,rfl⟩:=ER e;simp[zO,ZL,aI,aE]
   ·obtain⟨a,b,rfl⟩:=ES e;simp only[zO,cB];split<;>simp
   ·obtain⟨a,b,rfl⟩:=ES e;simp[zO,ZL,aI,aE]
   ·obtain⟨a,b,rfl⟩:=ES e;simp[zO,ZL,aI,aE]
   ·obtain⟨a,rfl⟩:=ER e;simp only[zO,ZL,aI,aE];split<;>simp
   obtain⟨a,b,rfl⟩:=ES e;simp[zO,ZL,aI,aE]
def aO(s:Sv)(t:ByteArray):Sv:=⟨(zO s.rj s.td s.os s.ls (Pl.cmd t.data.toList)).2.1,(zO s.rj s.td s.os s.ls (Pl.cmd t.data.toList)).2.2.1,(zO s.rj s.td s.os s.ls (Pl.cmd t.data.toList)).2.2.2.1,(zO s.rj s.td s.os s.ls (Pl.cmd t.data.toList)).2.2.2.2,Wp s.lg t (zO s.rj s.td s.os s.ls (Pl.cmd t.data.toList)).1⟩
def Ox(s:Sv)(t:ByteArray)(c:t.size<=4194304):(aO s t).lg.length<=s.lg.length+4194352:=by
 have b:t.data.toList.length=t.size:=by rw[yq];rfl
 have a:=EE t.data.toList (by omega);show(Wp _ _ _).length<=_;unfold Wp;split
 ·rw[xc];omega
 omega
