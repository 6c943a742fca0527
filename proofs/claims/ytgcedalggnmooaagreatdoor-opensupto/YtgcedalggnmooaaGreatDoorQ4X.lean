import Derived.Test.YtgcedalggnmooaaGreatDoorQ1X
import Derived.Test.YtgcedalggnmooaaGreatDoorAn1X
set_option linter.all false
set_option maxRecDepth 100000
set_option maxHeartbeats 3200000
namespace Go.Proofs.YtgcedalggnmooaaGreatDoor
open Go.RowKit
open Tryz
theorem wH:(prog.info? 181).map (λi=>(i.zero,i.size,i.bytes))=some (some (.agg #[.int .i64 0,.int .i64 0]),2,16):=by kernel_rfl
theorem xP:prog.underlying 40=some (.slice 181):=by kernel_rfl
theorem kU(p:Nat×Nat):∀l,zA (l++[p])=zA l++[.int .i64 p.1,.int .i64 p.2]
 |[]=>rfl
 |q::r=>by simp only[XF,zA,kU p r]
variable {ls:List L}{os:List O}{rj:List (Nat×Nat)}
theorem iO(m:Good os ls){f:Bool}{td gd a:Nat}{done:List (Nat×Nat)}{d:List Nat}(k:cM rj f td gd a ls=done.map Prod.fst++d){i:Nat}(r:i<ls.length):Fg rj td gd a ls (zt ls done) i↔i∈d:=by
 have j:=qR (rj:=rj) f td gd a ls;rw[k]at j;have h:=(Xx.1 j).2.2;constructor
 ·rintro⟨s,t⟩;have b:i∈cM rj f td gd a ls:=dB.2 ⟨r,s⟩;rw[k]at b;rcases xw.1 b with b|b
  ·obtain⟨p,q,rfl⟩:=Xg.1 b;exact absurd rfl (t ((ls.getD p.1 L0).id,p.2) (Xe (f:=λp=>((ls.getD p.1 L0).id,p.2)) q))
  exact b
 intro b;have n:i∈cM rj f td gd a ls:=by rw[k];exact xw.2 (Or.inr b)
 refine⟨(dB.1 n).2,λp q e=>?_⟩;obtain⟨c,u,rfl⟩:=Xg.1 q;have g:c.1∈done.map Prod.fst:=Xe u;have l:c.1∈cM rj f td gd a ls:=by rw[k];exact xw.2 (Or.inl g)
 have:=m.ids c.1 i (dB.1 l).1 r e
 exact h _ g _ b this
theorem RM(c:Good os ls){f:Bool}{td gd a:Nat}{done:List (Nat×Nat)}(g:cM rj f td gd a ls=done.map Prod.fst++[]){r:Int}(h:Nx rj f td gd a ls (zt ls done) ls.length r):r=-1:=by
 rcases h with ⟨h,_⟩|⟨b,_,d,e,_⟩
 ·exact h
 exact absurd ((iO c g d).1 e) (by simp)
theorem PE(e:Good os ls){f:Bool}{td gd a:Nat}{done:List (Nat×Nat)}{c:Nat}{t:List Nat}(j:cM rj f td gd a ls=done.map Prod.fst++(c::t)){r:Int}(h:Nx rj f td gd a ls (zt ls done) ls.length r):r=(c:Int):=by
 have d:∀i∈c::t,i<ls.length:=λi g=>(dB.1 (show i∈cM rj f td gd a ls by rw[j];exact xw.2 (Or.inr g))).1
 have m:=JA (rj:=rj) f td gd a ls;rw[j]at m;have l:=(XY.1 m).2.1;rcases h with ⟨_,h⟩|⟨b,s,n,p,q⟩
 ·exact absurd ((iO e j (d c (by simp))).2 (by simp)) (h c (d c (by simp)))
 have k:=(iO e j n).1 p;have:=tP e l d k (λi g=>q i (d i g) ((iO e j (d i g)).2 g));rw[s,this]
variable {R td:Nat}{fs:List Value}{rec:ByteArray}{ro:Ro}{v:Value}{w:World}
theorem tW(h:RV os rj ro w R v td rec fs ls)(b6:Good os ls)(gd a b d:Nat)(h1:gd<=2147483647)(h2:a<=2147483647)(h3:b<=2147483647)(h4:d<=3):Calls prog 115 #[.pointer (some ⟨R,0,none⟩),.int .i64 gd,.int .i64 a,.int .i64 b,.int .i64 d] w λe w'=>Below w.heap.size w w'/\∃lv,e=.returned (.tuple #[lv,.int .i64 (aR (zo rj td gd a b d ls):Int)])/\w'.ownsRow w.heap.size 181 2 lv (zo rj td gd a b d ls).length (zA (zt ls (zo rj td gd a b d ls))):=by
 obtain⟨i0,hi,c6,c7,c8⟩:=XH wH;obtain⟨va,a1,hv,s⟩:=h.shape;have c1:=h.c1;rw[hv]at c1;have hR:=zc h.store;have a9:=h.room;have HP:=zb h;have c9:=zb s;have b0:=zb b6;have HL:Ha (zo rj td gd a b d ls=aB ls (cM rj (lR d) td gd b ls) a):=rfl;have b3:Ha ((cM rj (lR d) td gd b ls).length<=30):=by
  unfold Ha;rw[(dZ (rj:=rj) (lR d) td gd b ls).length_eq];have:=dM (rj:=rj) td gd b ls ls.length;omega
 have b4:Ha (∀c,c∈cM rj (lR d) td gd b ls->c<ls.length/\Vb (cH rj ls) td gd b (ls.getD c L0)=true):=λc hc=>dB.1 hc
 clear h hv s b6;go_enter func115,ntmps115;go_wp2_with fail;go_loopw [12,13,14,15] (λlv ss _ _ wr=>∃(sum:Nat) (m:List Nat) (done:List (Nat×Nat)),ss=.int .i64 sum/\sum<=a/\cM rj (lR d) td gd b ls=done.map Prod.fst++m/\aB ls (cM rj (lR d) td gd b ls) a=done++aB ls m (a-sum)/\aR done=sum/\wr.ownsRow w.heap.size 181 2 lv done.length (zA (zt ls done))/\Below w.heap.size w wr) (λ_ ss _ _ _=>a-(intOf ss).toNat)
 case atStart=>exact⟨0,cM rj (lR d) td gd b ls,[],rfl,by omega,by simp,by simp,rfl,Xi _ _ _ _,xh _ _⟩
 obtain⟨sum,m,done,rfl,e0,hq,J,x,l,hb⟩:=hrel;obtain⟨la,y,d6⟩:=zm l;subst d6;have cR:wr.cell? ⟨R,1,none⟩=some (.slice va ls.length a1):=(hb.cell (by exact hR)).trans c1;have d2:done.length+m.length<=30:=by
  have:=b3.o;rw[hq]at this;simpa using this
 by_cases d5:sum<a
 ·have b8:∀p∈zt ls done,p.1<=2147483647:=λp hp=>by
   obtain⟨c,hc,rfl⟩:=Xg.1 hp;have S:c.1∈cM rj (lR d) td gd b ls:=by rw[hq];exact xw.2 (Or.inl (Xe hc))
   exact(HP.ok _ (zg (b4 _ S).1)).id
  have T:(zt ls done).length=done.length:=by simp[zt]
  have M:wr.ownsRow w.heap.size 181 2 (.slice la (zt ls done).length y) (zt ls done).length (zA (zt ls done)):=by rw[T];exact l
  have E:=zb (Mz (HP.below hb) (zt ls done) (by rw[T];omega) b8 la y w.heap.size M gd b d h1 h3 h4);rw[T]at E;have HQ:=zb hq;have b1:=zb J;have Q:=zb x;have F:=zb l;have HB:=zb hb;obtain⟨dl,B⟩:=UM done.length;rw[<-B.o]at E d2 F;rw[show(Value.slice la done.length y)=Value.slice la dl y by rw[B.o]];clear hq J x l M b8 T
  cases N:m with
  |nil=>
   subst N;go_wp2_with fail
   with_reducible refine(E.o).mono ?_
   rintro e w1 ⟨z,r,rfl,K⟩;have hr:=RM b0 HQ K;subst hr;have D:Ha (zo rj td gd a b d ls=done):=by unfold Ha;rw[HL.o,b1.o];simp[aB]
   clear K;go_wp2_with fail;go_ret2;exact⟨hb.trans (z.mono hb.size),_,by rw[D.o,Q.o];rfl,by rw[D.o,<-B.o];exact zh F z⟩
  |cons c t=>
   subst N;go_wp2_with fail
   with_reducible refine(E.o).mono ?_
   rintro e w1 ⟨z,r,rfl,K⟩;have hr:=PE b0 HQ K;subst hr;have S:c∈cM rj (lR d) td gd b ls:=by rw[HQ.o];exact xw.2 (Or.inr (by simp))
   obtain⟨hc,W⟩:=b4.o c S;have a8:=HP.ok _ (zg hc);have d3:0<(ls.getD c L0).free:=by
    unfold Vb at W;simp only[Xu,Xv]at W;exact W.1.2
   obtain⟨G,hG,a0,a5⟩:=c9.o (by omega);subst hG;have j:=HB.trans (z.mono HB.size);have m5:w1.cell? ⟨G,c*11+5,none⟩=some (.int .i64 ((ls.getD c L0).free:Int)):=(j.cell (by exact a0)).trans (a5 c hc 5 (by omega));have m0:w1.cell? ⟨G,c*11,none⟩=some (.int .i64 ((ls.getD c L0).id:Int)):=(j.cell (by exact a0)).trans (a5 c hc 0 (by omega));have mR:w1.cell? ⟨R,1,none⟩=some (.slice (some ⟨G,0,none⟩) ls.length a1):=(j.cell (by exact hR)).trans c1;have A:=zh F z;have Z:=zb j;have b9:w.heap.size<=w1.heap.size:=j.size;have d4:(ls.getD c L0).free<=2147483647:=by have:=a8.sum;omega
   have b7:=a8.id;have b2:Ha (∀n,cM rj (lR d) td gd b ls=(done++[(c,n)]).map Prod.fst++t):=λn=>by rw[HQ.o];simp
   have C:Ha (aB ls (cM rj (lR d) td gd b ls) a=(done++[(c,min (ls.getD c L0).free (a-sum))])++aB ls t (a-sum-min (ls.getD c L0).free (a-sum))):=by
    unfold Ha;rw[b1.o,aB,xg (by omega)];simp
   have b5:Ha (∀n,aR (done++[(c,n)])=sum+n):=λn=>by rw[hJ,Q.o];simp[aR]
   have a3:Ha (∀n,zt ls (done++[(c,n)])=zt ls done++[((ls.getD c L0).id,n)]):=λn=>by unfold zt;rw[yz];rfl
   have d9:ls.length<=30:=a9;obtain⟨q,d0⟩:=UM ((ls.getD c L0).free);rw[<-d0.o]at d3 m5 d4 C;obtain⟨X,d1⟩:=UM ((ls.getD c L0).id);rw[<-d1.o]at m0 b7 a3;clear K S W a8 a5 j z cR E;by_cases d8:a-sum<q
   ·have d7:decide ((a:Int)-(sum:Int)<(q:Int))=true:=by simp;omega
    have a6:min q (a-sum)=(a-sum):=by omega
    rw[a6]at C;go_wp2_with (at_builtin;refine Xb _ rfl _ _ 40 rfl w.heap.size 181 i0 (.agg #[.int .i64 0,.int .i64 0]) 2 16 xP hi c6 c7 c8 rfl (by decide) _ dl (zA (zt ls done)) rfl (A.alloc _) ⟨w1.heap.size,0,none⟩ 1 1 [.int .i64 X,.int .i64 ((a:Int)-(sum:Int))] rfl rfl ?c1 ?c2 ?c3 ?c4 ?c5 ?_)
    case c1=>exact Yb _ _ _ _
    case c2=>intro u hu;simp at hu;rcases hu with rfl|rfl<;>rfl
    case c3=>unfold maxLen;omega
    case c4=>omega
    case c5=>simp;omega
    intro P w2 g f a7;have i:w2.ownsRow w.heap.size 181 2 P (done++[(c,(a-sum))]).length (zA (zt ls (done++[(c,(a-sum))]))):=by
     rw[a3.o,kU,xb,Xc,<-B.o];have e:(((a-sum):Nat):Int)=((a:Int)-(sum:Int)):=by omega
     show w2.ownsRow w.heap.size 181 2 P (dl+1) (zA (zt ls done)++[.int .i64 X,.int .i64 (((a-sum):Nat):Int)]);rw[e];exact g
    have H:Below w.heap.size w w2:=(Z.alloc b9 _).grown f (by simp;omega) (λk hk=>(A.lt k hk).1);have a4:=zb i;have a2:=zb H;clear g i H f a7 A m0 m5 mR;go_wp2_with fail;go_roundw
    case rel=>exact⟨sum+(a-sum),t,done++[(c,(a-sum))],by first|(congr 1;done)|(congr 1;omega),by omega,b2 _,by rw[show a-(sum+(a-sum))=a-sum-(a-sum) by omega];exact C,b5 _,a4,a2⟩
    simp[intOf];omega
   have d7:decide ((a:Int)-(sum:Int)<(q:Int))=false:=by simp;omega
   have a6:min q (a-sum)=q:=by omega
   rw[a6]at C;go_wp2_with (at_builtin;refine Xb _ rfl _ _ 40 rfl w.heap.size 181 i0 (.agg #[.int .i64 0,.int .i64 0]) 2 16 xP hi c6 c7 c8 rfl (by decide) _ dl (zA (zt ls done)) rfl (A.alloc _) ⟨w1.heap.size,0,none⟩ 1 1 [.int .i64 X,.int .i64 q] rfl rfl ?c1 ?c2 ?c3 ?c4 ?c5 ?_)
   case c1=>exact Yb _ _ _ _
   case c2=>intro u hu;simp at hu;rcases hu with rfl|rfl<;>rfl
   case c3=>unfold maxLen;omega
   case c4=>omega
   case c5=>simp;omega
   intro P w2 g f a7;have i:w2.ownsRow w.heap.size 181 2 P (done++[(c,q)]).length (zA (zt ls (done++[(c,q)]))):=by
    rw[a3.o,kU,xb,Xc,<-B.o];have e:((q:Nat):Int)=(q:Int):=by omega
    show w2.ownsRow w.heap.size 181 2 P (dl+1) (zA (zt ls done)++[.int .i64 X,.int .i64 ((q:Nat):Int)]);rw[e];exact g
   have H:Below w.heap.size w w2:=(Z.alloc b9 _).grown f (by simp;omega) (λk hk=>(A.lt k hk).1);have a4:=zb i;have a2:=zb H;clear g i H f a7 A m0 m5 mR;go_wp2_with fail;go_roundw
   case rel=>exact⟨sum+q,t,done++[(c,q)],by first|(congr 1;done)|(congr 1;omega),by omega,b2 _,by rw[show a-(sum+q)=a-sum-q by omega];exact C,b5 _,a4,a2⟩
   simp[intOf];omega
 obtain rfl:sum=a:=by omega
 rw[YM,tM,XR]at J;have D:Ha (zo rj td gd sum b d ls=done):=by unfold Ha;rw[HL.o,J]
 have Q:=zb x;have F:=zb l;clear hq J x l d5;go_wp2_with fail;go_ret2;exact⟨hb,_,by rw[D.o,Q.o];rfl,by rw[D.o];exact F⟩
theorem Fb(h:RV os rj ro w R v td rec fs ls)(d:Good os ls)(p cap:Nat)(id gd b c f:Nat)(t:NS w p [id,gd,b,c,f])(x:id<=2147483647)(s:os.any (λo=>o.id==id)=true\/10<=os.length):Calls prog 69 #[.pointer (some ⟨R,0,none⟩),.slice (some ⟨p,0,none⟩) 5 cap] w λe w'=>e=.returned (.tuple #[.slice none 0 0,.int .i64 (dF rj os td ls id gd b c f:Int)])/\w'=w:=by
 have z:w.cell? ⟨p,0,none⟩=some (.int .i64 id):=t.2 0 (by simp);have i:=zb (cU h d.olen d.oid id x);obtain⟨A,u,g,_⟩:=h.ord.shape;have c2:=h.c2;rw[g]at c2;have y:=d.olen
 cases a:os.any (λo=>o.id==id) with
 |true=>
  have l:Ha (dF rj os td ls id gd b c f=5):=by unfold Ha dF;rw[a];rfl
  have j:=fS.2 a;have m:Ha (aZ os id=(UO id os:Int)):=by unfold Ha aZ;rw[xe j]
  rw[m.o]at i;generalize UO id os=k at *;clear h d t a s g;go_enter func69,ntmps69;go_wp2_with (go_at_call 114;with_reducible refine(i.o).mono ?_;rintro e w1 ⟨rfl,rfl⟩);go_ret2;exact⟨by rw[l.o];rfl,rfl⟩
 |false=>
  have r:10<=os.length:=s.resolve_left (by rw[a];simp);have l:Ha (dF rj os td ls id gd b c f=6):=by unfold Ha dF;rw[a,xg (by simp),xe r]
  have j:¬UO id os<os.length:=λq=>by rw[fS.1 q]at a;cases a
  have m:Ha (aZ os id=-1):=by unfold Ha aZ;rw[xg j]
  rw[m.o]at i;generalize os.length=n at *;clear h d t a s g j;go_enter func69,ntmps69;go_wp2_with (go_at_call 114;with_reducible refine(i.o).mono ?_;rintro e w1 ⟨rfl,rfl⟩);go_ret2;exact⟨by rw[l.o];rfl,rfl⟩
theorem Fc(h:RV os rj ro w R v td rec fs ls)(j:Good os ls)(d cap:Nat)(id gd a b c:Nat)(k:NS w d [id,gd,a,b,c])(W:id<=2147483647)(X:gd<=2147483647)(H:a<=2147483647)(Z:b<=2147483647)(J:c<=3)
  (i:os.any (λo=>o.id==id)=false) (C:¬10<=os.length) (m:aR (zo rj td gd a b c ls)=0\/(aR (zo rj td gd a b c ls)<a/\DC c=true)) :
  Calls prog 69 #[.pointer (some ⟨R,0,none⟩),.slice (some ⟨d,0,none⟩) 5 cap] w λe w'=>e=.returned (.tuple #[.slice none 0 0,.int .i64 7])/\Below w.heap.size w w':=by
 have Q:w.cell? ⟨d,0,none⟩=some (.int .i64 id):=k.2 0 (by simp);have u:w.cell? ⟨d,1,none⟩=some (.int .i64 gd):=k.2 1 (by simp);have x:w.cell? ⟨d,2,none⟩=some (.int .i64 a):=k.2 2 (by simp);have y:w.cell? ⟨d,3,none⟩=some (.int .i64 b):=k.2 3 (by simp);have z:w.cell? ⟨d,4,none⟩=some (.int .i64 c):=k.2 4 (by simp);obtain⟨cs,r⟩:=k.1;have g:=zc r;have B:=zb (cU h j.olen j.oid id W);obtain⟨oa,S,s,_⟩:=h.ord.shape;have c2:=h.c2;rw[s]at c2;have P:¬UO id os<os.length:=λq=>by rw[fS.1 q]at i;cases i
 have G:Ha (aZ os id=-1):=by unfold Ha aZ;rw[xg P]
 rw[G.o]at B;have F:=zb (tW (h.below (ZC w)) j gd a b c X H Z J);have T:=zb (ZX (rj:=rj) td gd a b c ls h.room);have a1:aR (zo rj td gd a b c ls)<=2147483647:=xj T.2.2.2.2 H;have D:=QP J;have M:os.length<10:=by omega
 generalize os.length=n at *;generalize zo rj td gd a b c ls=q at *;generalize aR q=A at *;clear h j k i s P r G C;by_cases t:A=0
 ·have E:((A:Int)==0)=true:=by rw[t];rfl
  clear m t;go_enter func69,ntmps69;go_wp2_with (go_at_call 114;with_reducible refine(B.o).mono ?_;rintro e w1 ⟨rfl,rfl⟩);go_region_held3 (λw'=>w'.cell? ⟨d,1,none⟩=some (.int .i64 gd)/\w'.cell? ⟨d,2,none⟩=some (.int .i64 a)/\w'.cell? ⟨d,3,none⟩=some (.int .i64 b)/\w'.cell? ⟨d,4,none⟩=some (.int .i64 c)) (go_keep)
   (first
    |(go_at_call 115;refine F.mono ?_;rintro e w2 ⟨f,lv,rfl,l⟩;have m1:=(f.cell (p:=⟨d,1,none⟩) (by exact g)).trans u;have m2:=(f.cell (p:=⟨d,2,none⟩) (by exact g)).trans x;have m3:=(f.cell (p:=⟨d,3,none⟩) (by exact g)).trans y;have m4:=(f.cell (p:=⟨d,4,none⟩) (by exact g)).trans z))
  clear l Q u x y z;go_wp2_with fail;go_ret2;exact⟨rfl,(ZC _).trans (f.mono (ZC _).size)⟩
 have E:((A:Int)==0)=false:=by rw[xp];omega
 obtain⟨a0,N⟩:=m.resolve_left t;rw[N]at D;have K:decide ((A:Int)<(a:Int))=true:=by simp;omega
 clear m t N;go_enter func69,ntmps69;go_wp2_with (go_at_call 114;with_reducible refine(B.o).mono ?_;rintro e w1 ⟨rfl,rfl⟩);go_region_held3 (λw'=>w'.cell? ⟨d,1,none⟩=some (.int .i64 gd)/\w'.cell? ⟨d,2,none⟩=some (.int .i64 a)/\w'.cell? ⟨d,3,none⟩=some (.int .i64 b)/\w'.cell? ⟨d,4,none⟩=some (.int .i64 c)) (go_keep)
  (first
   |(go_at_call 115;refine F.mono ?_;rintro e w2 ⟨f,lv,rfl,l⟩;have m1:=(f.cell (p:=⟨d,1,none⟩) (by exact g)).trans u;have m2:=(f.cell (p:=⟨d,2,none⟩) (by exact g)).trans x;have m3:=(f.cell (p:=⟨d,3,none⟩) (by exact g)).trans y;have m4:=(f.cell (p:=⟨d,4,none⟩) (by exact g)).trans z))
 clear l Q u x y z;go_wp2_with fail;go_ret2;exact⟨rfl,(ZC _).trans (f.mono (ZC _).size)⟩
theorem Rt:(prog.info? 3).map (λi=>(i.zero,i.size,i.bytes))=some (some (.int .i64 0),1,8):=by kernel_rfl
theorem Og:prog.underlying 55=some (.slice 3):=by kernel_rfl
theorem IG:(prog.info? 132).map (λi=>(i.zero,i.size,i.bytes))=some (some (.agg #[.int .i64 0,.int .i64 0,.slice none 0 0]),3,40):=by kernel_rfl
theorem Oh:prog.underlying 39=some (.slice 132):=by kernel_rfl
theorem nO(b:∀i j,i<ls.length->j<ls.length->(ls.getD i L0).id=(ls.getD j L0).id->i=j){c:Nat}(d:c<ls.length):UB (ls.getD c L0).id ls=c:=by
 have a:UB (ls.getD c L0).id ls<ls.length:=by
  apply XV
  intro h;exact pY h c d rfl
 exact b _ c a d (Zu a)
def BF(w:World)(G i j k:Nat)(x y:Int):World:=((w.setCell ⟨G,i*11+j,none⟩ (.int .i64 x)).setCell ⟨G,i*11+k,none⟩ (.int .i64 y)).drew.drew
theorem lQ{G i j k q:Nat}{x y:Int}(a:q≠G):(BF w G i j k x y).heap[q]?=w.heap[q]?:=by
 show((w.setCell ⟨G,i*11+j,none⟩ (.int .i64 x)).setCell ⟨G,i*11+k,none⟩ (.int .i64 y)).heap[q]?=_;rw[xa _ _ _ _ a,xa _ _ _ _ a]
theorem DA{Z:Nat->Prop}{G i j k:Nat}{x y:Int}(a:Z G):Kp Z w (BF w G i j k x y):=by
 unfold BF;exact(((Kp.refl _ w).setCell (p:=⟨G,i*11+j,none⟩) (Or.inl a) _).setCell (p:=⟨G,i*11+k,none⟩) (Or.inl a) _).after ((xh _ _).drew.drew)
theorem BG(w:World)(G i j k:Nat)(x y:Int):(BF w G i j k x y).heap.size=w.heap.size:=by simp[BF,World.drew,World.setCell]
theorem RV.two(h:RV os rj ro w R v td rec fs ls){G cap:Nat}(m:v=.slice (some ⟨G,0,none⟩) ls.length cap){i:Nat}(d:i<ls.length){l':L}(l:L.Ok l')(a:l'.id=(ls.getD i L0).id)(b:l'.par=(ls.getD i L0).par)(x y:Int)(j k:Nat)(e:j<11)(g:k<11)
  (c:∀f,((zp (ls.getD i L0) f).set j (.int .i64 x)).set k (.int .i64 y)=zp l' f):RV os rj ro (BF w G i j k x y) R v td rec fs (ls.set i l') :=
 (h.lotset m d l a b (.int .i64 x) (.int .i64 y) j k e g c).below ((xh _ _).drew.drew)
theorem Ju{a e size n:Nat}{u:Value}{xs:List Value}(h:w.ownsRow a e size u n xs){G i j k:Nat}{x y:Int}(b:u.ownBlock≠some G):(BF w G i j k x y).ownsRow a e size u n xs :=
 ze h (λq c=>lQ (λe=>b (by rw[<-e];exact c)))
theorem lA(o:O)(f:Value):∀(os:List O) (c:List Value),c.length=os.length->bG (os++[o]) (c++[f])=bG os c++[.int .i64 o.id,.int .i64 o.gd,f]
 |[],[],_=>rfl
 |[],_::_,h=>by simp at h
 |_::_,[],h=>by simp at h
 |a::os,b::c,h=>by
  have:=lA o f os c (by simpa using h)
  simp only[XF,bG,this]
theorem RV.ordered{w1 w2:World}(h:RV os rj ro w R v td rec fs ls){o:O}{lv ov':Value}(D:∀k,k<w.heap.size->w1.heap[k]?=w.heap[k]?)(J:w.heap.size<=w1.heap.size)(G:w1.grownBy w2 ro.ov.ownBlock)(m:w2.ownsRow 0 132 3 ov' (os.length+1) (bG os ro.lvs++[.int .i64 o.id,.int .i64 o.gd,lv]))(s:w.ownsRow 0 181 2 lv o.li.length (zA o.li))(r:∀g,lv.ownBlock=some g->ro.rv.ownBlock≠some g):RV (os++[o]) rj { ro with ov:=ov',lvs:=ro.lvs++[lv] } (w2.setCell ⟨R,2,none⟩ ov') R v td rec fs ls:=by
 have u:∀(b:Nat) (j:Array Value) (t:TypeId),w.heap[b]?=some (.cells j t (0,0))->t≠132->w2.heap[b]?=w.heap[b]?:=λb j t l B=>(G.block b (by have:=zc l;omega) (λe=>by
  obtain⟨E,c⟩:=zi h.ord.row e.symm;exact zw l c B rfl)).trans (D b (zc l))
 have n:=(u R _ _ h.store (by decide)).trans h.store;have f:∀(b:Nat) (j:Array Value) (t:TypeId),w.heap[b]?=some (.cells j t (0,0))->t≠132->t≠42->(w2.setCell ⟨R,2,none⟩ ov').heap[b]?=w.heap[b]?:=λb j t l B C=>by
  rw[xa _ _ _ _ (zw l h.store C)];exact u b j t l B
 refine⟨?_,ze h.row (λg a=>by obtain⟨j,c⟩:=zi h.row a;exact f _ _ _ c (by decide) (by decide)),h.flen,h.fro,⟨?_,by simp[h.ord.llen],λi z=>?_,?_⟩,h.today,h.ok,h.room,h.fam,h.rc⟩
 ·have:=xq w2 R 2 _ 42 ov' n
  simpa using this
 ·have H:=m.kept (zV w2 ⟨R,2,none⟩ ov') (Or.inr (λe=>by
   obtain⟨j,F⟩:=zi m (g:=R) e;exact zw n F (by decide) rfl))
  rw[lA o lv os ro.lvs h.ord.llen,xb];exact H
 ·rw[xb,Xc]at z;by_cases d:i<os.length
  ·have x:(os++[o]).getD i O0=os.getD i O0:=by simp[Uv,Xk d]
   have y:(ro.lvs++[lv]).getD i default=ro.lvs.getD i default:=by simp[Uv,Xk (show i<ro.lvs.length by rw[h.ord.llen];exact d)]
   show(w2.setCell ⟨R,2,none⟩ ov').ownsRow 0 181 2 ((ro.lvs++[lv]).getD i default) _ _;rw[x,y];exact ze (h.ord.li i d) (λg a=>by obtain⟨j,c⟩:=zi (h.ord.li i d) a;exact f _ _ _ c (by decide) (by decide))
  obtain rfl:i=os.length:=by omega
  have x:(os++[o]).getD os.length O0=o:=by simp[Uv]
  have y:(ro.lvs++[lv]).getD os.length default=lv:=by rw[<-h.ord.llen];simp[Uv]
  show(w2.setCell ⟨R,2,none⟩ ov').ownsRow 0 181 2 ((ro.lvs++[lv]).getD os.length default) _ _;rw[x,y];exact ze s (λg a=>by obtain⟨j,c⟩:=zi s a;exact f _ _ _ c (by decide) (by decide))
 have q:=h.ord.fd.congr (w':=w2.setCell ⟨R,2,none⟩ ov') (λg a=>by obtain⟨j,c⟩:=h.ord.fd.ty a;exact f _ _ _ c (by decide) (by decide));refine⟨q.rrow,q.flen,q.frm,λg a=>⟨?_,(q.apart g a).2⟩⟩;rintro⟨i,z,l⟩;have A:i<(ro.lvs++[lv]).length:=z;have p:((ro.lvs++[lv]).getD i default).ownBlock=some g:=l;rw[xb,Xc]at A;by_cases d:i<ro.lvs.length
 ·refine(q.apart g a).1 ⟨i,d,?_⟩;rw[<-p];simp[Uv,Xk d]
 obtain rfl:i=ro.lvs.length:=by omega
 refine r g ?_ a
 rw[<-p];simp[Uv]
structure Sw(w:World)(os:List O)(rj:List (Nat×Nat))(ro:Ro)(R:Nat)(v:Value)(td:Nat)(rec:ByteArray)(fs:List Value)(ls:List L)(q:List (Nat×Nat))(lv:Value)(wr:World)(k:Nat)(ov:Value):Prop where
 rv:RV os rj ro wr R v td rec fs (Zm ls (q.take k))
 row:wr.ownsRow w.heap.size 181 2 lv q.length (zA (zt ls q))
 owt:wr.ownsRow w.heap.size 3 1 ov (1+k*2) (I (q.length::aN ls (q.take k)))
 kp:Kp (λb=>v.ownBlock=some b) w wr
 sz:w.heap.size<=wr.heap.size
theorem dY{a e size n:Nat}{u:Value}{xs:List Value}(h:w.ownsRow a e size u n xs){G:Nat}{c:Array Value}{t:TypeId}(f:w.heap[G]?=some (.cells c t (0,0)))(b:e≠t):u.ownBlock≠some G:=λi=>by
 obtain⟨d,g⟩:=zi h i;exact zw g f b rfl
theorem Oz{wr w5:World}{q:List (Nat×Nat)}{id gd g W g2 cap2:Nat}{n:Option Addr}{d:Nat}{o:Obj}(u:RV os rj ro wr R v td rec fs (Zm ls q))(r:wr.ownsRow w.heap.size 3 1 (.slice (some ⟨g,0,none⟩) (1+q.length*2) W) (1+q.length*2) (I (q.length::aN ls q)))(t:wr.ownsRow w.heap.size 181 2 (.slice n q.length d) q.length (zA (zt ls q)))
  (A:Kp (λb=>v.ownBlock=some b) w wr) (m:Below wr.heap.size wr (wr.alloc o).drew) (c:(wr.alloc o).drew.grownBy w5 ro.ov.ownBlock) (s:w5.ownsRow 0 132 3 (.slice (some ⟨g2,0,none⟩) (os.length+1) cap2) (os.length+1) (bG os ro.lvs++[.int .i64 id,.int .i64 gd,.slice n q.length d])) (C:ro.ov.ownBlock=some g2\/g2=wr.heap.size+1) (J:∀b,FB ro b->b<w.heap.size) :
  Kp (λb=>b=R\/v.ownBlock=some b\/ro.ov.ownBlock=some b) w (w5.setCell ⟨R,2,none⟩ (.slice (some ⟨g2,0,none⟩) (os.length+1) cap2)) /\
   (∃z,RV (os++[⟨id,gd,zt ls q⟩]) rj z (w5.setCell ⟨R,2,none⟩ (.slice (some ⟨g2,0,none⟩) (os.length+1) cap2)) R v td rec fs (Zm ls q)/\∀b,OB z b->OB ro b\/w.heap.size<=b)/\Rw (w5.setCell ⟨R,2,none⟩ (.slice (some ⟨g2,0,none⟩) (os.length+1) cap2)) g (zG ls q):=by
 have H:(zt ls q).length=q.length:=by simp[zt]
 have Q:=A.size;refine⟨?_,⟨_,u.ordered (o:=⟨id,gd,zt ls q⟩) (lv:=.slice n q.length d) (λk A=>m.block k A) m.size c s (by show wr.ownsRow 0 181 2 (.slice n q.length d) (zt ls q).length (zA (zt ls q));rw[H];exact aK t) (λb l e=>by have:=(t.lt b l).1;have:=J b (Or.inl e);omega),λb l=>?_⟩,?_⟩
 ·refine Kp.setCell ?_ (Or.inl (Or.inl rfl)) _
  refine((A.mono (λb l=>Or.inr (Or.inl l))).after m).trans ⟨c.os,c.tape,c.output,c.size,λb l T=>c.block b l (λe=>T (Or.inl (Or.inr (Or.inr e.symm))))⟩
 ·rcases l with l|⟨i,N,l⟩|l
  ·have D:b=g2:=by
    have:(some g2:Option Nat)=some b:=l
    exact(xr this).symm
   subst D;rcases C with h|h
   ·exact Or.inl (Or.inl h)
   right;omega
  ·have G:i<(ro.lvs++[Value.slice n q.length d]).length:=N;rw[xb,Xc]at G;by_cases y:i<ro.lvs.length
   ·refine Or.inl (Or.inr (Or.inl ⟨i,y,?_⟩));have B:(ro.lvs++[Value.slice n q.length d]).getD i default=ro.lvs.getD i default:=by simp[Uv,Xk y]
    rw[<-B];exact l
   obtain rfl:i=ro.lvs.length:=by omega
   right
   have B:(ro.lvs++[Value.slice n q.length d]).getD ro.lvs.length default=Value.slice n q.length d:=by simp[Uv]
   have x:((ro.lvs++[Value.slice n q.length d]).getD ro.lvs.length default).ownBlock=some b:=l;rw[B]at x;exact(t.lt b x).1
  exact Or.inl (Or.inr (Or.inr l))
 have S:(zG ls q).length=1+q.length*2:=by simp[zG,eC];omega
 obtain⟨M,f⟩:=zi r (g:=g) rfl;have F:g≠R:=zw f u.store (by decide);have p:(w5.setCell ⟨R,2,none⟩ (.slice (some ⟨g2,0,none⟩) (os.length+1) cap2)).heap[g]?=wr.heap[g]?:=by
  rw[xa _ _ _ _ F,c.block g (xn (zc f) m.size) (λe=>by
   obtain⟨K,E⟩:=zi u.ord.row e.symm;exact zw f E (by decide) rfl),m.block g (zc f)]
 refine⟨?_,λj P=>?_⟩
 ·exact zc (p.trans f)
 rw[xm (a:=⟨g,j,none⟩) p,r.cellAt j (by omega)];show(I (zG ls q))[j]?=_;simp[I,Uv,P]
theorem RV.typed{w':World}(h:RV os rj ro w R v td rec fs ls)(d:∀(b:Nat) (c:Array Value) (t:TypeId),w.heap[b]?=some (.cells c t (0,0))->t≠3->w'.heap[b]?=w.heap[b]?):RV os rj ro w' R v td rec fs ls:={
 store:=(d _ _ _ h.store (by decide)).trans h.store
 row:=ze h.row (λg e=>by obtain⟨c,a⟩:=zi h.row e;exact d _ _ _ a (by decide))
 flen:=h.flen
 fro:=h.fro
 ord:=h.ord.congr (λg e=>by
  obtain⟨c,t,a,f⟩:=h.ord.ty e;refine d _ _ _ a ?_
  rcases f with rfl|rfl<;>decide)
 today:=h.today
 ok:=h.ok
 room:=h.room
 fam:=h.fam
 rc:=h.rc}
