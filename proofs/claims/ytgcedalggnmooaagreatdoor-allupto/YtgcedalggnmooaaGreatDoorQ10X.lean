import Derived.Test.YtgcedalggnmooaaGreatDoorR9
import Derived.Test.YtgcedalggnmooaaGreatDoorQ8
set_option linter.all false
set_option maxRecDepth 100000
set_option maxHeartbeats 6400000
namespace Go.Proofs.YtgcedalggnmooaaGreatDoor
open Go.RowKit
open Tryz
def gh(g:L->Nat->L)(l:L)(n:Nat):L:=g { l with hd:=l.hd-n } n
def Z5(ls:List L)(ln:List (Nat×Nat)):List (Nat×Nat):=ln.map λp=>(Wj p.1 ls,p.2)
def Ef(g:L->Nat->L)(a:∀l n,(g l n).id=l.id):∀(l:List (Nat×Nat)) (ls:List L) (i:Nat),((cD g ls l).getD i L0).id=(ls.getD i L0).id
 |[],ls,i=>rfl
 |p::r,ls,i=>by
  simp only[cD];rw[Ef g a r];by_cases h:i=p.1
  ·subst h;by_cases b:p.1<ls.length
   ·rw[aY b];exact a _ _
   simp[xad (show ls.length<=p.1 by omega)]
  rw[ZJ h]
structure TZ(os:List O)(ls:List L)(a:Nat)(o:O):Prop where
 find:os.find? (λo=>o.id==a)=some o
 keys:(o.li.map Prod.fst).Nodup
 mem:∀p∈o.li,Wj p.1 ls<ls.length
variable {ls:List L}{os:List O}
def Good.ordL(h:Good os ls){a:Nat}(d:Wy a os<os.length):TZ os ls a (os.getD (Wy a os) O0):=by
 have c:os.getD (Wy a os) O0∈os:=by simp[Wc,d]
 have b:=Tm d;refine⟨?_,h.keys _ c,λp j=>?_⟩
 ·have:=jJ h.oids c
  rw[b]at this;exact this
 obtain⟨i,f,e⟩:=h.mem _ c p j;apply yx;intro g;exact qO g i f e
def Bd{a:Nat}{o:O}(h:TZ os ls a o):((Z5 ls o.li).map Prod.fst).Nodup:=by
 have e:(Z5 ls o.li).map Prod.fst=(o.li.map Prod.fst).map (λb=>Wj b ls):=by unfold Z5;rw[xac,xac];rfl
 rw[e];refine eR _ h.keys (λx j y k f=>?_);obtain⟨p,g,rfl⟩:=Xz.1 j;obtain⟨r,i,rfl⟩:=Xz.1 k;have c:=aS (h.mem p g);have d:=aS (h.mem r i);rw[f]at c;exact c.symm.trans d
def Ma(f:Good os ls){a:Nat}{o:O}(h:TZ os ls a o)(g:L->Nat->L):cD (gh g) ls (Z5 ls o.li)=ls.map (fF g os a):=by
 have c:∀b,zq os a b=o.li.lookup b:=λb=>by unfold zq;rw[h.find];rfl
 apply wG
 ·rw[aN];simp
 intro i d;rw[aN]at d;rw[aJ d]
 cases e:o.li.lookup (ls.getD i L0).id with
 |some n=>
  have j:(i,n)∈Z5 ls o.li:=by
   have:=Zx e
   refine Xz.2 ⟨_,this,?_⟩;rw[oD f.ids d]
  rw[yL (gh g) _ _ (Bd h) j d];unfold fF gh;rw[c,e]
 |none=>
  rw[bN]
  ·unfold fF;rw[c,e]
  intro j;obtain⟨p,q,l⟩:=Xz.1 j;obtain⟨r,m,rfl⟩:=Xz.1 q;have k:=aS (h.mem r m);simp only at l;rw[l]at k;exact Zw.1 e (by rw[k];exact Xu m)
variable {α:Type}
def tU(l:List α)(o:Nat):(l.take (o+1)).eraseIdx o=(l.take o).eraseIdx o:=by
 rw[Yd (show(l.take o).length<=o by simp;omega)];by_cases h:o<l.length
 ·rw[xn h,xbb (by simp;omega)];have:o-(l.take o).length=0:=by simp;omega
  rw[this];simp
 rw[Xy (by omega),Xy (by omega),Yd (by omega)]
def tV(l:List α)(d:α){o k:Nat}(a:k<l.length)(b:k≠o):(l.take (k+1)).eraseIdx o=(l.take k).eraseIdx o++[l.getD k d]:=by
 have e:l.take (k+1)=l.take k++[l.getD k d]:=by rw[xn a];simp[Wc,a]
 rw[e];by_cases h:o<k
 ·rw[xbc (by simp;omega)]
 rw[Yd (show(l.take k).length<=o by simp;omega),Yd (by simp;omega)]
def mK{a:Nat}:∀(os:List O),(os.map O.id).Nodup->Wy a os<os.length->os.eraseIdx (Wy a os)=os.filter (λo=>o.id != a)
 |[],_,h=>by simp at h
 |o::os,hn,h=>by
  simp only[Xv,yj]at hn;by_cases b:o.id=a
  ·have e:Wy a (o::os)=0:=by unfold Wy;simp[xbV,b]
   have c:(o.id != a)=false:=by simp[b]
   rw[e];simp only[List.eraseIdx_cons_zero,List.filter,c];rw[eq_comm,xbG];intro x f;have:x.id≠a:=λq=>hn.1 (by rw[b,<-q];exact Xu f)
   simpa using this
  have d:(o.id==a)=false:=by simpa using b
  have e:Wy a (o::os)=Wy a os+1:=by unfold Wy;simp[xbV,d]
  have c:(o.id != a)=true:=by simp[b]
  rw[e]at h ⊢;simp only[xcf,List.filter,c];rw[mK os hn.2 (by simpa using h)]
def lA(l:List α)(d:α)(o i:Nat):(l.eraseIdx o).getD i d=l.getD (if i<o then i else i+1) d:=by
 rw[Wc,List.getElem?_eraseIdx,Wc];split<;>rfl
variable {v:Value}{w:World}
def NV{d e size n:Nat}{xs:List Value}(h:w.ownsRow d e size v n xs):w.ownsRow 0 e size v n xs:=by
 refine⟨h.1,?_⟩;rcases h.2 with h|⟨g,cap,f,a,b,c⟩
 ·exact Or.inl h
 exact Or.inr ⟨g,cap,f,a,Nat.zero_le _,c⟩
def tB(w:World)(x y z:Value)(t:TypeId):∀(j:Nat) (u:Value),[x,y,z][j]?=some u->(w.alloc (.cells #[x,y,z] t)).cell? (Addr.add ⟨w.heap.size,0,none⟩ j)=some u:=λj u a=>
 yr (w:=w.alloc (.cells #[x,y,z] t)) (xp w _) j u a
variable {ro:Ro}
def Eh{ov':Value}{ox b:Nat}(h:LB { ro with ov:=ov',lvs:=ro.lvs.eraseIdx ox } b):LB ro b:=by
 obtain⟨i,e,d⟩:=h;have a:((ro.lvs.eraseIdx ox).getD i default).ownBlock=some b:=d;have c:i<(ro.lvs.eraseIdx ox).length:=e;rw[lA]at a;refine⟨_,?_,a⟩;rw[YJ]at c;split at c<;>split<;>omega
variable {R td:Nat}{fs:List Value}{rj:List (Nat×Nat)}{rec:ByteArray}
def RV.removed{w2:World}(h:RV os rj ro w R v td rec fs ls){ox:Nat}{ov':Value}(x:ox<os.length)(q:Below w.heap.size w w2)(f:w2.ownsRow w.heap.size 132 3 ov' (os.eraseIdx ox).length (bJ (os.eraseIdx ox) (ro.lvs.eraseIdx ox))):RV (os.eraseIdx ox) rj { ro with ov:=ov',lvs:=ro.lvs.eraseIdx ox } (w2.setCell ⟨R,2,none⟩ ov') R v td rec fs ls:=by
 have k:=(q.block R (zc h.store)).trans h.store;have c:∀(b:Nat) (j:Array Value) (t:TypeId),w.heap[b]?=some (.cells j t (0,0))->t≠42->(w2.setCell ⟨R,2,none⟩ ov').heap[b]?=w.heap[b]?:=λb j t l p=>by
  rw[xd _ _ _ _ (zt l h.store p)];exact q.block b (zc l)
 refine⟨?_,zd h.row (λg a=>by obtain⟨j,d⟩:=zh h.row a;exact c _ _ _ d (by decide)),h.flen,h.fro,⟨?_,?_,λi s=>?_,?_⟩,h.today,h.ok,h.room,h.fam,h.rc⟩
 ·have:=xu w2 R 2 _ 42 ov' k
  simpa using this
 ·exact NV (f.kept (zM w2 ⟨R,2,none⟩ ov') (Or.inr (λe=>by
   obtain⟨j,r⟩:=zh f (g:=R) e;exact zt k r (by decide) rfl)))
 ·show(ro.lvs.eraseIdx ox).length=_;rw[YJ,YJ,h.ord.llen]
 ·have n:(if i<ox then i else i+1)<os.length:=by
   rw[YJ,xh x]at s;split<;>omega
  show(w2.setCell ⟨R,2,none⟩ ov').ownsRow 0 181 2 ((ro.lvs.eraseIdx ox).getD i default) _ _;rw[lA,lA];exact zd (h.ord.li _ n) (λg a=>by obtain⟨j,d⟩:=zh (h.ord.li _ n) a;exact c _ _ _ d (by decide))
 have m:=h.ord.fd.congr (w':=w2.setCell ⟨R,2,none⟩ ov') (λg a=>by obtain⟨j,d⟩:=h.ord.fd.ty a;exact c _ _ _ d (by decide));refine⟨m.rrow,m.flen,m.frm,λg a=>⟨λu=>(m.apart g a).1 (Eh u),(m.apart g a).2⟩⟩
def FH{ov':Value}{ox n:Nat}(c:∀b,ov'.ownBlock=some b->n<=b):∀b,OB { ro with ov:=ov',lvs:=ro.lvs.eraseIdx ox } b->OB ro b\/n<=b:=by
 intro b a;rcases a with a|a|a
 ·exact Or.inr (c b a)
 ·exact Or.inl (Or.inr (Or.inl (Eh a)))
 exact Or.inl (Or.inr (Or.inr a))
def nN(h:RV os rj ro w R v td rec fs ls)(b:Good os ls)(a:Nat)(g:a<=2147483647)(f:¬Wy a os<os.length):Calls prog 70 #[.pointer (some ⟨R,0,none⟩),.int .i64 6,.int .i64 a] w λe w'=>e=.returned (.int .i64 9)/\w'=w:=by
 have c:=zb (cX h b.olen b.oid a g);have d:Ha (bE os a=-1):=by unfold Ha bE;rw[xg f]
 rw[d.o]at c;clear h b f d;go_enter func70,ntmps70;go_wp2_with (go_at_call 114;with_reducible refine(c.o).mono ?_;rintro e w1 ⟨rfl,rfl⟩);go_ret;exact⟨rfl,rfl⟩
def Pb(z:Bool){rj:List (Nat×Nat)}{w:World}{R:Nat}{v:Value}{td:Nat}{b8:ByteArray}{fs:List Value}{ls:List L}{os:List O}{ro:Ro}(h:RV os rj ro w R v td b8 fs ls)(B:Good os ls)(a:Nat)(ha:a<=2147483647)(hx:Wy a os<os.length):Calls prog 70 #[.pointer (some ⟨R,0,none⟩),.int .i64 (cond z 6 7),.int .i64 a] w λe w'=>e=.returned (.int .i64 0)/\Kp (λb=>b=R\/v.ownBlock=some b) w w'/\∃g7,RV (os.filter (λo=>o.id != a)) rj g7 w' R v td b8 fs (ls.map (fF (cond z Zk Zl) os a))/\∀b,OB g7 b->OB ro b\/w.heap.size<=b:= by
 obtain⟨zy,A⟩:=Ww z
 cases z
 all_goals
  simp only[Yv,Ye];obtain⟨io,i4,i5,i6,i7⟩:=XT JB;have HO:=zb (cX h B.olen B.oid a ha);have HV:Ha (bE os a=(Wy a os:Int)):=by unfold Ha bE;rw[xh hx]
  rw[HV.o]at HO;have a1:=zb (B.ordL hx);have e7:=zb (mK os B.oids hx)
  first
  |(have _g:Ha (zy=true):=A
    have b4:=zb (Ma B (B.ordL hx) Zk))
  |(have b4:=zb (Ma B (B.ordL hx) Zl))
  obtain⟨oa,k2,d8,c6⟩:=h.ord.shape;obtain⟨OG,i1,i2,_,_,a9⟩:=c6 _ hx;subst i1;have c2:=h.c2;rw[d8]at c2;have y:=h.ord.li _ hx;obtain⟨la,c9,d5⟩:=zj y;rw[d5]at a9 y;have hR:=zc h.store;have e0:=h.room;have d7:=B.olen;have a7:(os.getD (Wy a os) O0).li.length<=30:=xj (B.oLines (by simp[Wc,hx])) e0;have HP:=zb h;have d1:=zb B;have f3:=zb d8;have f1:=zb d5;obtain⟨ox,h8⟩:=Ww (Wy a os);rw[<-h8.o]at HO a1 e7 b4 hx a9 y a7 f1;obtain⟨g,S⟩:=Ww ((os.getD ox O0).li);rw[<-S.o]at b4 a9 y a7;obtain⟨on,H⟩:=Ww os.length;rw[<-H.o]at c2 hx d7;clear h B d8 c6 HV d5;rw[show(Value.slice la (os.getD ox O0).li.length c9)=Value.slice la g.length c9 by rw[S.o]]at *;go_enter func70,ntmps70;go_wp2_with (go_at_call 114;with_reducible refine(HO.o).mono ?_;rintro e w1 ⟨rfl,j0⟩;have j1:=j0.symm;subst j1)
  first
  |(have _g:Ha (zy=true):=A
    go_loopw [9,10] (λii _ wr=>∃k:Nat,ii=.int .i64 k/\k<=g.length/\RV os rj ro wr R v td b8 fs (cD (gh Zk) ls ((Z5 ls g).take k))/\Kp (λb=>v.ownBlock=some b) w wr) (λii _ _=>g.length-(intOf ii).toNat))
  |(go_loopw [9,10] (λii _ wr=>∃k:Nat,ii=.int .i64 k/\k<=g.length/\RV os rj ro wr R v td b8 fs (cD (gh Zl) ls ((Z5 ls g).take k))/\Kp (λb=>v.ownBlock=some b) w wr) (λii _ _=>g.length-(intOf ii).toNat))
  case atStart=>exact⟨0,rfl,by omega,HP,Kp.refl _ _⟩
  obtain⟨k,rfl,hk,t,a5⟩:=hrel;have N:=t.ord.li ox (by rw[<-H.o];exact hx);rw[<-S.o,f1.o]at N;have E:(Z5 ls g).length=g.length:=by simp[Z5]
  first
  |(have _g:Ha (zy=true):=A
    have d:∀k,(cD (gh Zk) ls ((Z5 ls g).take k)).length=ls.length:=λk=>aN _ _ _)
  |(have d:∀k,(cD (gh Zl) ls ((Z5 ls g).take k)).length=ls.length:=λk=>aN _ _ _)
  by_cases F:k<g.length
  ·have d9:g.getD k (0,0)∈g:=by simp[Wc,F]
   have g2:(Z5 ls g).getD k (0,0)=(Wj (g.getD k (0,0)).1 ls,(g.getD k (0,0)).2):=by simp[Z5,Wc,F]
   have et:(Z5 ls g).take (k+1)=(Z5 ls g).take k++[(Wj (g.getD k (0,0)).1 ls,(g.getD k (0,0)).2)]:=by
    rw[xn (by rw[E];exact F),<-g2];simp[Wc,E,F]
   have hc:Wj (g.getD k (0,0)).1 ls<ls.length:=a1.mem _ (by rw[<-S.o];exact d9);have K:(ls.getD (Wj (g.getD k (0,0)).1 ls) L0).id=(g.getD k (0,0)).1:=aS hc;have D:Wj (g.getD k (0,0)).1 ls ∉ ((Z5 ls g).take k).map Prod.fst:=by
    have:=Bd a1
    rw[<-S.o]at this;have e2:(Z5 ls g).map Prod.fst=(((Z5 ls g).take k).map Prod.fst++[Wj (g.getD k (0,0)).1 ls])++((Z5 ls g).drop (k+1)).map Prod.fst:=by
     conv=>lhs;rw[<-yu (k+1) (Z5 ls g),et]
     simp
    rw[e2]at this;have:=(XP.1 (XP.1 this).1).2.2;intro hm;exact this _ hm _ (by simp) rfl
   have s:zq os a (ls.getD (Wj (g.getD k (0,0)).1 ls) L0).id=some (g.getD k (0,0)).2:=by
    unfold zq;rw[a1.o.find,K];show(os.getD ox O0).li.lookup _=_;rw[<-S.o];exact zN (by have:=a1.keys;rw[<-S.o]at this;exact this) d9
   obtain⟨PG,g0,j9,p1,p2⟩:=eU N k F;subst g0
   first
   |(have _g:Ha (zy=true):=A
     have m:=bN (gh Zk) ((Z5 ls g).take k) ls D)
   |(have m:=bN (gh Zl) ((Z5 ls g).take k) ls D)
   generalize i8:g.getD k (0,0)=p at *;obtain⟨b,n⟩:=p;simp only at *
   first
   |(have _g:Ha (zy=true):=A
     have q:∀i,((cD (gh Zk) ls ((Z5 ls g).take k)).getD i L0).id=(ls.getD i L0).id:=Ef (gh Zk) (λl n=>rfl) _ _)
   |(have q:∀i,((cD (gh Zl) ls ((Z5 ls g).take k)).getD i L0).id=(ls.getD i L0).id:=Ef (gh Zl) (λl n=>rfl) _ _)
   obtain⟨c,g9⟩:=Ww (Wj b ls);rw[<-g9.o]at hc K D s m et;have P:=HP.ok _ (zf hc);have d6:n<=(ls.getD c L0).hd:=by rw[d1.o.hd c hc];exact lL s
   have b5:b<=2147483647:=by rw[<-K];exact P.id
   first
   |(have _g:Ha (zy=true):=A
     have X:Wj b (cD (gh Zk) ls ((Z5 ls g).take k))=c:=by
      have:=oD (ls:=cD (gh Zk) ls ((Z5 ls g).take k)) (λi j h1 h2 he=>d1.ids i j (by rw[<-d k];exact h1) (by rw[<-d k];exact h2) (by rw[q,q]at he;exact he)) (c:=c) (by rw[d];exact hc)
      rw[q,K]at this;exact this)
   |(have X:Wj b (cD (gh Zl) ls ((Z5 ls g).take k))=c:=by
      have:=oD (ls:=cD (gh Zl) ls ((Z5 ls g).take k)) (λi j h1 h2 he=>d1.ids i j (by rw[<-d k];exact h1) (by rw[<-d k];exact h2) (by rw[q,q]at he;exact he)) (c:=c) (by rw[d];exact hc)
      rw[q,K]at this;exact this)
   have e4:=zb (cF t b b5)
   first
   |(have _g:Ha (zy=true):=A
     have a3:VF (cD (gh Zk) ls ((Z5 ls g).take k)) b=(c:Int):=by unfold VF;rw[X,xh (by rw[d];exact hc)])
   |(have a3:VF (cD (gh Zl) ls ((Z5 ls g).take k)) b=(c:Int):=by unfold VF;rw[X,xh (by rw[d];exact hc)])
   rw[a3]at e4;obtain⟨va,k3,Q,M⟩:=t.shape;rw[d]at Q M;obtain⟨G,hG,j8,b6⟩:=M (by omega);subst hG;have cR:=t.c1;rw[Q]at cR;have e6:wr.cell? ⟨G,c*11+6,none⟩=some (.int .i64 ((ls.getD c L0).hd:Int)):=by rw[b6 c hc 6 (by omega),m];rfl
   first
   |(have _g:Ha (zy=true):=A
     have e5:wr.cell? ⟨G,c*11+5,none⟩=some (.int .i64 ((ls.getD c L0).free:Int)):=by rw[b6 c hc 5 (by omega),m];rfl)
   |(have e5:wr.cell? ⟨G,c*11+7,none⟩=some (.int .i64 ((ls.getD c L0).sh:Int)):=by rw[b6 c hc 7 (by omega),m];rfl)
   have T:=t.row;rw[d,Q]at T;obtain⟨k5,J⟩:=zh T rfl;have f6:=ze J (c*11+6)
   first
   |(have _g:Ha (zy=true):=A
     have f5:=ze J (c*11+5))
   |(have f5:=ze J (c*11+7))
   have k7:¬R=G:=zt t.store J (by decide);obtain⟨k6,b9⟩:=zh N rfl;have g0:¬PG=G:=zt b9 J (by decide);have g6:=P.sum
   first
   |(have _g:Ha (zy=true):=A
     have W:gh Zk (ls.getD c L0) n=Zk (gL os a (ls.getD c L0)) n:=by unfold gh gL;rw[s];rfl
     have Z:L.Ok (gh Zk (ls.getD c L0) n):=by rw[W];exact Jg P s d6
     have a0:=t.two (i:=c) (l':=gh Zk (ls.getD c L0) n) (by rw[Q,d]) (by rw[d];exact hc) Z (by rw[m];rfl) (by rw[m];rfl) (((ls.getD c L0).hd:Int)-(n:Int)) (((ls.getD c L0).free:Int)+(n:Int)) 6 5 (by omega) (by omega) (λf=>by
      rw[m];have x1:(((ls.getD c L0).hd:Int)-(n:Int))=(((ls.getD c L0).hd-n:Nat):Int):=by omega
      rw[x1];rfl))
   |(have W:gh Zl (ls.getD c L0) n=Zl (gL os a (ls.getD c L0)) n:=by unfold gh gL;rw[s];rfl
     have Z:L.Ok (gh Zl (ls.getD c L0) n):=by rw[W];exact Lj P s d6
     have a0:=t.two (i:=c) (l':=gh Zl (ls.getD c L0) n) (by rw[Q,d]) (by rw[d];exact hc) Z (by rw[m];rfl) (by rw[m];rfl) (((ls.getD c L0).hd:Int)-(n:Int)) (((ls.getD c L0).sh:Int)+(n:Int)) 6 7 (by omega) (by omega) (λf=>by
      rw[m];have x1:(((ls.getD c L0).hd:Int)-(n:Int))=(((ls.getD c L0).hd-n:Nat):Int):=by omega
      rw[x1];rfl))
   first
   |(have _g:Ha (zy=true):=A
     have d4:cD (gh Zk) ls ((Z5 ls g).take (k+1))=(cD (gh Zk) ls ((Z5 ls g).take k)).set c (gh Zk (ls.getD c L0) n):=by rw[et,eE,m])
   |(have d4:cD (gh Zl) ls ((Z5 ls g).take (k+1))=(cD (gh Zl) ls ((Z5 ls g).take k)).set c (gh Zl (ls.getD c L0) n):=by rw[et,eE,m])
   rw[<-d4]at a0
   first
   |(have _g:Ha (zy=true):=A
     have a6:Kp (λb=>v.ownBlock=some b) w (Cj wr G c 6 5 (((ls.getD c L0).hd:Int)-(n:Int)) (((ls.getD c L0).free:Int)+(n:Int))):=a5.trans (Ee (Or.inl (by rw[Q];rfl)));have i3:(ls.getD c L0).free+n<=2147483647:=by omega)
   |(have a6:Kp (λb=>v.ownBlock=some b) w (Cj wr G c 6 7 (((ls.getD c L0).hd:Int)-(n:Int)) (((ls.getD c L0).sh:Int)+(n:Int))):=a5.trans (Ee (Or.inl (by rw[Q];rfl)))
     have i3:(ls.getD c L0).sh+n<=2147483647:=by omega)
   have k9:(ls.getD c L0).hd<=2147483647:=by omega
   have f4:=zb a0;have e9:=zb a6;unfold Cj at f4 e9
   first
   |(have _g:Ha (zy=true):=A
     generalize (ls.getD c L0).free=fr at *)
   |(generalize (ls.getD c L0).sh=fr at *)
   generalize (ls.getD c L0).hd=hd at *;clear d9 g2 et K D s m i8 q P d6 X a3 Q M b6 T J b9 g6 W Z a0 d4 a6 t a5 N E d c2 a9 y hx ha;go_wp2_with (go_at_call 111;with_reducible refine(e4.o).mono ?_;rintro e w3 ⟨rfl,j2⟩;have j3:=j2.symm;subst j3);go_region;go_wp2_with fail;go_region;go_wp2_with fail;go_roundw
   case rel=>exact⟨k+1,by go_num,by omega,f4,e9⟩
   simp[intOf];omega
  obtain rfl:k=g.length:=by omega
  rw[Xy (by rw[E];exact xe _),b4.o]at t;have a2:=zb t;have f0:=zb a5;have x2:=t.c2;rw[f3.o,<-H.o]at x2;have g1:=zc t.store;have f8:=zb t.ord.shape;clear t a5 N E d F c2 a9 y;rename World=>wo
  go_wp2_with fail;go_loopw [11,12] (λrr ii w2=>∃k:Nat,ii=.int .i64 k/\k<=on/\Below wo.heap.size wo w2/\w2.ownsRow wo.heap.size 132 3 rr ((os.take k).eraseIdx ox).length (bJ ((os.take k).eraseIdx ox) ((ro.lvs.take k).eraseIdx ox))) (λ_ ii _=>on-(intOf ii).toNat)
  case atStart=>exact⟨0,rfl,by omega,xm _ _,Xx _ _ _ _⟩
  obtain⟨k,rfl,hk,x,r⟩:=hrel;have y2:=(x.cell (p:=⟨R,2,none⟩) g1).trans x2;by_cases F:k<on
  ·by_cases d2:k=ox
   ·subst d2;have d0:=zb x;have i0:=zb r;clear x r;go_wp2_with fail;go_roundw
    case rel=>exact⟨k+1,by go_num,by omega,d0,by rw[tU,tU];exact i0⟩
    simp[intOf];omega
   obtain⟨l1,j7,c7,g5⟩:=f8.o;obtain⟨k4,f9,C,q0,q1,q2⟩:=g5 k (by rw[<-H.o];exact F);have hq:=f3.symm.trans c7;rw[f9]at hq
   cases hq;have y0:=(x.cell (p:=⟨OG,k*3,none⟩) C).trans q0
   have y1:=(x.cell (p:=⟨OG,k*3+1,none⟩) C).trans q1;have y3:=(x.cell (p:=⟨OG,k*3+2,none⟩) C).trans q2;have d3:=a2.ord.llen;have h0:=zb (tV os O0 (o:=ox) (by rw[<-H.o];exact F) d2);have h3:=zb (tV ro.lvs default (o:=ox) (k:=k) (by rw[d3,<-H.o];exact F) d2);have g4:=a2.ord.li k (by rw[<-H.o];exact F);obtain⟨j5,e3,a8⟩:=zj g4;rw[a8]at y3;have h6:=zb a8;have g3:((ro.lvs.take k).eraseIdx ox).length=((os.take k).eraseIdx ox).length:=by rw[YJ,YJ,XL,XL,d3]
   have h9:=zb (lP (os.getD k O0) (ro.lvs.getD k default) ((os.take k).eraseIdx ox) ((ro.lvs.take k).eraseIdx ox) g3);have k0:((os.take k).eraseIdx ox).length<=10:=by
    rw[YJ,XL];split<;>omega
   have j4:=x.size;have d0:=zb x;have b3:=zb (λb=>r.lt b);clear x q0 q1 q2 g5 c7 d3 g4 a8 g3 C f8 x2;generalize (os.getD k O0).li.length=m2 at *;generalize l0:((os.getD k O0).id:Int)=id1 at *;generalize k8:((os.getD k O0).gd:Int)=go1 at *;generalize b7:((os.take k).eraseIdx ox).length=en at *;have h4:=zb b7;clear b7;have k1:decide ((k:Int)≠(ox:Int))=true:=by simp;omega
   go_wp2_with (at_builtin;refine Xr _ rfl _ _ 39 rfl wo.heap.size 132 io (.agg #[.int .i64 0,.int .i64 0,.slice none 0 0]) 3 40 Pw i4 i5 i6 i7 rfl (by decide) _ en _ rfl (r.alloc _) ⟨wr.heap.size,0,none⟩ 1 1 [.int .i64 id1,.int .i64 go1,.slice j5 m2 e3] rfl rfl ?c1 ?c2 ?c3 ?c4 ?c5 ?_)
   case c1=>exact tB _ _ _ _ _
   case c2=>intro u hu;simp at hu;rcases hu with rfl|rfl|rfl<;>rfl
   case c3=>unfold maxLen;omega
   case c4=>omega
   case c5=>simp;omega
   intro j6 w2 b0 a4 b7;have b1:w2.ownsRow wo.heap.size 132 3 j6 ((os.take (k+1)).eraseIdx ox).length (bJ ((os.take (k+1)).eraseIdx ox) ((ro.lvs.take (k+1)).eraseIdx ox)):=by
    rw[h0.o,h3.o,h9.o,xc,Xw,h4.o,h6.o];exact b0
   have b5:Below wo.heap.size wo w2:=(d0.alloc j4 _).grown a4 (by simp;omega) (λk hk=>(b3 k hk).1);have h7:=zb b1;have g8:=zb b5;clear b0 b1 b5 a4 b7 r y0 y1 y2 y3;go_wp2_with fail;go_roundw
   case rel=>exact⟨k+1,by go_num,by omega,g8,h7⟩
   simp[intOf];omega
  obtain rfl:k=on:=by omega
  have e1:(os.take k).eraseIdx ox=os.eraseIdx ox:=by rw[Xy (by rw[<-H.o];exact xe _)]
  have e2:(ro.lvs.take k).eraseIdx ox=ro.lvs.eraseIdx ox:=by rw[Xy (by rw[a2.o.ord.llen,<-H.o];exact xe _)]
  rw[e1,e2]at r;obtain⟨ra,b2,i9⟩:=zj r;subst i9;obtain⟨en,e8⟩:=Ww ((os.eraseIdx ox).length);rw[<-e8.o]at r ⊢;have f7:=zb (a2.removed (ov':=.slice ra en b2) (by rw[<-H.o];exact hx) x (by rw[<-e8.o];exact r));rw[e7.o]at f7;have b3:=zb (λb hb=>(r.lt b hb).1);have xf:=(x.frozen (p:=⟨R,2,none⟩) g1).trans (ze a2.store 2);have h5:Ha (Kp (λb=>b=R\/v.ownBlock=some b) w (wr.setCell ⟨R,2,none⟩ (.slice ra en b2))):=zb (Kp.setCell (p:=⟨R,2,none⟩) ((f0.mono (Z':=λb=>b=R\/v.ownBlock=some b) (λb hb=>Or.inr hb)).after x) (Or.inl (Or.inl rfl)) _);have c8:=f0.size;have f2:=zb (FH (ro:=ro) (ov':=.slice ra en b2) (ox:=ox) (n:=w.heap.size) (λb hb=>xj c8 (b3 b hb)));clear x r e1 e2 b3 c8;go_wp2_with fail;go_ret;exact⟨rfl,h5,_,f7,f2⟩
def CK(h:RV os rj ro w R v td rec fs ls)(d:Good os ls)(a:Nat)(f:a<=2147483647)(g:Wy a os<os.length):Calls prog 70 #[.pointer (some ⟨R,0,none⟩),.int .i64 6,.int .i64 a] w λe w'=>e=.returned (.int .i64 0)/\Kp (λb=>b=R\/v.ownBlock=some b) w w'/\∃c,RV (os.filter (λo=>o.id != a)) rj c w' R v td rec fs (ls.map (fF Zk os a))/\∀b,OB c b->OB ro b\/w.heap.size<=b :=
 Pb true h d a f g
def IS(h:RV os rj ro w R v td rec fs ls)(d:Good os ls)(a:Nat)(f:a<=2147483647)(g:Wy a os<os.length):Calls prog 70 #[.pointer (some ⟨R,0,none⟩),.int .i64 7,.int .i64 a] w λe w'=>e=.returned (.int .i64 0)/\Kp (λb=>b=R\/v.ownBlock=some b) w w'/\∃c,RV (os.filter (λo=>o.id != a)) rj c w' R v td rec fs (ls.map (fF Zl os a))/\∀b,OB c b->OB ro b\/w.heap.size<=b :=
 Pb false h d a f g
def tD(h:RV os rj ro w R v td rec fs ls)(b:Good os ls)(a:Nat)(g:a<=2147483647)(f:¬Wy a os<os.length):Calls prog 70 #[.pointer (some ⟨R,0,none⟩),.int .i64 7,.int .i64 a] w λe w'=>e=.returned (.int .i64 9)/\w'=w:=by
 have c:=zb (cX h b.olen b.oid a g);have d:Ha (bE os a=-1):=by unfold Ha bE;rw[xg f]
 rw[d.o]at c;clear h b f d;go_enter func70,ntmps70;go_wp2_with (go_at_call 114;with_reducible refine(c.o).mono ?_;rintro e w1 ⟨rfl,rfl⟩);go_ret;exact⟨rfl,rfl⟩
def Bg(ls:List L)(a b m:Nat)(k:Wj a ls<ls.length):(¬Wj b ls<ls.length/\zQ ls a b m=4) \/
  (Wj b ls<ls.length/\(Wj a ls=Wj b ls\/(zi ls a).gd≠(zi ls b).gd)/\zQ ls a b m=8) \/
  (Wj b ls<ls.length/\Wj a ls≠Wj b ls/\(zi ls a).gd=(zi ls b).gd/\0<zQ ls a b m /\
   ((zz ls m≠0/\zQ ls a b m=zz ls m)\/(zz ls m=0/\(zi ls a).free+(zi ls b).free=0/\zQ ls a b m=7)\/(zz ls m=0/\2147483647<(zi ls a).free+(zi ls b).free/\zQ ls a b m=2))) \/
  (Wj b ls<ls.length/\Wj a ls≠Wj b ls/\(zi ls a).gd=(zi ls b).gd/\zz ls m=0/\(zi ls a).free+(zi ls b).free≠0/\(zi ls a).free+(zi ls b).free<=2147483647/\zQ ls a b m=0):=by
 unfold zQ;by_cases c:Wj b ls<ls.length
 ·rw[xh ⟨k,c⟩];by_cases e:Wj a ls=Wj b ls\/(zi ls a).gd≠(zi ls b).gd
  ·rw[xh e];right;left;exact⟨c,e,rfl⟩
  rw[xg e];have f:Wj a ls≠Wj b ls:=λh=>e (Or.inl h)
  have g:(zi ls a).gd=(zi ls b).gd:=yx λh=>e (Or.inr h)
  right;right
  by_cases d:zz ls m=0
  ·rw[xh d];by_cases i:(zi ls a).free+(zi ls b).free=0
   ·rw[xh i];left;exact⟨c,f,g,by omega,Or.inr (Or.inl ⟨d,i,rfl⟩)⟩
   rw[xg i];by_cases j:2147483647<(zi ls a).free+(zi ls b).free
   ·rw[xh j];left;exact⟨c,f,g,by omega,Or.inr (Or.inr ⟨d,j,rfl⟩)⟩
   rw[xg j];right;exact⟨c,f,g,d,i,by omega,rfl⟩
  rw[xg d];left;exact⟨c,f,g,by omega,Or.inl ⟨d,rfl⟩⟩
 left;rw[xg (λh=>c h.2)];exact⟨c,rfl⟩
variable {Z:Nat->Prop}
def Kd(k:RV os rj ro w R v td rec fs ls)(t:Z R)(h:∀g,v.ownBlock=some g->Z g)(f:∀g,OB ro g->Z g)(q d:Nat)(a b m:Nat)(j:NS w q [a,b,m])(A:a<=2147483647)(s:b<=2147483647)(y:m<=2147483647)(r:Wj a ls<ls.length):Calls prog 112 #[.pointer (some ⟨R,0,none⟩),.int .i64 (Wj a ls:Int),.slice (some ⟨q,0,none⟩) 3 d] w λe w'=>Kp Z w w'/\e=.returned (.int .i64 (zQ ls a b m:Int))/\RI os rj (Zn Z w) w' R td rec (Z9 ls a b m):=by
 rcases Bg ls a b m r with ⟨n,p⟩|⟨n,u,p⟩|⟨n,i,c,z,u⟩|⟨n,i,c,B,C,x,p⟩
 ·have l:Z9 ls a b m=ls:=xg (by omega);rw[l,p];exact(Dl k q d a b m j s (Wj a ls) r n).mono λe w' ⟨i,hb⟩=>⟨Wo hb,i,v,fs,ro,k.below hb,Or.inl t,λg c=>Or.inl (h g c),λg c=>Or.inl (f g c)⟩
 ·have l:Z9 ls a b m=ls:=xg (by omega);rw[l,p];exact(Bi k q d a b m j s (Wj a ls) r n u).mono λe w' ⟨i,hb⟩=>⟨Wo hb,i,v,fs,ro,k.below hb,Or.inl t,λg c=>Or.inl (h g c),λg c=>Or.inl (f g c)⟩
 ·have l:Z9 ls a b m=ls:=xg (by omega);rw[l];exact(Dj k q d a b m j s y (Wj a ls) r n i c (zQ ls a b m) z u).mono λe w' ⟨i,hb⟩=>⟨Wo hb,i,v,fs,ro,k.below hb,Or.inl t,λg c=>Or.inl (h g c),λg c=>Or.inl (f g c)⟩
 have l:Z9 ls a b m=_:=xh p;rw[l,p];exact GI k t h f j A s y r n i c B C x
def GC(h:RI os rj Z w R td rec ls)(r f:Nat)(a b m:Nat)(d:NS w r [a,b,m])(A:a<=2147483647)(E:b<=2147483647)(F:m<=2147483647):Calls prog 68 #[.pointer (some ⟨R,0,none⟩),.int .i64 4,.slice (some ⟨r,0,none⟩) 3 f] w λe w'=>Kp Z w w'/\e=.returned (.int .i64 (zQ ls a b m:Int))/\RI os rj (Zn Z w) w' R td rec (Z9 ls a b m):=by
 obtain⟨v,D,ro,n,u,k,j⟩:=h;have H:w.cell? ⟨r,0,none⟩=some (.int .i64 a):=d.2 0 (by simp);have q:=zb (cF n a A);by_cases p:Wj a ls<ls.length
 ·have t:=zb (Kd n u k j r f a b m d A E F p);have c:Ha (VF ls a=(Wj a ls:Int)):=by unfold Ha VF;rw[xh p]
  rw[c.o]at q;have l:=n.room;generalize Z9 ls a b m=ls' at t ⊢;generalize zQ ls a b m=rc at t ⊢;clear c;generalize Wj a ls=i at *;obtain⟨len,B⟩:=Ww ls.length;rw[<-B.o]at p l;clear n d u k j;go_enter func68,ntmps68;go_wp2_with (first
   |(go_at_call 111;refine q.mono ?_;rintro e w1 ⟨rfl,rfl⟩)
   |(go_at_call 112;refine t.mono ?_;rintro e w1 ⟨G,rfl,y⟩))
  go_ret;exact⟨G,rfl,y⟩
 have c:Ha (VF ls a=-1):=by unfold Ha VF;rw[xg p]
 have s:Ha (zQ ls a b m=4):=by unfold Ha zQ;rw[xg (λh=>p h.1)]
 have z:Ha (Z9 ls a b m=ls):=by unfold Ha;exact xg (by rw[s.o];omega)
 rw[c.o]at q;rw[s.o,z.o];have C:=zb n;clear n p c s z d;go_enter func68,ntmps68;go_wp2_with (go_at_call 111;refine q.mono ?_;rintro e w1 ⟨rfl,rfl⟩);go_ret;exact⟨Kp.refl _ _,rfl,v,D,ro,C,Or.inl u,λg x=>Or.inl (k g x),λg x=>Or.inl (j g x)⟩
def CH(h:RI os rj Z w R td rec ls)(f cap:Nat)(a b c:Nat)(i:NS w f [a,b,c])
  (j:a<=2147483647) (k:b<=2147483647) (l:c<=2147483647) :
  Calls prog 51 #[.pointer (some ⟨R,0,none⟩),.int .i64 3,.slice (some ⟨f,0,none⟩) 3 cap] w λe w'=>Kp Z w w'/\e=.returned (.tuple #[.slice none 0 0,.int .i64 (zU ls a b c:Int)])/\RI os rj (Zn Z w) w' R td rec (cJ ls a b c):=by
 have d:=zb (Hk h f cap a b c i j k l);generalize cJ ls a b c=ls' at d ⊢;generalize zU ls a b c=rc at d ⊢;clear h i;go_enter func51,ntmps51;go_wp2_with (go_at_call 68;refine d.mono ?_;rintro e w1 ⟨m,rfl,g⟩);go_ret2;exact⟨m,rfl,g⟩
def CF(h:RI os rj Z w R td rec ls)(f cap:Nat)(a b c:Nat)(i:NS w f [a,b,c])
  (j:a<=2147483647) (k:b<=2147483647) (l:c<=2147483647) :
  Calls prog 51 #[.pointer (some ⟨R,0,none⟩),.int .i64 4,.slice (some ⟨f,0,none⟩) 3 cap] w λe w'=>Kp Z w w'/\e=.returned (.tuple #[.slice none 0 0,.int .i64 (zQ ls a b c:Int)])/\RI os rj (Zn Z w) w' R td rec (Z9 ls a b c):=by
 have d:=zb (GC h f cap a b c i j k l);generalize Z9 ls a b c=ls' at d ⊢;generalize zQ ls a b c=rc at d ⊢;clear h i;go_enter func51,ntmps51;go_wp2_with (go_at_call 68;refine d.mono ?_;rintro e w1 ⟨m,rfl,g⟩);go_ret2;exact⟨m,rfl,g⟩
def CG(h:RI os rj Z w R td rec ls)(d cap:Nat)(a b:Nat)(g:NS w d [a,b])
  (i:a<=2147483647) (j:b<=2147483647) :
  Calls prog 51 #[.pointer (some ⟨R,0,none⟩),.int .i64 10,.slice (some ⟨d,0,none⟩) 2 cap] w λe w'=>Kp Z w w'/\e=.returned (.tuple #[.slice none 0 0,.int .i64 (ZC ls a b:Int)])/\RI os rj (Zn Z w) w' R td rec (ZR ls a b):=by
 have c:=zb (Hf h d cap a b g i j);generalize ZR ls a b=ls' at c ⊢;generalize ZC ls a b=rc at c ⊢;clear h g;go_enter func51,ntmps51;go_wp2_with (go_at_call 73;refine c.mono ?_;rintro e w1 ⟨k,rfl,f⟩);go_ret2;exact⟨k,rfl,f⟩
def qE(r:Z R)(l:rec.size<=1000000000000000)(s:ByteArray)(y:s.size<=4194295)(c:Nat)(i:c<=10)(n:List Nat)(f:Pl.cmd s.data.toList=.ok (c,n))(rc:Nat)(C:rc<=9)(d:List L)
  (HD:∀w1,Below w.heap.size w w1->oP R c n w1 λe w'=>Kp Z w1 w'/\e=.returned (.tuple #[.slice none 0 0,.int .i64 rc])/\RI os rj (Zn Z w1) w' R td rec d) :
  Calls prog 37 #[.pointer (some ⟨R,0,none⟩),.string s] w λe w'=>e=.returned (.string ⟨[UInt8.ofNat rc].toArray⟩)/\Kp Z w w'/\∃a,RecX rec s a [UInt8.ofNat rc]/\RI os rj (Zn Z w) w' R td a d:=by
 have u:s.size<=4194304:=by omega
 by_cases x:rc=0
 ·subst x;refine(EI (os:=os) (rj:=rj) w R td rec l d s y c i n f (λw1 b p cap t=>?_) r).mono ?_
  ·refine(HD w1 b p cap t).mono ?_
   rintro e w2 ⟨j,m,v⟩;exact⟨m,j,v⟩
  rintro e w' ⟨q,z,a,A,B⟩;exact⟨q,z,a,RecX.yes f (by omega) A y rfl,B⟩
 refine(qF w R s u c n f rc (by omega) (by omega) (λw2=>Kp Z w w2/\RI os rj (Zn Z w) w2 R td rec d) (λw1 b p cap t=>?_)).mono ?_
 ·refine(HD w1 b p cap t).mono ?_
  rintro e w2 ⟨j,m,v⟩;exact⟨m,Kp.before b (j.mono (λk h=>Or.inl h)),v.mono (λk j=>j.elim Or.inl (λh=>Or.inr (xj b.size h)))⟩
 rintro e w' ⟨q,w2,⟨D,m⟩,g⟩;exact⟨q,D.after g,rec,RecX.no1 (dY x (by omega)),m.below g⟩
def AM(h:RI os rj Z w R td rec ls)(d:rec.size<=1000000000000000)(s:ByteArray)(p:s.size<=4194295)(x:vB (Pl.cmd s.data.toList)):Calls prog 37 #[.pointer (some ⟨R,0,none⟩),.string s] w λe w'=>e=.returned (.string ⟨(aI rj td ls (Pl.cmd s.data.toList)).1.toArray⟩)/\Kp Z w w'/\∃k,RecX rec s k (aI rj td ls (Pl.cmd s.data.toList)).1/\RI os rj (Zn Z w) w' R (aI rj td ls (Pl.cmd s.data.toList)).2.1 k (aI rj td ls (Pl.cmd s.data.toList)).2.2:=by
 have l:Z R:=by obtain⟨v,z,ro,_,y,_⟩:=h;exact y
 rcases KI x with j|⟨c,A,q,r,i,t,g,u⟩
 ·rw[Lz j];exact CP h d s p j
 rw[i];rcases t with rfl|rfl|rfl
 ·obtain⟨a,b,c,rfl⟩:=Po g;have hd:a<=2147483647/\b<=2147483647/\c<=2147483647:=by simp[Pl.mays,Pl.kindsL,Pl.mayB]at r;omega
  exact qE l d s p 3 (by omega) [a,b,c] i (zU ls a b c) (BX _ _ _ _) (cJ ls a b c) (λw1 f m cap n=>CH (h.below f) m cap a b c n hd.1 hd.2.1 hd.2.2)
 ·obtain⟨a,b,c,rfl⟩:=Po g;have hd:a<=2147483647/\b<=2147483647/\c<=2147483647:=by simp[Pl.mays,Pl.kindsL,Pl.mayB]at r;omega
  exact qE l d s p 4 (by omega) [a,b,c] i (zQ ls a b c) (Bh _ _ _ _) (Z9 ls a b c) (λw1 f m cap n=>CF (h.below f) m cap a b c n hd.1 hd.2.1 hd.2.2)
 obtain⟨a,b,rfl⟩:=ES g;have hd:a<=2147483647/\b<=2147483647:=by simp[Pl.mays,Pl.kindsL,Pl.mayB]at r;omega
 exact qE l d s p 10 (by omega) [a,b] i (ZC ls a b) (BR _ _ _) (ZR ls a b) (λw1 f m cap n=>CG (h.below f) m cap a b n hd.1 hd.2)
def My(h:RI os rj Z w R td rec ls)(r:Good os ls)(t cap:Nat)(id gd a d f:Nat)(H:NS w t [id,gd,a,d,f])(E:id<=2147483647)(M:gd<=2147483647)(N:a<=2147483647)(P:d<=2147483647)(Q:f<=3):Calls prog 69 #[.pointer (some ⟨R,0,none⟩),.slice (some ⟨t,0,none⟩) 5 cap] w λe w'=>Kp Z w w'/\RI (Cn rj os td ls id gd a d f) rj (Zn Z w) w' R td rec (Cm rj os td ls id gd a d f) /\
   ((dG rj os td ls id gd a d f≠0/\e=.returned (.tuple #[.slice none 0 0,.int .i64 (dG rj os td ls id gd a d f:Int)]))\/(dG rj os td ls id gd a d f=0/\∃g c,e=.returned (.tuple #[.slice (some ⟨g,0,none⟩) (zA ls (zn rj td gd a d f ls)).length c,.int .i64 0])/\Rw w' g (zA ls (zn rj td gd a d f ls)))):=by
 obtain⟨v,D,ro,B,F,n,m⟩:=h;by_cases j:dG rj os td ls id gd a d f=0
 ·obtain⟨z,A,C⟩:=iV j;unfold Cn Cm;rw[xh j,xh j];have i:∀(e:Ending) (w':World),(Kp (λb=>b=R\/v.ownBlock=some b\/ro.ov.ownBlock=some b) w w' /\
   (∃l,RV (os++[⟨id,gd,zr ls (zn rj td gd a d f ls)⟩]) rj l w' R v td rec D (Zv ls (zn rj td gd a d f ls))/\∀b,OB l b->OB ro b\/w.heap.size<=b) /\
   ∃g c,e=.returned (.tuple #[.slice (some ⟨g,0,none⟩) (zA ls (zn rj td gd a d f ls)).length c,.int .i64 0])/\Rw w' g (zA ls (zn rj td gd a d f ls)))->Kp Z w w'/\RI (os++[⟨id,gd,zr ls (zn rj td gd a d f ls)⟩]) rj (Zn Z w) w' R td rec (Zv ls (zn rj td gd a d f ls)) /\
   ((dG rj os td ls id gd a d f≠0/\e=.returned (.tuple #[.slice none 0 0,.int .i64 (dG rj os td ls id gd a d f:Int)]))\/(dG rj os td ls id gd a d f=0/\∃g c,e=.returned (.tuple #[.slice (some ⟨g,0,none⟩) (zA ls (zn rj td gd a d f ls)).length c,.int .i64 0])/\Rw w' g (zA ls (zn rj td gd a d f ls)))):=by
   rintro e w' ⟨s,⟨l,K,J⟩,g,c,x,S⟩;refine⟨s.mono (λk s=>?_),⟨v,D,l,K,Or.inl F,λg q=>Or.inl (n g q),λg q=>(J g q).elim (λh=>Or.inl (m g h)) Or.inr⟩,Or.inr ⟨j,g,c,x,S⟩⟩;rcases s with rfl|s|s
   ·exact F
   ·exact n k s
   exact m k (Or.inl s)
  exact(PN B r t cap id gd a d f H E M N P Q z A C).mono i
 unfold Cn Cm;rw[xg j,xg j];have i:∀(w':World),Below w.heap.size w w'->Kp Z w w'/\RI os rj (Zn Z w) w' R td rec ls:=λw' u=>⟨Wo u,v,D,ro,B.below u,Or.inl F,λg q=>Or.inl (n g q),λg q=>Or.inl (m g q)⟩
 by_cases p:os.any (λo=>o.id==id)=true\/10<=os.length
 ·refine(FN B r t cap id gd a d f H E p).mono ?_
  rintro e w' ⟨x,rfl⟩;exact⟨(i _ (xm _ _)).1,(i _ (xm _ _)).2,Or.inl ⟨j,x⟩⟩
 have z:os.any (λo=>o.id==id)=false:=by cases y:os.any (λo=>o.id==id) with
  |true=>exact absurd (Or.inl y) p
  |false=>rfl
 have A:¬10<=os.length:=λy=>p (Or.inr y)
 have C:aU (zn rj td gd a d f ls)=0\/(aU (zn rj td gd a d f ls)<a/\Eg f=true):=by
  apply yx
  intro y;apply j;unfold dG;rw[z,xg (by simp),xg A,xg y]
 have G:dG rj os td ls id gd a d f=7:=by unfold dG;rw[z,xg (by simp),xg A,xh C]
 refine(FO B r t cap id gd a d f H E M N P Q z A C).mono ?_
 rintro e w' ⟨x,u⟩;exact⟨(i w' u).1,(i w' u).2,Or.inl ⟨j,by rw[G];exact x⟩⟩
def Ax{Q:Ending->World->Prop}(b cap:Nat)
  (d:Ha (Calls prog 69 #[.pointer (some ⟨R,0,none⟩),.slice (some ⟨b,0,none⟩) 5 cap] w λe w'=>∃a l c n,e=.returned (.tuple #[.slice a l c,.int .i64 n])/\Q e w')) :
  Calls prog 51 #[.pointer (some ⟨R,0,none⟩),.int .i64 5,.slice (some ⟨b,0,none⟩) 5 cap] w Q:=by
 go_enter func51,ntmps51;go_wp2_with (go_at_call 69;refine d.mono ?_;rintro e w1 ⟨a,l,c,n,rfl,f⟩);exact f
def Qv(w:World)(R td:Nat)(x:ByteArray)(a7:x.size<=1000000000000000)(ls:List L)(s:ByteArray)(hs:s.size<=4194295)(c:Nat)(a6:c<=10)(M:List Nat)(K:Pl.cmd s.data.toList=.ok (c,M))(rs:List Nat)(z:∀n∈rs,n<9223372036854775808)(a2:rs.length<=100)(H:2<=rs.length)
  (HD:Ha (∀w1,Below w.heap.size w w1->oP R c M w1 λe w'=>Kp Z w1 w'/\RI os rj (Zn Z w1) w' R td x ls/\∃g A,e=.returned (.tuple #[.slice (some ⟨g,0,none⟩) rs.length A,.int .i64 0])/\Rw w' g rs)) (hZ:Z R) :
  Calls prog 37 #[.pointer (some ⟨R,0,none⟩),.string s] w λe w'=>e=.returned (.string ⟨(0::Pl.toldB rs).toArray⟩)/\Kp Z w w'/\∃y,y=Rt x s/\RI os rj (Zn Z w) w' R td y ls:=by
 have HC:=zb (dW s (by omega) w c M K);generalize hm:M.length=m at HC;have HM:=zb hm;have X:=Pl.toldB_len rs z;have HT:=zb (λ(b A:Nat) (w:World) (a0:b<w.heap.size) K=>kG b A rs z (by omega) w a0 K);obtain⟨rl,C⟩:=Ww rs.length;have Q:=zb H;rw[<-C.o]at HD HT a2 X;clear K hm z H;go_enter func37,ntmps37;go_wp2_with fail;refine HC.mono ?_
 rintro e w1 ⟨q,gn,cap,rfl,G⟩;have B:=zb (HD w1 q gn cap G);rw[HM.o]at B;clear G;go_wp2_with fail;refine B.mono ?_
 rintro e w2 ⟨hk,a1,g,A,rfl,J⟩;have l:=zb J;clear J;go_wp2_with fail;refine(oA s hs w2).mono ?_
 rintro e N ⟨r,f,rfl,hf,E⟩;have P:=zb E;clear E;obtain⟨v,fs,ro,t,a8,a4,a5⟩:=a1;have d:=t.below r;have c4:=d.c4;have f4:=ze d.store 4;have F:g≠R:=by
  intro e;have W:=l.2 1 Q;rw[e,t.c1]at W;obtain⟨a,A,hv⟩:=lR t.row;rw[hv]at W
  cases W
 have i:∀u,Rw (N.setCell ⟨R,4,none⟩ u) g rs:=λu=>by
  have a3:(N.setCell ⟨R,4,none⟩ u).heap[g]?=w2.heap[g]?:=(xd _ _ _ _ F).trans (r.block g l.1);refine⟨xl l.1 (xj r.size (zM N ⟨R,4,none⟩ u).size),λj hj=>(xo (a:=⟨g,j,none⟩) a3).trans (l.2 j hj)⟩
 have T:=zb (λu=>HT g A (N.setCell ⟨R,4,none⟩ u) (i u).1 (by rw[C.o];exact(i u).2));have S:=zb d;clear t d i F;go_wp2_with fail;refine(T _).mono ?_
 rintro e w5 ⟨rfl,D⟩;go_wp2_with fail;go_ret;refine⟨gQ (YO [0] (Pl.toldB rs)),?_,x++f,?_,v,fs,ro,(S.recs _).below D,?_,?_,?_⟩
 ·exact((Kp.before q ((hk.after r).mono (λk h=>Or.inl h))).setCell (p:=⟨R,4,none⟩) (Or.inl hZ) _).after D
 ·rw[P.o];rfl
 ·exact Or.inl hZ
 ·intro g hg;rcases a4 g hg with h|h
  ·exact Or.inl h
  exact Or.inr (xj q.size h)
 intro g hg;rcases a5 g hg with h|h
 ·exact Or.inl h
 exact Or.inr (xj q.size h)
def AD(h:RI os rj Z w R td rec ls)(i:Good os ls)(a:Nat)(x:a<=2147483647):Calls prog 70 #[.pointer (some ⟨R,0,none⟩),.int .i64 6,.int .i64 a] w λe w'=>Kp Z w w'/\e=.returned (.int .i64 (fE os a:Int))/\RI (os.filter (λo=>o.id != a)) rj (Zn Z w) w' R td rec (ls.map (fF Zk os a)):=by
 obtain⟨v,u,ro,m,n,c,f⟩:=h;by_cases l:Wy a os<os.length
 ·have p:fE os a=0:=by unfold fE;rw[xh (fZ.1 l)]
  rw[p];refine(CK m i a x l).mono ?_
  rintro e w' ⟨q,j,t,s,r⟩;refine⟨j.mono (λk j=>?_),q,v,u,t,s,Or.inl n,λg d=>Or.inl (c g d),λg d=>(r g d).elim (λh=>Or.inl (f g h)) Or.inr⟩;rcases j with rfl|j
  ·exact n
  exact c k j
 have b:os.any (λo=>o.id==a)=false:=by
  cases A:os.any (λo=>o.id==a) with
  |true=>exact absurd (fZ.2 A) l
  |false=>rfl
 have p:fE os a=9:=by unfold fE;rw[b];rfl
 obtain⟨y,z⟩:=nZ b Zk ls;rw[p,y,z];refine(nN m i a x l).mono ?_
 rintro e w' ⟨q,rfl⟩;exact⟨Kp.refl _ _,q,v,u,ro,m,Or.inl n,λg d=>Or.inl (c g d),λg d=>Or.inl (f g d)⟩
def Ay(h:RI os rj Z w R td rec ls)(b:Good os ls)(d cap:Nat)(a:Nat)(g:NS w d [a])(i:a<=2147483647):Calls prog 51 #[.pointer (some ⟨R,0,none⟩),.int .i64 6,.slice (some ⟨d,0,none⟩) 1 cap] w λe w'=>Kp Z w w'/\e=.returned (.tuple #[.slice none 0 0,.int .i64 (fE os a:Int)])/\RI (os.filter (λo=>o.id != a)) rj (Zn Z w) w' R td rec (ls.map (fF Zk os a)):=by
 have k:w.cell? ⟨d,0,none⟩=some (.int .i64 a):=g.2 0 (by simp);have c:=zb (AD h b a i);generalize ls.map (fF Zk os a)=ls' at c ⊢;generalize os.filter (λo=>o.id != a)=os' at c ⊢;generalize fE os a=rc at c ⊢;clear h g b;go_enter func51,ntmps51;go_wp2_with (go_at_call 70;refine c.mono ?_;rintro e w1 ⟨j,rfl,f⟩);go_ret2;exact⟨j,rfl,f⟩
def Gb(h:RI os rj Z w R td rec ls)(i:Good os ls)(a:Nat)(x:a<=2147483647):Calls prog 70 #[.pointer (some ⟨R,0,none⟩),.int .i64 7,.int .i64 a] w λe w'=>Kp Z w w'/\e=.returned (.int .i64 (fE os a:Int))/\RI (os.filter (λo=>o.id != a)) rj (Zn Z w) w' R td rec (ls.map (fF Zl os a)):=by
 obtain⟨v,u,ro,m,n,c,f⟩:=h;by_cases l:Wy a os<os.length
 ·have p:fE os a=0:=by unfold fE;rw[xh (fZ.1 l)]
  rw[p];refine(IS m i a x l).mono ?_
  rintro e w' ⟨q,j,t,s,r⟩;refine⟨j.mono (λk j=>?_),q,v,u,t,s,Or.inl n,λg d=>Or.inl (c g d),λg d=>(r g d).elim (λh=>Or.inl (f g h)) Or.inr⟩;rcases j with rfl|j
  ·exact n
  exact c k j
 have b:os.any (λo=>o.id==a)=false:=by
  cases A:os.any (λo=>o.id==a) with
  |true=>exact absurd (fZ.2 A) l
  |false=>rfl
 have p:fE os a=9:=by unfold fE;rw[b];rfl
 obtain⟨y,z⟩:=nZ b Zl ls;rw[p,y,z];refine(tD m i a x l).mono ?_
 rintro e w' ⟨q,rfl⟩;exact⟨Kp.refl _ _,q,v,u,ro,m,Or.inl n,λg d=>Or.inl (c g d),λg d=>Or.inl (f g d)⟩
def FZ(h:RI os rj Z w R td rec ls)(b:Good os ls)(d cap:Nat)(a:Nat)(g:NS w d [a])(i:a<=2147483647):Calls prog 51 #[.pointer (some ⟨R,0,none⟩),.int .i64 7,.slice (some ⟨d,0,none⟩) 1 cap] w λe w'=>Kp Z w w'/\e=.returned (.tuple #[.slice none 0 0,.int .i64 (fE os a:Int)])/\RI (os.filter (λo=>o.id != a)) rj (Zn Z w) w' R td rec (ls.map (fF Zl os a)):=by
 have k:w.cell? ⟨d,0,none⟩=some (.int .i64 a):=g.2 0 (by simp);have c:=zb (Gb h b a i);generalize ls.map (fF Zl os a)=ls' at c ⊢;generalize os.filter (λo=>o.id != a)=os' at c ⊢;generalize fE os a=rc at c ⊢;clear h g b;go_enter func51,ntmps51;go_wp2_with (go_at_call 70;refine c.mono ?_;rintro e w1 ⟨j,rfl,f⟩);go_ret2;exact⟨j,rfl,f⟩
def LY{id gd a b c:Nat}(h:dG rj os td ls id gd a b c=0):2<=(zA ls (zn rj td gd a b c ls)).length:=by
 obtain⟨_,_,d⟩:=iV h
 cases e:zn rj td gd a b c ls with
 |nil=>rw[e]at d;exact absurd (Or.inl rfl) d
 |cons p r=>simp[zA,aF]
def Ng(h:RI os rj Z w R td rec ls)(C:Good os ls)(y:rec.size<=1000000000000000)(s:ByteArray)(S:s.size<=4194295)(a b c d f:Nat)(m:Pl.cmd s.data.toList=.ok (5,[a,b,c,d,f]))(W:a<=2147483647)(X:b<=2147483647)(h3:c<=2147483647)(h4:d<=2147483647)(h5:f<=3):Calls prog 37 #[.pointer (some ⟨R,0,none⟩),.string s] w λe w'=>e=.returned (.string ⟨(Ia rj os td ls a b c d f).toArray⟩)/\Kp Z w w'/\∃j,RecX rec s j (Ia rj os td ls a b c d f)/\RI (Cn rj os td ls a b c d f) rj (Zn Z w) w' R td j (Cm rj os td ls a b c d f):=by
 have B:Z R:=by obtain⟨v,Q,ro,_,K,_⟩:=h;exact K
 have H:s.size<=4194304:=by omega
 have HD:=λ(w1:World) (i:Below w.heap.size w w1) (l cap:Nat) (u:NS w1 l [a,b,c,d,f])=>My (h.below i) C l cap a b c d f u W X h3 h4 h5
 by_cases p:dG rj os td ls a b c d f=0
 ·have D:∀x∈ls,L.Ok x:=by obtain⟨v,Q,ro,A,_⟩:=h;exact A.ok
  have E:ls.length<=30:=by obtain⟨v,Q,ro,A,_⟩:=h;exact A.room
  have J:=rZ (rj:=rj) D E td b c d f;have z:Ia rj os td ls a b c d f=0::Pl.toldB (zA ls (zn rj td b c d f ls)):=by unfold Ia;rw[xh p]
  rw[z];refine(Qv (os:=Cn rj os td ls a b c d f) (rj:=rj) w R td rec y (Cm rj os td ls a b c d f) s S 5 (by omega) [a,b,c,d,f] m (zA ls (zn rj td b c d f ls)) J.1 (by omega) (LY (rj:=rj) p) (zb (λw1 i l cap u=>?_)) B).mono ?_
  ·refine Ax l cap (zb ((HD w1 i l cap u).mono ?_));rintro e w' ⟨t,n,G⟩;rcases G with ⟨F,_⟩|⟨_,g,T,r,hr⟩
   ·exact absurd p F
   exact⟨_,_,_,_,r,t,n,g,T,r,hr⟩
  rintro e w' ⟨M,N,j,P,q4⟩;exact⟨M,N,j,RecX.yes m (by omega) P S rfl,q4⟩
 have a0:=Iv (rj:=rj) os td ls a b c d f;have z:Ia rj os td ls a b c d f=[UInt8.ofNat (dG rj os td ls a b c d f)]:=by unfold Ia;rw[xg p]
 rw[z];refine(qF w R s H 5 [a,b,c,d,f] m (dG rj os td ls a b c d f) (by omega) (by omega) (λw2=>Kp Z w w2/\RI (Cn rj os td ls a b c d f) rj (Zn Z w) w2 R td rec (Cm rj os td ls a b c d f)) (zb (λw1 i l cap u=>?_))).mono ?_
 ·refine Ax l cap (zb ((HD w1 i l cap u).mono ?_));rintro e w' ⟨t,n,G⟩;rcases G with ⟨_,r⟩|⟨K,_⟩
  ·exact⟨_,_,_,_,r,r,Kp.before i (t.mono (λk h=>Or.inl h)),n.mono (λk t=>t.elim Or.inl (λh=>Or.inr (xj i.size h)))⟩
  exact absurd K p
 rintro e w' ⟨M,w2,⟨N,P⟩,q⟩;exact⟨M,N.after q,rec,RecX.no1 (dY p (by omega)),P.below q⟩
def AL(h:RI os rj Z w R td rec ls)(n:Good os ls)(g:rec.size<=1000000000000000)(s:ByteArray)(q:s.size<=4194295)(A:oR (Pl.cmd s.data.toList)):Calls prog 37 #[.pointer (some ⟨R,0,none⟩),.string s] w λe w'=>e=.returned (.string ⟨(ZL rj td os ls (Pl.cmd s.data.toList)).1.toArray⟩)/\Kp Z w w'/\∃l,RecX rec s l (ZL rj td os ls (Pl.cmd s.data.toList)).1/\RI (ZL rj td os ls (Pl.cmd s.data.toList)).2.2.1 rj (Zn Z w) w' R (ZL rj td os ls (Pl.cmd s.data.toList)).2.1 l (ZL rj td os ls (Pl.cmd s.data.toList)).2.2.2:=by
 have p:Z R:=by obtain⟨v,C,ro,_,B,_⟩:=h;exact B
 rcases uR A with k|⟨c,D,t,u,j,y,i,z⟩
 ·rw[Ca k];exact AM h g s q k
 rw[j];rcases y with rfl|rfl|rfl
 ·obtain⟨a,b,c,d,f,rfl⟩:=Td i;have hd:a<=2147483647/\b<=2147483647/\c<=2147483647/\d<=2147483647/\f<=3:=by simp[Pl.mays,Pl.kindsL,Pl.mayB]at u;omega
  exact Ng h n g s q a b c d f j hd.1 hd.2.1 hd.2.2.1 hd.2.2.2.1 hd.2.2.2.2
 ·obtain⟨a,rfl⟩:=Tb i;have hd:a<=2147483647:=by simp[Pl.mays,Pl.kindsL,Pl.mayB]at u;omega
  exact qE p g s q 6 (by omega) [a] j (fE os a) (wE _ _) (ls.map (fF Zk os a)) (λw1 m r cap x=>Ay (h.below m) n r cap a x hd)
 obtain⟨a,rfl⟩:=Tc i;have hd:a<=2147483647:=by simp[Pl.mays,Pl.kindsL,Pl.mayB]at u;omega
 exact qE p g s q 7 (by omega) [a] j (fE os a) (wE _ _) (ls.map (fF Zl os a)) (λw1 m r cap x=>FZ (h.below m) n r cap a x hd)
