import Derived.Test.YtgcedalggnmooaaGreatDoorQ1X
set_option linter.all false
set_option maxRecDepth 100000
set_option maxHeartbeats 6400000
namespace Go.Proofs.YtgcedalggnmooaaGreatDoor
open Go.RowKit
open Tryz
def gh(g:L->Nat->L)(l:L)(n:Nat):L:=g { l with hd:=l.hd-n } n
def Z5(ls:List L)(ln:List (Nat×Nat)):List (Nat×Nat):=ln.map λp=>(Wj p.1 ls,p.2)
def Ef(g:L->Nat->L)(a:∀l n,(g l n).id=l.id):∀(l:List (Nat×Nat)) (ls:List L) (i:Nat),((cD g ls l).getD i L0).id=(ls.getD i L0).id
 |[],ls,i=>rfl
 |p::r,ls,i=>by
  simp only[cD];rw[Ef g a r];by_cases h:i=p.1
  ·subst h;by_cases b:p.1<ls.length
   ·rw[aY b];exact a _ _
   simp[xad (show ls.length<=p.1 by omega)]
  rw[ZJ h]
structure TZ(os:List O)(ls:List L)(a:Nat)(o:O):Prop where
 find:os.find? (λo=>o.id==a)=some o
 keys:(o.li.map Prod.fst).Nodup
 mem:∀p∈o.li,Wj p.1 ls<ls.length
variable {ls:List L}{os:List O}
def Good.ordL(h:Good os ls){a:Nat}(d:Wy a os<os.length):TZ os ls a (os.getD (Wy a os) O0):=by
 have c:os.getD (Wy a os) O0∈os:=by simp[Wc,d]
 have b:=Tm d;refine⟨?_,h.keys _ c,λp j=>?_⟩
 ·have:=jJ h.oids c
  rw[b]at this;exact this
 obtain⟨i,f,e⟩:=h.mem _ c p j;apply yx;intro g;exact qO g i f e
def Bd{a:Nat}{o:O}(h:TZ os ls a o):((Z5 ls o.li).map Prod.fst).Nodup:=by
 have e:(Z5 ls o.li).map Prod.fst=(o.li.map Prod.fst).map (λb=>Wj b ls):=by unfold Z5;rw[xac,xac];rfl
 rw[e];refine eR _ h.keys (λx j y k f=>?_);obtain⟨p,g,rfl⟩:=Xz.1 j;obtain⟨r,i,rfl⟩:=Xz.1 k;have c:=aS (h.mem p g);have d:=aS (h.mem r i);rw[f]at c;exact c.symm.trans d
def Ma(f:Good os ls){a:Nat}{o:O}(h:TZ os ls a o)(g:L->Nat->L):cD (gh g) ls (Z5 ls o.li)=ls.map (fF g os a):=by
 have c:∀b,zq os a b=o.li.lookup b:=λb=>by unfold zq;rw[h.find];rfl
 apply wG
 ·rw[aN];simp
 intro i d;rw[aN]at d;rw[aJ d]
 cases e:o.li.lookup (ls.getD i L0).id with
 |some n=>
  have j:(i,n)∈Z5 ls o.li:=by
   have:=Zx e
   refine Xz.2 ⟨_,this,?_⟩;rw[oD f.ids d]
  rw[yL (gh g) _ _ (Bd h) j d];unfold fF gh;rw[c,e]
 |none=>
  rw[bN]
  ·unfold fF;rw[c,e]
  intro j;obtain⟨p,q,l⟩:=Xz.1 j;obtain⟨r,m,rfl⟩:=Xz.1 q;have k:=aS (h.mem r m);simp only at l;rw[l]at k;exact Zw.1 e (by rw[k];exact Xu m)
variable {α:Type}
def tU(l:List α)(o:Nat):(l.take (o+1)).eraseIdx o=(l.take o).eraseIdx o:=by
 rw[Yd (show(l.take o).length<=o by simp;omega)];by_cases h:o<l.length
 ·rw[xn h,xbb (by simp;omega)];have:o-(l.take o).length=0:=by simp;omega
  rw[this];simp
 rw[Xy (by omega),Xy (by omega),Yd (by omega)]
def tV(l:List α)(d:α){o k:Nat}(a:k<l.length)(b:k≠o):(l.take (k+1)).eraseIdx o=(l.take k).eraseIdx o++[l.getD k d]:=by
 have e:l.take (k+1)=l.take k++[l.getD k d]:=by rw[xn a];simp[Wc,a]
 rw[e];by_cases h:o<k
 ·rw[xbc (by simp;omega)]
 rw[Yd (show(l.take k).length<=o by simp;omega),Yd (by simp;omega)]
def mK{a:Nat}:∀(os:List O),(os.map O.id).Nodup->Wy a os<os.length->os.eraseIdx (Wy a os)=os.filter (λo=>o.id != a)
 |[],_,h=>by simp at h
 |o::os,hn,h=>by
  simp only[Xv,yj]at hn;by_cases b:o.id=a
  ·have e:Wy a (o::os)=0:=by unfold Wy;simp[xbV,b]
   have c:(o.id != a)=false:=by simp[b]
   rw[e];simp only[List.eraseIdx_cons_zero,List.filter,c];rw[eq_comm,xbG];intro x f;have:x.id≠a:=λq=>hn.1 (by rw[b,<-q];exact Xu f)
   simpa using this
  have d:(o.id==a)=false:=by simpa using b
  have e:Wy a (o::os)=Wy a os+1:=by unfold Wy;simp[xbV,d]
  have c:(o.id != a)=true:=by simp[b]
  rw[e]at h ⊢;simp only[xcf,List.filter,c];rw[mK os hn.2 (by simpa using h)]
def lA(l:List α)(d:α)(o i:Nat):(l.eraseIdx o).getD i d=l.getD (if i<o then i else i+1) d:=by
 rw[Wc,List.getElem?_eraseIdx,Wc];split<;>rfl
variable {v:Value}{w:World}
def NV{d e size n:Nat}{xs:List Value}(h:w.ownsRow d e size v n xs):w.ownsRow 0 e size v n xs:=by
 refine⟨h.1,?_⟩;rcases h.2 with h|⟨g,cap,f,a,b,c⟩
 ·exact Or.inl h
 exact Or.inr ⟨g,cap,f,a,Nat.zero_le _,c⟩
def tB(w:World)(x y z:Value)(t:TypeId):∀(j:Nat) (u:Value),[x,y,z][j]?=some u->(w.alloc (.cells #[x,y,z] t)).cell? (Addr.add ⟨w.heap.size,0,none⟩ j)=some u:=λj u a=>
 yr (w:=w.alloc (.cells #[x,y,z] t)) (xp w _) j u a
variable {ro:Ro}
def Eh{ov':Value}{ox b:Nat}(h:LB { ro with ov:=ov',lvs:=ro.lvs.eraseIdx ox } b):LB ro b:=by
 obtain⟨i,e,d⟩:=h;have a:((ro.lvs.eraseIdx ox).getD i default).ownBlock=some b:=d;have c:i<(ro.lvs.eraseIdx ox).length:=e;rw[lA]at a;refine⟨_,?_,a⟩;rw[YJ]at c;split at c<;>split<;>omega
variable {R td:Nat}{fs:List Value}{rj:List (Nat×Nat)}{rec:ByteArray}
def RV.removed{w2:World}(h:RV os rj ro w R v td rec fs ls){ox:Nat}{ov':Value}(x:ox<os.length)(q:Below w.heap.size w w2)(f:w2.ownsRow w.heap.size 132 3 ov' (os.eraseIdx ox).length (bJ (os.eraseIdx ox) (ro.lvs.eraseIdx ox))):RV (os.eraseIdx ox) rj { ro with ov:=ov',lvs:=ro.lvs.eraseIdx ox } (w2.setCell ⟨R,2,none⟩ ov') R v td rec fs ls:=by
 have k:=(q.block R (zc h.store)).trans h.store;have c:∀(b:Nat) (j:Array Value) (t:TypeId),w.heap[b]?=some (.cells j t (0,0))->t≠42->(w2.setCell ⟨R,2,none⟩ ov').heap[b]?=w.heap[b]?:=λb j t l p=>by
  rw[xd _ _ _ _ (zt l h.store p)];exact q.block b (zc l)
 refine⟨?_,zd h.row (λg a=>by obtain⟨j,d⟩:=zh h.row a;exact c _ _ _ d (by decide)),h.flen,h.fro,⟨?_,?_,λi s=>?_,?_⟩,h.today,h.ok,h.room,h.fam,h.rc⟩
 ·have:=xu w2 R 2 _ 42 ov' k
  simpa using this
 ·exact NV (f.kept (zM w2 ⟨R,2,none⟩ ov') (Or.inr (λe=>by
   obtain⟨j,r⟩:=zh f (g:=R) e;exact zt k r (by decide) rfl)))
 ·show(ro.lvs.eraseIdx ox).length=_;rw[YJ,YJ,h.ord.llen]
 ·have n:(if i<ox then i else i+1)<os.length:=by
   rw[YJ,xh x]at s;split<;>omega
  show(w2.setCell ⟨R,2,none⟩ ov').ownsRow 0 181 2 ((ro.lvs.eraseIdx ox).getD i default) _ _;rw[lA,lA];exact zd (h.ord.li _ n) (λg a=>by obtain⟨j,d⟩:=zh (h.ord.li _ n) a;exact c _ _ _ d (by decide))
 have m:=h.ord.fd.congr (w':=w2.setCell ⟨R,2,none⟩ ov') (λg a=>by obtain⟨j,d⟩:=h.ord.fd.ty a;exact c _ _ _ d (by decide));refine⟨m.rrow,m.flen,m.frm,λg a=>⟨λu=>(m.apart g a).1 (Eh u),(m.apart g a).2⟩⟩
def FH{ov':Value}{ox n:Nat}(c:∀b,ov'.ownBlock=some b->n<=b):∀b,OB { ro with ov:=ov',lvs:=ro.lvs.eraseIdx ox } b->OB ro b\/n<=b:=by
 intro b a;rcases a with a|a|a
 ·exact Or.inr (c b a)
 ·exact Or.inl (Or.inr (Or.inl (Eh a)))
 exact Or.inl (Or.inr (Or.inr a))
def nN(h:RV os rj ro w R v td rec fs ls)(b:Good os ls)(a:Nat)(g:a<=2147483647)(f:¬Wy a os<os.length):Calls prog 70 #[.pointer (some ⟨R,0,none⟩),.int .i64 6,.int .i64 a] w λe w'=>e=.returned (.int .i64 9)/\w'=w:=by
 have c:=zb (cX h b.olen b.oid a g);have d:Ha (bE os a=-1):=by unfold Ha bE;rw[xg f]
 rw[d.o]at c;clear h b f d;go_enter func70,ntmps70;go_wp2_with (go_at_call 114;with_reducible refine(c.o).mono ?_;rintro e w1 ⟨rfl,rfl⟩);go_ret;exact⟨rfl,rfl⟩
def Pb(z:Bool){rj:List (Nat×Nat)}{w:World}{R:Nat}{v:Value}{td:Nat}{b8:ByteArray}{fs:List Value}{ls:List L}{os:List O}{ro:Ro}(h:RV os rj ro w R v td b8 fs ls)(B:Good os ls)(a:Nat)(ha:a<=2147483647)(hx:Wy a os<os.length):Calls prog 70 #[.pointer (some ⟨R,0,none⟩),.int .i64 (cond z 6 7),.int .i64 a] w λe w'=>e=.returned (.int .i64 0)/\Kp (λb=>b=R\/v.ownBlock=some b) w w'/\∃g7,RV (os.filter (λo=>o.id != a)) rj g7 w' R v td b8 fs (ls.map (fF (cond z Zk Zl) os a))/\∀b,OB g7 b->OB ro b\/w.heap.size<=b:= by
 obtain⟨zy,A⟩:=Ww z
 cases z
 all_goals
  simp only[Yv,Ye];obtain⟨io,i4,i5,i6,i7⟩:=XT JB;have HO:=zb (cX h B.olen B.oid a ha);have HV:Ha (bE os a=(Wy a os:Int)):=by unfold Ha bE;rw[xh hx]
  rw[HV.o]at HO;have a1:=zb (B.ordL hx);have e7:=zb (mK os B.oids hx)
  first
  |(have _g:Ha (zy=true):=A
    have b4:=zb (Ma B (B.ordL hx) Zk))
  |(have b4:=zb (Ma B (B.ordL hx) Zl))
  obtain⟨oa,k2,d8,c6⟩:=h.ord.shape;obtain⟨OG,i1,i2,_,_,a9⟩:=c6 _ hx;subst i1;have c2:=h.c2;rw[d8]at c2;have y:=h.ord.li _ hx;obtain⟨la,c9,d5⟩:=zj y;rw[d5]at a9 y;have hR:=zc h.store;have e0:=h.room;have d7:=B.olen;have a7:(os.getD (Wy a os) O0).li.length<=30:=xj (B.oLines (by simp[Wc,hx])) e0;have HP:=zb h;have d1:=zb B;have f3:=zb d8;have f1:=zb d5;obtain⟨ox,h8⟩:=Ww (Wy a os);rw[<-h8.o]at HO a1 e7 b4 hx a9 y a7 f1;obtain⟨g,S⟩:=Ww ((os.getD ox O0).li);rw[<-S.o]at b4 a9 y a7;obtain⟨on,H⟩:=Ww os.length;rw[<-H.o]at c2 hx d7;clear h B d8 c6 HV d5;rw[show(Value.slice la (os.getD ox O0).li.length c9)=Value.slice la g.length c9 by rw[S.o]]at *;go_enter func70,ntmps70;go_wp2_with (go_at_call 114;with_reducible refine(HO.o).mono ?_;rintro e w1 ⟨rfl,j0⟩;have j1:=j0.symm;subst j1)
  first
  |(have _g:Ha (zy=true):=A
    go_loopw [9,10] (λii _ wr=>∃k:Nat,ii=.int .i64 k/\k<=g.length/\RV os rj ro wr R v td b8 fs (cD (gh Zk) ls ((Z5 ls g).take k))/\Kp (λb=>v.ownBlock=some b) w wr) (λii _ _=>g.length-(intOf ii).toNat))
  |(go_loopw [9,10] (λii _ wr=>∃k:Nat,ii=.int .i64 k/\k<=g.length/\RV os rj ro wr R v td b8 fs (cD (gh Zl) ls ((Z5 ls g).take k))/\Kp (λb=>v.ownBlock=some b) w wr) (λii _ _=>g.length-(intOf ii).toNat))
  case atStart=>exact⟨0,rfl,by omega,HP,Kp.refl _ _⟩
  obtain⟨k,rfl,hk,t,a5⟩:=hrel;have N:=t.ord.li ox (by rw[<-H.o];exact hx);rw[<-S.o,f1.o]at N;have E:(Z5 ls g).length=g.length:=by simp[Z5]
  first
  |(have _g:Ha (zy=true):=A
    have d:∀k,(cD (gh Zk) ls ((Z5 ls g).take k)).length=ls.length:=λk=>aN _ _ _)
  |(have d:∀k,(cD (gh Zl) ls ((Z5 ls g).take k)).length=ls.length:=λk=>aN _ _ _)
  by_cases F:k<g.length
  ·have d9:g.getD k (0,0)∈g:=by simp[Wc,F]
   have g2:(Z5 ls g).getD k (0,0)=(Wj (g.getD k (0,0)).1 ls,(g.getD k (0,0)).2):=by simp[Z5,Wc,F]
   have et:(Z5 ls g).take (k+1)=(Z5 ls g).take k++[(Wj (g.getD k (0,0)).1 ls,(g.getD k (0,0)).2)]:=by
    rw[xn (by rw[E];exact F),<-g2];simp[Wc,E,F]
   have hc:Wj (g.getD k (0,0)).1 ls<ls.length:=a1.mem _ (by rw[<-S.o];exact d9);have K:(ls.getD (Wj (g.getD k (0,0)).1 ls) L0).id=(g.getD k (0,0)).1:=aS hc;have D:Wj (g.getD k (0,0)).1 ls ∉ ((Z5 ls g).take k).map Prod.fst:=by
    have:=Bd a1
    rw[<-S.o]at this;have e2:(Z5 ls g).map Prod.fst=(((Z5 ls g).take k).map Prod.fst++[Wj (g.getD k (0,0)).1 ls])++((Z5 ls g).drop (k+1)).map Prod.fst:=by
     conv=>lhs;rw[<-yu (k+1) (Z5 ls g),et]
     simp
    rw[e2]at this;have:=(XP.1 (XP.1 this).1).2.2;intro hm;exact this _ hm _ (by simp) rfl
   have s:zq os a (ls.getD (Wj (g.getD k (0,0)).1 ls) L0).id=some (g.getD k (0,0)).2:=by
    unfold zq;rw[a1.o.find,K];show(os.getD ox O0).li.lookup _=_;rw[<-S.o];exact zN (by have:=a1.keys;rw[<-S.o]at this;exact this) d9
   obtain⟨PG,g0,j9,p1,p2⟩:=eU N k F;subst g0
   first
   |(have _g:Ha (zy=true):=A
     have m:=bN (gh Zk) ((Z5 ls g).take k) ls D)
   |(have m:=bN (gh Zl) ((Z5 ls g).take k) ls D)
   generalize i8:g.getD k (0,0)=p at *;obtain⟨b,n⟩:=p;simp only at *
   first
   |(have _g:Ha (zy=true):=A
     have q:∀i,((cD (gh Zk) ls ((Z5 ls g).take k)).getD i L0).id=(ls.getD i L0).id:=Ef (gh Zk) (λl n=>rfl) _ _)
   |(have q:∀i,((cD (gh Zl) ls ((Z5 ls g).take k)).getD i L0).id=(ls.getD i L0).id:=Ef (gh Zl) (λl n=>rfl) _ _)
   obtain⟨c,g9⟩:=Ww (Wj b ls);rw[<-g9.o]at hc K D s m et;have P:=HP.ok _ (zf hc);have d6:n<=(ls.getD c L0).hd:=by rw[d1.o.hd c hc];exact lL s
   have b5:b<=2147483647:=by rw[<-K];exact P.id
   first
   |(have _g:Ha (zy=true):=A
     have X:Wj b (cD (gh Zk) ls ((Z5 ls g).take k))=c:=by
      have:=oD (ls:=cD (gh Zk) ls ((Z5 ls g).take k)) (λi j h1 h2 he=>d1.ids i j (by rw[<-d k];exact h1) (by rw[<-d k];exact h2) (by rw[q,q]at he;exact he)) (c:=c) (by rw[d];exact hc)
      rw[q,K]at this;exact this)
   |(have X:Wj b (cD (gh Zl) ls ((Z5 ls g).take k))=c:=by
      have:=oD (ls:=cD (gh Zl) ls ((Z5 ls g).take k)) (λi j h1 h2 he=>d1.ids i j (by rw[<-d k];exact h1) (by rw[<-d k];exact h2) (by rw[q,q]at he;exact he)) (c:=c) (by rw[d];exact hc)
      rw[q,K]at this;exact this)
   have e4:=zb (cF t b b5)
   first
   |(have _g:Ha (zy=true):=A
     have a3:VF (cD (gh Zk) ls ((Z5 ls g).take k)) b=(c:Int):=by unfold VF;rw[X,xh (by rw[d];exact hc)])
   |(have a3:VF (cD (gh Zl) ls ((Z5 ls g).take k)) b=(c:Int):=by unfold VF;rw[X,xh (by rw[d];exact hc)])
   rw[a3]at e4;obtain⟨va,k3,Q,M⟩:=t.shape;rw[d]at Q M;obtain⟨G,hG,j8,b6⟩:=M (by omega);subst hG;have cR:=t.c1;rw[Q]at cR;have e6:wr.cell? ⟨G,c*11+6,none⟩=some (.int .i64 ((ls.getD c L0).hd:Int)):=by rw[b6 c hc 6 (by omega),m];rfl
   first
   |(have _g:Ha (zy=true):=A
     have e5:wr.cell? ⟨G,c*11+5,none⟩=some (.int .i64 ((ls.getD c L0).free:Int)):=by rw[b6 c hc 5 (by omega),m];rfl)
   |(have e5:wr.cell? ⟨G,c*11+7,none⟩=some (.int .i64 ((ls.getD c L0).sh:Int)):=by rw[b6 c hc 7 (by omega),m];rfl)
   have T:=t.row;rw[d,Q]at T;obtain⟨k5,J⟩:=zh T rfl;have f6:=ze J (c*11+6)
   first
   |(have _g:Ha (zy=true):=A
     have f5:=ze J (c*11+5))
   |(have f5:=ze J (c*11+7))
   have k7:¬R=G:=zt t.store J (by decide);obtain⟨k6,b9⟩:=zh N rfl;have g0:¬PG=G:=zt b9 J (by decide);have g6:=P.sum
   first
   |(have _g:Ha (zy=true):=A
     have W:gh Zk (ls.getD c L0) n=Zk (gL os a (ls.getD c L0)) n:=by unfold gh gL;rw[s];rfl
     have Z:L.Ok (gh Zk (ls.getD c L0) n):=by rw[W];exact Jg P s d6
     have a0:=t.two (i:=c) (l':=gh Zk (ls.getD c L0) n) (by rw[Q,d]) (by rw[d];exact hc) Z (by rw[m];rfl) (by rw[m];rfl) (((ls.getD c L0).hd:Int)-(n:Int)) (((ls.getD c L0).free:Int)+(n:Int)) 6 5 (by omega) (by omega) (λf=>by
      rw[m];have x1:(((ls.getD c L0).hd:Int)-(n:Int))=(((ls.getD c L0).hd-n:Nat):Int):=by omega
      rw[x1];rfl))
   |(have W:gh Zl (ls.getD c L0) n=Zl (gL os a (ls.getD c L0)) n:=by unfold gh gL;rw[s];rfl
     have Z:L.Ok (gh Zl (ls.getD c L0) n):=by rw[W];exact Lj P s d6
     have a0:=t.two (i:=c) (l':=gh Zl (ls.getD c L0) n) (by rw[Q,d]) (by rw[d];exact hc) Z (by rw[m];rfl) (by rw[m];rfl) (((ls.getD c L0).hd:Int)-(n:Int)) (((ls.getD c L0).sh:Int)+(n:Int)) 6 7 (by omega) (by omega) (λf=>by
      rw[m];have x1:(((ls.getD c L0).hd:Int)-(n:Int))=(((ls.getD c L0).hd-n:Nat):Int):=by omega
      rw[x1];rfl))
   first
   |(have _g:Ha (zy=true):=A
     have d4:cD (gh Zk) ls ((Z5 ls g).take (k+1))=(cD (gh Zk) ls ((Z5 ls g).take k)).set c (gh Zk (ls.getD c L0) n):=by rw[et,eE,m])
   |(have d4:cD (gh Zl) ls ((Z5 ls g).take (k+1))=(cD (gh Zl) ls ((Z5 ls g).take k)).set c (gh Zl (ls.getD c L0) n):=by rw[et,eE,m])
   rw[<-d4]at a0
   first
   |(have _g:Ha (zy=true):=A
     have a6:Kp (λb=>v.ownBlock=some b) w (Cj wr G c 6 5 (((ls.getD c L0).hd:Int)-(n:Int)) (((ls.getD c L0).free:Int)+(n:Int))):=a5.trans (Ee (Or.inl (by rw[Q];rfl)));have i3:(ls.getD c L0).free+n<=2147483647:=by omega)
   |(have a6:Kp (λb=>v.ownBlock=some b) w (Cj wr G c 6 7 (((ls.getD c L0).hd:Int)-(n:Int)) (((ls.getD c L0).sh:Int)+(n:Int))):=a5.trans (Ee (Or.inl (by rw[Q];rfl)))
     have i3:(ls.getD c L0).sh+n<=2147483647:=by omega)
   have k9:(ls.getD c L0).hd<=2147483647:=by omega
   have f4:=zb a0;have e9:=zb a6;unfold Cj at f4 e9
   first
   |(have _g:Ha (zy=true):=A
     generalize (ls.getD c L0).free=fr at *)
   |(generalize (ls.getD c L0).sh=fr at *)
   generalize (ls.getD c L0).hd=hd at *;clear d9 g2 et K D s m i8 q P d6 X a3 Q M b6 T J b9 g6 W Z a0 d4 a6 t a5 N E d c2 a9 y hx ha;go_wp2_with (go_at_call 111;with_reducible refine(e4.o).mono ?_;rintro e w3 ⟨rfl,j2⟩;have j3:=j2.symm;subst j3);go_region;go_wp2_with fail;go_region;go_wp2_with fail;go_roundw
   case rel=>exact⟨k+1,by go_num,by omega,f4,e9⟩
   simp[intOf];omega
  obtain rfl:k=g.length:=by omega
  rw[Xy (by rw[E];exact xe _),b4.o]at t;have a2:=zb t;have f0:=zb a5;have x2:=t.c2;rw[f3.o,<-H.o]at x2;have g1:=zc t.store;have f8:=zb t.ord.shape;clear t a5 N E d F c2 a9 y;rename World=>wo
  go_wp2_with fail;go_loopw [11,12] (λrr ii w2=>∃k:Nat,ii=.int .i64 k/\k<=on/\Below wo.heap.size wo w2/\w2.ownsRow wo.heap.size 132 3 rr ((os.take k).eraseIdx ox).length (bJ ((os.take k).eraseIdx ox) ((ro.lvs.take k).eraseIdx ox))) (λ_ ii _=>on-(intOf ii).toNat)
  case atStart=>exact⟨0,rfl,by omega,xm _ _,Xx _ _ _ _⟩
  obtain⟨k,rfl,hk,x,r⟩:=hrel;have y2:=(x.cell (p:=⟨R,2,none⟩) g1).trans x2;by_cases F:k<on
  ·by_cases d2:k=ox
   ·subst d2;have d0:=zb x;have i0:=zb r;clear x r;go_wp2_with fail;go_roundw
    case rel=>exact⟨k+1,by go_num,by omega,d0,by rw[tU,tU];exact i0⟩
    simp[intOf];omega
   obtain⟨l1,j7,c7,g5⟩:=f8.o;obtain⟨k4,f9,C,q0,q1,q2⟩:=g5 k (by rw[<-H.o];exact F);have hq:=f3.symm.trans c7;rw[f9]at hq
   cases hq;have y0:=(x.cell (p:=⟨OG,k*3,none⟩) C).trans q0
   have y1:=(x.cell (p:=⟨OG,k*3+1,none⟩) C).trans q1;have y3:=(x.cell (p:=⟨OG,k*3+2,none⟩) C).trans q2;have d3:=a2.ord.llen;have h0:=zb (tV os O0 (o:=ox) (by rw[<-H.o];exact F) d2);have h3:=zb (tV ro.lvs default (o:=ox) (k:=k) (by rw[d3,<-H.o];exact F) d2);have g4:=a2.ord.li k (by rw[<-H.o];exact F);obtain⟨j5,e3,a8⟩:=zj g4;rw[a8]at y3;have h6:=zb a8;have g3:((ro.lvs.take k).eraseIdx ox).length=((os.take k).eraseIdx ox).length:=by rw[YJ,YJ,XL,XL,d3]
   have h9:=zb (lP (os.getD k O0) (ro.lvs.getD k default) ((os.take k).eraseIdx ox) ((ro.lvs.take k).eraseIdx ox) g3);have k0:((os.take k).eraseIdx ox).length<=10:=by
    rw[YJ,XL];split<;>omega
   have j4:=x.size;have d0:=zb x;have b3:=zb (λb=>r.lt b);clear x q0 q1 q2 g5 c7 d3 g4 a8 g3 C f8 x2;generalize (os.getD k O0).li.length=m2 at *;generalize l0:((os.getD k O0).id:Int)=id1 at *;generalize k8:((os.getD k O0).gd:Int)=go1 at *;generalize b7:((os.take k).eraseIdx ox).length=en at *;have h4:=zb b7;clear b7;have k1:decide ((k:Int)≠(ox:Int))=true:=by simp;omega
   go_wp2_with (at_builtin;refine Xr _ rfl _ _ 39 rfl wo.heap.size 132 io (.agg #[.int .i64 0,.int .i64 0,.slice none 0 0]) 3 40 Pw i4 i5 i6 i7 rfl (by decide) _ en _ rfl (r.alloc _) ⟨wr.heap.size,0,none⟩ 1 1 [.int .i64 id1,.int .i64 go1,.slice j5 m2 e3] rfl rfl ?c1 ?c2 ?c3 ?c4 ?c5 ?_)
   case c1=>exact tB _ _ _ _ _
   case c2=>intro u hu;simp at hu;rcases hu with rfl|rfl|rfl<;>rfl
   case c3=>unfold maxLen;omega
   case c4=>omega
   case c5=>simp;omega
   intro j6 w2 b0 a4 b7;have b1:w2.ownsRow wo.heap.size 132 3 j6 ((os.take (k+1)).eraseIdx ox).length (bJ ((os.take (k+1)).eraseIdx ox) ((ro.lvs.take (k+1)).eraseIdx ox)):=by
    rw[h0.o,h3.o,h9.o,xc,Xw,h4.o,h6.o];exact b0
   have b5:Below wo.heap.size wo w2:=(d0.alloc j4 _).grown a4 (by simp;omega) (λk hk=>(b3 k hk).1);have h7:=zb b1;have g8:=zb b5;clear b0 b1 b5 a4 b7 r y0 y1 y2 y3;go_wp2_with fail;go_roundw
   case rel=>exact⟨k+1,by go_num,by omega,g8,h7⟩
   simp[intOf];omega
  obtain rfl:k=on:=by omega
  have e1:(os.take k).eraseIdx ox=os.eraseIdx ox:=by rw[Xy (by rw[<-H.o];exact xe _)]
  have e2:(ro.lvs.take k).eraseIdx ox=ro.lvs.eraseIdx ox:=by rw[Xy (by rw[a2.o.ord.llen,<-H.o];exact xe _)]
  rw[e1,e2]at r;obtain⟨ra,b2,i9⟩:=zj r;subst i9;obtain⟨en,e8⟩:=Ww ((os.eraseIdx ox).length);rw[<-e8.o]at r ⊢;have f7:=zb (a2.removed (ov':=.slice ra en b2) (by rw[<-H.o];exact hx) x (by rw[<-e8.o];exact r));rw[e7.o]at f7;have b3:=zb (λb hb=>(r.lt b hb).1);have xf:=(x.frozen (p:=⟨R,2,none⟩) g1).trans (ze a2.store 2);have h5:Ha (Kp (λb=>b=R\/v.ownBlock=some b) w (wr.setCell ⟨R,2,none⟩ (.slice ra en b2))):=zb (Kp.setCell (p:=⟨R,2,none⟩) ((f0.mono (Z':=λb=>b=R\/v.ownBlock=some b) (λb hb=>Or.inr hb)).after x) (Or.inl (Or.inl rfl)) _);have c8:=f0.size;have f2:=zb (FH (ro:=ro) (ov':=.slice ra en b2) (ox:=ox) (n:=w.heap.size) (λb hb=>xj c8 (b3 b hb)));clear x r e1 e2 b3 c8;go_wp2_with fail;go_ret;exact⟨rfl,h5,_,f7,f2⟩
def CK(h:RV os rj ro w R v td rec fs ls)(d:Good os ls)(a:Nat)(f:a<=2147483647)(g:Wy a os<os.length):Calls prog 70 #[.pointer (some ⟨R,0,none⟩),.int .i64 6,.int .i64 a] w λe w'=>e=.returned (.int .i64 0)/\Kp (λb=>b=R\/v.ownBlock=some b) w w'/\∃c,RV (os.filter (λo=>o.id != a)) rj c w' R v td rec fs (ls.map (fF Zk os a))/\∀b,OB c b->OB ro b\/w.heap.size<=b :=
 Pb true h d a f g
def IS(h:RV os rj ro w R v td rec fs ls)(d:Good os ls)(a:Nat)(f:a<=2147483647)(g:Wy a os<os.length):Calls prog 70 #[.pointer (some ⟨R,0,none⟩),.int .i64 7,.int .i64 a] w λe w'=>e=.returned (.int .i64 0)/\Kp (λb=>b=R\/v.ownBlock=some b) w w'/\∃c,RV (os.filter (λo=>o.id != a)) rj c w' R v td rec fs (ls.map (fF Zl os a))/\∀b,OB c b->OB ro b\/w.heap.size<=b :=
 Pb false h d a f g
def tD(h:RV os rj ro w R v td rec fs ls)(b:Good os ls)(a:Nat)(g:a<=2147483647)(f:¬Wy a os<os.length):Calls prog 70 #[.pointer (some ⟨R,0,none⟩),.int .i64 7,.int .i64 a] w λe w'=>e=.returned (.int .i64 9)/\w'=w:=by
 have c:=zb (cX h b.olen b.oid a g);have d:Ha (bE os a=-1):=by unfold Ha bE;rw[xg f]
 rw[d.o]at c;clear h b f d;go_enter func70,ntmps70;go_wp2_with (go_at_call 114;with_reducible refine(c.o).mono ?_;rintro e w1 ⟨rfl,rfl⟩);go_ret;exact⟨rfl,rfl⟩
