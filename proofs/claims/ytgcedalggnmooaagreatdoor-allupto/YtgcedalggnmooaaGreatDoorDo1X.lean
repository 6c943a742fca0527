import Derived.Test.YtgcedalggnmooaaGreatDoorRepX
import Derived.Test.YtgcedalggnmooaaGreatDoorSt12X
import Derived.Test.YtgcedalggnmooaaGreatDoorEn0X
set_option linter.all false
set_option maxRecDepth 100000
set_option maxHeartbeats 1600000
namespace Go.Proofs.YtgcedalggnmooaaGreatDoor
open Go.RowKit
open Tryz
variable {Z Zs:Nat->Prop}
def bP(w:World)(o:Obj):∀k,Zn Z (w.alloc o) k->Zn Z w k:=λk h=>h.elim Or.inl (λh=>Or.inr (by simp at h;omega))
variable {Lb S td:Nat}{ls:List L}{os:List O}{rj:List (Nat×Nat)}{w w':World}
def SD(h:PI os rj Z w S td ls)(d:Nat)(hd:d<=2147483647):Calls prog 62 #[.pointer (some ⟨S,0,none⟩),.iface 143 (.agg #[.int .i64 d])] w λe w'=>Kp Z w w' /\
   ((d<td/\e=.returned (.tuple #[.slice none 0 0,.int .i64 3])/\PI os rj (Zn Z w) w' S td ls)\/(td<=d/\e=.returned (.tuple #[.slice none 0 0,.int .i64 0])/\PI os rj (Zn Z w) w' S d ls)):=by
 have b:=VE w (Obj.cells #[.int .i64 d] 143);obtain⟨M,v,n,i,j,f⟩:=h;have HD:=zb (Qh (Z:=Z) ⟨M,v,n,i,j.below b,f⟩ d hd);clear j;have m:=FM.o;go_enter func62,ntmps62;go_wp2_with fail;refine HD.mono ?_
 rintro e w1 ⟨l,⟨g,rfl,a⟩|⟨c,rfl,a⟩⟩
 all_goals
  go_wp2_with fail;go_ret2
 ·exact⟨Kp.before b (l.mono (λk h=>Or.inl h)),Or.inl ⟨g,rfl,a.mono (bP w _)⟩⟩
 exact⟨Kp.before b (l.mono (λk h=>Or.inl h)),Or.inr ⟨c,rfl,a.mono (bP w _)⟩⟩
def FX(h:PI os rj Z w S td ls)(lot gd a b:Nat)(n:lot<=2147483647)(p:gd<=2147483647)(q:a<=2147483647)(r:b<=2147483647):Calls prog 62 #[.pointer (some ⟨S,0,none⟩),.iface 146 (.agg #[.int .i64 lot,.int .i64 gd,.int .i64 a,.int .i64 b])] w λe w'=>Kp Z w w'/\e=.returned (.tuple #[.slice none 0 0,.int .i64 (zz ls lot:Int)]) /\
   PI os rj (Zn Z w) w' S td (if zz ls lot=0 then ls++[{ id:=lot,gd:=gd,ex:=b,place:=ls.length+1,got:=a,free:=a,hd:=0,sh:=0,sc:=0,gv:=0 }] else ls):=by
 have i:=VE w (Obj.cells #[.int .i64 lot,.int .i64 gd,.int .i64 a,.int .i64 b] 146);obtain⟨M,v,m,f,g,c⟩:=h;have HD:=zb (DL (Z:=Z) ⟨M,v,m,f,g.below i,c⟩ lot gd a b n p q r);generalize (if zz ls lot=0 then ls++[{ id:=lot,gd:=gd,ex:=b,place:=ls.length+1,got:=a,free:=a,hd:=0,sh:=0,sc:=0,gv:=0 }] else ls)=ls' at HD ⊢;clear g;have j:=sR.o;have l:=iS.o;go_enter func62,ntmps62;go_wp2_with fail;refine HD.mono ?_
 rintro e w1 ⟨s,rfl,d⟩;go_wp2_with fail;go_ret2;exact⟨Kp.before i (s.mono (λk h=>Or.inl h)),rfl,d.mono (bP w _)⟩
variable {M:Mx}{bs ns:List Nat}{lv v:Value}{pvs:List Value}
def Qk(h:PV os rj w S M v td bs pvs ls)(n:Nat)(u:n<=2147483647):Calls prog 62 #[.pointer (some ⟨S,0,none⟩),.iface 171 (.agg #[.int .i64 n])] w λe w'=>Below w.heap.size w w' /\
   ((Wj n ls<ls.length/\∃g,e=.returned (.tuple #[.slice (some ⟨g,0,none⟩) 10 10,.int .i64 0])/\w'.heap[g]?=some (.cells (I (gV (cI rj ls) (ls.getD (Wj n ls) L0))).toArray 2 (0,0)))\/(¬Wj n ls<ls.length/\e=.returned (.tuple #[.slice none 0 0,.int .i64 4]))):=by
 have i:=VE w (Obj.cells #[.int .i64 n] 171);have r:=h.below i;clear h;by_cases s:Wj n ls<ls.length
 ·have HD:=zb (NC r n u s);clear r;have j:=oV.o;have k:=fI.o;have l:=iR.o;have m:=iO.o;have d:=iP.o;have b:=gW.o;have f:=mH.o;have c:=gX.o;have a:=fJ.o;have p:=iQ.o;have q:=fH.o;go_enter func62,ntmps62;go_wp2_with fail;refine HD.mono ?_
  rintro e w1 ⟨t,g,rfl,x⟩;go_wp2_with fail;go_ret2;exact⟨i.trans (t.mono i.size),Or.inl ⟨s,g,rfl,x⟩⟩
 have HD:=zb (JW r n u s);clear r;have j:=oV.o;have k:=fI.o;have l:=iR.o;have m:=iO.o;have d:=iP.o;have b:=gW.o;have f:=mH.o;have c:=gX.o;have a:=fJ.o;have p:=iQ.o;have q:=fH.o;go_enter func62,ntmps62;go_wp2_with fail;refine HD.mono ?_
 rintro e w1 ⟨t,rfl⟩;go_wp2_with fail;go_ret2;exact⟨i.trans (t.mono i.size),Or.inr ⟨s,rfl⟩⟩
def IK(h:PV os rj w S M v td bs pvs ls)(gd a:Nat)(t:gd<=2147483647)(u:a<=2147483647):Calls prog 62 #[.pointer (some ⟨S,0,none⟩),.iface 174 (.agg #[.int .i64 gd,.int .i64 a])] w λe w'=>Below w.heap.size w w'/\∃g,e=.returned (.tuple #[.slice (some ⟨g,0,none⟩) 2 2,.int .i64 0])/\w'.heap[g]?=some (.cells (I (Hr rj td gd a ls)).toArray 2 (0,0)):=by
 have j:=VE w (Obj.cells #[.int .i64 gd,.int .i64 a] 174);have k:=h.below j;clear h;have HD:=zb (Hs k gd a t u);clear k;have l:=vQ.o;have m:=kU.o;have n:=pM.o;have p:=pJ.o;have f:=pK.o;have c:=nL.o;have i:=tA.o;have d:=nM.o;have b:=kV.o;have q:=pL.o;have r:=gY.o;have s:=eZ.o;go_enter func62,ntmps62;go_wp2_with fail;refine HD.mono ?_
 rintro e w1 ⟨x,g,rfl,y⟩;go_wp2_with fail;go_ret2;exact⟨j.trans (x.mono j.size),g,rfl,y⟩
def PI.below{rj:List (Nat×Nat)}{Z:Nat->Prop}{w w':World}{S td:Nat}{ls:List L}{os:List O}(h:PI os rj Z w S td ls)(e:Below w.heap.size w w'):PI os rj Z w' S td ls:=by
 obtain⟨M,v,b,a,c,d⟩:=h;exact⟨M,v,b,a,c.below e,d⟩
def Pq(ls:List L)(id gd count expiry:Nat):L:={ id:=id,gd:=gd,ex:=expiry,place:=ls.length+1,got:=count,free:=count,hd:=0,sh:=0,sc:=0,gv:=0 }
def LogAt(w:World)(lv:Value)(lg:List UInt8):Prop:=w.ownsRow 0 5 1 lv lg.length (U8 lg)/\(lg=[]->lv=.slice none 0 0)
variable {l lg:List UInt8}
def LogAt.congr(h:LogAt w lv lg)(a:∀k,lv.ownBlock=some k->w'.heap[k]?=w.heap[k]?):LogAt w' lv lg:=⟨zd h.1 a,h.2⟩
def LogAt.lt{w:World}{lv:Value}{lg:List UInt8}(h:LogAt w lv lg){k:Nat}(a:lv.ownBlock=some k):k<w.heap.size:=(h.1.lt k a).2
def LogAt.byte(h:LogAt w lv lg){k:Nat}(a:lv.ownBlock=some k):∃x,w.cell? ⟨k,0,none⟩=some (.int .u8 x):=by
 cases lg with
 |nil=>rw[h.2 rfl]at a;cases a
 |cons b r=>
  obtain⟨g,cap,rfl,_,_⟩:=zG h.1 (by simp)
  cases a;have:=h.1.cellAt 0 (by simp)
  exact⟨_,this.trans rfl⟩
def PL(lg:List UInt8)(os:List O)(rj:List (Nat×Nat))(Z:Nat->Prop)(w:World)(Lb td:Nat)(ls:List L):Prop :=
 ∃S Zs lv,w.heap[Lb]?=some (.cells #[.pointer (some ⟨S,0,none⟩),lv] 91 (0,0))/\Z Lb/\¬Zs Lb/\(∀k,Zs k->Z k)/\PI os rj Zs w S td ls/\LogAt w lv lg/\∀k,lv.ownBlock=some k->Z k/\k≠Lb/\¬Zs k
def PL.below{lg:List UInt8}{rj:List (Nat×Nat)}{Z:Nat->Prop}{w w':World}{b td:Nat}{ls:List L}{os:List O}(h:PL lg os rj Z w b td ls)(a:Below w.heap.size w w'):PL lg os rj Z w' b td ls:=by
 obtain⟨S,e,lv,c,f,g,i,j,d,l⟩:=h;exact⟨S,e,lv,(a.block _ (zc c)).trans c,f,g,i,j.below a,d.congr (λk m=>a.block k (d.lt m)),l⟩
def PL.mono{Z':Nat->Prop}(h:PL lg os rj Z w Lb td ls)(b:∀k,Z k->Z' k):PL lg os rj Z' w Lb td ls:=by
 obtain⟨S,d,lv,e,f,g,i,j,l,c⟩:=h;exact⟨S,d,lv,e,b _ f,g,λk a=>b k (i k a),j,l,λk a=>⟨b k (c k a).1,(c k a).2⟩⟩
structure PS(lg:List UInt8)(os:List O)(rj:List (Nat×Nat))(Z:Nat->Prop)(w:World)(Lb td:Nat)(ls:List L)(S:Nat)(Zs:Nat->Prop)(lv:Value):Prop where
 here:w.heap[Lb]?=some (.cells #[.pointer (some ⟨S,0,none⟩),lv] 91 (0,0))
 inZ:Z Lb
 nin:¬Zs Lb
 sub:∀k,Zs k->Z k
 pi:PI os rj Zs w S td ls
 log:LogAt w lv lg
 blk:∀k,lv.ownBlock=some k->Z k/\k≠Lb/\¬Zs k
def PS.pl(h:PS lg os rj Z w Lb td ls S Zs lv):PL lg os rj Z w Lb td ls:=⟨S,Zs,lv,h.here,h.inZ,h.nin,h.sub,h.pi,h.log,h.blk⟩
def PL.ps(h:PL lg os rj Z w Lb td ls):∃S a lv,PS lg os rj Z w Lb td ls S a lv:=by
 obtain⟨S,a,lv,b,c,d,e,f,g,i⟩:=h;exact⟨S,a,lv,b,c,d,e,f,g,i⟩
def PS.step{d:List (Nat×Nat)}{w2 i n:World}{f:Nat}{e:List L}{os':List O}(h:PS lg os rj Z w Lb td ls S Zs lv)
  (b:Below w.heap.size w w2) (g:Kp Zs w2 i) (l:PI os' d (Zn Zs w2) i S f e) (c:Below i.heap.size i n):Kp Z w n/\PS lg os' d (Zn Z w) n Lb f e S (Zn Zs w2) lv:=by
 refine⟨(Kp.before b (g.mono (λk q=>Or.inl (h.sub k q)))).after c,?_⟩;have j:=zc h.here;have p:=(b.block Lb j).trans h.here;have r:=(g.block Lb (zc p) h.nin).trans p;have s:=(c.block Lb (zc r)).trans r;have m:=b.size;have t:=g.size;refine⟨s,Or.inl h.inZ,λq=>q.elim h.nin (λq=>by omega),λk q=>q.elim (λq=>Or.inl (h.sub k q)) (λq=>Or.inr (xj m q)),l.below c,h.log.congr (λk a=>?_),λk a=>⟨Or.inl (h.blk k a).1,(h.blk k a).2.1,λq=>q.elim (h.blk k a).2.2 (λq=>by have:=h.log.lt a;omega)⟩⟩;have u:=h.log.lt a;have v:=b.block k u;have x:=g.block k (by omega) (h.blk k a).2.2;have y:=c.block k (by omega);exact y.trans (x.trans v)
def PS.frame{f:List UInt8}{w5:World}{a:Value}(h:PS lg os rj Z w Lb td ls S Zs lv)(A:f≠[])
  (C:w5.ownsRow 0 5 1 a (lg++f).length (U8 (lg++f))) (g:w.grownBy w5 lv.ownBlock) (B:Lies w lv a) (l:∀k,Zs k->k<w.heap.size) :
  Kp Z w (w5.setCell ⟨Lb,1,none⟩ a)/\PS (lg++f) os rj (Zn Z w) (w5.setCell ⟨Lb,1,none⟩ a) Lb td ls S Zs a:=by
 have n:=zc h.here;have p:∀k,Zs k->w5.heap[k]?=w.heap[k]?:=λk b=>g.block k (l k b) (λe=>(h.blk k e.symm).2.2 b)
 have m:=(g.block Lb n (λe=>(h.blk Lb e.symm).2.1 rfl)).trans h.here;have i:=xu w5 Lb 1 _ 91 a m;have c:∀k,k≠Lb->(w5.setCell ⟨Lb,1,none⟩ a).heap[k]?=w5.heap[k]?:=λk b=>xd _ _ _ _ b
 have r:(w5.setCell ⟨Lb,1,none⟩ a).heap.size=w5.heap.size:=by simp[World.setCell]
 have d:∀k,a.ownBlock=some k->(Z k/\k≠Lb/\¬Zs k)\/w.heap.size<=k:=λk b=>(B k b).elim (λq=>Or.inl (h.blk k q)) Or.inr
 refine⟨⟨g.os,g.tape,g.output,by rw[r];exact g.size,λk b u=>?_⟩,⟨i,Or.inl h.inZ,h.nin,λk b=>Or.inl (h.sub k b),?_,⟨zd C (λk b=>c k (λe=>?_)),λe=>absurd e (by simp[A])⟩,λk b=>?_⟩⟩
 ·have s:k≠Lb:=λe=>u (e ▸ h.inZ)
  rw[c k s];exact g.block k b (λe=>u (h.blk k e.symm).1)
 ·obtain⟨M,v,x,t,y,j⟩:=h.pi;exact⟨M,v,x,t,y.congr j (λk b=>(c k (λe=>h.nin (e ▸ b))).trans (p k b)),j⟩
 ·rcases d k b with q|q
  ·exact q.2.1 e
  omega
 rcases d k b with q|q
 ·exact⟨Or.inl q.1,q.2⟩
 exact⟨Or.inr q,by omega,λz=>by have:=l k z;omega⟩
def aE(rj:List (Nat×Nat))(td:Nat)(ls:List L):Pl.Cmd->List UInt8×Nat×List L
 | .error e=>([UInt8.ofNat e],td,ls)
 | .ok (1,[d])=>if d<td then ([3],td,ls) else ([0],d,ls)
 | .ok (2,[a,b,c,d])=>([UInt8.ofNat (zz ls a)],td,if zz ls a=0 then ls++[Pq ls a b c d] else ls)
 | .ok (11,[n])=>if Wj n ls<ls.length then (0::Pl.toldB (gV (cI rj ls) (ls.getD (Wj n ls) L0)),td,ls) else ([4],td,ls)
 | .ok (12,[a,b])=>(0::Pl.toldB (Hr rj td a b ls),td,ls)
 |_=>([],td,ls)
def dL(l:List UInt8):Pl.cmd l=match ZO l with
  |none=>.error 1
  |some (c,ns)=>if Pl.mays (Pl.kindsL c) ns then .ok (c,ns) else .error 2:=by
 cases l with
 |nil=>rfl
 |cons c r=>
  simp only[Pl.cmd,ZO]
  cases d:Pl.nums r with
  |none=>by_cases a:Pl.kindsL c.toNat=[]<;>simp[a]
  |some ns=>
   by_cases a:Pl.kindsL c.toNat=[]
   ·simp[a]
   by_cases b:ns.length=(Pl.kindsL c.toNat).length
   ·simp[a,b]
   simp[a,b]
def bL{c:Nat}(h:ZO l=some (c,ns)):1<=c/\c<=12/\ns.length=(Pl.kindsL c).length/\∀n∈ns,n<9223372036854775808:=by
 cases l with
 |nil=>cases h
 |cons b r=>
  simp only[ZO]at h;by_cases a:Pl.kindsL b.toNat=[]
  ·simp[a]at h
  simp only[a,YF]at h
  cases e:Pl.nums r with
  |none=>rw[e]at h;cases h
  |some ms=>
   rw[e]at h;by_cases d:ms.length=(Pl.kindsL b.toNat).length
   ·simp only[d,Yo,XC,XY]at h;obtain⟨rfl,rfl⟩:=h;have f:1<=b.toNat/\b.toNat<=12:=by
     apply yx
     intro g;apply a;unfold Pl.kindsL;split<;>first|rfl|omega
    exact⟨f.1,f.2,d,Pl.nums_lt _ r _ (xe _) e⟩
   simp[d]at h
def ER(h:ns.length=1):∃a,ns=[a]:=List.length_eq_one_iff.1 h
def ES(h:ns.length=2):∃a b,ns=[a,b]:=by
 match ns,h with
 |[a,b],_=>exact⟨a,b,rfl⟩
def Po(h:ns.length=3):∃a b c,ns=[a,b,c]:=by
 match ns,h with
 |[a,b,c],_=>exact⟨a,b,c,rfl⟩
def TU(h:ns.length=4):∃a b c d,ns=[a,b,c,d]:=by
 match ns,h with
 |[a,b,c,d],_=>exact⟨a,b,c,d,rfl⟩
def Um(h:ns.length=5):∃a b c d e,ns=[a,b,c,d,e]:=by
 match ns,h with
 |[a,b,c,d,e],_=>exact⟨a,b,c,d,e,rfl⟩
def Ip(c:Pl.Cmd):Prop:=∀n ns,c=.ok (n,ns)->n=1\/n=2\/n=11\/n=12
def PV.bound(h:PV os rj w S M v td bs pvs ls)(e:PIn Z S M v bs pvs):PIn (λk=>Z k/\k<w.heap.size) S M v bs pvs:={
 s:=⟨e.s,zc h.store⟩
 m:=by obtain⟨_,_,d⟩:=h.maps.mr;exact⟨e.m,zc d⟩
 mo:=by obtain⟨_,_,d⟩:=h.maps.mo;exact⟨e.mo,zc d⟩
 mh:=by obtain⟨_,_,d⟩:=h.maps.mh;exact⟨e.mh,zc d⟩
 v:=λg f=>by obtain⟨r,d⟩:=zh h.row f;exact⟨e.v g f,zc d⟩
 b:=λk j=>by
  refine⟨e.b k j,?_⟩;obtain⟨i,a,rfl⟩:=xw j;have:=zc (h.lot i (by rw[<-h.len];exact a));rw[Wc,xi a]at this;simpa using this
 p:=λpv l q n=>by
  refine⟨e.p pv l q n,?_⟩;obtain⟨i,a,rfl⟩:=xw l;have c:=h.par i (by rw[<-h.plen];exact a);rw[Wc,xi a]at c;simp only[XQ]at c;obtain⟨r,t⟩:=c.blk n;exact zc t}
def PL.bound{lg:List UInt8}{rj:List (Nat×Nat)}{Z:Nat->Prop}{w:World}{d td:Nat}{ls:List L}{os:List O}(h:PL lg os rj Z w d td ls):PL lg os rj (λk=>Z k/\k<w.heap.size) w d td ls:=by
 obtain⟨S,i,lv,e,l,m,n,⟨M,v,j,c,f,p⟩,g,b⟩:=h;exact⟨S,λk=>i k/\k<w.heap.size,lv,e,⟨l,zc e⟩,λh=>m h.1,λk a=>⟨n k a.1,a.2⟩,⟨M,v,j,c,f,f.bound p⟩,g,λk a=>⟨⟨(b k a).1,g.lt a⟩,(b k a).2.1,λq=>(b k a).2.2 q.1⟩⟩
def PL.congr{lg:List UInt8}{rj:List (Nat×Nat)}{Z:Nat->Prop}{w w':World}{a td:Nat}{ls:List L}{os:List O}(h:PL lg os rj Z w a td ls)(c:∀k,Z k->w'.heap[k]?=w.heap[k]?):PL lg os rj Z w' a td ls:=by
 obtain⟨S,j,lv,m,e,n,f,⟨M,v,l,d,p,g⟩,q,i⟩:=h;exact⟨S,j,lv,(c a e).trans m,e,n,f,⟨M,v,l,d,p.congr g (λk b=>c k (f k b)),g⟩,q.congr (λk b=>c k (i k b).1),i⟩
def Gl.kp(h:Gl w)(k:Kp Z w w')(b:¬Z 2)(c:¬Z 3):Gl w':=by
 obtain⟨⟨g,j,d⟩,⟨i,l,e⟩,f⟩:=h;exact⟨⟨g,j,(xo (a:=⟨2,0,none⟩) (k.block 2 (by omega) b)).trans d⟩,⟨i,l,(xo (a:=⟨3,0,none⟩) (k.block 3 (by omega) c)).trans e⟩,xj f k.size⟩
def Gi(h:Good os ls)(c:Pl.Cmd):Good os (aE rj td ls c).2.2:=by
 cases c with
 |error e=>exact h
 |ok p=>
  obtain⟨n,i⟩:=p;unfold aE;split
  ·exact h
  ·split<;>exact h
  ·rename_i a b c d g;show Good os (if zz ls a=0 then ls++[Pq ls a b c d] else ls);by_cases f:zz ls a=0
   ·rw[xh f];exact h.snoc (cY f) rfl rfl
   rw[xg f];exact h
  ·split<;>exact h
  ·exact h
  exact h
def zx{k:Nat}{b:Obj}{x:Option Obj}(h:w.heap[k]?=x)(a:k<w.heap.size):(w.alloc b).heap[k]?=x:=(yl _ _ _ a).trans h
def Ke(h:PI os rj Z w S td ls)(a b m:Nat)(j:a<=2147483647)(l:b<=2147483647)(n:m<=2147483647):Calls prog 100 #[.pointer (some ⟨S,0,none⟩),.agg #[.int .i64 a,.int .i64 b,.int .i64 m]] w λe w'=>Kp Z w w'/\e=.returned (.int .i64 (zQ ls a b m:Int))/\PI os rj (Zn Z w) w' S td (Z9 ls a b m):=by
 obtain⟨M,v,y,x,g,q⟩:=h;have fin:∀rc:Nat,0<rc->zQ ls a b m=rc->(Calls prog 100 #[.pointer (some ⟨S,0,none⟩),.agg #[.int .i64 a,.int .i64 b,.int .i64 m]] w λe w'=>e=.returned (.int .i64 rc)/\Below w.heap.size w w') ->
   Calls prog 100 #[.pointer (some ⟨S,0,none⟩),.agg #[.int .i64 a,.int .i64 b,.int .i64 m]] w λe w'=>Kp Z w w'/\e=.returned (.int .i64 (zQ ls a b m:Int))/\PI os rj (Zn Z w) w' S td (Z9 ls a b m):=by
  intro rc A t B;have u:Z9 ls a b m=ls:=xg (by omega);rw[t,u];exact B.mono λe w' ⟨p,hb⟩=>⟨Wo hb,p,M,v,y,x,g.below hb,q.mono (λk z=>Or.inl z)⟩
 by_cases c:Wj a ls<ls.length/\Wj b ls<ls.length
 ·by_cases f:Wj a ls=Wj b ls\/(zi ls a).gd≠(zi ls b).gd
  ·exact fin 8 (by omega) (by unfold zQ;rw[xh c,xh f]) (Dm g a b m j l n c.1 c.2 f)
  have p:Wj a ls≠Wj b ls:=λh=>f (Or.inl h)
  have s:(zi ls a).gd=(zi ls b).gd:=Classical.byContradiction λh=>f (Or.inr h)
  by_cases d:zz ls m=0
  ·by_cases r:(zi ls a).free+(zi ls b).free=0
   ·exact fin 7 (by omega) (by unfold zQ;rw[xh c,xg f,xh d,xh r]) (lM g a b m j l n c.1 c.2 p s 7 (by omega) (Or.inr (Or.inl ⟨d,r,rfl⟩)))
   by_cases i:2147483647<(zi ls a).free+(zi ls b).free
   ·exact fin 2 (by omega) (by unfold zQ;rw[xh c,xg f,xh d,xg r,xh i]) (lM g a b m j l n c.1 c.2 p s 2 (by omega) (Or.inr (Or.inr ⟨d,i,rfl⟩)))
   have t:zQ ls a b m=0:=by unfold zQ;rw[xh c,xg f,xh d,xg r,xg i]
   have u:Z9 ls a b m=_:=xh t;rw[t,u];exact Kf g q a b m j l n c.1 c.2 p s d r (by omega)
  exact fin (zz ls m) (by omega) (by unfold zQ;rw[xh c,xg f,xg d]) (lM g a b m j l n c.1 c.2 p s _ (by omega) (Or.inl ⟨d,rfl⟩))
 exact fin 4 (by omega) (by unfold zQ;rw[xg c]) (GJ g a b m j l n c)
def BR(ls:List L)(n c:Nat):ZC ls n c<=9:=by unfold ZC;split<;>(try split)<;>omega
def BX(ls:List L)(n m c:Nat):zU ls n m c<=9:=by have:=eX ls m;unfold zU;split<;>(try split)<;>(try split)<;>omega
def Bh(ls:List L)(a b m:Nat):zQ ls a b m<=9:=by
 have:=eX ls m
 unfold zQ;split
 ·split
  ·omega
  split
  ·split
   ·omega
   split<;>omega
  omega
 omega
def MR(h:PI os rj Z w S td ls)(a b c:Nat)(q:a<=2147483647)(r:b<=2147483647)(s:c<=2147483647):Calls prog 62 #[.pointer (some ⟨S,0,none⟩),.iface 149 (.agg #[.int .i64 a,.int .i64 b,.int .i64 c])] w λe w'=>Kp Z w w'/\e=.returned (.tuple #[.slice none 0 0,.int .i64 (zU ls a b c:Int)])/\PI os rj (Zn Z w) w' S td (cJ ls a b c):=by
 have d:=VE w (Obj.cells #[.int .i64 a,.int .i64 b,.int .i64 c] 149);obtain⟨M,v,p,i,j,f⟩:=h;have HD:=zb (Lu (Z:=Z) ⟨M,v,p,i,j.below d,f⟩ a b c q r s);generalize cJ ls a b c=ls' at HD ⊢;generalize zU ls a b c=rc at HD ⊢;clear j;have l:=Ad.o;have m:=nK.o;have n:=sZ.o;go_enter func62,ntmps62;go_wp2_with fail;refine HD.mono ?_
 rintro e w1 ⟨t,rfl,g⟩;go_wp2_with fail;go_ret2;exact⟨Kp.before d (t.mono (λk h=>Or.inl h)),rfl,g.mono (bP w _)⟩
def MO(h:PI os rj Z w S td ls)(a b c:Nat)(r:a<=2147483647)(s:b<=2147483647)(t:c<=2147483647):Calls prog 62 #[.pointer (some ⟨S,0,none⟩),.iface 152 (.agg #[.int .i64 a,.int .i64 b,.int .i64 c])] w λe w'=>Kp Z w w'/\e=.returned (.tuple #[.slice none 0 0,.int .i64 (zQ ls a b c:Int)])/\PI os rj (Zn Z w) w' S td (Z9 ls a b c):=by
 have d:=VE w (Obj.cells #[.int .i64 a,.int .i64 b,.int .i64 c] 152);obtain⟨M,v,q,i,j,f⟩:=h;have HD:=zb (Ke (Z:=Z) ⟨M,v,q,i,j.below d,f⟩ a b c r s t);generalize Z9 ls a b c=ls' at HD ⊢;generalize zQ ls a b c=rc at HD ⊢;clear j;have l:=yY.o;have m:=nA.o;have n:=sL.o;have p:=sK.o;go_enter func62,ntmps62;go_wp2_with fail;refine HD.mono ?_
 rintro e w1 ⟨u,rfl,g⟩;go_wp2_with fail;go_ret2;exact⟨Kp.before d (u.mono (λk h=>Or.inl h)),rfl,g.mono (bP w _)⟩
def MQ(h:PI os rj Z w S td ls)(a b:Nat)(y:a<=2147483647)(z:b<=2147483647):Calls prog 62 #[.pointer (some ⟨S,0,none⟩),.iface 168 (.agg #[.int .i64 a,.int .i64 b])] w λe w'=>Kp Z w w'/\e=.returned (.tuple #[.slice none 0 0,.int .i64 (ZC ls a b:Int)])/\PI os rj (Zn Z w) w' S td (ZR ls a b):=by
 have g:=VE w (Obj.cells #[.int .i64 a,.int .i64 b] 168);obtain⟨M,v,x,n,p,l⟩:=h;have HD:=zb (Li (Z:=Z) ⟨M,v,x,n,p.below g,l⟩ a b y z);generalize ZR ls a b=ls' at HD ⊢;generalize ZC ls a b=rc at HD ⊢;clear p;have q:=Aa.o;have r:=nI.o;have s:=sW.o;have t:=sT.o;have i:=sU.o;have d:=pE.o;have j:=vL.o;have f:=pF.o;have c:=nJ.o;have u:=sV.o;go_enter func62,ntmps62;go_wp2_with fail;refine HD.mono ?_
 rintro e w1 ⟨A,rfl,m⟩;go_wp2_with fail;go_ret2;exact⟨Kp.before g (A.mono (λk h=>Or.inl h)),rfl,m.mono (bP w _)⟩
def aI(rj:List (Nat×Nat))(td:Nat)(ls:List L):Pl.Cmd->List UInt8×Nat×List L
 | .ok (3,[a,b,c])=>([UInt8.ofNat (zU ls a b c)],td,cJ ls a b c)
 | .ok (4,[a,b,c])=>([UInt8.ofNat (zQ ls a b c)],td,Z9 ls a b c)
 | .ok (10,[a,b])=>([UInt8.ofNat (ZC ls a b)],td,ZR ls a b)
 |c=>aE rj td ls c
def Lz{c:Pl.Cmd}(h:Ip c)(td:Nat)(ls:List L):aI rj td ls c=aE rj td ls c:=by
 cases c with
 |error e=>rfl
 |ok p=>
  obtain⟨n,a⟩:=p;rcases h n a rfl with rfl|rfl|rfl|rfl<;>rfl
def vB(c:Pl.Cmd):Prop:=∀n ns,c=.ok (n,ns)->n=1\/n=2\/n=11\/n=12\/n=3\/n=4\/n=10
def KI(h:vB (Pl.cmd l)):Ip (Pl.cmd l)\/∃c d,ZO l=some (c,d)/\Pl.mays (Pl.kindsL c) d=true/\Pl.cmd l=.ok (c,d)/\(c=3\/c=4\/c=10)/\d.length=(Pl.kindsL c).length/\∀n∈d,n<9223372036854775808:=by
 have a:=dL l
 cases b:ZO l with
 |none=>left;intro n d e;rw[b]at a;rw[a]at e;cases e
 |some p=>
  obtain⟨c,d⟩:=p;rw[b]at a;obtain⟨k,m,f,g⟩:=bL b
  cases i:Pl.mays (Pl.kindsL c) d with
  |false=>
   simp only[i,XV,YF]at a;left;intro n d e;rw[a]at e;cases e
  |true=>
   simp only[i,Yo]at a;have q:=h c d a;by_cases j:c=3\/c=4\/c=10
   ·right;exact⟨c,d,rfl,i,a,j,f,g⟩
   left;intro n r e;rw[a]at e;cases e;omega
def Gj(h:Good os ls)(c:Pl.Cmd):Good os (aI rj td ls c).2.2:=by
 have j:∀(ls:List L),Good os ls->∀(i n:Nat),i<ls.length->Good os (ls.set i (ZI (ls.getD i L0) n)):=λls h i n f=>h.set f rfl rfl rfl
 cases c with
 |error e=>exact h
 |ok p=>
  obtain⟨n,v⟩:=p;unfold aI;split
  ·rename_i a b c m;show Good os (cJ ls a b c);unfold cJ;by_cases d:zU ls a b c=0
   ·rw[xh d];unfold zU at d;by_cases f:Wj a ls<ls.length
    ·rw[xh f]at d;by_cases k:zz ls b=0
     ·refine(j ls h _ c f).snoc ?_ (by simp[Wt]) rfl
      intro i g;rw[xq]at g;have l:=cY k i g;by_cases e:i=Wj a ls
      ·subst e;rw[aY f];exact l
      rw[ZJ e];exact l
     rw[xg k]at d;exact absurd d k
    rw[xg f]at d;omega
   rw[xg d];exact h
  ·rename_i a b c m;show Good os (Z9 ls a b c);unfold Z9;by_cases d:zQ ls a b c=0
   ·rw[xh d];unfold zQ at d;by_cases f:Wj a ls<ls.length/\Wj b ls<ls.length
    ·rw[xh f]at d;by_cases q:Wj a ls=Wj b ls\/(zi ls a).gd≠(zi ls b).gd
     ·rw[xh q]at d;omega
     rw[xg q]at d;have r:Wj b ls≠Wj a ls:=λe=>q (Or.inl e.symm)
     by_cases k:zz ls c=0
     ·have u:=j ls h _ (zi ls a).free f.1;have t:=j _ u (Wj b ls) (zi ls b).free (by rw[xq];exact f.2);rw[ZJ r]at t;refine t.snoc ?_ (by simp[Wt]) rfl
      intro i g;rw[xq,xq]at g;have l:=cY k i g;by_cases e:i=Wj b ls
      ·subst e;rw[aY (by rw[xq];exact f.2)];exact l
      rw[ZJ e];by_cases s:i=Wj a ls
      ·subst s;rw[aY f.1];exact l
      rw[ZJ s];exact l
     rw[xg k]at d;exact absurd d k
    rw[xg f]at d;omega
   rw[xg d];exact h
  ·rename_i a b m;show Good os (ZR ls a b);unfold ZR;by_cases d:ZC ls a b=0
   ·rw[xh d];unfold ZC at d;by_cases f:Wj a ls<ls.length
    ·exact h.set f rfl rfl rfl
    rw[xg f]at d;omega
   rw[xg d];exact h
  exact Gi h _
def wE(os:List O)(a:Nat):fE os a<=9:=by unfold fE;split<;>omega
def PIn.zs(h:PIn Z S M v bs pvs):∀k,(k=M.o\/k=M.h\/k∈bs)->Z k:=by
 rintro k (rfl|rfl|hk)
 ·exact h.mo
 ·exact h.mh
 exact h.b k hk
def II(h:PI os rj Z w S td ls)(f:Good os ls)(a:Nat)(y:a<=2147483647):Calls prog 62 #[.pointer (some ⟨S,0,none⟩),.iface 158 (.agg #[.int .i64 a])] w λe w'=>Kp Z w w'/\e=.returned (.tuple #[.slice none 0 0,.int .i64 (fE os a:Int)])/\PI (os.filter (λo=>o.id != a)) rj (Zn Z w) w' S td (ls.map (fF Zk os a)):=by
 have d:=VE w (Obj.cells #[.int .i64 a] 158);obtain⟨M,v,x,p,q,g⟩:=h;have HD:=zb (FR (q.below d) f a y);have c:=zb g;generalize ls.map (fF Zk os a)=ls' at HD ⊢;generalize os.filter (λo=>o.id != a)=os' at HD ⊢;generalize fE os a=rc at HD ⊢;clear q f g;have r:=vF.o;have s:=kO.o;have t:=oU.o;have u:=oS.o;have l:=oT.o;have b:=mY.o;have m:=sI.o;go_enter func62,ntmps62;go_wp2_with fail;refine HD.mono ?_
 rintro e w1 ⟨i,rfl,j⟩;have n:=zb j;clear j;go_wp2_with fail;go_ret2;exact⟨Kp.before d (i.mono (λk i=>Or.inl (c.zs k i))),rfl,M,v,x,p,n,c.mono (λk i=>Or.inl i)⟩
def Ql(h:PI os rj Z w S td ls)(f:Good os ls)(a:Nat)(y:a<=2147483647):Calls prog 62 #[.pointer (some ⟨S,0,none⟩),.iface 160 (.agg #[.int .i64 a])] w λe w'=>Kp Z w w'/\e=.returned (.tuple #[.slice none 0 0,.int .i64 (fE os a:Int)])/\PI (os.filter (λo=>o.id != a)) rj (Zn Z w) w' S td (ls.map (fF Zl os a)):=by
 have d:=VE w (Obj.cells #[.int .i64 a] 160);obtain⟨M,v,x,p,q,g⟩:=h;have HD:=zb (Ot (q.below d) f a y);have c:=zb g;generalize ls.map (fF Zl os a)=ls' at HD ⊢;generalize os.filter (λo=>o.id != a)=os' at HD ⊢;generalize fE os a=rc at HD ⊢;clear q f g;have r:=Ct.o;have s:=pH.o;have t:=vO.o;have u:=vM.o;have l:=vN.o;have b:=sX.o;have m:=Ac.o;go_enter func62,ntmps62;go_wp2_with fail;refine HD.mono ?_
 rintro e w1 ⟨i,rfl,j⟩;have n:=zb j;clear j;go_wp2_with fail;go_ret2;exact⟨Kp.before d (i.mono (λk i=>Or.inl (c.zs k i))),rfl,M,v,x,p,n,c.mono (λk i=>Or.inl i)⟩
def Cn(rj:List (Nat×Nat))(os:List O)(td:Nat)(ls:List L)(id gd count gate way:Nat):List O:=if dG rj os td ls id gd count gate way=0 then os++[⟨id,gd,zr ls (zn rj td gd count gate way ls)⟩] else os
def Cm(rj:List (Nat×Nat))(os:List O)(td:Nat)(ls:List L)(id gd count gate way:Nat):List L:=if dG rj os td ls id gd count gate way=0 then Zv ls (zn rj td gd count gate way ls) else ls
def Ia(rj:List (Nat×Nat))(os:List O)(td:Nat)(ls:List L)(id gd count gate way:Nat):List UInt8:=if dG rj os td ls id gd count gate way=0 then 0::Pl.toldB (zA ls (zn rj td gd count gate way ls)) else [UInt8.ofNat (dG rj os td ls id gd count gate way)]
def Iv(os:List O)(td:Nat)(ls:List L)(id gd a b c:Nat):dG rj os td ls id gd a b c<=9:=by
 unfold dG;split<;>(try split)<;>(try split)<;>omega
def iV{id gd a b c:Nat}(h:dG rj os td ls id gd a b c=0):os.any (λo=>o.id==id)=false/\¬10<=os.length/\¬(aU (zn rj td gd a b c ls)=0\/(aU (zn rj td gd a b c ls)<a/\Eg c=true)):=by
 unfold dG at h
 cases e:os.any (λo=>o.id==id) with
 |true=>rw[e]at h;simp at h
 |false=>
  rw[e]at h;simp only[XV,YF]at h;by_cases d:10<=os.length
  ·rw[xh d]at h;omega
  rw[xg d]at h;by_cases f:aU (zn rj td gd a b c ls)=0\/(aU (zn rj td gd a b c ls)<a/\Eg c=true)
  ·rw[xh f]at h;omega
  exact⟨rfl,d,f⟩
def Rw(w:World)(g:Nat)(ns:List Nat):Prop:=g<w.heap.size/\∀j,j<ns.length->w.cell? ⟨g,j,none⟩=some (.int .i64 (ns.getD j 0:Nat))
def Rw.of{g c:Nat}(h:w.ownsRow 0 2 1 (.slice (some ⟨g,0,none⟩) ns.length c) ns.length (I ns))(e:0<ns.length):Rw w g ns:=by
 obtain⟨d,a⟩:=zh h (g:=g) rfl;refine⟨zc a,λj b=>?_⟩;rw[h.cellAt j (by omega)];simp[I,Wc,b]
def NR(h:PI os rj Z w S td ls)(q:Good os ls)(id gd a b d:Nat)(z:id<=2147483647)(D:gd<=2147483647)(E:a<=2147483647)(F:b<=2147483647)(G:d<=3):Calls prog 101 #[.pointer (some ⟨S,0,none⟩),.agg #[.int .i64 id,.int .i64 gd,.int .i64 a,.int .i64 b,.int .i64 d]] w λe w'=>Kp Z w w'/\PI (Cn rj os td ls id gd a b d) rj (Zn Z w) w' S td (Cm rj os td ls id gd a b d) /\
   ((dG rj os td ls id gd a b d≠0/\e=.returned (.tuple #[.slice none 0 0,.int .i64 (dG rj os td ls id gd a b d:Int)]))\/(dG rj os td ls id gd a b d=0/\∃g c,e=.returned (.tuple #[.slice (some ⟨g,0,none⟩) (zA ls (zn rj td gd a b d ls)).length c,.int .i64 0])/\Rw w' g (zA ls (zn rj td gd a b d ls)))):=by
 obtain⟨M,v,C,s,x,m⟩:=h;by_cases i:dG rj os td ls id gd a b d=0
 ·obtain⟨t,u,y⟩:=iV i;unfold Cn Cm;rw[xh i,xh i];refine(NQ x q id gd a b d z D E F G t u y).mono ?_
  rintro e w' ⟨n,B,g,c,p,H⟩;exact⟨n.mono (λk n=>m.zs k n),⟨M,v,C,s,B,m.mono (λk n=>Or.inl n)⟩,Or.inr ⟨i,g,c,p,Rw.of H (by simp[zA])⟩⟩
 unfold Cn Cm;rw[xg i,xg i];have f:∀(w':World),Below w.heap.size w w'->Kp Z w w'/\PI os rj (Zn Z w) w' S td ls:=λw' j=>⟨Wo j,M,v,C,s,x.below j,m.mono (λk n=>Or.inl n)⟩
 by_cases l:os.any (λo=>o.id==id)=true\/10<=os.length
 ·refine(Dy x id gd a b d z l).mono ?_
  rintro e w' ⟨p,j⟩;exact⟨(f w' j).1,(f w' j).2,Or.inl ⟨i,p⟩⟩
 have t:os.any (λo=>o.id==id)=false:=by cases r:os.any (λo=>o.id==id) with
  |true=>exact absurd (Or.inl r) l
  |false=>rfl
 have u:¬10<=os.length:=λr=>l (Or.inr r)
 have y:aU (zn rj td gd a b d ls)=0\/(aU (zn rj td gd a b d ls)<a/\Eg d=true):=by
  apply yx
  intro r;apply i;unfold dG;rw[t,xg (by simp),xg u,xg r]
 have A:dG rj os td ls id gd a b d=7:=by unfold dG;rw[t,xg (by simp),xg u,xh y]
 refine(Dz x q id gd a b d z D E F G t u y).mono ?_
 rintro e w' ⟨p,j⟩;exact⟨(f w' j).1,(f w' j).2,Or.inl ⟨i,by rw[A];exact p⟩⟩
def MP(h:PI os rj Z w S td ls)(l:Good os ls)(id gd a b d:Nat)(D:id<=2147483647)(E:gd<=2147483647)(F:a<=2147483647)(G:b<=2147483647)(H:d<=3):Calls prog 62 #[.pointer (some ⟨S,0,none⟩),.iface 155 (.agg #[.int .i64 id,.int .i64 gd,.int .i64 a,.int .i64 b,.int .i64 d])] w λe w'=>Kp Z w w'/\PI (Cn rj os td ls id gd a b d) rj (Zn Z w) w' S td (Cm rj os td ls id gd a b d) /\
   ((dG rj os td ls id gd a b d≠0/\e=.returned (.tuple #[.slice none 0 0,.int .i64 (dG rj os td ls id gd a b d:Int)]))\/(dG rj os td ls id gd a b d=0/\∃g c,e=.returned (.tuple #[.slice (some ⟨g,0,none⟩) (zA ls (zn rj td gd a b d ls)).length c,.int .i64 0])/\Rw w' g (zA ls (zn rj td gd a b d ls)))):=by
 have j:=VE w (Obj.cells #[.int .i64 id,.int .i64 gd,.int .i64 a,.int .i64 b,.int .i64 d] 155);obtain⟨M,v,B,s,t,m⟩:=h;have HD:=zb (NR (Z:=Z) ⟨M,v,B,s,t.below j,m⟩ l id gd a b d D E F G H);generalize Cm rj os td ls id gd a b d=ls' at HD ⊢;generalize Cn rj os td ls id gd a b d=os' at HD ⊢;generalize dG rj os td ls id gd a b d=rc at HD ⊢;generalize zA ls (zn rj td gd a b d ls)=tq at HD ⊢;clear t l m;have x:=yZ.o;have y:=nB.o;have z:=sO.o;have A:=sM.o;have p:=sN.o;go_enter func62,ntmps62;go_wp2_with fail;refine HD.mono ?_
 rintro e w1 ⟨u,f,⟨r,rfl⟩|⟨C,g,c,rfl,n⟩⟩
 ·have i:=zb f;clear f;go_wp2_with fail;go_ret2;exact⟨Kp.before j (u.mono (λk h=>Or.inl h)),i.mono (bP w _),Or.inl ⟨r,rfl⟩⟩
 have i:=zb f;have q:=zb n;clear f n;go_wp2_with fail;go_ret2;exact⟨Kp.before j (u.mono (λk h=>Or.inl h)),i.mono (bP w _),Or.inr ⟨C,g,c,rfl,q⟩⟩
def iJ{ls:List L}(a:∀x∈ls,L.Ok x):∀(l:List (Nat×Nat)),(∀p∈l,p.1<ls.length/\p.2<=2147483647)->∀n∈aF ls l,n<9223372036854775808
 |[],_=>by simp[aF]
 |p::r,h=>by
  intro n b;simp only[aF,xz]at b;rcases b with rfl|rfl|b
  ·have:=(a _ (zf (h p (by simp)).1)).id;omega
  ·have:=(h p (by simp)).2;omega
  exact iJ a r (λq c=>h q (by simp[c])) n b
def rZ(d:∀x∈ls,L.Ok x)(h:ls.length<=30)(td gd a b c:Nat):(∀n∈zA ls (zn rj td gd a b c ls),n<9223372036854775808)/\(zA ls (zn rj td gd a b c ls)).length<=61:=by
 have f:=aT (rj:=rj) td gd a b c ls h;constructor
 ·intro n e;simp only[zA,xz]at e;rcases e with rfl|e
  ·omega
  refine iJ d _ (λp g=>⟨f.2.2.1 p g,?_⟩) n e;have i:=f.2.2.2.1 p g;have j:=(d _ (zf (f.2.2.1 p g))).sum;omega
 simp only[zA,List.length_cons,dF];omega
def CT(ls:List L)(l:List (Nat×Nat)):∀i,((Zv ls l).getD i L0).place=(ls.getD i L0).place:=by
 induction l generalizing ls with
 |nil=>intro i;rfl
 |cons p r ih=>
  intro i;simp only[Zv];rw[ih];by_cases h:i=p.1
  ·subst h;by_cases a:p.1<ls.length
   ·rw[aY a];rfl
   simp[xad (show ls.length<=p.1 by omega)]
  rw[ZJ h]
def tG(a b:List O)(n:Nat):zD (a++b) n=zD a n+zD b n:=by
 induction a with
 |nil=>simp[zD]
 |cons o a ih=>
  simp only[zD,XS,Xv,XZ]at ih ⊢;omega
def eR{f:Nat->Nat}:∀(l:List Nat),l.Nodup->(∀a∈l,∀b∈l,f a=f b->a=b)->(l.map f).Nodup
 |[],_,_=>by simp
 |x::l,hn,hf=>by
  rw[yj]at hn;simp only[Xv,yj];refine⟨λh=>?_,eR l hn.2 (λa d b e=>hf a (by simp[d]) b (by simp[e]))⟩;obtain⟨y,c,g⟩:=Xz.1 h;have:=hf y (by simp[c]) x (by simp) g;subst this;exact hn.1 c
def Good.ask(h:Good os ls){q:List (Nat×Nat)}(z:(q.map Prod.fst).Nodup)(l:∀p∈q,p.1<ls.length){id g:Nat}(y:id<=2147483647)(t:os.any (λo=>o.id==id)=false)(E:¬10<=os.length):Good (os++[⟨id,g,zr ls q⟩]) (Zv ls q):=by
 have v:∀B∈os,B.id≠id:=λB u e=>by
  have:=Yn.1 t B u
  simp[e]at this
 have f:=dX q ls;refine⟨λi j k C s=>?_,λi k=>?_,?_,λo d=>?_,by simp;omega,λo d=>?_,λo d p m=>?_,λi k=>?_⟩
 ·rw[f]at k C;rw[cN,cN]at s;exact h.ids i j k C s
 ·rw[f]at k;rw[CT];exact h.place i k
 ·rw[Yq];refine XP.2 ⟨h.oids,by simp,?_⟩;intro a x b w e;obtain⟨o,d,rfl⟩:=Xz.1 x;simp at w;exact v o d (by rw[e,w])
 ·rcases xx.1 d with d|d
  ·exact h.oid o d
  simp at d;subst d;exact y
 ·rcases xx.1 d with d|d
  ·exact h.keys o d
  simp at d;subst d;have e:(zr ls q).map Prod.fst=(q.map Prod.fst).map (λc=>(ls.getD c L0).id):=by unfold zr;rw[xac,xac];rfl
  show((zr ls q).map Prod.fst).Nodup;rw[e];refine eR _ z (λa x b w s=>?_);obtain⟨p,m,rfl⟩:=Xz.1 x;obtain⟨r,A,rfl⟩:=Xz.1 w;exact h.ids _ _ (l p m) (l r A) s
 ·rcases xx.1 d with d|d
  ·obtain⟨i,k,s⟩:=h.mem o d p m;exact⟨i,by rw[f];exact k,by rw[cN];exact s⟩
  simp at d;subst d;obtain⟨r,A,rfl⟩:=Xz.1 m;exact⟨r.1,by rw[f];exact l r A,by rw[cN]⟩
 rw[f]at k;rw[cN,tG];have D:zD [⟨id,g,zr ls q⟩] (ls.getD i L0).id=(q.lookup i).getD 0:=by
  simp only[zD,ZV,Xv,xbd,XZ,List.sum_nil,xaN];rw[dS h.ids q l i k]
 rw[D,<-h.hd i k];by_cases u:i∈q.map Prod.fst
 ·obtain⟨p,m,rfl⟩:=Xz.1 u;rw[EL q ls z (n:=p.2) m k,zN z (n:=p.2) m];rfl
 rw[fU q ls u,Zw.2 u];rfl
def qI{a:Nat}(n:Nat):∀(os:List O),(os.map O.id).Nodup->zD os n=zD (os.filter (λo=>o.id != a)) n+(zq os a n).getD 0
 |[],_=>rfl
 |o::os,hn=>by
  simp only[Xv,yj]at hn;have e:=qI (a:=a) n os hn.2;by_cases d:o.id=a
  ·have c:os.find? (λo=>o.id==a)=none:=by
    rw[YC];intro k g i;have:k.id=a:=by simpa using i
    exact hn.1 (by rw[d,<-this];exact Xu g)
   have j:zq os a n=none:=by unfold zq;rw[c];rfl
   rw[j]at e;have b:zq (o::os) a n=o.li.lookup n:=by unfold zq;simp[List.find?,d]
   have f:(o.id != a)=false:=by simp[d]
   rw[b];simp only[zD,Xv,XZ,List.filter,f,ZV]at e ⊢;simp at e;omega
  have h:(o.id==a)=false:=by simpa using d
  have b:zq (o::os) a n=zq os a n:=by unfold zq;simp[List.find?,h]
  have f:(o.id != a)=true:=by simp[d]
  rw[b];simp only[zD,Xv,XZ,List.filter,f]at e ⊢;omega
def Good.fin(h:Good os ls)(g:L->Nat->L)(k:∀l n,(g l n).id=l.id/\(g l n).place=l.place/\(g l n).hd=l.hd)(a:Nat):Good (os.filter (λo=>o.id != a)) (ls.map (fF g os a)):=by
 have d:∀l,(fF g os a l).id=l.id:=λl=>by unfold fF;split<;>simp[k]
 have s:∀l,(fF g os a l).place=l.place:=λl=>by unfold fF;split<;>simp[k]
 have m:∀l,(fF g os a l).hd=l.hd-(zq os a l.id).getD 0:=λl=>by
  unfold fF;split
  ·rename_i n r;rw[r];simp[k]
  rename_i r;rw[r];simp
 have c:∀o∈os.filter (λo=>o.id != a),o∈os:=λo e=>(Yk.1 e).1
 refine⟨λi j b q f=>?_,λi b=>?_,h.oids.sublist ((xbF (l:=os)).map _),λo e=>h.oid o (c o e),xj (Yy _ _) h.olen,λo e=>h.keys o (c o e),λo e p t=>?_,λi b=>?_⟩
 ·rw[List.length_map]at b q;rw[aJ b,aJ q,d,d]at f;exact h.ids i j b q f
 ·rw[List.length_map]at b;rw[aJ b,s];exact h.place i b
 ·obtain⟨i,b,f⟩:=h.mem o (c o e) p t;exact⟨i,by simpa using b,by rw[aJ b,d];exact f⟩
 rw[List.length_map]at b;rw[aJ b,m,d,h.hd i b];have:=qI (a:=a) (ls.getD i L0).id os h.oids;omega
def ZL(rj:List (Nat×Nat))(td:Nat)(os:List O)(ls:List L):Pl.Cmd->List UInt8×Nat×List O×List L
 | .ok (5,[a,b,c,d,f])=>(Ia rj os td ls a b c d f,td,Cn rj os td ls a b c d f,Cm rj os td ls a b c d f)
 | .ok (6,[a])=>([UInt8.ofNat (fE os a)],td,os.filter (λo=>o.id != a),ls.map (fF Zk os a))
 | .ok (7,[a])=>([UInt8.ofNat (fE os a)],td,os.filter (λo=>o.id != a),ls.map (fF Zl os a))
 |c=>((aI rj td ls c).1,(aI rj td ls c).2.1,os,(aI rj td ls c).2.2)
def Ca{c:Pl.Cmd}(h:vB c)(td:Nat)(os:List O)(ls:List L):ZL rj td os ls c=((aI rj td ls c).1,(aI rj td ls c).2.1,os,(aI rj td ls c).2.2):=by
 cases c with
 |error e=>rfl
 |ok p=>
  obtain⟨n,a⟩:=p;rcases h n a rfl with rfl|rfl|rfl|rfl|rfl|rfl|rfl<;>rfl
def oR(c:Pl.Cmd):Prop:=∀n ns,c=.ok (n,ns)->n=1\/n=2\/n=11\/n=12\/n=3\/n=4\/n=10\/n=5\/n=6\/n=7
def uR(h:oR (Pl.cmd l)):vB (Pl.cmd l)\/∃c d,ZO l=some (c,d)/\Pl.mays (Pl.kindsL c) d=true/\Pl.cmd l=.ok (c,d)/\(c=5\/c=6\/c=7)/\d.length=(Pl.kindsL c).length/\∀n∈d,n<9223372036854775808:=by
 have a:=dL l
 cases b:ZO l with
 |none=>left;intro n d e;rw[b]at a;rw[a]at e;cases e
 |some p=>
  obtain⟨c,d⟩:=p;rw[b]at a;obtain⟨k,m,f,g⟩:=bL b
  cases i:Pl.mays (Pl.kindsL c) d with
  |false=>
   simp only[i,XV,YF]at a;left;intro n d e;rw[a]at e;cases e
  |true=>
   simp only[i,Yo]at a;have q:=h c d a;by_cases j:c=5\/c=6\/c=7
   ·right;exact⟨c,d,rfl,i,a,j,f,g⟩
   left;intro n r e;rw[a]at e;cases e;omega
def Tb(h:ns.length=(Pl.kindsL 6).length):∃a,ns=[a]:=by
 match ns,h with
 |[a],_=>exact⟨a,rfl⟩
def Tc(h:ns.length=(Pl.kindsL 7).length):∃a,ns=[a]:=by
 match ns,h with
 |[a],_=>exact⟨a,rfl⟩
def Td(h:ns.length=(Pl.kindsL 5).length):∃a b c d f,ns=[a,b,c,d,f]:=by
 match ns,h with
 |[a,b,c,d,f],_=>exact⟨a,b,c,d,f,rfl⟩
def Gh(h:Good os ls)(q:ls.length<=30)(l:List UInt8)(t:oR (Pl.cmd l)):Good (ZL rj td os ls (Pl.cmd l)).2.2.1 (ZL rj td os ls (Pl.cmd l)).2.2.2:=by
 rcases uR t with i|⟨c,w,k,s,j,p,e,r⟩
 ·rw[Ca i];exact Gj h _
 rw[j];rcases p with rfl|rfl|rfl
 ·obtain⟨a,b,c,d,f,rfl⟩:=Td e;have hd:a<=2147483647:=by simp[Pl.mays,Pl.kindsL,Pl.mayB]at s;omega
  show Good (Cn rj os td ls a b c d f) (Cm rj os td ls a b c d f);unfold Cn Cm;by_cases g:dG rj os td ls a b c d f=0
  ·rw[xh g,xh g];obtain⟨u,v,_⟩:=iV g;have m:=aT (rj:=rj) td b c d f ls q;exact h.ask m.2.1 m.2.2.1 hd u v
  rw[xg g,xg g];exact h
 ·obtain⟨a,rfl⟩:=Tb e;exact h.fin Zk (λl n=>⟨rfl,rfl,rfl⟩) a
 obtain⟨a,rfl⟩:=Tc e;exact h.fin Zl (λl n=>⟨rfl,rfl,rfl⟩) a
