import Derived.Test.YtgcedalggnmooaaGreatDoorR0X
import Derived.Test.YtgcedalggnmooaaGreatDoorRepX
import Derived.Test.YtgcedalggnmooaaGreatDoorSt12X
set_option linter.all false
set_option maxRecDepth 100000
set_option maxHeartbeats 800000
namespace Go.Proofs.YtgcedalggnmooaaGreatDoor
open Go.RowKit
open Tryz
variable {Z Zs:Nat->Prop}
theorem bN(w:World)(o:Obj):∀k,Zn Z (w.alloc o) k->Zn Z w k:=λk h=>h.elim Or.inl (λh=>Or.inr (by simp at h;omega))
variable {Lb S td:Nat}{ls:List L}{os:List O}{rj:List (Nat×Nat)}{w w':World}
theorem Rb(h:PI os rj Z w S td ls)(d:Nat)(hd:d<=2147483647):Calls prog 62 #[.pointer (some ⟨S,0,none⟩),.iface 143 (.agg #[.int .i64 d])] w λe w'=>Kp Z w w' /\
   ((d<td/\e=.returned (.tuple #[.slice none 0 0,.int .i64 3])/\PI os rj (Zn Z w) w' S td ls)\/(td<=d/\e=.returned (.tuple #[.slice none 0 0,.int .i64 0])/\PI os rj (Zn Z w) w' S d ls)):=by
 have b:=TZ w (Obj.cells #[.int .i64 d] 143);obtain⟨M,v,n,i,j,f⟩:=h;have HD:=zb (OQ (Z:=Z) ⟨M,v,n,i,j.below b,f⟩ d hd);clear j;have m:=Fa.o;go_enter func62,ntmps62;go_wp2_with fail;refine HD.mono ?_
 rintro e w1 ⟨l,⟨g,rfl,a⟩|⟨c,rfl,a⟩⟩
 all_goals
  go_wp2_with fail;go_ret2
 ·exact⟨Kp.before b (l.mono (λk h=>Or.inl h)),Or.inl ⟨g,rfl,a.mono (bN w _)⟩⟩
 exact⟨Kp.before b (l.mono (λk h=>Or.inl h)),Or.inr ⟨c,rfl,a.mono (bN w _)⟩⟩
theorem Fk(h:PI os rj Z w S td ls)(lot gd a b:Nat)(n:lot<=2147483647)(p:gd<=2147483647)(q:a<=2147483647)(r:b<=2147483647):Calls prog 62 #[.pointer (some ⟨S,0,none⟩),.iface 146 (.agg #[.int .i64 lot,.int .i64 gd,.int .i64 a,.int .i64 b])] w λe w'=>Kp Z w w'/\e=.returned (.tuple #[.slice none 0 0,.int .i64 (zx ls lot:Int)]) /\
   PI os rj (Zn Z w) w' S td (if zx ls lot=0 then ls++[{ id:=lot,gd:=gd,ex:=b,place:=ls.length+1,got:=a,free:=a,hd:=0,sh:=0,sc:=0,gv:=0 }] else ls):=by
 have i:=TZ w (Obj.cells #[.int .i64 lot,.int .i64 gd,.int .i64 a,.int .i64 b] 146);obtain⟨M,v,m,f,g,c⟩:=h;have HD:=zb (Dg (Z:=Z) ⟨M,v,m,f,g.below i,c⟩ lot gd a b n p q r);generalize (if zx ls lot=0 then ls++[{ id:=lot,gd:=gd,ex:=b,place:=ls.length+1,got:=a,free:=a,hd:=0,sh:=0,sc:=0,gv:=0 }] else ls)=ls' at HD ⊢;clear g;have j:=rZ.o;have l:=iI.o;go_enter func62,ntmps62;go_wp2_with fail;refine HD.mono ?_
 rintro e w1 ⟨s,rfl,d⟩;go_wp2_with fail;go_ret2;exact⟨Kp.before i (s.mono (λk h=>Or.inl h)),rfl,d.mono (bN w _)⟩
variable {M:Mx}{bs ns:List Nat}{lv v:Value}{pvs:List Value}
theorem OT(h:PV os rj w S M v td bs pvs ls)(n:Nat)(u:n<=2147483647):Calls prog 62 #[.pointer (some ⟨S,0,none⟩),.iface 171 (.agg #[.int .i64 n])] w λe w'=>Below w.heap.size w w' /\
   ((UB n ls<ls.length/\∃g,e=.returned (.tuple #[.slice (some ⟨g,0,none⟩) 10 10,.int .i64 0])/\w'.heap[g]?=some (.cells (I (gO (cH rj ls) (ls.getD (UB n ls) L0))).toArray 2 (0,0)))\/(¬UB n ls<ls.length/\e=.returned (.tuple #[.slice none 0 0,.int .i64 4]))):=by
 have i:=TZ w (Obj.cells #[.int .i64 n] 171);have r:=h.below i;clear h;by_cases s:UB n ls<ls.length
 ·have HD:=zb (Ms r n u s);clear r;have j:=oF.o;have k:=fB.o;have l:=iH.o;have m:=iE.o;have d:=iF.o;have b:=gP.o;have f:=lT.o;have c:=gQ.o;have a:=fC.o;have p:=iG.o;have q:=fA.o;go_enter func62,ntmps62;go_wp2_with fail;refine HD.mono ?_
  rintro e w1 ⟨t,g,rfl,x⟩;go_wp2_with fail;go_ret2;exact⟨i.trans (t.mono i.size),Or.inl ⟨s,g,rfl,x⟩⟩
 have HD:=zb (IY r n u s);clear r;have j:=oF.o;have k:=fB.o;have l:=iH.o;have m:=iE.o;have d:=iF.o;have b:=gP.o;have f:=lT.o;have c:=gQ.o;have a:=fC.o;have p:=iG.o;have q:=fA.o;go_enter func62,ntmps62;go_wp2_with fail;refine HD.mono ?_
 rintro e w1 ⟨t,rfl⟩;go_wp2_with fail;go_ret2;exact⟨i.trans (t.mono i.size),Or.inr ⟨s,rfl⟩⟩
theorem Hn(h:PV os rj w S M v td bs pvs ls)(gd a:Nat)(t:gd<=2147483647)(u:a<=2147483647):Calls prog 62 #[.pointer (some ⟨S,0,none⟩),.iface 174 (.agg #[.int .i64 gd,.int .i64 a])] w λe w'=>Below w.heap.size w w'/\∃g,e=.returned (.tuple #[.slice (some ⟨g,0,none⟩) 2 2,.int .i64 0])/\w'.heap[g]?=some (.cells (I (GA rj td gd a ls)).toArray 2 (0,0)):=by
 have j:=TZ w (Obj.cells #[.int .i64 gd,.int .i64 a] 174);have k:=h.below j;clear h;have HD:=zb (GB k gd a t u);clear k;have l:=uY.o;have m:=kI.o;have n:=oW.o;have p:=oT.o;have f:=oU.o;have c:=mY.o;have i:=sI.o;have d:=mZ.o;have b:=kJ.o;have q:=oV.o;have r:=gS.o;have s:=eT.o;go_enter func62,ntmps62;go_wp2_with fail;refine HD.mono ?_
 rintro e w1 ⟨x,g,rfl,y⟩;go_wp2_with fail;go_ret2;exact⟨j.trans (x.mono j.size),g,rfl,y⟩
theorem PI.below{rj:List (Nat×Nat)}{Z:Nat->Prop}{w w':World}{S td:Nat}{ls:List L}{os:List O}(h:PI os rj Z w S td ls)(e:Below w.heap.size w w'):PI os rj Z w' S td ls:=by
 obtain⟨M,v,b,a,c,d⟩:=h;exact⟨M,v,b,a,c.below e,d⟩
def Et(ls:List L)(id gd count expiry:Nat):L:={ id:=id,gd:=gd,ex:=expiry,place:=ls.length+1,got:=count,free:=count,hd:=0,sh:=0,sc:=0,gv:=0 }
def LogAt(w:World)(lv:Value)(lg:List UInt8):Prop:=w.ownsRow 0 5 1 lv lg.length (U8 lg)/\(lg=[]->lv=.slice none 0 0)
variable {lg:List UInt8}
theorem LogAt.congr(h:LogAt w lv lg)(a:∀k,lv.ownBlock=some k->w'.heap[k]?=w.heap[k]?):LogAt w' lv lg:=⟨ze h.1 a,h.2⟩
theorem LogAt.lt{w:World}{lv:Value}{lg:List UInt8}(h:LogAt w lv lg){k:Nat}(a:lv.ownBlock=some k):k<w.heap.size:=(h.1.lt k a).2
theorem LogAt.byte(h:LogAt w lv lg){k:Nat}(a:lv.ownBlock=some k):∃x,w.cell? ⟨k,0,none⟩=some (.int .u8 x):=by
 cases lg with
 |nil=>rw[h.2 rfl]at a;cases a
 |cons b r=>
  obtain⟨g,cap,rfl,_,_⟩:=zK h.1 (by simp)
  cases a;have:=h.1.cellAt 0 (by simp)
  exact⟨_,this.trans rfl⟩
def PL(lg:List UInt8)(os:List O)(rj:List (Nat×Nat))(Z:Nat->Prop)(w:World)(Lb td:Nat)(ls:List L):Prop :=
 ∃S Zs lv,w.heap[Lb]?=some (.cells #[.pointer (some ⟨S,0,none⟩),lv] 91 (0,0))/\Z Lb/\¬Zs Lb/\(∀k,Zs k->Z k)/\PI os rj Zs w S td ls/\LogAt w lv lg/\∀k,lv.ownBlock=some k->Z k/\k≠Lb/\¬Zs k
theorem PL.below{lg:List UInt8}{rj:List (Nat×Nat)}{Z:Nat->Prop}{w w':World}{b td:Nat}{ls:List L}{os:List O}(h:PL lg os rj Z w b td ls)(a:Below w.heap.size w w'):PL lg os rj Z w' b td ls:=by
 obtain⟨S,e,lv,c,f,g,i,j,d,l⟩:=h;exact⟨S,e,lv,(a.block _ (zc c)).trans c,f,g,i,j.below a,d.congr (λk m=>a.block k (d.lt m)),l⟩
theorem PL.mono{Z':Nat->Prop}(h:PL lg os rj Z w Lb td ls)(b:∀k,Z k->Z' k):PL lg os rj Z' w Lb td ls:=by
 obtain⟨S,d,lv,e,f,g,i,j,l,c⟩:=h;exact⟨S,d,lv,e,b _ f,g,λk a=>b k (i k a),j,l,λk a=>⟨b k (c k a).1,(c k a).2⟩⟩
structure PS(lg:List UInt8)(os:List O)(rj:List (Nat×Nat))(Z:Nat->Prop)(w:World)(Lb td:Nat)(ls:List L)(S:Nat)(Zs:Nat->Prop)(lv:Value):Prop where
 here:w.heap[Lb]?=some (.cells #[.pointer (some ⟨S,0,none⟩),lv] 91 (0,0))
 inZ:Z Lb
 nin:¬Zs Lb
 sub:∀k,Zs k->Z k
 pi:PI os rj Zs w S td ls
 log:LogAt w lv lg
 blk:∀k,lv.ownBlock=some k->Z k/\k≠Lb/\¬Zs k
theorem PS.pl(h:PS lg os rj Z w Lb td ls S Zs lv):PL lg os rj Z w Lb td ls:=⟨S,Zs,lv,h.here,h.inZ,h.nin,h.sub,h.pi,h.log,h.blk⟩
theorem PL.ps(h:PL lg os rj Z w Lb td ls):∃S a lv,PS lg os rj Z w Lb td ls S a lv:=by
 obtain⟨S,a,lv,b,c,d,e,f,g,i⟩:=h;exact⟨S,a,lv,b,c,d,e,f,g,i⟩
theorem PS.step{d:List (Nat×Nat)}{w2 g m:World}{e:Nat}{ls':List L}{os':List O}(h:PS lg os rj Z w Lb td ls S Zs lv)
  (b:Below w.heap.size w w2) (f:Kp Zs w2 g) (j:PI os' d (Zn Zs w2) g S e ls') (c:Below g.heap.size g m):Kp Z w m/\PS lg os' d (Zn Z w) m Lb e ls' S (Zn Zs w2) lv:=by
 refine⟨(Kp.before b (f.mono (λk q=>Or.inl (h.sub k q)))).after c,?_⟩;have i:=zc h.here;have n:=(b.block Lb i).trans h.here;have p:=(f.block Lb (zc n) h.nin).trans n;have r:=(c.block Lb (zc p)).trans p;have l:=b.size;have s:=f.size;refine⟨r,Or.inl h.inZ,λq=>q.elim h.nin (λq=>by omega),λk q=>q.elim (λq=>Or.inl (h.sub k q)) (λq=>Or.inr (xj l q)),j.below c,h.log.congr (λk a=>?_),λk a=>⟨Or.inl (h.blk k a).1,(h.blk k a).2.1,λq=>q.elim (h.blk k a).2.2 (λq=>by have:=h.log.lt a;omega)⟩⟩;have t:=h.log.lt a;have u:=b.block k t;have v:=f.block k (by omega) (h.blk k a).2.2;have x:=c.block k (by omega);exact x.trans (v.trans u)
theorem PS.frame{f:List UInt8}{w5:World}{a:Value}(h:PS lg os rj Z w Lb td ls S Zs lv)(A:f≠[])
  (C:w5.ownsRow 0 5 1 a (lg++f).length (U8 (lg++f))) (g:w.grownBy w5 lv.ownBlock) (B:Lies w lv a) (l:∀k,Zs k->k<w.heap.size) :
  Kp Z w (w5.setCell ⟨Lb,1,none⟩ a)/\PS (lg++f) os rj (Zn Z w) (w5.setCell ⟨Lb,1,none⟩ a) Lb td ls S Zs a:=by
 have n:=zc h.here;have p:∀k,Zs k->w5.heap[k]?=w.heap[k]?:=λk b=>g.block k (l k b) (λe=>(h.blk k e.symm).2.2 b)
 have m:=(g.block Lb n (λe=>(h.blk Lb e.symm).2.1 rfl)).trans h.here;have i:=xq w5 Lb 1 _ 91 a m;have c:∀k,k≠Lb->(w5.setCell ⟨Lb,1,none⟩ a).heap[k]?=w5.heap[k]?:=λk b=>xa _ _ _ _ b
 have r:(w5.setCell ⟨Lb,1,none⟩ a).heap.size=w5.heap.size:=by simp[World.setCell]
 have d:∀k,a.ownBlock=some k->(Z k/\k≠Lb/\¬Zs k)\/w.heap.size<=k:=λk b=>(B k b).elim (λq=>Or.inl (h.blk k q)) Or.inr
 refine⟨⟨g.os,g.tape,g.output,by rw[r];exact g.size,λk b u=>?_⟩,⟨i,Or.inl h.inZ,h.nin,λk b=>Or.inl (h.sub k b),?_,⟨ze C (λk b=>c k (λe=>?_)),λe=>absurd e (by simp[A])⟩,λk b=>?_⟩⟩
 ·have s:k≠Lb:=λe=>u (e ▸ h.inZ)
  rw[c k s];exact g.block k b (λe=>u (h.blk k e.symm).1)
 ·obtain⟨M,v,x,t,y,j⟩:=h.pi;exact⟨M,v,x,t,y.congr j (λk b=>(c k (λe=>h.nin (e ▸ b))).trans (p k b)),j⟩
 ·rcases d k b with q|q
  ·exact q.2.1 e
  omega
 rcases d k b with q|q
 ·exact⟨Or.inl q.1,q.2⟩
 exact⟨Or.inr q,by omega,λz=>by have:=l k z;omega⟩
def Zi(rj:List (Nat×Nat))(td:Nat)(ls:List L):Pl.Cmd->List UInt8×Nat×List L
 | .error e=>([UInt8.ofNat e],td,ls)
 | .ok (1,[d])=>if d<td then ([3],td,ls) else ([0],d,ls)
 | .ok (2,[a,b,c,d])=>([UInt8.ofNat (zx ls a)],td,if zx ls a=0 then ls++[Et ls a b c d] else ls)
 | .ok (11,[n])=>if UB n ls<ls.length then (0::Pl.toldB (gO (cH rj ls) (ls.getD (UB n ls) L0)),td,ls) else ([4],td,ls)
 | .ok (12,[a,b])=>(0::Pl.toldB (GA rj td a b ls),td,ls)
 |_=>([],td,ls)
theorem dL(l:List UInt8):Pl.cmd l=match ZR l with
  |none=>.error 1
  |some (c,ns)=>if Pl.mays (Pl.kindsL c) ns then .ok (c,ns) else .error 2:=by
 cases l with
 |nil=>rfl
 |cons c r=>
  simp only[Pl.cmd,ZR]
  cases d:Pl.nums r with
  |none=>by_cases a:Pl.kindsL c.toNat=[]<;>simp[a]
  |some ns=>
   by_cases a:Pl.kindsL c.toNat=[]
   ·simp[a]
   by_cases b:ns.length=(Pl.kindsL c.toNat).length
   ·simp[a,b]
   simp[a,b]
theorem bK{l:List UInt8}{c:Nat}(h:ZR l=some (c,ns)):1<=c/\c<=12/\ns.length=(Pl.kindsL c).length/\∀n∈ns,n<9223372036854775808:=by
 cases l with
 |nil=>cases h
 |cons b r=>
  simp only[ZR]at h;by_cases a:Pl.kindsL b.toNat=[]
  ·simp[a]at h
  simp only[a,Yc]at h
  cases e:Pl.nums r with
  |none=>rw[e]at h;cases h
  |some ms=>
   rw[e]at h;by_cases d:ms.length=(Pl.kindsL b.toNat).length
   ·simp only[d,YC,Xj,XD]at h;obtain⟨rfl,rfl⟩:=h;have f:1<=b.toNat/\b.toNat<=12:=by
     apply XV
     intro g;apply a;unfold Pl.kindsL;split<;>first|rfl|omega
    exact⟨f.1,f.2,d,Pl.nums_lt _ r _ (xc _) e⟩
   simp[d]at h
theorem Ek(h:ns.length=1):∃a,ns=[a]:=List.length_eq_one_iff.1 h
theorem El(h:ns.length=2):∃a b,ns=[a,b]:=by
 match ns,h with
 |[a,b],_=>exact⟨a,b,rfl⟩
theorem NY(h:ns.length=3):∃a b c,ns=[a,b,c]:=by
 match ns,h with
 |[a,b,c],_=>exact⟨a,b,c,rfl⟩
theorem St(h:ns.length=4):∃a b c d,ns=[a,b,c,d]:=by
 match ns,h with
 |[a,b,c,d],_=>exact⟨a,b,c,d,rfl⟩
theorem SK(h:ns.length=5):∃a b c d e,ns=[a,b,c,d,e]:=by
 match ns,h with
 |[a,b,c,d,e],_=>exact⟨a,b,c,d,e,rfl⟩
def GS(c:Pl.Cmd):Prop:=∀n ns,c=.ok (n,ns)->n=1\/n=2\/n=11\/n=12
theorem PV.bound(h:PV os rj w S M v td bs pvs ls)(e:PIn Z S M v bs pvs):PIn (λk=>Z k/\k<w.heap.size) S M v bs pvs:={
 s:=⟨e.s,zc h.store⟩
 m:=by obtain⟨_,_,d⟩:=h.maps.mr;exact⟨e.m,zc d⟩
 mo:=by obtain⟨_,_,d⟩:=h.maps.mo;exact⟨e.mo,zc d⟩
 mh:=by obtain⟨_,_,d⟩:=h.maps.mh;exact⟨e.mh,zc d⟩
 v:=λg f=>by obtain⟨r,d⟩:=zi h.row f;exact⟨e.v g f,zc d⟩
 b:=λk j=>by
  refine⟨e.b k j,?_⟩;obtain⟨i,a,rfl⟩:=xt j;have:=zc (h.lot i (by rw[<-h.len];exact a));rw[Uv,xi a]at this;simpa using this
 p:=λpv l q n=>by
  refine⟨e.p pv l q n,?_⟩;obtain⟨i,a,rfl⟩:=xt l;have c:=h.par i (by rw[<-h.plen];exact a);rw[Uv,xi a]at c;simp only[Xw]at c;obtain⟨r,t⟩:=c.blk n;exact zc t}
theorem PL.bound{lg:List UInt8}{rj:List (Nat×Nat)}{Z:Nat->Prop}{w:World}{d td:Nat}{ls:List L}{os:List O}(h:PL lg os rj Z w d td ls):PL lg os rj (λk=>Z k/\k<w.heap.size) w d td ls:=by
 obtain⟨S,i,lv,e,l,m,n,⟨M,v,j,c,f,p⟩,g,b⟩:=h;exact⟨S,λk=>i k/\k<w.heap.size,lv,e,⟨l,zc e⟩,λh=>m h.1,λk a=>⟨n k a.1,a.2⟩,⟨M,v,j,c,f,f.bound p⟩,g,λk a=>⟨⟨(b k a).1,g.lt a⟩,(b k a).2.1,λq=>(b k a).2.2 q.1⟩⟩
theorem PL.congr{lg:List UInt8}{rj:List (Nat×Nat)}{Z:Nat->Prop}{w w':World}{a td:Nat}{ls:List L}{os:List O}(h:PL lg os rj Z w a td ls)(c:∀k,Z k->w'.heap[k]?=w.heap[k]?):PL lg os rj Z w' a td ls:=by
 obtain⟨S,j,lv,m,e,n,f,⟨M,v,l,d,p,g⟩,q,i⟩:=h;exact⟨S,j,lv,(c a e).trans m,e,n,f,⟨M,v,l,d,p.congr g (λk b=>c k (f k b)),g⟩,q.congr (λk b=>c k (i k b).1),i⟩
theorem Gl.kp(h:Gl w)(k:Kp Z w w')(b:¬Z 2)(c:¬Z 3):Gl w':=by
 obtain⟨⟨g,j,d⟩,⟨i,l,e⟩,f⟩:=h;exact⟨⟨g,j,(xm (a:=⟨2,0,none⟩) (k.block 2 (by omega) b)).trans d⟩,⟨i,l,(xm (a:=⟨3,0,none⟩) (k.block 3 (by omega) c)).trans e⟩,xj f k.size⟩
theorem Fw(h:Good os ls)(c:Pl.Cmd):Good os (Zi rj td ls c).2.2:=by
 cases c with
 |error e=>exact h
 |ok p=>
  obtain⟨n,i⟩:=p;unfold Zi;split
  ·exact h
  ·split<;>exact h
  ·rename_i a b c d g;show Good os (if zx ls a=0 then ls++[Et ls a b c d] else ls);by_cases f:zx ls a=0
   ·rw[xe f];exact h.snoc (Z8 f) rfl rfl
   rw[xg f];exact h
  ·split<;>exact h
  ·exact h
  exact h
theorem aE{k:Nat}{b:Obj}{x:Option Obj}(h:w.heap[k]?=x)(a:k<w.heap.size):(w.alloc b).heap[k]?=x:=(XO _ _ _ a).trans h
theorem Jg(h:PI os rj Z w S td ls)(a b m:Nat)(j:a<=2147483647)(l:b<=2147483647)(n:m<=2147483647):Calls prog 100 #[.pointer (some ⟨S,0,none⟩),.agg #[.int .i64 a,.int .i64 b,.int .i64 m]] w λe w'=>Kp Z w w'/\e=.returned (.int .i64 (zS ls a b m:Int))/\PI os rj (Zn Z w) w' S td (ZI ls a b m):=by
 obtain⟨M,v,y,x,g,q⟩:=h;have fin:∀rc:Nat,0<rc->zS ls a b m=rc->(Calls prog 100 #[.pointer (some ⟨S,0,none⟩),.agg #[.int .i64 a,.int .i64 b,.int .i64 m]] w λe w'=>e=.returned (.int .i64 rc)/\Below w.heap.size w w') ->
   Calls prog 100 #[.pointer (some ⟨S,0,none⟩),.agg #[.int .i64 a,.int .i64 b,.int .i64 m]] w λe w'=>Kp Z w w'/\e=.returned (.int .i64 (zS ls a b m:Int))/\PI os rj (Zn Z w) w' S td (ZI ls a b m):=by
  intro rc A t B;have u:ZI ls a b m=ls:=xg (by omega);rw[t,u];exact B.mono λe w' ⟨p,hb⟩=>⟨UD hb,p,M,v,y,x,g.below hb,q.mono (λk z=>Or.inl z)⟩
 by_cases c:UB a ls<ls.length/\UB b ls<ls.length
 ·by_cases f:UB a ls=UB b ls\/(zd ls a).gd≠(zd ls b).gd
  ·exact fin 8 (by omega) (by unfold zS;rw[xe c,xe f]) (CG g a b m j l n c.1 c.2 f)
  have p:UB a ls≠UB b ls:=λh=>f (Or.inl h)
  have s:(zd ls a).gd=(zd ls b).gd:=Classical.byContradiction λh=>f (Or.inr h)
  by_cases d:zx ls m=0
  ·by_cases r:(zd ls a).free+(zd ls b).free=0
   ·exact fin 7 (by omega) (by unfold zS;rw[xe c,xg f,xe d,xe r]) (kX g a b m j l n c.1 c.2 p s 7 (by omega) (Or.inr (Or.inl ⟨d,r,rfl⟩)))
   by_cases i:2147483647<(zd ls a).free+(zd ls b).free
   ·exact fin 2 (by omega) (by unfold zS;rw[xe c,xg f,xe d,xg r,xe i]) (kX g a b m j l n c.1 c.2 p s 2 (by omega) (Or.inr (Or.inr ⟨d,i,rfl⟩)))
   have t:zS ls a b m=0:=by unfold zS;rw[xe c,xg f,xe d,xg r,xg i]
   have u:ZI ls a b m=_:=xe t;rw[t,u];exact Jh g q a b m j l n c.1 c.2 p s d r (by omega)
  exact fin (zx ls m) (by omega) (by unfold zS;rw[xe c,xg f,xg d]) (kX g a b m j l n c.1 c.2 p s _ (by omega) (Or.inl ⟨d,rfl⟩))
 exact fin 4 (by omega) (by unfold zS;rw[xg c]) (FV g a b m j l n c)
theorem Bi(ls:List L)(n c:Nat):Zv ls n c<=9:=by unfold Zv;split<;>(try split)<;>omega
theorem Bp(ls:List L)(n m c:Nat):zU ls n m c<=9:=by have:=eQ ls m;unfold zU;split<;>(try split)<;>(try split)<;>omega
theorem AE(ls:List L)(a b m:Nat):zS ls a b m<=9:=by
 have:=eQ ls m
 unfold zS;split
 ·split
  ·omega
  split
  ·split
   ·omega
   split<;>omega
  omega
 omega
theorem LJ(h:PI os rj Z w S td ls)(a b c:Nat)(q:a<=2147483647)(r:b<=2147483647)(s:c<=2147483647):Calls prog 62 #[.pointer (some ⟨S,0,none⟩),.iface 149 (.agg #[.int .i64 a,.int .i64 b,.int .i64 c])] w λe w'=>Kp Z w w'/\e=.returned (.tuple #[.slice none 0 0,.int .i64 (zU ls a b c:Int)])/\PI os rj (Zn Z w) w' S td (aA ls a b c):=by
 have d:=TZ w (Obj.cells #[.int .i64 a,.int .i64 b,.int .i64 c] 149);obtain⟨M,v,p,i,j,f⟩:=h;have HD:=zb (Kb (Z:=Z) ⟨M,v,p,i,j.below d,f⟩ a b c q r s);generalize aA ls a b c=ls' at HD ⊢;generalize zU ls a b c=rc at HD ⊢;clear j;have l:=yM.o;have m:=mX.o;have n:=sH.o;go_enter func62,ntmps62;go_wp2_with fail;refine HD.mono ?_
 rintro e w1 ⟨t,rfl,g⟩;go_wp2_with fail;go_ret2;exact⟨Kp.before d (t.mono (λk h=>Or.inl h)),rfl,g.mono (bN w _)⟩
theorem LG(h:PI os rj Z w S td ls)(a b c:Nat)(r:a<=2147483647)(s:b<=2147483647)(t:c<=2147483647):Calls prog 62 #[.pointer (some ⟨S,0,none⟩),.iface 152 (.agg #[.int .i64 a,.int .i64 b,.int .i64 c])] w λe w'=>Kp Z w w'/\e=.returned (.tuple #[.slice none 0 0,.int .i64 (zS ls a b c:Int)])/\PI os rj (Zn Z w) w' S td (ZI ls a b c):=by
 have d:=TZ w (Obj.cells #[.int .i64 a,.int .i64 b,.int .i64 c] 152);obtain⟨M,v,q,i,j,f⟩:=h;have HD:=zb (Jg (Z:=Z) ⟨M,v,q,i,j.below d,f⟩ a b c r s t);generalize ZI ls a b c=ls' at HD ⊢;generalize zS ls a b c=rc at HD ⊢;clear j;have l:=yH.o;have m:=mM.o;have n:=rT.o;have p:=rS.o;go_enter func62,ntmps62;go_wp2_with fail;refine HD.mono ?_
 rintro e w1 ⟨u,rfl,g⟩;go_wp2_with fail;go_ret2;exact⟨Kp.before d (u.mono (λk h=>Or.inl h)),rfl,g.mono (bN w _)⟩
theorem LI(h:PI os rj Z w S td ls)(a b:Nat)(y:a<=2147483647)(z:b<=2147483647):Calls prog 62 #[.pointer (some ⟨S,0,none⟩),.iface 168 (.agg #[.int .i64 a,.int .i64 b])] w λe w'=>Kp Z w w'/\e=.returned (.tuple #[.slice none 0 0,.int .i64 (Zv ls a b:Int)])/\PI os rj (Zn Z w) w' S td (Zw ls a b):=by
 have g:=TZ w (Obj.cells #[.int .i64 a,.int .i64 b] 168);obtain⟨M,v,x,n,p,l⟩:=h;have HD:=zb (JR (Z:=Z) ⟨M,v,x,n,p.below g,l⟩ a b y z);generalize Zw ls a b=ls' at HD ⊢;generalize Zv ls a b=rc at HD ⊢;clear p;have q:=yJ.o;have r:=mV.o;have s:=sE.o;have t:=sB.o;have i:=sC.o;have d:=oO.o;have j:=uT.o;have f:=oP.o;have c:=mW.o;have u:=sD.o;go_enter func62,ntmps62;go_wp2_with fail;refine HD.mono ?_
 rintro e w1 ⟨A,rfl,m⟩;go_wp2_with fail;go_ret2;exact⟨Kp.before g (A.mono (λk h=>Or.inl h)),rfl,m.mono (bN w _)⟩
def aH(rj:List (Nat×Nat))(td:Nat)(ls:List L):Pl.Cmd->List UInt8×Nat×List L
 | .ok (3,[a,b,c])=>([UInt8.ofNat (zU ls a b c)],td,aA ls a b c)
 | .ok (4,[a,b,c])=>([UInt8.ofNat (zS ls a b c)],td,ZI ls a b c)
 | .ok (10,[a,b])=>([UInt8.ofNat (Zv ls a b)],td,Zw ls a b)
 |c=>Zi rj td ls c
theorem Kh{c:Pl.Cmd}(h:GS c)(td:Nat)(ls:List L):aH rj td ls c=Zi rj td ls c:=by
 cases c with
 |error e=>rfl
 |ok p=>
  obtain⟨n,a⟩:=p;rcases h n a rfl with rfl|rfl|rfl|rfl<;>rfl
def uL(c:Pl.Cmd):Prop:=∀n ns,c=.ok (n,ns)->n=1\/n=2\/n=11\/n=12\/n=3\/n=4\/n=10
theorem Jv{l:List UInt8}(h:uL (Pl.cmd l)):GS (Pl.cmd l)\/∃c d,ZR l=some (c,d)/\Pl.mays (Pl.kindsL c) d=true/\Pl.cmd l=.ok (c,d)/\(c=3\/c=4\/c=10)/\d.length=(Pl.kindsL c).length/\∀n∈d,n<9223372036854775808:=by
 have a:=dL l
 cases b:ZR l with
 |none=>left;intro n d e;rw[b]at a;rw[a]at e;cases e
 |some p=>
  obtain⟨c,d⟩:=p;rw[b]at a;obtain⟨k,m,f,g⟩:=bK b
  cases i:Pl.mays (Pl.kindsL c) d with
  |false=>
   simp only[i,XA,Yc]at a;left;intro n d e;rw[a]at e;cases e
  |true=>
   simp only[i,YC]at a;have q:=h c d a;by_cases j:c=3\/c=4\/c=10
   ·right;exact⟨c,d,rfl,i,a,j,f,g⟩
   left;intro n r e;rw[a]at e;cases e;omega
theorem Fx(h:Good os ls)(c:Pl.Cmd):Good os (aH rj td ls c).2.2:=by
 have j:∀(ls:List L),Good os ls->∀(i n:Nat),i<ls.length->Good os (ls.set i (zF (ls.getD i L0) n)):=λls h i n f=>h.set f rfl rfl rfl
 cases c with
 |error e=>exact h
 |ok p=>
  obtain⟨n,v⟩:=p;unfold aH;split
  ·rename_i a b c m;show Good os (aA ls a b c);unfold aA;by_cases d:zU ls a b c=0
   ·rw[xe d];unfold zU at d;by_cases f:UB a ls<ls.length
    ·rw[xe f]at d;by_cases k:zx ls b=0
     ·refine(j ls h _ c f).snoc ?_ (by simp[UJ]) rfl
      intro i g;rw[xd]at g;have l:=Z8 k i g;by_cases e:i=UB a ls
      ·subst e;rw[Za f];exact l
      rw[zQ e];exact l
     rw[xg k]at d;exact absurd d k
    rw[xg f]at d;omega
   rw[xg d];exact h
  ·rename_i a b c m;show Good os (ZI ls a b c);unfold ZI;by_cases d:zS ls a b c=0
   ·rw[xe d];unfold zS at d;by_cases f:UB a ls<ls.length/\UB b ls<ls.length
    ·rw[xe f]at d;by_cases q:UB a ls=UB b ls\/(zd ls a).gd≠(zd ls b).gd
     ·rw[xe q]at d;omega
     rw[xg q]at d;have r:UB b ls≠UB a ls:=λe=>q (Or.inl e.symm)
     by_cases k:zx ls c=0
     ·have u:=j ls h _ (zd ls a).free f.1;have t:=j _ u (UB b ls) (zd ls b).free (by rw[xd];exact f.2);rw[zQ r]at t;refine t.snoc ?_ (by simp[UJ]) rfl
      intro i g;rw[xd,xd]at g;have l:=Z8 k i g;by_cases e:i=UB b ls
      ·subst e;rw[Za (by rw[xd];exact f.2)];exact l
      rw[zQ e];by_cases s:i=UB a ls
      ·subst s;rw[Za f.1];exact l
      rw[zQ s];exact l
     rw[xg k]at d;exact absurd d k
    rw[xg f]at d;omega
   rw[xg d];exact h
  ·rename_i a b m;show Good os (Zw ls a b);unfold Zw;by_cases d:Zv ls a b=0
   ·rw[xe d];unfold Zv at d;by_cases f:UB a ls<ls.length
    ·exact h.set f rfl rfl rfl
    rw[xg f]at d;omega
   rw[xg d];exact h
  exact Fw h _
