import Derived.Test.YtgcedalggnmooaaGreatDoorOpAX
import Derived.Test.YtgcedalggnmooaaGreatDoorDd3X
import Derived.Test.YtgcedalggnmooaaGreatDoorStpX
set_option linter.all false
set_option maxRecDepth 100000
set_option maxHeartbeats 6400000
namespace Go.Proofs.YtgcedalggnmooaaGreatDoor
open Tryz
variable {N N' Q R b d f n td:Nat}{c l:List UInt8}
def gM(h:Wa l=some (c,n)):l.take n=bM c/\n=(bM c).length/\n<=l.length/\0<n/\c.length<=n/\n<=c.length+13:=by
 unfold Wa at h;split at h
 ·cases h
 next i=>
 split at h
 ·cases h
 next j=>
 split at h
 ·cases h
 next k=>
 split at h
 ·next m=>
  simp only[XC,XY]at h;obtain⟨rfl,rfl⟩:=h;have r:=Pl.snd_le l;have q:=Pl.snd_le9 l;have g:l=Pl.num (Pl.fst l)++l.drop (Pl.snd l):=xQ (by unfold WF;rw[xg i]);generalize Pl.snd l=s at *;generalize Pl.fst l=f at *;rw[XM]at j k;have p:(Pl.num f).length=s:=by
   have:=YK List.length g
   rw[xc,XM]at this;omega
  have a:((l.drop s).take f).length=f:=by rw[XL,XM];omega
  have d:l.take s=Pl.num f:=by
   rw[g,List.take_append_of_le_length (by omega),Xy (by omega)]
  have b:l.take (s+f)=Pl.num f++(l.drop s).take f:=by rw[xcz,d]
  have t:=eI (l.take (s+f));have e:bM ((l.drop s).take f)=l.take (s+f+4):=by
   unfold bM;rw[a,<-b,<-m,<-xcz]
  refine⟨e.symm,?_,by omega,by omega,by omega,by omega⟩;rw[e,XL];omega
 cases h
def Jf(l:List UInt8):Wb l=(Wa l).map (λ_=>(Pl.snd l,Pl.fst l)):=by
 have f:=Pl.snd_le l;unfold Wb Wa;simp only[XM];by_cases b:Pl.snd l=0
 ·rw[xh (Or.inl b),xh b];rfl
 rw[xg b];by_cases c:l.length-Pl.snd l<Pl.fst l
 ·rw[xh c,xh (by omega)];rfl
 rw[xg c];by_cases d:l.length-(Pl.snd l+Pl.fst l)<4
 ·rw[xh d,xh (by omega)];rfl
 rw[xg d,xg (by omega)];by_cases a:(l.drop (Pl.snd l+Pl.fst l)).take 4=nU (l.take (Pl.snd l+Pl.fst l))
 ·rw[xh a,xh a.symm];rfl
 rw[xg a,xg (λe=>a e.symm)];rfl
def Jd{s:ByteArray}(h:Wa s.data.toList=none):Qr s=.tuple #[.string ⟨#[]⟩,.int .i64 0]:=by
 unfold Qr;rw[Jf,h];rfl
def Je{s:ByteArray}(h:Wa s.data.toList=some (c,n)):Qr s=.tuple #[.string ⟨c.toArray⟩,.int .i64 ((n:Nat):Int)]:=by
 unfold Qr;rw[Jf,h];unfold Wa at h;split at h
 ·cases h
 split at h
 ·cases h
 split at h
 ·cases h
 split at h
 ·simp only[XC,XY]at h;obtain⟨rfl,rfl⟩:=h;simp only[xag];congr 3
  ·congr 1
   apply xau
   apply Array.ext'
   rw[pV,xci]
 cases h
structure Vg(l:List UInt8)(s:Sv):Prop where
 lg:s.lg=l.take s.lg.length
 le:s.lg.length<=l.length
 good:Good s.os s.ls
 sml:Vt s.os s.ls
def Kq(l:List UInt8):Vg l Ml:=⟨rfl,Nat.zero_le _,wL,Ll⟩
variable {s sf:Sv}
def xL(h:Vg l s)(g:∀l∈s.ls,L.Ok l)(b:s.ls.length<=30){c:List UInt8}{n:Nat}(t:Wa (l.drop s.lg.length)=some (c,n)):Vg l (ZX s ⟨c.toArray⟩)/\((ZX s ⟨c.toArray⟩).lg.length=s.lg.length\/(ZX s ⟨c.toArray⟩).lg.length=s.lg.length+n):=by
 obtain⟨m,f,p,w,x,y⟩:=gM t;rw[XM]at p;have u:=h.le;have a:s.lg++bM c=l.take (s.lg.length+n):=by rw[xcz,<-h.lg,m]
 unfold ZX;split
 ·next q=>
  obtain⟨d,r⟩:=q;simp only;split
  ·next td ls os rj v=>
   have k:=(lV v).1;rw[d,xaX,XO,Yz]at a;refine⟨⟨?_,?_,k.good,k.sml⟩,Or.inr ?_⟩
   ·show bM c=l.take (bM c).length;rw[<-f];exact a
   ·show(bM c).length<=_;omega
   show(bM c).length=_;rw[d,<-f];simp
  exact⟨h,Or.inl rfl⟩
 unfold aO;have i:=lF (rj:=s.rj) (td:=s.td) h.good b c;have j:=BU (rj:=s.rj) (td:=s.td) h.sml g c;have e:(⟨c.toArray⟩:ByteArray).data.toList=c:=by simp
 simp only[e];unfold Wp;simp only[e];split
 ·refine⟨⟨?_,?_,i,j⟩,Or.inr ?_⟩
  ·show s.lg++bM c=l.take (s.lg++bM c).length;rw[xc,<-f];exact a
  ·show(s.lg++bM c).length<=_;rw[xc];omega
  show(s.lg++bM c).length=_;rw[xc];omega
 exact⟨⟨h.lg,h.le,i,j⟩,Or.inl rfl⟩
def QV(l:List UInt8)(f:l.length<=4194304):Ud l (Vg l):={
 small:=λs h=>xj h.le (xj f (by omega))
 step:=λs c n h b a g d=>by
  obtain⟨j,k,e,m,p,q⟩:=gM d;rw[XM]at e;exact⟨by omega,λ_ _ td ls os rj i=>(lV i).1.good,(xL h b a d).1⟩}
def Rx(h:Wa (l.drop s.lg.length)=none):∀f,WI f l s=s
 |0=>rfl
 |f+1=>by
  rw[WI,h];split<;>rfl
def AG{k:Nat}(h:Wa (l.drop k)=some (c,n)):k<l.length:=by
 have:=(gM h).2.2.1
 have:=(gM h).2.2.2.1
 rw[XM]at *;omega
def Lf(h:Wa (l.drop s.lg.length)=some (c,n))(a:(ZX s ⟨c.toArray⟩).lg.length=s.lg.length)(f:Nat):WI (f+1) l s=ZX s ⟨c.toArray⟩:=by
 rw[WI,xh (AG h),h];simp only;rw[xh a]
def Uu(h:Wa (l.drop s.lg.length)=some (c,n))(a:(ZX s ⟨c.toArray⟩).lg.length≠s.lg.length)(f:Nat):WI (f+1) l s=WI f l (ZX s ⟨c.toArray⟩):=by
 rw[WI,xh (AG h),h];simp only;rw[xg a]
variable {ls:List L}{os:List O}{rj:List (Nat×Nat)}
def DW(g:s.lg=[])(a:zE c=some (td,ls,os,rj)):ZX s ⟨c.toArray⟩=⟨td,os,rj,ls,bM c⟩:=by
 have e:(⟨c.toArray⟩:ByteArray).data.toList=c:=by simp
 have d:c.getD 0 0=13:=by
  cases c with
  |nil=>cases a
  |cons b t=>
   by_cases f:b=13
   ·rw[f];rfl
   exfalso
   rw[zE,xg f]at a
   cases a
 unfold ZX;simp only[e];rw[xh ⟨g,d⟩,a]
def Lx(h:¬(s.lg=[]/\(zE c).isSome))(f:∃d b,Pl.cmd c=.ok (d,b)/\d<=12):ZX s ⟨c.toArray⟩=aO s ⟨c.toArray⟩:=by
 have e:(⟨c.toArray⟩:ByteArray).data.toList=c:=by simp
 obtain⟨d,b,hd,g⟩:=f;unfold ZX;simp only[e];rw[xg];rintro⟨_,a⟩;have:=gH hd;rw[a]at this;simp at this;omega
def ID(a:Pl.cmd c=.error b):b=1\/b=2:=by
 have h:=dL c;rw[a]at h;split at h
 ·injection h with h;exact Or.inl h
 split at h
 ·cases h
 injection h with h;exact Or.inr h
def Hq(a:Pl.cmd c=.error b):aO s ⟨c.toArray⟩=s:=by
 have e:(⟨c.toArray⟩:ByteArray).data.toList=c:=by simp
 unfold aO Wp qX;simp only[e,a];have d:zO s.rj s.td s.os s.ls (.error b)=([UInt8.ofNat b],s.td,s.os,s.rj,s.ls):=rfl;rw[d];rcases ID a with rfl|rfl<;>rfl
variable {Qs ns:List Nat}
def Oy(h:d=11\/d=12):(zO rj td os ls (.ok (d,ns))).2=(td,os,rj,ls):=by
 rcases h with rfl|rfl
 ·rcases ns with _|⟨a,_|⟨b,t⟩⟩
  ·rfl
  ·show(zO rj td os ls (.ok (11,[a]))).2=_;simp only[zO,ZL,aI,aE];split<;>rfl
  rfl
 rcases ns with _|⟨a,_|⟨b,_|⟨c,t⟩⟩⟩<;>rfl
def OV(b:Pl.cmd c=.ok (d,ns)):d<=12:=by
 rcases lT c with h|⟨g,f,_,_,a,e,_⟩
 ·rcases h d ns b with rfl|rfl|rfl|rfl|rfl|rfl|rfl|rfl|rfl|rfl<;>omega
 rw[b]at a;injection a with a
 injection a with h1 h2
 omega
def Ow(b:Pl.cmd c=.ok (d,ns))(hd:11<=d):aO s ⟨c.toArray⟩=s:=by
 have e:(⟨c.toArray⟩:ByteArray).data.toList=c:=by simp
 have f:=OV b;have a:=gH b;unfold aO Wp qX;simp only[e,b,a];rw[show decide (d<=10)=false from xy (by omega),xaJ];rw[Oy (by omega)];rfl
def Lw(b:Pl.cmd c=.ok (d,ns))(hd:d<=10):(aO s ⟨c.toArray⟩).lg=if (zO s.rj s.td s.os s.ls (Pl.cmd c)).1.getD 0 1=0 then s.lg++bM c else s.lg:=by
 have e:(⟨c.toArray⟩:ByteArray).data.toList=c:=by simp
 have a:=gH b;unfold aO Wp qX;simp only[e,a];rw[show decide (d<=10)=true from Xt hd,xbz];simp only[Yi]
open Go.RowKit
def Oj(w:World):RI [] [] (λk=>w.heap.size<=k) (w.alloc (.cells #[.int .i64 0,.slice none 0 0,.slice none 0 0,.slice none 0 0,.string ⟨#[]⟩] 42)) w.heap.size 0 ⟨#[]⟩ []:=by
 refine⟨.slice none 0 0,[],⟨.slice none 0 0,[],.slice none 0 0,[],[]⟩,⟨xp w _,Xx _ _ _ _,rfl,⟨rfl,rfl⟩,⟨Xx _ _ _ _,rfl,λi h=>absurd h (by simp),⟨Xx _ _ _ _,rfl,λi h=>absurd h (by simp),(λg h=>by cases h)⟩⟩,by omega,λl h=>absurd h (by simp),by simp,IX,⟨by simp,by simp,by simp⟩⟩,xe _,(λg h=>by cases h),λg h=>?_⟩;rcases h with h|⟨i,h,_⟩|h|⟨i,h,_⟩
 ·cases h
 ·exact absurd h (by simp)
 ·cases h
 exact absurd h (by simp)
variable {Z Z0:Nat->Prop}{log rec rec':ByteArray}{w w' w0 w1 w2 wr:World}
def RI.good(h:RI os rj Z w R td rec ls):(∀l∈ls,L.Ok l)/\ls.length<=30/\R<w.heap.size/\Z R/\w.cell? ⟨R,4,none⟩=some (.string rec)/\w.frozen? ⟨R,4,none⟩=false:=by
 obtain⟨v,c,ro,a,b,d,e⟩:=h;exact⟨a.ok,a.room,zc a.store,b,a.c4,ze a.store 4⟩
def RI.rec4(h:RI os rj Z w R td rec ls)(a:ByteArray):RI os rj Z (w.setCell ⟨R,4,none⟩ (.string a)) R td a ls:=by
 obtain⟨v,b,ro,c,d,e,f⟩:=h;exact⟨v,b,ro,c.recs _,d,e,f⟩
structure DoI(log:ByteArray)(w:World)(sf:Sv)(wr:World)(R:Nat)(s:Sv)(f:Nat)(rec:ByteArray):Prop where
 ri:RI s.os s.rj (λk=>w.heap.size<=k) wr R s.td rec s.ls
 bel:Below w.heap.size w wr
 ow:Vg log.data.toList s
 rz:rec.size<=14*s.lg.length
 fuel:log.size-s.lg.length<=f
 fin:WI f log.data.toList s=sf
def UY(log:ByteArray)(w:World)(sf:Sv)(e:Ending)(w':World):Prop:=∃R,e=.returned (.tuple #[.pointer (some ⟨R,0,none⟩),.int .i64 ((sf.lg.length:Nat):Int)])/\Below w.heap.size w w'/\RI sf.os sf.rj (λk=>w.heap.size<=k) w' R sf.td (log.extract 0 sf.lg.length) sf.ls/\Vg log.data.toList sf
def Uf(a:Below w.heap.size w wr)(b:Kp (λk=>w.heap.size<=k) wr w'):Below w.heap.size w w' :=
 ⟨b.os.trans a.os,b.tape.trans a.tape,b.output.trans a.output,xj a.size b.size,λk c=>(b.block k (by have:=a.size;omega) (by omega)).trans (a.block k c)⟩
def DoI.done(h:DoI log w sf wr R s f rec){w1:World}(a:Below wr.heap.size wr w1)(b:s=sf):UY log w sf (.returned (.tuple #[.pointer (some ⟨R,0,none⟩),.int .i64 ((s.lg.length:Nat):Int)])) (w1.setCell ⟨R,4,none⟩ (.string (log.extract 0 s.lg.length))):=by
 subst b;have c:=(h.ri.good).2.2.2.1;exact⟨R,rfl,(h.bel.trans (a.mono h.bel.size)).setCell (p:=⟨R,4,none⟩) c _,(h.ri.below a).rec4 _,h.ow⟩
def Ly(h:¬(s.lg=[]/\(zE c).isSome=true))(d:Pl.cmd c=.error b):ZX s ⟨c.toArray⟩=s:=by
 have e:(⟨c.toArray⟩:ByteArray).data.toList=c:=by simp
 unfold ZX;simp only[e];split
 ·next a=>
  split
  ·next f=>exact absurd ⟨a.1,by rw[f];rfl⟩ h
  rfl
 exact Hq d
def DoI.stop(h:DoI log w sf wr R s f rec){c:List UInt8}{n:Nat}(d:Wa (log.data.toList.drop s.lg.length)=some (c,n))(b:ZX s ⟨c.toArray⟩=s):s=sf:=by
 have g:=AG d;have e:=h.fuel;have i:log.data.toList.length=log.size:=by simp
 obtain⟨a,rfl⟩:∃a,f=a+1:=⟨f-1,by omega⟩
 have:=Lf d (by rw[b]) a
 rw[h.fin,b]at this;exact this.symm
def DoI.next{s':Sv}{g:Nat}(h:DoI log w sf wr R s f rec){c:List UInt8}{n:Nat}(b:Wa (log.data.toList.drop s.lg.length)=some (c,n))(e:s'=ZX s ⟨c.toArray⟩)(p:s'.lg.length=s.lg.length+n)(d:RI s'.os s'.rj (λk=>w.heap.size<=k) w' g s'.td rec' s'.ls)(l:Below w.heap.size w w')(j:rec'.size<=rec.size+(c.length+13)):∃a,DoI log w sf w' g s' a rec':=by
 subst e;have q:=AG b;have m:=h.fuel;have z:log.data.toList.length=log.size:=by simp
 obtain⟨r,t,u,v,x,y⟩:=gM b;obtain⟨a,rfl⟩:∃a,f=a+1:=⟨f-1,by omega⟩
 have i:=h.ri.good;refine⟨a,d,l,(xL h.ow i.1 i.2.1 b).1,?_,by omega,?_⟩
 ·have:=h.rz;omega
 rw[<-h.fin,Uu b (by omega)]
def DoI.last{s':Sv}(h:DoI log w sf wr R s f rec){c:List UInt8}{n:Nat}(e:Wa (log.data.toList.drop s.lg.length)=some (c,n))(g:s'=ZX s ⟨c.toArray⟩)(a:s'.lg.length=s.lg.length)(b:RI s'.os s'.rj (λk=>w.heap.size<=k) w' R s'.td rec' s'.ls)(l:Below w.heap.size w w'):UY log w sf (.returned (.tuple #[.pointer (some ⟨R,0,none⟩),.int .i64 ((s.lg.length:Nat):Int)])) (w'.setCell ⟨R,4,none⟩ (.string (log.extract 0 s.lg.length))):=by
 subst g;have q:=AG e;have m:=h.fuel;have t:log.data.toList.length=log.size:=by simp
 obtain⟨d,rfl⟩:∃d,f=d+1:=⟨f-1,by omega⟩
 have j:=h.ri.good;have i:=Lf e a d;rw[h.fin]at i;subst i;have r:=b.good.2.2.2.1;rw[<-a];exact⟨R,rfl,l.setCell (p:=⟨R,4,none⟩) r _,b.rec4 _,(xL h.ow j.1 j.2.1 e).1⟩
structure InvS(Z0:Nat->Prop)(w0 w:World)(Q N:Nat):Prop where
 old:Kp Z0 w0 w
 two:∀k,Zn Z0 w0 k->4<=k
 gl:Gl w
 q:Zn Z0 w0 Q
 both:∃Lb R Zp Zr td ls os rj rec,w.heap[Q]?=some (.cells #[.pointer (some ⟨Lb,0,none⟩),.pointer (some ⟨R,0,none⟩)] 46 (0,0))/\PL rec.data.toList os rj Zp w Lb td ls/\RI os rj Zr w R td rec ls /\
  (∀k,Zp k->Zn Z0 w0 k/\k<w.heap.size/\k≠Q/\¬Zr k)/\(∀k,Zr k->Zn Z0 w0 k/\k<w.heap.size/\k≠Q)/\rec.size<=N/\Good os ls/\Vt os ls
def VC(k:Nat):Prop:=False
def Kp.bel(h:Kp VC w w'):Below w.heap.size w w':=⟨h.os,h.tape,h.output,h.size,λk a=>h.block k a (λq=>q)⟩
def InvS.below{f:Nat->Prop}{Q N:Nat}{i w w':World}(h:InvS f i w Q N)(b:Below w.heap.size w w'):InvS f i w' Q N:=by
 obtain⟨j,R,l,m,td,ls,os,rj,e,g,n,p,c,d,r⟩:=h.both;have s:=b.size;exact⟨h.old.after b,h.two,h.gl.below b,h.q,j,R,l,m,td,ls,os,rj,e,(b.block Q (zc g)).trans g,n.below b,p.below b,
  λk a=>⟨(c k a).1,by have:=(c k a).2.1;omega,(c k a).2.2⟩,λk a=>⟨(d k a).1,by have:=(d k a).2.1;omega,(d k a).2.2⟩,r⟩
def InvS.step{v l:Nat}{p w5:World}{m i:Nat->Prop}{e:List L}{os':List O}(F:Kp Z0 w0 w2)(c:∀k,Zn Z0 w0 k->4<=k)(A:Gl w2)(G:Zn Z0 w0 Q)
  (E:w2.heap[Q]?=some (.cells #[.pointer (some ⟨v,0,none⟩),.pointer (some ⟨R,0,none⟩)] 46 (0,0)))
  (g:∀k,m k->Zn Z0 w0 k/\k<w2.heap.size/\k≠Q/\¬i k) (j:∀k,i k->Zn Z0 w0 k/\k<w2.heap.size/\k≠Q)
  (f:Kp m w2 p) (C:PL rec'.data.toList os' rj (Zn m w2) p v l e) (b:Kp i p w5) (D:RI os' rj (Zn i p) w5 R l rec' e) (s:rec'.size<=N+n) (B:Good os' e/\Vt os' e):InvS Z0 w0 w5 Q (N+n):=by
 have x:=zc E;have y:¬m Q:=λh=>(g Q h).2.2.1 rfl
 have z:¬i Q:=λh=>(j Q h).2.2 rfl
 have H:=F.size;have J:=f.size;have K:=b.size;have q:=(f.block Q x y).trans E;have w:=(b.block Q (zc q) z).trans q;have t:∀k,k<4->¬m k:=λk a h=>by have:=c k (g k h).1;omega
 have u:∀k,k<4->¬i k:=λk a h=>by have:=c k (j k h).1;omega
 refine⟨(F.trans (f.mono (λk h=>(g k h).1))).trans (b.mono (λk h=>(j k h).1)),c,(A.kp f (t _ (by omega)) (t _ (by omega))).kp b (u _ (by omega)) (u _ (by omega)),G,
  v,R,λk=>Zn m w2 k/\k<p.heap.size,λk=>Zn i p k/\k<w5.heap.size,l,e,os',rj,rec',w,?_,D.bound,?_,?_,s,B⟩
 ·refine C.bound.congr (λk a=>b.block k a.2 (λd=>?_));rcases a.1 with h|h
  ·exact(g k h).2.2.2 d
  have:=(j k d).2.1;omega
 ·rintro k ⟨a,r⟩;refine⟨?_,by omega,?_,?_⟩
  ·rcases a with h|h
   ·exact(g k h).1
   exact Or.inr (by omega)
  ·rcases a with h|h
   ·exact(g k h).2.2.1
   omega
  rintro⟨d,_⟩;rcases a with h|h
  ·rcases d with d|d
   ·exact(g k h).2.2.2 d
   have:=(g k h).2.1;omega
  rcases d with d|d
  ·have:=(j k d).2.1;omega
  omega
 rintro k ⟨a,r⟩;refine⟨?_,r,?_⟩
 ·rcases a with h|h
  ·exact(j k h).1
  exact Or.inr (by omega)
 rcases a with h|h
 ·exact(j k h).2.2
 omega
def InvS.grow(h:InvS Z0 w0 w Q N)(hN:N<=N'):InvS Z0 w0 w Q N':=by
 obtain⟨a,c,d,e,f,R,g,i,td,ls,os,rj,b,j,k,l,m,n,p,q⟩:=h;exact⟨a,c,d,e,f,R,g,i,td,ls,os,rj,b,j,k,l,m,n,xj p hN,q⟩
def FP(w:World)(e:Gl w):InvS VC w (aQ w) (w.heap.size+1+1+1+1+1+1) 0:=by
 have d:Below w.heap.size w (aQ w):=by
  unfold aQ;exact(((((((xm _ _).alloc (xe _) _).alloc (by simp) _).alloc (by first|(simp;done)|(simp;omega)) _).alloc (by first|(simp;done)|(simp;omega)) _).alloc (by first|(simp;done)|(simp;omega)) _).alloc (by first|(simp;done)|(simp;omega)) _).alloc (by first|(simp;done)|(simp;omega)) _
 have v:(aQ w).heap.size=w.heap.size+7:=by unfold aQ;simp
 have f:(aQ w).heap[w.heap.size]?=some (.map #[] 0):=by
  unfold aQ;exact zx (zx (zx (zx (zx (zx (xp w _) (by first|(simp;done)|(simp;omega))) (by first|(simp;done)|(simp;omega))) (by first|(simp;done)|(simp;omega))) (by first|(simp;done)|(simp;omega))) (by first|(simp;done)|(simp;omega))) (by first|(simp;done)|(simp;omega))
 have j:(aQ w).heap[w.heap.size+1]?=some (.map #[] 0):=by
  unfold aQ;exact zx (zx (zx (zx (zx (zV _ _ _ (by first|(simp;done)|(simp;omega))) (by first|(simp;done)|(simp;omega))) (by first|(simp;done)|(simp;omega))) (by first|(simp;done)|(simp;omega))) (by first|(simp;done)|(simp;omega))) (by first|(simp;done)|(simp;omega))
 have m:(aQ w).heap[w.heap.size+2]?=some (.map #[] 0):=by
  unfold aQ;exact zx (zx (zx (zx (zV _ _ _ (by first|(simp;done)|(simp;omega))) (by first|(simp;done)|(simp;omega))) (by first|(simp;done)|(simp;omega))) (by first|(simp;done)|(simp;omega))) (by first|(simp;done)|(simp;omega))
 have p:(aQ w).heap[w.heap.size+3]?=some (.cells #[.int .i64 0,.slice none 0 0,.map (some w.heap.size),.map (some (w.heap.size+1)),.map (some (w.heap.size+1+1))] 117):=by
  unfold aQ;exact zx (zx (zx (zV _ _ _ (by first|(simp;done)|(simp;omega))) (by first|(simp;done)|(simp;omega))) (by first|(simp;done)|(simp;omega))) (by first|(simp;done)|(simp;omega))
 have q:(aQ w).heap[w.heap.size+4]?=some (.cells #[.pointer (some ⟨w.heap.size+1+1+1,0,none⟩),.slice none 0 0] 91):=by
  unfold aQ;exact zx (zx (zV _ _ _ (by first|(simp;done)|(simp;omega))) (by first|(simp;done)|(simp;omega))) (by first|(simp;done)|(simp;omega))
 have r:(aQ w).heap[w.heap.size+5]?=some (.cells #[.int .i64 0,.slice none 0 0,.slice none 0 0,.slice none 0 0,.string ⟨#[]⟩] 42):=by
  unfold aQ;exact zx (zV _ _ _ (by first|(simp;done)|(simp;omega))) (by simp)
 have s:(aQ w).heap[w.heap.size+6]?=some (.cells #[.pointer (some ⟨w.heap.size+1+1+1+1,0,none⟩),.pointer (some ⟨w.heap.size+1+1+1+1+1,0,none⟩)] 46):=by
  unfold aQ;exact zV _ _ _ (by simp)
 generalize aQ w=W at *;have t:PV [] [] W (w.heap.size+1+1+1) ⟨w.heap.size+1+1,w.heap.size,w.heap.size+1⟩ (.slice none 0 0) 0 [] [] []:=⟨p,⟨⟨.map [],cO m,⟨rfl,λa b _ _=>rfl,λx h=>by cases h⟩⟩,⟨by simp,by simp,by simp⟩,⟨.map [],cO f,⟨rfl,λn _=>rfl,λn _=>rfl,λx h=>by cases h⟩⟩,⟨.map [],cO j,⟨rfl,λa b _ _=>rfl,λa b _ _=>rfl⟩⟩,(by show w.heap.size+1+1≠w.heap.size;omega),(by show w.heap.size+1+1≠w.heap.size+1;omega),(by show w.heap.size≠w.heap.size+1;omega)⟩,Xx _ _ _ _,rfl,rfl,λi h=>absurd h (by simp),λi h=>absurd h (by simp),by simp,by omega,λl h=>absurd h (by simp),by simp⟩
 have u:RV [] [] ⟨.slice none 0 0,[],.slice none 0 0,[],[]⟩ W (w.heap.size+1+1+1+1+1) (.slice none 0 0) 0 ⟨#[]⟩ [] []:=⟨r,Xx _ _ _ _,rfl,⟨rfl,rfl⟩,⟨Xx _ _ _ _,rfl,λi h=>absurd h (by simp),⟨Xx _ _ _ _,rfl,λi h=>absurd h (by simp),λg h=>by cases h⟩⟩,by omega,λl h=>absurd h (by simp),by simp,IX,⟨by simp,by simp,by simp⟩⟩
 refine⟨Wo d,λk h=>h.elim False.elim (xj e.2.2),e.below d,Or.inr (by omega),w.heap.size+1+1+1+1,w.heap.size+1+1+1+1+1,λk=>w.heap.size<=k/\k<=w.heap.size+4,λk=>k=w.heap.size+5,0,[],[],[],⟨#[]⟩,s,?_,?_,?_,?_,?_,wL,Ll⟩
 ·refine⟨w.heap.size+1+1+1,λk=>w.heap.size<=k/\k<=w.heap.size+3,.slice none 0 0,q,by omega,λh=>by omega,λk h=>by omega,⟨_,_,_,_,t,⟨by omega,by show _/\_;simp only[];omega,by show _/\_;simp only[];omega,by show _/\_;simp only[];omega,(λg h=>by cases h),(λk h=>absurd h (by simp)),(λk h=>absurd h (by simp))⟩⟩,⟨Xx _ _ _ _,λ_=>rfl⟩,λk h=>by cases h⟩
 ·refine⟨_,_,_,u,rfl,(λg h=>by cases h),λg h=>?_⟩;rcases h with h|⟨i,c,_⟩|h|⟨i,c,_⟩
  ·cases h
  ·exact absurd c (by simp)
  ·cases h
  exact absurd c (by simp)
 ·intro k h;refine⟨Or.inr (by omega),by omega,by omega,by omega⟩
 ·intro k h;refine⟨Or.inr (by omega),by omega,by omega⟩
 exact xe _
def tO(w:World)(a:Gl w):Calls prog 15 #[] w λe w'=>∃Q,e=.returned (.tuple #[.pointer (some ⟨Q,0,none⟩),.bool true])/\InvS VC w w' Q 0:=by
 have b:=@xbT prog;go_enter func15,ntmps15;go_wp2_with (first|(go_at_call 36;go_in)|(go_at_call 49;go_in));go_ret2;exact⟨_,rfl,FP w a⟩
def GV(h:InvS Z0 w0 w Q N)(hN:N<=35184372088832)(x y:Int)(s:ByteArray)(hs:s.size<=4194295):Calls prog 17 #[.pointer (some ⟨Q,0,none⟩),.agg #[.int .i64 1,.int .i64 x,.int .i64 y,.string s]] w λe w'=>e=.returned (.bool true)/\InvS Z0 w0 w' Q (N+(s.size+13)):=by
 have ha:=VE w (.cells #[.int .i64 1,.int .i64 x,.int .i64 y,.string s] 29);have Z:=xp w (.cells #[.int .i64 1,.int .i64 x,.int .i64 y,.string s] 29);obtain⟨C,a6,P,hQ,Lb,R,K,E,td,ls,os,rj,p,a2,a0,a3,f,g,b9,A,b8⟩:=h;have b:Below w.heap.size w (w.alloc (.cells #[.int .i64 1,.int .i64 x,.int .i64 y,.string s] 29)).drew:=ha.drew;have hq:=(b.block Q (zc a2)).trans a2;have b6:=a0.below b;have D:=a3.below b;have M:=P.below b;have X:=C.after b;have h4:∀k,K k->Zn Z0 w0 k/\k<(w.alloc (.cells #[.int .i64 1,.int .i64 x,.int .i64 y,.string s] 29)).drew.heap.size/\k≠Q/\¬E k:=λk n=>⟨(f k n).1,xl (f k n).2.1 b.size,(f k n).2.2⟩
 have h5:∀k,E k->Zn Z0 w0 k/\k<(w.alloc (.cells #[.int .i64 1,.int .i64 x,.int .i64 y,.string s] 29)).drew.heap.size/\k≠Q:=λk n=>⟨(g k n).1,xl (g k n).2.1 b.size,(g k n).2.2⟩
 have a7:¬K w.heap.size:=λh=>Yr _ (f _ h).2.1
 have a8:¬E w.heap.size:=λh=>Yr _ (g _ h).2.1
 have b5:¬K w.heap.size:=a7;have b7:p.data.toList.length=p.size:=by rw[yq];rfl
 have HH:=zb (AK b6 A M s (by omega) (λ_=>by rw[b7];omega));have q0:(w.alloc (.cells #[.int .i64 1,.int .i64 x,.int .i64 y,.string s] 29)).cell? ⟨Q,0,none⟩=some (.pointer (some ⟨Lb,0,none⟩)):=by
  have:(w.alloc (.cells #[.int .i64 1,.int .i64 x,.int .i64 y,.string s] 29)).heap[Q]?=_:=hq
  rw[za this];rfl
 have o3:(w.alloc (.cells #[.int .i64 1,.int .i64 x,.int .i64 y,.string s] 29)).cell? ⟨w.heap.size,3,none⟩=some (.string s):=by rw[za Z];rfl
 have o0:(w.alloc (.cells #[.int .i64 1,.int .i64 x,.int .i64 y,.string s] 29)).cell? ⟨w.heap.size,0,none⟩=some (.int .i64 1):=by rw[za Z];rfl
 go_enter func17,ntmps17;go_wp2_with fail;have q:Q<(w.alloc (.cells #[.int .i64 1,.int .i64 x,.int .i64 y,.string s] 29)).heap.size:=zc hq;have z:w.heap.size<(w.alloc (.cells #[.int .i64 1,.int .i64 x,.int .i64 y,.string s] 29)).heap.size:=by simp
 have b3:Ha (¬K Q):=λh=>(h4 Q h).2.2.1 rfl
 have b4:Ha (¬K w.heap.size):=b5;have a1:(w.alloc (.cells #[.int .i64 1,.int .i64 x,.int .i64 y,.string s] 29)).cell? ⟨Q,1,none⟩=some (.pointer (some ⟨R,0,none⟩)):=by
  have:(w.alloc (.cells #[.int .i64 1,.int .i64 x,.int .i64 y,.string s] 29)).heap[Q]?=_:=hq
  rw[za this];rfl
 go_region_held3 (λw'=>w'.cell? ⟨Q,0,none⟩=some (.pointer (some ⟨Lb,0,none⟩))/\w'.cell? ⟨w.heap.size,3,none⟩=some (.string s)) (go_keep)
  (first
   |(go_at_call 23;refine(HH.o).mono ?_;rintro e F ⟨c,rfl,r⟩;have d:=c.block Q q b3.o;have i:=c.block w.heap.size z b4.o;have m0:=(xo (a:=⟨Q,0,none⟩) d).trans q0;have m1:=(xo (a:=⟨w.heap.size,3,none⟩) i).trans o3;have m2:=(xo (a:=⟨Q,1,none⟩) d).trans a1))
 have j:ls.length<=30:=by obtain⟨v,fs,ro,hP,_⟩:=D;exact hP.room
 have t:RI os rj E F.drew R td p ls:=(D.congr (λk n=>c.block k (h5 k n).2.1 (λhz=>(h4 k hz).2.2.2 n))).below (aA F);have HR:=zb (mM t A (by omega) s hs);have a5:Ha ((w.alloc (.cells #[.int .i64 1,.int .i64 x,.int .i64 y,.string s] 29)).drew.heap.size<=F.heap.size):=c.size;have b1:Ha (Q<F.heap.size):=xl q a5.o;have b2:Ha (w.heap.size<F.heap.size):=xl z a5.o;have S:Ha (¬E Q):=λh=>(h5 Q h).2.2 rfl
 have T:Ha (¬E w.heap.size):=a8;have a9:=zb c;have J:=zb r;have H4:=zb h4;have H5:=zb h5;have W:∀l∈ls,L.Ok l:=by obtain⟨v,fs,ro,hP,_⟩:=D;exact hP.ok
 have G:=zb (And.intro (lF (rj:=rj) (td:=td) A j s.data.toList) (BU (rj:=rj) (td:=td) b8 W s.data.toList));have H:=zb (λm (hx:RecX p s m (zO rj td os ls (Pl.cmd s.data.toList)).1)=>QL hx);generalize zO rj td os ls (Pl.cmd s.data.toList)=st at HR J G H ⊢;obtain⟨sb,c8,os',c7,c6⟩:=st;clear d i q0 o3 o0 a1 t c r h4 h5 f g HH m0 j W;go_wp2_with fail;go_region_held3 (λw'=>w'.cell? ⟨Q,1,none⟩=some (.pointer (some ⟨R,0,none⟩))/\w'.cell? ⟨w.heap.size,3,none⟩=some (.string s)) (go_keep)
  (first
   |(go_at_call 37;refine(HR.o).mono ?_;rintro e w5 ⟨rfl,B,m,u,a4⟩;have c5:=u.size;have b0:=zb (H.o m u);have d:=B.block Q b1.o S.o;have i:=B.block w.heap.size b2.o T.o;have r1:=(xo (a:=⟨Q,1,none⟩) d).trans m2;have r2:=(xo (a:=⟨w.heap.size,3,none⟩) i).trans m1))
 clear d i r1 r2 m1 m2;go_wp2_with fail;go_ret;refine⟨rfl,?_⟩;exact InvS.step X a6 M hQ hq H4.o H5.o a9.o (by rw[<-b0.o];exact J.o) (Kp.before (aA F) (B.mono (λk h=>Or.inl h))) a4 (by omega) G.o
def lS(h:InvS Z0 w0 w Q N)(x y:Int)(s:ByteArray):Calls prog 17 #[.pointer (some ⟨Q,0,none⟩),.agg #[.int .i64 2,.int .i64 x,.int .i64 y,.string s]] w λe w'=>e=.returned (.bool true)/\InvS Z0 w0 w' Q N:=by
 have i:=VE w (.cells #[.int .i64 2,.int .i64 x,.int .i64 y,.string s] 29);have b:=xp w (.cells #[.int .i64 2,.int .i64 x,.int .i64 y,.string s] 29);have m:=zb (h.below i);obtain⟨n,R,t,u,td,ls,os,rj,a,k,c,g,p,q,f,j⟩:=(h.below i).both;have l:=zb (QM c);have A:(w.alloc (.cells #[.int .i64 2,.int .i64 x,.int .i64 y,.string s] 29)).cell? ⟨R,4,none⟩=some (.string a):=by
  obtain⟨v,z,ro,r,_⟩:=g;rw[za r.store];rfl
 have C:(w.alloc (.cells #[.int .i64 2,.int .i64 x,.int .i64 y,.string s] 29)).cell? ⟨Q,0,none⟩=some (.pointer (some ⟨n,0,none⟩)):=by rw[za k];rfl
 have D:(w.alloc (.cells #[.int .i64 2,.int .i64 x,.int .i64 y,.string s] 29)).cell? ⟨Q,1,none⟩=some (.pointer (some ⟨R,0,none⟩)):=by rw[za k];rfl
 have B:(w.alloc (.cells #[.int .i64 2,.int .i64 x,.int .i64 y,.string s] 29)).cell? ⟨w.heap.size,0,none⟩=some (.int .i64 2):=by rw[za b];rfl
 have d:(⟨a.data.toList.toArray⟩:ByteArray)=a:=(Sf a).symm;rw[d]at l;clear h i b k c g p q f j d;go_enter func17,ntmps17;go_wp2_with (first|(go_at_call 38;refine(l.o).mono ?_;rintro e E ⟨rfl,rfl⟩)|fail);go_ret;exact⟨rfl,m.o⟩
def Lr(b:ByteArray)(e:b.size<=4194304)(w:World)(c:0<w.heap.size):Calls prog 59 #[.string b] w (Vw w b):=by
 by_cases d:0<b.size
 ·by_cases a:b[0]=13
  ·exact Ls b e d a w c
  exact BW b (Or.inr ⟨d,a⟩) w
 exact BW b (Or.inl (by omega)) w
def Ty{b:ByteArray}{e:Ending}(h:Vw w b e w'):Below w.heap.size w w'/\∃p x,e=.returned (.tuple #[p,.bool x])/\(x=true↔(zE b.data.toList).isSome=true)/\∀td ls os rj,zE b.data.toList=some (td,ls,os,rj)->∃S,p=.pointer (some ⟨S,0,none⟩)/\RI os rj (λk=>w.heap.size<=k) w' S td ⟨#[]⟩ ls:=by
 unfold Vw at h;refine⟨h.1,?_⟩;have f:=h.2;split at f
 ·next td ls os rj c=>
  obtain⟨S,g,i⟩:=f;refine⟨_,_,g,by rw[c];simp,λl j os' d a=>?_⟩;rw[c]at a;injection a with a
  injection a with e1 a
  injection a with e2 a
  injection a with e3 e4
  subst e1 e2 e3 e4;exact⟨S,rfl,i⟩
 next c=>
 obtain⟨p,g⟩:=f;exact⟨p,false,g,by rw[c];simp,λl j os' d a=>by rw[c]at a;cases a⟩
def Km(log:ByteArray)(e4:log.size<=4194295)(w:World):Calls prog 42 #[.string log] w (UY log w (WI log.size log.data.toList Ml)):=by
 obtain⟨sf,b2⟩:=Ww (WI log.size log.data.toList Ml);rw[<-b2.o];have b4:Ha (∃(R:Nat) (s:Sv) (f:Nat) (W:ByteArray),(Value.pointer (some ⟨w.heap.size,0,none⟩)=.pointer (some ⟨R,0,none⟩))/\Value.int .i64 0=.int .i64 ((s.lg.length:Nat):Int)/\DoI log w sf (w.alloc (.cells #[.int .i64 0,.slice none 0 0,.slice none 0 0,.slice none 0 0,.string ⟨#[]⟩] 42)) R s f W):=⟨w.heap.size,Ml,log.size,⟨#[]⟩,rfl,rfl,Oj w,VE w _,Kq _,Nat.zero_le _,Nat.sub_le _ _,b2.o.symm⟩
 have G:Ha (log.data.toList.length=log.size):=by unfold Ha;simp
 go_enter func42,ntmps42;go_wp2_with fail;go_loopw [4,5,6,7,8,9,10,11,12,13] (λss nn _ _ _ _ _ _ _ _ wr=>∃(R:Nat) (s:Sv) (f:Nat) (W:ByteArray),ss=.pointer (some ⟨R,0,none⟩)/\nn=.int .i64 ((s.lg.length:Nat):Int)/\DoI log w sf wr R s f W) (λ_ nn _ _ _ _ _ _ _ _ _=>log.size-(intOf nn).toNat)
 case atStart=>exact b4.o
 clear b4;obtain⟨R,s,f,W,rfl,rfl,hd⟩:=hrel;have d6:s.lg.length<=log.size:=by have:=hd.ow.le;rw[G.o]at this;exact this
 have v:Ha ((log.extract s.lg.length log.size).data.toList=log.data.toList.drop s.lg.length):=by
  unfold Ha;rw[pV,Xy];rw[XM,G.o];exact xe _
 have F:=zb (Jc (log.extract s.lg.length log.size) (by rw[XR];omega));have HD:=zb hd;obtain⟨m,y⟩:=Ww s.lg.length;have f7:(0:Int)<=(m:Int):=by omega
 have f8:(m:Int)<=(log.size:Int):=by rw[y.o];omega
 obtain⟨e2,e3,hR,e9,b5,b8⟩:=hd.ri.good;rw[<-y.o]at v F ⊢;clear hd d6;go_wp2_with fail;refine(F.o _).mono ?_
 rintro e w1 ⟨i,rfl⟩
 cases hf:Wa (log.data.toList.drop m) with
 |none=>
  have he:s=sf:=(Rx (by rw[<-y.o];exact hf) f).symm.trans HD.o.fin;rw[Jd (by rw[v.o];exact hf)];have a:=zb (HD.o.done i he);rw[<-y.o]at a;obtain⟨_,_,e7,_,c4,f4⟩:=(HD.o.ri.below i).good;clear hf F v b5 b8 i;go_wp2_with fail;go_ret2;exact a.o
 |some cn=>
  obtain⟨c,n⟩:=cn;have b7:Wa (log.data.toList.drop s.lg.length)=some (c,n):=by rw[<-y.o];exact hf
  have u:=zb b7;obtain⟨f1,f2,f3,fp,f5,f6⟩:=gM hf;rw[XM,G.o]at f3;rw[Je (by rw[v.o];exact hf)];have f9:((n:Int)==0)=false:=xr.2 (by omega);obtain⟨C,HC⟩:∃C:ByteArray,Ha (C=⟨c.toArray⟩):=⟨_,rfl⟩
  rw[<-HC.o];have a1:Ha (C.data.toList=c):=by unfold Ha;rw[HC.o]
  have d1:C.size=c.length:=by rw[HC.o];simp[ByteArray.size]
  have d8:0<w1.heap.size:=by have:=i.size;omega
  have d9:w.heap.size<=w1.heap.size:=xj HD.o.bel.size i.size;have b3:=zb (Lr C (by omega) w1 d8);have D:=zb (iD C (by omega));have e5:=zb f1;have E:=zb f2;clear hf b7 f1 f2 F v b5 b8;go_wp2_with fail;refine(b3.o).mono ?_
  intro e w2 hP;obtain⟨a8,p,x,rfl,hx,T⟩:=Ty hP;rw[a1.o]at hx T;have z:Below wr.heap.size wr w2:=i.trans (a8.mono i.size);clear hP b3;by_cases Q:m=0/\x=true
  ·obtain⟨h0,rfl⟩:=Q;obtain⟨⟨td,ls,os,rj⟩,hr⟩:=Option.isSome_iff_exists.1 (hx.1 rfl);obtain⟨S,rfl,c5⟩:=T td ls os rj hr;have c8:s.lg=[]:=XD.1 (by rw[<-y.o];exact h0);have c7:=DW c8 hr;obtain⟨f',A⟩:=HD.o.next (s':=⟨td,os,rj,ls,bM c⟩) u.o c7.symm (by show(bM c).length=_;rw[c8,<-E.o];simp) (c5.mono (λk hk=>xj d9 hk)) (HD.o.bel.trans (z.mono HD.o.bel.size)) (by show 0<=_;omega)
   have a2:=zb A;have a4:Ha (((bM c).length:Int)=(m:Int)+(n:Int)):=by unfold Ha;rw[<-E.o,h0];simp
   have e6:((m:Int)==0)=true:=by rw[h0];rfl
   clear A c5 T hx c7 hr a8 z i;go_wp2_with fail;go_roundw
   case rel=>exact⟨S,⟨td,os,rj,ls,bM c⟩,f',⟨#[]⟩,rfl,by show _=Value.int .i64 ((bM c).length:Int);rw[a4.o];go_num,a2.o⟩
   simp[intOf];omega
  have b1:Ha (¬(s.lg=[]/\(zE c).isSome=true)):=λhh=>Q ⟨by rw[y.o,hh.1];rfl,hx.2 hh.2⟩
  have e1:=z.size;have a9:=zb z;have d4:(m=0/\x=false)\/0<m:=by
   rcases Nat.eq_zero_or_pos m with q|q
   ·refine Or.inl ⟨q,?_⟩
    cases x
    ·rfl
    exact absurd ⟨q,rfl⟩ Q
   exact Or.inr q
  clear Q hx T a8 z i;rcases d4 with ⟨hm,rfl⟩|hm
  all_goals
   first
   |(have d7:((m:Int)==0)=false:=xr.2 (by omega))
   |(have d7:((m:Int)==0)=true:=by rw[hm];rfl)
   clear hm;go_wp2_with fail;refine(D.o _).mono ?_
   intro e w3 B;unfold Ik at B;obtain⟨K,B⟩:=B;rw[a1.o]at B;have l:Below wr.heap.size wr w3:=a9.o.trans (K.mono a9.o.size);have b0:=zb l;obtain⟨_,_,d2,_,c4,f4⟩:=(HD.o.ri.below l).good
   cases j:Pl.cmd c with
   |error b=>
    rw[j]at B;simp only at B;subst B;have he:=HD.o.stop u.o (Ly b1.o j);have a:=zb (HD.o.done l he);rw[<-y.o]at a;have f0:((b:Int) != 0)=true:=by rw[Yh];rcases ID j with rfl|rfl<;>omega
    clear K l D he;go_wp2_with fail;go_ret2;exact a.o
   |ok p=>
    obtain⟨d,ns⟩:=p;rw[j]at B;simp only at B;obtain⟨g,cap,rfl,_⟩:=B;have a7:=zb (Lx b1.o ⟨d,ns,j,OV j⟩);by_cases d0:11<=d
    ·have he:=HD.o.stop u.o (a7.o.trans (Ow j d0));have a:=zb (HD.o.done l he);rw[<-y.o]at a;have d5:decide ((11:Int)<=(d:Int))=true:=Xt (by omega);clear K l D he;go_wp2_with fail;go_ret2;exact a.o
    have d5:decide ((11:Int)<=(d:Int))=false:=xy (by omega);have a3:=zb (mM (HD.o.ri.below l) HD.o.ow.good (by have:=HD.o.rz;have:=HD.o.ow.le;rw[G.o]at this;omega) C (by omega));rw[a1.o]at a3;have a6:=zb (Lw (s:=s) j (by omega));have M:=BP s.rj s.td s.os s.ls c;clear K l D j c4 f4 d2;go_wp2_with fail;refine(a3.o).mono ?_
    rintro e w4 ⟨rfl,b9,a0,c6,Z⟩;have r:RI (aO s ⟨c.toArray⟩).os (aO s ⟨c.toArray⟩).rj (λk=>w.heap.size<=k) w4 R (aO s ⟨c.toArray⟩).td a0 (aO s ⟨c.toArray⟩).ls:=Z.mono (λk hk=>by
     rcases hk with hk|hk
     ·exact hk
     exact xj (xj HD.o.bel.size b0.o.size) hk)
    have H:Below w.heap.size w w4:=Uf (HD.o.bel.trans (b0.o.mono HD.o.bel.size)) b9;have P:=c6.size;rw[d1]at P;obtain⟨_,_,e8,_,c4,f4⟩:=r.good;obtain⟨e0,c9⟩:=Ww ((zO s.rj s.td s.os s.ls (Pl.cmd c)).1);rw[<-c9.o]at M a6 ⊢;clear Z b9 c6 a3
    cases e0 with
    |nil=>exact absurd rfl M
    |cons r0 rt=>
     obtain⟨RB,a5⟩:∃RB:ByteArray,Ha (RB=⟨(r0::rt).toArray⟩):=⟨_,rfl⟩
     rw[<-a5.o];have d3:0<RB.size:=by rw[a5.o];simp[ByteArray.size]
     have J:RB[0]=r0:=by
      have:∀(X:ByteArray) (h:0<X.size),X=⟨(r0::rt).toArray⟩->X[0]=r0:=λX h e=>by subst e;rfl
      exact this RB d3 a5.o
     by_cases N:r0=0
     ·have b6:((RB[0].toNat:Int) != 0)=false:=by rw[J,N];rfl
      have t:(aO s ⟨c.toArray⟩).lg=s.lg++bM c:=by rw[a6.o];exact xh N
      obtain⟨f',A⟩:=HD.o.next (s':=aO s ⟨c.toArray⟩) u.o a7.o.symm (by rw[t,xc,<-E.o]) r H P
      have a2:=zb A;have a4:Ha (((aO s ⟨c.toArray⟩).lg.length:Int)=(m:Int)+(n:Int)):=by unfold Ha;rw[t,xc,<-E.o,y.o];omega
      clear A r H P t J M;go_wp2_with fail;go_roundw
      case rel=>exact⟨R,aO s ⟨c.toArray⟩,f',a0,rfl,by rw[a4.o],a2.o⟩
      simp[intOf];omega
     have b6:((RB[0].toNat:Int) != 0)=true:=by
      rw[Yh,J];intro e;exact N (ya.1 (by have:=Int.ofNat.inj e;exact this))
     have t:(aO s ⟨c.toArray⟩).lg=s.lg:=by rw[a6.o];exact xg N
     have a:=zb (HD.o.last u.o a7.o.symm (by rw[t]) r H);rw[<-y.o]at a;clear r H P t J M;go_wp2_with fail;go_ret2;exact a.o
def GU(h:InvS Z0 w0 w Q N)(x y:Int)(s:ByteArray):Calls prog 17 #[.pointer (some ⟨Q,0,none⟩),.agg #[.int .i64 3,.int .i64 x,.int .i64 y,.string s]] w λe w'=>e=.returned (.bool true)/\InvS Z0 w0 w' Q 100000:=by
 have ha:=VE w (.cells #[.int .i64 3,.int .i64 x,.int .i64 y,.string s] 29);have F:=xp w (.cells #[.int .i64 3,.int .i64 x,.int .i64 y,.string s] 29);have hI:=h.below ha;obtain⟨j,u,D,hQ,Z,R,Zp,Zr,td,ls,os,rj,a0,S,G,r,C,M,T,b,c⟩:=hI;have W:=zb (Ap G b c);have q0:(w.alloc (.cells #[.int .i64 3,.int .i64 x,.int .i64 y,.string s] 29)).cell? ⟨Q,0,none⟩=some (.pointer (some ⟨Z,0,none⟩)):=by rw[za S];rfl
 have o0:(w.alloc (.cells #[.int .i64 3,.int .i64 x,.int .i64 y,.string s] 29)).cell? ⟨w.heap.size,0,none⟩=some (.int .i64 3):=by rw[za F];rfl
 have f:Tiny td os rj ls:=by obtain⟨v,fs,ro,z,_⟩:=r;exact⟨z.today,z.ok,z.room,b,c,z.rc⟩
 have J:=λ(A:World) (a:Kp Zp _ A)=>Aq (r.congr (λk P=>a.block k (M k P).2.1 (λK=>(C k K).2.2.2 P))) b (λn hn=>by have:=f.small n hn;omega) (λl hl p m=>by have:=(c.lot l hl).2 p m;omega) (λo ho p m=>by have:=f.line ho m;omega) (λp m=>by have:=f.rc.fits p m;omega) (by have:=f.bytes;omega)
 have B:=zb J;have d:=S;have g:Ha ((WQ td os rj ls).data.toList=bM (WO td os rj ls)):=by unfold Ha WQ Mi;simp
 have i:Ha ((WQ td os rj ls).size<=100000):=by
  unfold Ha WQ;have h1:=qD ⟨(WO td os rj ls).toArray⟩ (by rw[YY];have:=f.bytes;simp;omega);have e1:(⟨(WO td os rj ls).toArray⟩:ByteArray).size=(WO td os rj ls).length:=by rw[YY];simp
  rw[e1]at h1;have:=f.bytes;omega
 go_enter func17,ntmps17;go_wp2_with (first
  |(go_at_call 39;refine(W.o).mono ?_;rintro e A ⟨rfl,a,q⟩;have H:=(a.block Q (zc d) (λK=>(C Q K).2.2.1 rfl)).trans d;have q1:A.cell? ⟨Q,1,none⟩=some (.pointer (some ⟨R,0,none⟩)):=(by rw[za H];rfl);have X:=zb (B.o A a))
  |(go_at_call 40;refine(X.o).mono ?_;rintro e w5 ⟨rfl,E,t⟩))
 go_ret;refine⟨rfl,?_⟩
 exact InvS.step (N:=100000) (n:=0) j u D hQ d C M a (by rw[g.o];exact q) E t i.o ⟨b,c⟩
def GP{d:Nat}(b:Kv w.heap.size w w1 Z d sf)(j:Below w1.heap.size w1 w2)(f:RI sf.os sf.rj (λk=>w1.heap.size<=k) w2 R sf.td (log.extract 0 sf.lg.length) sf.ls)(c:Vg log.data.toList sf)(m:log.size<=4194304):InvS VC w (w2.alloc (.cells #[.pointer (some ⟨d,0,none⟩),.pointer (some ⟨R,0,none⟩)] 46)) w2.heap.size log.size:=by
 have e:=b.below j;have i:=VE w2 (.cells #[.pointer (some ⟨d,0,none⟩),.pointer (some ⟨R,0,none⟩)] 46);have a:=e.below i;have r:(w2.alloc (.cells #[.pointer (some ⟨d,0,none⟩),.pointer (some ⟨R,0,none⟩)] 46)).heap.size=w2.heap.size+1:=by simp
 have n:=b.size;have p:=j.size;have g:(log.extract 0 sf.lg.length).data.toList=sf.lg:=by rw[pV,xaK,xbK];exact c.lg.symm
 refine⟨Wo a.old,λk h=>h.elim False.elim (xj a.two),a.gl,Or.inr e.size,d,R,Z,λk=>w1.heap.size<=k/\k<w2.heap.size,sf.td,sf.ls,sf.os,sf.rj,log.extract 0 sf.lg.length,xp w2 _,?_,f.bound.below i,λk l=>?_,λk l=>?_,?_,c.good,c.sml⟩
 ·rw[g];exact a.pl
 ·have:=b.zin k l
  exact⟨Or.inr this.1,by omega,by omega,λq=>by omega⟩
 ·exact⟨Or.inr (by omega),by omega,by omega⟩
 rw[XR];omega
def Dw(log:ByteArray)(d:log.size<=4194295)(w:World)(n:Gl w)(q:GmU w.heap.size w):Calls prog 19 #[.string log] w λe w'=>∃Q,e=.returned (.tuple #[.pointer (some ⟨Q,0,none⟩),.bool true])/\InvS VC w w' Q log.size:=by
 have p:log.data.toList.length=log.size:=by simp
 have j:=zb (Ko w n q log (by omega) (Vg log.data.toList) (Kq _) (QV _ (by omega)));have k:=zb (λw1=>Km log d w1);have a:log.size<=4194304:=by omega
 generalize WI log.size log.data.toList Ml=sf at *;go_enter func19,ntmps19;go_wp2_with fail;refine(j.o).mono ?_
 rintro e w1 ⟨r,Z,rfl,c⟩;have i:=zb c;clear c j;go_wp2_with fail;refine(k.o w1).mono ?_
 rintro e w2 ⟨R,rfl,b,g,f⟩;have l:=zb (GP i.o b g f a);have m:=zb (lS l.o 0 0 ⟨#[]⟩);clear b g f i k;go_wp2_with fail;refine(m.o).mono ?_
 rintro e s ⟨rfl,h⟩;go_wp2_with fail;go_ret2;exact⟨_,rfl,h⟩
def InvS.here(h:InvS Z0 w0 w Q N):InvS (λk=>Zn Z0 w0 k/\k<w.heap.size) w w Q N:=by
 obtain⟨a,c,d,e,l,R,m,n,td,ls,os,rj,i,j,p,r,f,g,s⟩:=h;exact⟨Kp.refl _ w,λk b=>b.elim (λq=>c k q.1) (xj d.2.2),d,Or.inl ⟨e,zc j⟩,l,R,m,n,td,ls,os,rj,i,j,p,r,λk b=>⟨Or.inl ⟨(f k b).1,(f k b).2.1⟩,(f k b).2⟩,λk b=>⟨Or.inl ⟨(g k b).1,(g k b).2.1⟩,(g k b).2⟩,s⟩
def InvS.keep{Z':Nat->Prop}(h:InvS Z w w Q N)(g:Kp Z' w w')(hd:∀k,Z k->¬Z' k)(x:∀k,Z' k->4<=k):InvS Z w' w' Q N:=by
 obtain⟨a,c,d,e,p,R,r,s,td,ls,os,rj,n,j,t,u,b,f,v⟩:=h;have i:∀k,Zn Z w k->k<w.heap.size->Z k:=λk q l=>q.elim id (λq=>absurd l (by omega))
 have m:∀k,Zn Z w k->k<w.heap.size->w'.heap[k]?=w.heap[k]?:=λk q l=>g.block k l (hd k (i k q l))
 have ne:∀k,k<4->¬Z' k:=λk l q=>by have:=x k q;omega
 exact⟨Kp.refl _ w',λk q=>q.elim (λq=>c k (Or.inl q)) (λq=>xj d.2.2 (xj g.size q)),d.kp g (ne _ (by omega)) (ne _ (by omega)),Or.inl (i Q e (zc j)),p,R,r,s,td,ls,os,rj,n,(m Q e (zc j)).trans j,
  t.congr (λk q=>m k (b k q).1 (b k q).2.1),u.congr (λk q=>m k (f k q).1 (f k q).2.1),
  λk q=>⟨Or.inl (i k (b k q).1 (b k q).2.1),xl (b k q).2.1 g.size,(b k q).2.2⟩,λk q=>⟨Or.inl (i k (f k q).1 (f k q).2.1),xl (f k q).2.1 g.size,(f k q).2.2⟩,v⟩
structure InvA(w0 w:World)(Qs:List Nat)(Zs:Nat->Nat->Prop)(N:Nat):Prop where
 old:Below w0.heap.size w0 w
 two:4<=w0.heap.size
 gl:Gl w
 each:∀i,i<Qs.length->InvS (Zs i) w w (Qs.getD i 0) N
 apart:∀i j k,i<Qs.length->j<Qs.length->i≠j->Zs i k->¬Zs j k
 inn:∀i k,i<Qs.length->Zs i k->w0.heap.size<=k/\k<w.heap.size
def InvA.keep{e w w':World}{c:List Nat}{d:Nat->Nat->Prop}{N:Nat}{Z':Nat->Prop}(h:InvA e w c d N)(a:Kp Z' w w')(hd:∀k,Z' k->e.heap.size<=k/\∀i,i<c.length->¬d i k):InvA e w' c d N:={
 old:=h.old.trans ⟨a.os,a.tape,a.output,a.size,λk f=>a.block k (xl f h.old.size) (λq=>by have:=(hd k q).1;omega)⟩
 two:=h.two
 gl:=h.gl.kp a (λq=>by have:=(hd _ q).1;have:=h.two;omega) (λq=>by have:=(hd _ q).1;have:=h.two;omega)
 each:=λi b=>(h.each i b).keep a (λk q g=>(hd k g).2 i b q) (λk q=>xj h.two (hd k q).1)
 apart:=h.apart
 inn:=λi k b q=>⟨(h.inn i k b q).1,xl (h.inn i k b q).2 a.size⟩}
variable {Zs:Nat->Nat->Prop}
def InvA.below(h:InvA w0 w Qs Zs N)(a:Below w.heap.size w w'):InvA w0 w' Qs Zs N:=h.keep (Z':=VC) (Wo a) (λ_ q=>q.elim)
def InvA.play{j:Nat}(h:InvA w0 w Qs Zs N)(r:j<Qs.length)(c:InvS (Zs j) w w' (Qs.getD j 0) N')(hN:N<=N'):InvA w0 w' Qs (λi=>if i=j then λk=>Zn (Zs j) w k/\k<w'.heap.size else Zs i) N':={
 old:=h.old.trans ⟨c.old.os,c.old.tape,c.old.output,c.old.size,λk s=>c.old.block k (xl s h.old.size) (λq=>by have:=(h.inn j k r q).1;omega)⟩
 two:=h.two
 gl:=c.gl
 each:=λi g=>by
  by_cases e:i=j
  ·subst e;simp only[Yo];exact c.here
  simp only[xg e];exact((h.each i g).keep c.old (λk q f=>h.apart i j k g r e q f) (λk q=>c.two k (Or.inl q))).grow hN
 apart:=λa b k m n d=>by
  by_cases e:a=j
  ·subst e;simp only[Yo,xg (Yl d)];rintro⟨q|q,_⟩ f
   ·exact h.apart a b k m n d q f
   have:=(h.inn b k n f).2;omega
  by_cases p:b=j
  ·subst p;simp only[Yo,xg e];rintro f ⟨q|q,_⟩
   ·exact h.apart a b k m n d f q
   have:=(h.inn a k m f).2;omega
  simp only[xg e,xg p];exact h.apart a b k m n d
 inn:=λi k g=>by
  by_cases e:i=j
  ·subst e;simp only[Yo];rintro⟨q|q,l⟩
   ·exact⟨(h.inn i k g q).1,l⟩
   exact⟨xj h.old.size q,l⟩
  simp only[xg e];intro q;exact⟨(h.inn i k g q).1,xl (h.inn i k g q).2 c.old.size⟩}
def InvA.push(h:InvA w0 w Qs Zs N)(m:InvS VC w w' Q N')(hN:N<=N'):InvA w0 w' (Qs++[Q]) (λi=>if i=Qs.length then λk=>Zn VC w k/\k<w'.heap.size else Zs i) N':=by
 have g:=h.below m.old.bel;have u:(Qs++[Q]).length=Qs.length+1:=by simp
 refine⟨g.old,h.two,m.gl,λi s=>?_,λa b k t r c=>?_,λi k s=>?_⟩
 ·by_cases e:i=Qs.length
  ·subst e;simp only[Yo];rw[show(Qs++[Q]).getD Qs.length 0=Q by simp[Wc]];exact m.here
  have d:i<Qs.length:=by omega
  simp only[xg e];rw[show(Qs++[Q]).getD i 0=Qs.getD i 0 by rw[Wc,XH d,Wc]];exact(g.each i d).grow hN
 ·by_cases e:a=Qs.length
  ·subst e;have j:b<Qs.length:=by omega
   simp only[Yo,xg (Yl c)];rintro⟨q|q,_⟩ n
   ·exact q.elim
   have:=(h.inn b k j n).2;omega
  by_cases p:b=Qs.length
  ·subst p;have f:a<Qs.length:=by omega
   simp only[Yo,xg e];rintro n ⟨q|q,_⟩
   ·exact q.elim
   have:=(h.inn a k f n).2;omega
  simp only[xg e,xg p];exact h.apart a b k (by omega) (by omega) c
 by_cases e:i=Qs.length
 ·subst e;simp only[Yo];rintro⟨q|q,l⟩
  ·exact q.elim
  exact⟨xj h.old.size q,l⟩
 simp only[xg e];exact g.inn i k (by omega)
def LI:prog.underlying 36=some (.slice 23):=by kernel_rfl
def No:(prog.info? 23).map (λi=>(i.zero,i.size,i.bytes))=some (some (.pointer none),1,8):=by kernel_rfl
def Bw(c:Int)(f:Vi c)(n:Nat)(d:0<n)(i:n<=100000000)(w:World):Calls prog 20 #[.int .i64 c,.int .i64 n] w λe w'=>e=.returned (.int .i64 (pk c n:Int))/\w'=w:=by
 obtain⟨j,k⟩:=f;have a:=zb (Ur c d);have g:=Ri c d;by_cases h:c<0
 ·rw[xh h]at a;have b:Ha (-(Int.tmod (c+1) (n:Int))=(pk c n:Int)):=by unfold Ha;rw[<-Int.neg_tmod,xaM (by omega),a.o]
  generalize pk c n=p at *;go_enter func20,ntmps20;go_wp2_with fail;go_ret;exact⟨by rw[b.o];rfl,rfl⟩
 rw[xg h]at a;have b:Ha (Int.tmod c (n:Int)=(pk c n:Int)):=by unfold Ha;rw[xaM (by omega),a.o]
 generalize pk c n=p at *;go_enter func20,ntmps20;go_wp2_with fail;go_ret;exact⟨by rw[a.o];rfl,rfl⟩
def KG(h:InvS Z0 w0 w Q N)(a x y:Int)(s:ByteArray)(b:a≠1)(c:a≠2)(d:a≠3):Calls prog 17 #[.pointer (some ⟨Q,0,none⟩),.agg #[.int .i64 a,.int .i64 x,.int .i64 y,.string s]] w λe w'=>e=.returned (.bool true)/\InvS Z0 w0 w' Q N:=by
 have f:=zb (h.below (VE w (.cells #[.int .i64 a,.int .i64 x,.int .i64 y,.string s] 29)));have k:(w.alloc (.cells #[.int .i64 a,.int .i64 x,.int .i64 y,.string s] 29)).cell? ⟨w.heap.size,0,none⟩=some (.int .i64 a):=by rw[za (xp w _)];rfl
 have g:(a==1)=false:=xr.2 b;have i:(a==2)=false:=xr.2 c;have j:(a==3)=false:=xr.2 d;clear h b c d;go_enter func17,ntmps17;go_wp2_with fail;go_ret;exact⟨rfl,f.o⟩
def NX(h:InvS Z0 w0 w Q N)(hN:N<=35184372088832)(g:100000<=N)(a x y:Int)(s:ByteArray)(f:s.size<=4194295):Calls prog 17 #[.pointer (some ⟨Q,0,none⟩),.agg #[.int .i64 a,.int .i64 x,.int .i64 y,.string s]] w λe w'=>e=.returned (.bool true)/\InvS Z0 w0 w' Q (N+(s.size+13)):=by
 by_cases b:a=1
 ·subst b;exact GV h hN x y s f
 by_cases c:a=2
 ·subst c;exact(lS h x y s).mono λe w' q=>⟨q.1,q.2.grow (by omega)⟩
 by_cases d:a=3
 ·subst d;exact(GU h x y s).mono λe w' q=>⟨q.1,q.2.grow (by omega)⟩
 exact(KG h a x y s b c d).mono λe w' q=>⟨q.1,q.2.grow (by omega)⟩
def Xo(ss:Nat->ByteArray):Nat->Nat
 |0=>100000
 |k+1=>Xo ss k+((ss k).size+13)
def Pz(a:Nat->ByteArray):∀k,100000<=Xo a k
 |0=>xe _
 |k+1=>by have:=Pz a k;simp only[Xo];omega
def PA(a:Nat->ByteArray){k:Nat}:∀{n:Nat},k<=n->Xo a k<=Xo a n
 |0,h=>by rw[Nat.le_zero.1 h];exact xe _
 |n+1,h=>by
  by_cases e:k=n+1
  ·rw[e];exact xe _
  have:=PA a (k:=k) (n:=n) (by omega);simp only[Xo];omega
structure AlI(w0 w:World)(l:Value)(Qs:List Nat)(Zs:Nat->Nat->Prop)(N:Nat):Prop where
 inv:InvA w0 w Qs Zs N
 pos:0<Qs.length
 row:w.ownsRow w0.heap.size 23 1 l Qs.length (aV Qs)
 far:∀g,l.ownBlock=some g->∀i,i<Qs.length->¬Zs i g
def AlI.play{p w w':World}{l:Value}{b:List Nat}{f:Nat->Nat->Prop}{N c j:Nat}(h:AlI p w l b f N)(m:j<b.length)(n:InvS (f j) w w' (b.getD j 0) c)(hN:N<=c):∃d,AlI p w' l b d c :=
 ⟨_,h.inv.play m n hN,h.pos,zd h.row (λg a=>n.old.block g (h.row.lt g a).2 (h.far g a j m)),λg a i k=>by
  by_cases e:i=j
  ·subst e;simp only[Yo];rintro⟨q|q,_⟩
   ·exact h.far g a i k q
   have:=(h.row.lt g a).2;omega
  simp only[xg e];exact h.far g a i k⟩
def AlI.push{m w w' w1 w2:World}{l v':Value}{a:List Nat}{n:Nat->Nat->Prop}{N d Q:Nat}(h:AlI m w l a n N)(t:InvS VC w w' Q d)(hN:N<=d)(r:Below w'.heap.size w' w1)(v:w1.grownBy w2 l.ownBlock)
  (b:w2.ownsRow m.heap.size 23 1 v' (a.length+1) (aV a++[.pointer (some ⟨Q,0,none⟩)])) (j:∀g,v'.ownBlock=some g->l.ownBlock=some g\/w1.heap.size<=g):∃f,AlI m w2 v' (a++[Q]) f d:=by
 have p:=h.inv.push t hN;have y:=t.old.size;have s:∀g,l.ownBlock=some g->∀i,i<(a++[Q]).length->¬(if i=a.length then λk=>Zn VC w k/\k<w'.heap.size else n i) g:=λg q i c=>by
  have x:=(h.row.lt g q).2;by_cases e:i=a.length
  ·simp only[xh e];rintro⟨z|z,_⟩
   ·exact z.elim
   omega
  simp only[xg e];exact h.far g q i (by rw[xc,Xw]at c;omega)
 refine⟨_,(p.below r).keep (Z':=λk=>l.ownBlock=some k) ((Kp.refl _ _).grown v (λk q=>Or.inl q)) (λk q=>⟨(h.row.lt k q).1,s k q⟩),by simp,?_,λg q i c z=>?_⟩
 ·rw[xc,Xw,show aV (a++[Q])=aV a++[.pointer (some ⟨Q,0,none⟩)] by simp[aV]];exact b
 rcases j g q with u|u
 ·exact s g u i c z
 have:=(p.inn i g c z).2
 have:=r.size
 omega
def AlI.below{d w w':World}{l:Value}{a:List Nat}{b:Nat->Nat->Prop}{N:Nat}(h:AlI d w l a b N)(c:Below w.heap.size w w'):AlI d w' l a b N:=⟨h.inv.below c,h.pos,zd h.row (λg e=>c.block g (h.row.lt g e).2),h.far⟩
def AlI.one{v:Value}(h:InvS VC w0 w Q 0)(d:Gl w0)(j:Below w.heap.size w w1)(a:w1.ownsRow w.heap.size 23 1 v 1 [.pointer (some ⟨Q,0,none⟩)]):∃e,AlI w0 w1 v [Q] e 100000:=by
 have f:InvA w0 w0 [] (λ_=>VC) 100000:=⟨xm _ _,d.2.2,d,λi b=>absurd b (by simp),λi _ _ b=>absurd b (by simp),λi _ b=>absurd b (by simp)⟩
 have c:=f.push (h.grow (Nat.zero_le 100000)) (xe _);refine⟨_,c.below j,by simp,dZ a h.old.size,λg q i b z=>?_⟩;have k:=(c.inn i g b z).2;have l:=(a.lt g q).1;omega
def InvS.rcd(h:InvS Z0 w0 w Q N):∃R a,w.cell? ⟨Q,1,none⟩=some (.pointer (some ⟨R,0,none⟩))/\w.cell? ⟨R,4,none⟩=some (.string a)/\a.size<=N:=by
 obtain⟨e,R,f,g,td,ls,os,rj,a,b,_,c,_,_,d,_⟩:=h.both;exact⟨R,a,by rw[za b];rfl,c.good.2.2.2.2.1,d⟩
def PH(ao:Option Addr)(len cap:Nat)(X:Nat->Nat->Int)(E:Nat->ByteArray)(D:∀j,j<len->∀f,f<3->Vi (X j f))(d8:len<=4194304)(a4:Xo E len<=4194295)(w:World)(hg:Gl w)(hm:GmU w.heap.size w)
  (ho:0<len->∃b x,ao=some ⟨b,x,none⟩/\b<w.heap.size/\∀j,j<len->(∀f,f<3->w.cell? ⟨b,x+j*4+f,none⟩=some (.int .i64 (X j f)))/\w.cell? ⟨b,x+j*4+3,none⟩=some (.string (E j))) :
  Calls prog 10 #[.slice ao len cap] w λe w'=>e=.returned (.bool true)/\Below w.heap.size w w':=by
 obtain⟨i0,hi,b9,c6,c7⟩:=XT No;have HM:=zb hm;have HG:=zb hg;have HO:=zb ho;clear hm ho;go_enter func10,ntmps10;go_wp2_with (go_at_call 15;refine(tO _ hg).mono ?_;rintro e w1 ⟨Q,rfl,a2⟩);clear hg;go_loopw [3,4,5,6,7,8] (λ_ ok l i _ _ wr=>∃(k:Nat) (A:List Nat) (Zs:Nat->Nat->Prop),k<=len/\ok=.bool true/\i=.int .i64 k/\A.length<=k+1/\AlI w wr l A Zs (Xo E k)) (λ_ _ _ i _ _ _=>len-(intOf i).toNat)
 case atStart=>
  obtain⟨Zs,hz⟩:=AlI.one a2 HG.o (VE w1 _) (Yb w1 #[.pointer (some ⟨Q,0,none⟩)] 1 (xe _) (by unfold maxLen;omega) rfl);exact⟨0,[Q],Zs,Nat.zero_le _,rfl,rfl,xe _,hz⟩
 clear a2;obtain⟨k,A,Zs,hk,rfl,rfl,a1,a⟩:=hrel;obtain⟨g,lc,rfl,e3,e4⟩:=zL a.row a.pos;by_cases a0:k<len
 ·obtain⟨b,x,rfl,hb,hc⟩:=HO.o (by omega);clear HO;obtain⟨Z,b6⟩:=hc k a0;have c0:wr.cell? ⟨b,x+k*4,none⟩=some (.int .i64 (X k 0)):=(a.inv.old.cell (p:=⟨b,x+k*4+0,none⟩) hb).trans (Z 0 (by omega));have c1:=(a.inv.old.cell (p:=⟨b,x+k*4+1,none⟩) hb).trans (Z 1 (by omega));have c2:=(a.inv.old.cell (p:=⟨b,x+k*4+2,none⟩) hb).trans (Z 2 (by omega));have c3:=(a.inv.old.cell (p:=⟨b,x+k*4+3,none⟩) hb).trans b6;have a8:=D k a0 1 (by omega);have b7:=D k a0 2 (by omega);obtain⟨m,c⟩:=Ww A.length;have a3:0<m:=by rw[c.o];exact a.pos
  have d3:m<=k+1:=by rw[c.o];exact a1
  have G:=zb (Bw (X k 2) b7 m a3 (by omega) wr);have hj:=Ri (X k 2) a3;generalize pk (X k 2) m=j at *;have y:wr.cell? ⟨g,j,none⟩=some (.pointer (some ⟨A.getD j 0,0,none⟩)):=by
   rw[a.row.cellAt j (by rw[<-c.o];omega)];have:j<A.length:=by rw[<-c.o];exact hj
   simp[aV,Wc,this]
  have HS:Ha (Xo E (k+1)=Xo E k+((E k).size+13)):=rfl;have HT:Ha (Xo E (k+1)<=4194295):=xj (PA E (by omega)) a4;have c8:=zb (Pz E k);have F:=zb (a.inv.each j (by rw[<-c.o];exact hj));have t:=zb a;generalize E k=s at *;generalize X k 0=kd at *;generalize X k 1=xa at *;generalize X k 2=xb at *;obtain⟨q,HQ⟩:=Ww (A.getD j 0);rw[<-HQ.o]at y F;rw[<-c.o]at t ⊢;clear hc D Z b6 a b7 a1 a4;by_cases h5:kd=5
  ·subst h5;go_wp2_with (go_at_call 20;refine(G.o).mono ?_;rintro e w3 ⟨rfl,hw⟩;have W:=hw.symm;subst W;clear hw);refine(tO _ t.o.inv.gl).mono ?_
   rintro e H ⟨Q4,rfl,r⟩;have J:=zb (r.grow (Nat.zero_le (Xo E (k+1))));have z:=zb r.old.bel;clear r c0 c1 c2 c3 y G F;go_wp2_with (at_builtin;refine YD _ rfl _ _ 36 rfl w.heap.size 23 i0 (.pointer none) 1 8 LI hi b9 c6 c7 rfl (by decide) _ m (aV A) rfl ?r1 ⟨H.heap.size,0,none⟩ 1 1 [.pointer (some ⟨Q4,0,none⟩)] rfl rfl ?r3 ?r4 (by decide) ?r5 ?r6 ?r7 _ rfl ?_)
   case r1=>have:=λo=>(t.o.below (z.o.trans ((VE H o).mono z.o.size))).row;rw[<-c.o]at this;exact this _
   case r3=>exact Zy _ _ _
   case r4=>intro u hu;simp at hu;subst hu;rfl
   case r5=>unfold maxLen;omega
   case r6=>omega
   case r7=>have h1:=z.o.size;have h2:=t.o.inv.old.size;simp;omega
   intro g5 c5 w5 T P B S;obtain⟨N,v⟩:=t.o.push J.o (by rw[HS.o];omega) (VE H _) P (by rw[<-c.o];exact T) (λg' a6=>by cases a6;exact B.imp id (λq=>xcn (by simp[q])));have K:=zb v;clear T P B S v J z t;go_wp2_with fail;go_roundw
   case rel=>exact⟨k+1,A++[Q4],N,by omega,rfl,by go_num,by rw[xc,<-c.o];simp;omega,K.o⟩
   simp[intOf];omega
  by_cases h4:kd=4
  ·subst h4;obtain⟨R,d,d1,d4,b8⟩:=F.o.rcd;have e6:d.size<=4194295:=by have:=HT.o;rw[HS.o]at this;omega
   have b2:Ha (∀w2,Calls prog 20 #[.int .i64 xa,.int .i64 ((d.size:Int)+1)] w2 λe w'=>e=.returned (.int .i64 (pk xa (d.size+1):Int))/\w'=w2):=Bw xa a8 (d.size+1) (by omega) (by omega);have d6:IntKind.i64.wrap ((d.size:Int)+1)=(d.size:Int)+1:=by rw[xbv];exact bG _ ⟨by omega,by omega⟩
   have d0:=Ri xa (n:=d.size+1) (by omega);generalize pk xa (d.size+1)=i2 at *;have c9:=zb b8;have e0:(0:Int)<=(i2:Int):=by omega
   have e1:(i2:Int)<=(d.size:Int):=by omega
   have d2:(d.extract 0 i2++s).size<=d.size+s.size:=by rw[ByteArray.size_append,XR];omega
   have a5:Ha ((d.extract 0 i2++s).size<=Xo E (k+1)):=by unfold Ha;rw[HS.o];omega
   have C:=zb (t.o.below (aA wr));have b1:=zb (Dw (d.extract 0 i2++s) (xj a5.o HT.o) wr.drew C.o.inv.gl (HM.o.up C.o.inv.old C.o.inv.old.size));have d7:(d.extract 0 i2).size<=4194295:=by rw[XR];omega
   have d5:s.size<=4194295:=by have:=HT.o;rw[HS.o]at this;omega
   have d9:¬(9223372036854775807<min i2 d.size+s.size):=by omega
   have e2:¬(9223372036854775807<min i2 d.size-0+s.size):=by omega
   have a9:Ha (b<wr.heap.size):=xl hb t.o.inv.old.size;clear d0 b8 h5 a8 d2;go_wp2_with (go_at_call 20;with_reducible refine(G.o).mono ?_;rintro e w3 ⟨rfl,hw⟩;have W:=hw.symm;subst W;clear hw);go_region_held3 (λw'=>w'.cell? ⟨b,x+k*4+1,none⟩=some (.int .i64 xa)/\w'.cell? ⟨b,x+k*4+3,none⟩=some (.string s)) (go_keep)
    (first
     |(go_at_call 20;with_reducible refine(b2.o _).mono ?_;rintro e w3 ⟨rfl,rfl⟩)
     |(go_at_call 19;refine(b1.o).mono ?_;rintro e H ⟨Q4,rfl,r⟩;have c1:=(r.old.bel.cell (p:=⟨b,x+k*4+1,none⟩) a9.o).trans c1;have c3:=(r.old.bel.cell (p:=⟨b,x+k*4+3,none⟩) a9.o).trans c3))
   have J:=zb (r.grow a5.o);have z:=zb r.old.bel;clear r c0 c1 c2 c3 y G b2 b1 F c9 a5 d1 d4 e0 e1 d7 d5 d6;go_wp2_with (at_builtin;refine YD _ rfl _ _ 36 rfl w.heap.size 23 i0 (.pointer none) 1 8 LI hi b9 c6 c7 rfl (by decide) _ m (aV A) rfl ?r1 ⟨H.heap.size,0,none⟩ 1 1 [.pointer (some ⟨Q4,0,none⟩)] rfl rfl ?r3 ?r4 (by decide) ?r5 ?r6 ?r7 _ rfl ?_)
   case r1=>have:=λo=>(C.o.below (z.o.trans ((VE H o).mono z.o.size))).row;rw[<-c.o]at this;exact this _
   case r3=>exact Zy _ _ _
   case r4=>intro u hu;simp at hu;subst hu;rfl
   case r5=>unfold maxLen;omega
   case r6=>omega
   case r7=>have h1:=z.o.size;have h2:=C.o.inv.old.size;simp;omega
   intro g5 c5 w5 T P B S;obtain⟨N,v⟩:=C.o.push J.o (by rw[HS.o];omega) (VE H _) P (by rw[<-c.o];exact T) (λg' a6=>by cases a6;exact B.imp id (λq=>xcn (by simp[q])));have K:=zb v;clear T P B S v J z t C;go_wp2_with fail;go_roundw
   case rel=>exact⟨k+1,A++[Q4],N,by omega,rfl,by go_num,by rw[xc,<-c.o];simp;omega,K.o⟩
   simp[intOf];omega
  have b5:(kd==5)=false:=xr.2 h5;have b4:(kd==4)=false:=xr.2 h4;have M:=zb (NX F.o (by have:=HT.o;rw[HS.o]at this;omega) c8.o kd xa xb s (by have:=HT.o;rw[HS.o]at this;omega));clear h5 h4 a8 F;go_wp2_with (first|(go_at_call 20;with_reducible refine(G.o).mono ?_;rintro e w3 ⟨rfl,hw⟩;have W:=hw.symm;subst W;clear hw)|(go_at_call 17;with_reducible refine(M.o).mono ?_;rintro e H ⟨rfl,r⟩));obtain⟨N,v⟩:=t.o.play (by rw[<-c.o];exact hj) (by rw[<-HQ.o];exact r) (xcg _ _);rw[<-HS.o]at v;have K:=zb v;clear v r t M G c0 c1 c2 c3 y;go_roundw
  case rel=>exact⟨k+1,A,N,by omega,rfl,by go_num,by rw[<-c.o];omega,K.o⟩
  simp[intOf];omega
 obtain rfl:k=len:=by omega
 obtain⟨m,c⟩:=Ww A.length;have d3:m<=k+1:=by rw[c.o];exact a1
 rw[<-c.o]at a ⊢;have t:=zb a;clear HO D a0 a a1;go_wp2_with fail;go_loopw [4,9] (λok i w2=>∃(j:Nat) (Zs:Nat->Nat->Prop),j<=m/\ok=.bool true/\i=.int .i64 j/\AlI w w2 (.slice (some ⟨g,0,none⟩) m lc) A Zs (Xo E k)) (λ_ i _=>m-(intOf i).toNat)
 case atStart=>exact⟨0,Zs,Nat.zero_le _,rfl,rfl,t.o⟩
 clear t;obtain⟨j,Zj,e5,rfl,rfl,a⟩:=hrel;by_cases hj:j<m
 ·have y:wr.cell? ⟨g,j,none⟩=some (.pointer (some ⟨A.getD j 0,0,none⟩)):=by
   have hr:=a.row;rw[<-c.o]at hr;rw[hr.cellAt j (by omega)];have:j<A.length:=by rw[<-c.o];exact hj
   simp[aV,Wc,this]
  have a7:j<A.length:=by rw[<-c.o];exact hj
  have M:=zb (lS (a.inv.each j a7) 0 0 ⟨#[]⟩);have b0:=zb (λH (h:InvS (Zj j) wr H (A.getD j 0) (Xo E k))=>a.play a7 h (xe _));clear a a7;generalize A.getD j 0=q at *;go_wp2_with (go_at_call 17;with_reducible refine(M.o).mono ?_;rintro e H ⟨rfl,r⟩);obtain⟨Z4,b3⟩:=b0.o H r;clear r b0 M y;go_roundw
  case rel=>exact⟨j+1,Z4,by omega,rfl,by go_num,b3⟩
  simp[intOf];omega
 have HB:=zb a.inv.old;obtain rfl:j=m:=by omega
 clear a;go_wp2_with fail;go_ret;exact⟨rfl,HB.o⟩
