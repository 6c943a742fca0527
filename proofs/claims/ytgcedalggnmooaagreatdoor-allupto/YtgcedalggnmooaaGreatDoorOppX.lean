import Derived.Test.YtgcedalggnmooaaGreatDoorOpAX
import Derived.Test.YtgcedalggnmooaaGreatDoorDc5X
import Derived.Test.YtgcedalggnmooaaGreatDoorSou
import Derived.Test.YtgcedalggnmooaaGreatDoorStpX
set_option linter.all false
set_option maxRecDepth 100000
set_option maxHeartbeats 6400000
namespace Go.Proofs.YtgcedalggnmooaaGreatDoor
open Value renaming int->Y,slice->vd,pointer->ve,bool->vh,tuple->vi,string->vj
open IntKind renaming i64->V
open Option renaming none->U,some->vb
open Obj renaming cells->vf
open Ending renaming returned->vg
open Tryz
variable {N Q R b d f n td:Nat}{c l:List UInt8}
def gP(h:WG l=vb (c,n)):l.take n=bM c/\n=(bM c).length/\n<=l.length/\0<n/\c.length<=n/\n<=c.length+13:=by
 unfold WG at h;split at h
 ·cases h
 next i=>
 split at h
 ·cases h
 next j=>
 split at h
 ·cases h
 next k=>
 split at h
 ·next m=>
  simp only[yk,Yi]at h;obtain⟨rfl,rfl⟩:=h;have r:=Pl.snd_le l;have q:=Pl.snd_le9 l;have g:l=Pl.num (Pl.fst l)++l.drop (Pl.snd l):=yE (by unfold Xl;rw[xg i]);generalize Pl.snd l=s at *;generalize Pl.fst l=f at *;rw[yw]at j k;have p:(Pl.num f).length=s:=by
   have:=xas List.length g
   rw[xc,yw]at this;omega
  have a:((l.drop s).take f).length=f:=by rw[yu,yw];omega
  have d:l.take s=Pl.num f:=by
   rw[g,List.take_append_of_le_length (by omega),ye (by omega)]
  have b:l.take (s+f)=Pl.num f++(l.drop s).take f:=by rw[xde,d]
  have t:=eK (l.take (s+f));have e:bM ((l.drop s).take f)=l.take (s+f+4):=by
   unfold bM;rw[a,<-b,<-m,<-xde]
  refine⟨e.symm,?_,by omega,by omega,by omega,by omega⟩;rw[e,yu];omega
 cases h
def JB(l:List UInt8):WH l=(WG l).map (λ_=>(Pl.snd l,Pl.fst l)):=by
 have f:=Pl.snd_le l;unfold WH WG;simp only[yw];by_cases b:Pl.snd l=0
 ·rw[xh (Or.inl b),xh b];rfl
 rw[xg b];by_cases c:l.length-Pl.snd l<Pl.fst l
 ·rw[xh c,xh (by omega)];rfl
 rw[xg c];by_cases d:l.length-(Pl.snd l+Pl.fst l)<4
 ·rw[xh d,xh (by omega)];rfl
 rw[xg d,xg (by omega)];by_cases a:(l.drop (Pl.snd l+Pl.fst l)).take 4=nX (l.take (Pl.snd l+Pl.fst l))
 ·rw[xh a,xh a.symm];rfl
 rw[xg a,xg (λe=>a e.symm)];rfl
def Jz{s:ByteArray}(h:WG s.data.toList=U):QV s=vi #[vj ⟨#[]⟩,Y V 0]:=by
 unfold QV;rw[JB,h];rfl
def JA{s:ByteArray}(h:WG s.data.toList=vb (c,n)):QV s=vi #[vj ⟨c.toArray⟩,Y V ((n:Nat):Int)]:=by
 unfold QV;rw[JB,h];unfold WG at h;split at h
 ·cases h
 split at h
 ·cases h
 split at h
 ·cases h
 split at h
 ·simp only[yk,Yi]at h;obtain⟨rfl,rfl⟩:=h;simp only[xaM];congr 3
  ·congr 1
   apply xaY
   apply Array.ext'
   rw[pY,xcM]
 cases h
structure VN(l:List UInt8)(s:Sv):Prop where
 lg:s.lg=l.take s.lg.length
 le:s.lg.length<=l.length
 good:Good s.os s.ls
 sml:Wa s.os s.ls
def La(l:List UInt8):VN l MN:=⟨rfl,Nat.zero_le _,wU,LO⟩
variable {s sf:Sv}
def xZ(h:VN l s)(g:∀l∈s.ls,L.Ok l)(b:s.ls.length<=30){c:List UInt8}{n:Nat}(t:WG (l.drop s.lg.length)=vb (c,n)):VN l (Z7 s ⟨c.toArray⟩)/\((Z7 s ⟨c.toArray⟩).lg.length=s.lg.length\/(Z7 s ⟨c.toArray⟩).lg.length=s.lg.length+n):=by
 obtain⟨m,f,p,w,x,y⟩:=gP t;rw[yw]at p;have u:=h.le;have a:s.lg++bM c=l.take (s.lg.length+n):=by rw[xde,<-h.lg,m]
 unfold Z7;split
 ·next q=>
  obtain⟨d,r⟩:=q;simp only;split
  ·next td ls os rj v=>
   have k:=(lY v).1;rw[d,xbA,yx,xaj]at a;refine⟨⟨?_,?_,k.good,k.sml⟩,Or.inr ?_⟩
   ·show bM c=l.take (bM c).length;rw[<-f];exact a
   ·show(bM c).length<=_;omega
   show(bM c).length=_;rw[d,<-f];simp
  exact⟨h,Or.inl rfl⟩
 unfold aT;have i:=lI (rj:=s.rj) (td:=s.td) h.good b c;have j:=Cg (rj:=s.rj) (td:=s.td) h.sml g c;have e:(⟨c.toArray⟩:ByteArray).data.toList=c:=by simp
 simp only[e];unfold WV;simp only[e];split
 ·refine⟨⟨?_,?_,i,j⟩,Or.inr ?_⟩
  ·show s.lg++bM c=l.take (s.lg++bM c).length;rw[xc,<-f];exact a
  ·show(s.lg++bM c).length<=_;rw[xc];omega
  show(s.lg++bM c).length=_;rw[xc];omega
 exact⟨⟨h.lg,h.le,i,j⟩,Or.inl rfl⟩
def RM(l:List UInt8)(f:l.length<=4194304):UI l (VN l):={
 small:=λs h=>xi h.le (xi f (by omega))
 step:=λs c n h b a g d=>by
  obtain⟨j,k,e,m,p,q⟩:=gP d;rw[yw]at e;exact⟨by omega,λ_ _ td ls os rj i=>(lY i).1.good,(xZ h b a d).1⟩}
def Sp(h:WG (l.drop s.lg.length)=U):∀f,Xo f l s=s
 |0=>rfl
 |f+1=>by
  rw[Xo,h];split<;>rfl
def AT{k:Nat}(h:WG (l.drop k)=vb (c,n)):k<l.length:=by
 have:=(gP h).2.2.1
 have:=(gP h).2.2.2.1
 rw[yw]at *;omega
def LH(h:WG (l.drop s.lg.length)=vb (c,n))(a:(Z7 s ⟨c.toArray⟩).lg.length=s.lg.length)(f:Nat):Xo (f+1) l s=Z7 s ⟨c.toArray⟩:=by
 rw[Xo,xh (AT h),h];simp only;rw[xh a]
def Va(h:WG (l.drop s.lg.length)=vb (c,n))(a:(Z7 s ⟨c.toArray⟩).lg.length≠s.lg.length)(f:Nat):Xo (f+1) l s=Xo f l (Z7 s ⟨c.toArray⟩):=by
 rw[Xo,xh (AT h),h];simp only;rw[xg a]
variable {ls:List L}{os:List O}{rj:List (Nat×Nat)}
def El(g:s.lg=[])(a:zE c=vb (td,ls,os,rj)):Z7 s ⟨c.toArray⟩=⟨td,os,rj,ls,bM c⟩:=by
 have e:(⟨c.toArray⟩:ByteArray).data.toList=c:=by simp
 have d:c.getD 0 0=13:=by
  cases c with
  |nil=>cases a
  |cons b t=>
   by_cases f:b=13
   ·rw[f];rfl
   exfalso
   rw[zE,xg f]at a
   cases a
 unfold Z7;simp only[e];rw[xh ⟨g,d⟩,a]
def LZ(h:¬(s.lg=[]/\(zE c).isSome))(f:∃d b,Pl.cmd c=.ok (d,b)/\d<=12):Z7 s ⟨c.toArray⟩=aT s ⟨c.toArray⟩:=by
 have e:(⟨c.toArray⟩:ByteArray).data.toList=c:=by simp
 obtain⟨d,b,hd,g⟩:=f;unfold Z7;simp only[e];rw[xg];rintro⟨_,a⟩;have:=gK hd;rw[a]at this;simp at this;omega
def Ja(a:Pl.cmd c=.error b):b=1\/b=2:=by
 have h:=dN c;rw[a]at h;split at h
 ·injection h with h;exact Or.inl h
 split at h
 ·cases h
 injection h with h;exact Or.inr h
def Im(a:Pl.cmd c=.error b):aT s ⟨c.toArray⟩=s:=by
 have e:(⟨c.toArray⟩:ByteArray).data.toList=c:=by simp
 unfold aT WV rA;simp only[e,a];have d:zK s.rj s.td s.os s.ls (.error b)=([UInt8.ofNat b],s.td,s.os,s.rj,s.ls):=rfl;rw[d];rcases Ja a with rfl|rfl<;>rfl
variable {ns:List Nat}
def Pd(h:d=11\/d=12):(zK rj td os ls (.ok (d,ns))).2=(td,os,rj,ls):=by
 rcases h with rfl|rfl
 ·rcases ns with _|⟨a,_|⟨b,t⟩⟩
  ·rfl
  ·show(zK rj td os ls (.ok (11,[a]))).2=_;simp only[zK,ZQ,aM,Zi];split<;>rfl
  rfl
 rcases ns with _|⟨a,_|⟨b,_|⟨c,t⟩⟩⟩<;>rfl
def Px(b:Pl.cmd c=.ok (d,ns)):d<=12:=by
 rcases lW c with h|⟨g,f,_,_,a,e,_⟩
 ·rcases h d ns b with rfl|rfl|rfl|rfl|rfl|rfl|rfl|rfl|rfl|rfl<;>omega
 rw[b]at a;injection a with a
 injection a with h1 h2
 omega
def Pb(b:Pl.cmd c=.ok (d,ns))(hd:11<=d):aT s ⟨c.toArray⟩=s:=by
 have e:(⟨c.toArray⟩:ByteArray).data.toList=c:=by simp
 have f:=Px b;have a:=gK b;unfold aT WV rA;simp only[e,b,a];rw[show decide (d<=10)=false from xy (by omega),xbo];rw[Pd (by omega)];rfl
def LY(b:Pl.cmd c=.ok (d,ns))(hd:d<=10):(aT s ⟨c.toArray⟩).lg=if (zK s.rj s.td s.os s.ls (Pl.cmd c)).1.getD 0 1=0 then s.lg++bM c else s.lg:=by
 have e:(⟨c.toArray⟩:ByteArray).data.toList=c:=by simp
 have a:=gK b;unfold aT WV rA;simp only[e,a];rw[show decide (d<=10)=true from ya hd,xce];simp only[YQ]
open Go.RowKit
def OT(w:World):RI [] [] (λk=>w.heap.size<=k) (w.alloc (vf #[Y V 0,vd U 0 0,vd U 0 0,vd U 0 0,vj ⟨#[]⟩] 42)) w.heap.size 0 ⟨#[]⟩ []:=by
 refine⟨vd U 0 0,[],⟨vd U 0 0,[],vd U 0 0,[],[]⟩,⟨xq w _,yd _ _ _ _,rfl,⟨rfl,rfl⟩,⟨yd _ _ _ _,rfl,λi h=>absurd h (by simp),⟨yd _ _ _ _,rfl,λi h=>absurd h (by simp),(λg h=>by cases h)⟩⟩,by omega,λl h=>absurd h (by simp),by simp,Js,⟨by simp,by simp,by simp⟩⟩,xe _,(λg h=>by cases h),λg h=>?_⟩;rcases h with h|⟨i,h,_⟩|h|⟨i,h,_⟩
 ·cases h
 ·exact absurd h (by simp)
 ·cases h
 exact absurd h (by simp)
variable {Z Z0:Nat->Prop}{log rec rec':ByteArray}{w w' w0 wr:World}
def RI.good(h:RI os rj Z w R td rec ls):(∀l∈ls,L.Ok l)/\ls.length<=30/\R<w.heap.size/\Z R/\w.cell? ⟨R,4,U⟩=vb (vj rec)/\w.frozen? ⟨R,4,U⟩=false:=by
 obtain⟨v,c,ro,a,b,d,e⟩:=h;exact⟨a.ok,a.room,zc a.store,b,a.c4,ze a.store 4⟩
def RI.rec4(h:RI os rj Z w R td rec ls)(a:ByteArray):RI os rj Z (w.setCell ⟨R,4,U⟩ (vj a)) R td a ls:=by
 obtain⟨v,b,ro,c,d,e,f⟩:=h;exact⟨v,b,ro,c.recs _,d,e,f⟩
structure DoI(log:ByteArray)(w:World)(sf:Sv)(wr:World)(R:Nat)(s:Sv)(f:Nat)(rec:ByteArray):Prop where
 ri:RI s.os s.rj (λk=>w.heap.size<=k) wr R s.td rec s.ls
 bel:Below w.heap.size w wr
 ow:VN log.data.toList s
 rz:rec.size<=14*s.lg.length
 fuel:log.size-s.lg.length<=f
 fin:Xo f log.data.toList s=sf
def VF(log:ByteArray)(w:World)(sf:Sv)(e:Ending)(w':World):Prop:=∃R,e=vg (vi #[ve (vb ⟨R,0,U⟩),Y V ((sf.lg.length:Nat):Int)])/\Below w.heap.size w w'/\RI sf.os sf.rj (λk=>w.heap.size<=k) w' R sf.td (log.extract 0 sf.lg.length) sf.ls/\VN log.data.toList sf
def UK(a:Below w.heap.size w wr)(b:Kp (λk=>w.heap.size<=k) wr w'):Below w.heap.size w w' :=
 ⟨b.os.trans a.os,b.tape.trans a.tape,b.output.trans a.output,xi a.size b.size,λk c=>(b.block k (by have:=a.size;omega) (by omega)).trans (a.block k c)⟩
def DoI.done(h:DoI log w sf wr R s f rec){w1:World}(a:Below wr.heap.size wr w1)(b:s=sf):VF log w sf (vg (vi #[ve (vb ⟨R,0,U⟩),Y V ((s.lg.length:Nat):Int)])) (w1.setCell ⟨R,4,U⟩ (vj (log.extract 0 s.lg.length))):=by
 subst b;have c:=(h.ri.good).2.2.2.1;exact⟨R,rfl,(h.bel.trans (a.mono h.bel.size)).setCell (p:=⟨R,4,U⟩) c _,(h.ri.below a).rec4 _,h.ow⟩
def Ma(h:¬(s.lg=[]/\(zE c).isSome=true))(d:Pl.cmd c=.error b):Z7 s ⟨c.toArray⟩=s:=by
 have e:(⟨c.toArray⟩:ByteArray).data.toList=c:=by simp
 unfold Z7;simp only[e];split
 ·next a=>
  split
  ·next f=>exact absurd ⟨a.1,by rw[f];rfl⟩ h
  rfl
 exact Im d
def DoI.stop(h:DoI log w sf wr R s f rec){c:List UInt8}{n:Nat}(d:WG (log.data.toList.drop s.lg.length)=vb (c,n))(b:Z7 s ⟨c.toArray⟩=s):s=sf:=by
 have g:=AT d;have e:=h.fuel;have i:log.data.toList.length=log.size:=by simp
 obtain⟨a,rfl⟩:∃a,f=a+1:=⟨f-1,by omega⟩
 have:=LH d (by rw[b]) a
 rw[h.fin,b]at this;exact this.symm
def DoI.next{s':Sv}{g:Nat}(h:DoI log w sf wr R s f rec){c:List UInt8}{n:Nat}(b:WG (log.data.toList.drop s.lg.length)=vb (c,n))(e:s'=Z7 s ⟨c.toArray⟩)(p:s'.lg.length=s.lg.length+n)(d:RI s'.os s'.rj (λk=>w.heap.size<=k) w' g s'.td rec' s'.ls)(l:Below w.heap.size w w')(j:rec'.size<=rec.size+(c.length+13)):∃a,DoI log w sf w' g s' a rec':=by
 subst e;have q:=AT b;have m:=h.fuel;have z:log.data.toList.length=log.size:=by simp
 obtain⟨r,t,u,v,x,y⟩:=gP b;obtain⟨a,rfl⟩:∃a,f=a+1:=⟨f-1,by omega⟩
 have i:=h.ri.good;refine⟨a,d,l,(xZ h.ow i.1 i.2.1 b).1,?_,by omega,?_⟩
 ·have:=h.rz;omega
 rw[<-h.fin,Va b (by omega)]
def DoI.last{s':Sv}(h:DoI log w sf wr R s f rec){c:List UInt8}{n:Nat}(e:WG (log.data.toList.drop s.lg.length)=vb (c,n))(g:s'=Z7 s ⟨c.toArray⟩)(a:s'.lg.length=s.lg.length)(b:RI s'.os s'.rj (λk=>w.heap.size<=k) w' R s'.td rec' s'.ls)(l:Below w.heap.size w w'):VF log w sf (vg (vi #[ve (vb ⟨R,0,U⟩),Y V ((s.lg.length:Nat):Int)])) (w'.setCell ⟨R,4,U⟩ (vj (log.extract 0 s.lg.length))):=by
 subst g;have q:=AT e;have m:=h.fuel;have t:log.data.toList.length=log.size:=by simp
 obtain⟨d,rfl⟩:∃d,f=d+1:=⟨f-1,by omega⟩
 have j:=h.ri.good;have i:=LH e a d;rw[h.fin]at i;subst i;have r:=b.good.2.2.2.1;rw[<-a];exact⟨R,rfl,l.setCell (p:=⟨R,4,U⟩) r _,b.rec4 _,(xZ h.ow j.1 j.2.1 e).1⟩
structure InvS(Z0:Nat->Prop)(w0 w:World)(Q N:Nat):Prop where
 old:Kp Z0 w0 w
 two:∀k,Zn Z0 w0 k->4<=k
 gl:Gl w
 q:Zn Z0 w0 Q
 both:∃Lb R Zp Zr td ls os rj rec,w.heap[Q]?=vb (vf #[ve (vb ⟨Lb,0,U⟩),ve (vb ⟨R,0,U⟩)] 46 (0,0))/\PL rec.data.toList os rj Zp w Lb td ls/\RI os rj Zr w R td rec ls /\
  (∀k,Zp k->Zn Z0 w0 k/\k<w.heap.size/\k≠Q/\¬Zr k)/\(∀k,Zr k->Zn Z0 w0 k/\k<w.heap.size/\k≠Q)/\rec.size<=N/\Good os ls/\Wa os ls
def Wj(k:Nat):Prop:=False
def Kp.bel(h:Kp Wj w w'):Below w.heap.size w w':=⟨h.os,h.tape,h.output,h.size,λk a=>h.block k a (λq=>q)⟩
def InvS.below{f:Nat->Prop}{Q N:Nat}{i w w':World}(h:InvS f i w Q N)(b:Below w.heap.size w w'):InvS f i w' Q N:=by
 obtain⟨j,R,l,m,td,ls,os,rj,e,g,n,p,c,d,r⟩:=h.both;have s:=b.size;exact⟨h.old.after b,h.two,h.gl.below b,h.q,j,R,l,m,td,ls,os,rj,e,(b.block Q (zc g)).trans g,n.below b,p.below b,
  λk a=>⟨(c k a).1,by have:=(c k a).2.1;omega,(c k a).2.2⟩,λk a=>⟨(d k a).1,by have:=(d k a).2.1;omega,(d k a).2.2⟩,r⟩
def InvS.step{u j:Nat}{w2 m w5:World}{l g:Nat->Prop}{ls':List L}{os':List O}(E:Kp Z0 w0 w2)(c:∀k,Zn Z0 w0 k->4<=k)(z:Gl w2)(F:Zn Z0 w0 Q)
  (D:w2.heap[Q]?=vb (vf #[ve (vb ⟨u,0,U⟩),ve (vb ⟨R,0,U⟩)] 46 (0,0)))
  (f:∀k,l k->Zn Z0 w0 k/\k<w2.heap.size/\k≠Q/\¬g k) (i:∀k,g k->Zn Z0 w0 k/\k<w2.heap.size/\k≠Q)
  (e:Kp l w2 m) (B:PL rec'.data.toList os' rj (Zn l w2) m u j ls') (b:Kp g m w5) (C:RI os' rj (Zn g m) w5 R j rec' ls') (r:rec'.size<=N+n) (A:Good os' ls'/\Wa os' ls'):InvS Z0 w0 w5 Q (N+n):=by
 have w:=zc D;have x:¬l Q:=λh=>(f Q h).2.2.1 rfl
 have y:¬g Q:=λh=>(i Q h).2.2 rfl
 have G:=E.size;have H:=e.size;have J:=b.size;have p:=(e.block Q w x).trans D;have v:=(b.block Q (zc p) y).trans p;have s:∀k,k<4->¬l k:=λk a h=>by have:=c k (f k h).1;omega
 have t:∀k,k<4->¬g k:=λk a h=>by have:=c k (i k h).1;omega
 refine⟨(E.trans (e.mono (λk h=>(f k h).1))).trans (b.mono (λk h=>(i k h).1)),c,(z.kp e (s _ (by omega)) (s _ (by omega))).kp b (t _ (by omega)) (t _ (by omega)),F,
  u,R,λk=>Zn l w2 k/\k<m.heap.size,λk=>Zn g m k/\k<w5.heap.size,j,ls',os',rj,rec',v,?_,C.bound,?_,?_,r,A⟩
 ·refine B.bound.congr (λk a=>b.block k a.2 (λd=>?_));rcases a.1 with h|h
  ·exact(f k h).2.2.2 d
  have:=(i k d).2.1;omega
 ·rintro k ⟨a,q⟩;refine⟨?_,by omega,?_,?_⟩
  ·rcases a with h|h
   ·exact(f k h).1
   exact Or.inr (by omega)
  ·rcases a with h|h
   ·exact(f k h).2.2.1
   omega
  rintro⟨d,_⟩;rcases a with h|h
  ·rcases d with d|d
   ·exact(f k h).2.2.2 d
   have:=(f k h).2.1;omega
  rcases d with d|d
  ·have:=(i k d).2.1;omega
  omega
 rintro k ⟨a,q⟩;refine⟨?_,q,?_⟩
 ·rcases a with h|h
  ·exact(i k h).1
  exact Or.inr (by omega)
 rcases a with h|h
 ·exact(i k h).2.2
 omega
def InvS.grow{f:Nat}(h:InvS Z0 w0 w Q N)(hN:N<=f):InvS Z0 w0 w Q f:=by
 obtain⟨a,c,d,e,g,R,i,j,td,ls,os,rj,b,k,l,m,n,p,q,r⟩:=h;exact⟨a,c,d,e,g,R,i,j,td,ls,os,rj,b,k,l,m,n,p,xi q hN,r⟩
def Gj(w:World)(e:Gl w):InvS Wj w (aU w) (w.heap.size+1+1+1+1+1+1) 0:=by
 have d:Below w.heap.size w (aU w):=by
  unfold aU;exact(((((((xm _ _).alloc (xe _) _).alloc (by simp) _).alloc (by first|(simp;done)|(simp;omega)) _).alloc (by first|(simp;done)|(simp;omega)) _).alloc (by first|(simp;done)|(simp;omega)) _).alloc (by first|(simp;done)|(simp;omega)) _).alloc (by first|(simp;done)|(simp;omega)) _
 have v:(aU w).heap.size=w.heap.size+7:=by unfold aU;simp
 have f:(aU w).heap[w.heap.size]?=vb (.map #[] 0):=by
  unfold aU;exact zz (zz (zz (zz (zz (zz (xq w _) (by first|(simp;done)|(simp;omega))) (by first|(simp;done)|(simp;omega))) (by first|(simp;done)|(simp;omega))) (by first|(simp;done)|(simp;omega))) (by first|(simp;done)|(simp;omega))) (by first|(simp;done)|(simp;omega))
 have j:(aU w).heap[w.heap.size+1]?=vb (.map #[] 0):=by
  unfold aU;exact zz (zz (zz (zz (zz (zW _ _ _ (by first|(simp;done)|(simp;omega))) (by first|(simp;done)|(simp;omega))) (by first|(simp;done)|(simp;omega))) (by first|(simp;done)|(simp;omega))) (by first|(simp;done)|(simp;omega))) (by first|(simp;done)|(simp;omega))
 have m:(aU w).heap[w.heap.size+2]?=vb (.map #[] 0):=by
  unfold aU;exact zz (zz (zz (zz (zW _ _ _ (by first|(simp;done)|(simp;omega))) (by first|(simp;done)|(simp;omega))) (by first|(simp;done)|(simp;omega))) (by first|(simp;done)|(simp;omega))) (by first|(simp;done)|(simp;omega))
 have p:(aU w).heap[w.heap.size+3]?=vb (vf #[Y V 0,vd U 0 0,.map (vb w.heap.size),.map (vb (w.heap.size+1)),.map (vb (w.heap.size+1+1))] 117):=by
  unfold aU;exact zz (zz (zz (zW _ _ _ (by first|(simp;done)|(simp;omega))) (by first|(simp;done)|(simp;omega))) (by first|(simp;done)|(simp;omega))) (by first|(simp;done)|(simp;omega))
 have q:(aU w).heap[w.heap.size+4]?=vb (vf #[ve (vb ⟨w.heap.size+1+1+1,0,U⟩),vd U 0 0] 91):=by
  unfold aU;exact zz (zz (zW _ _ _ (by first|(simp;done)|(simp;omega))) (by first|(simp;done)|(simp;omega))) (by first|(simp;done)|(simp;omega))
 have r:(aU w).heap[w.heap.size+5]?=vb (vf #[Y V 0,vd U 0 0,vd U 0 0,vd U 0 0,vj ⟨#[]⟩] 42):=by
  unfold aU;exact zz (zW _ _ _ (by first|(simp;done)|(simp;omega))) (by simp)
 have s:(aU w).heap[w.heap.size+6]?=vb (vf #[ve (vb ⟨w.heap.size+1+1+1+1,0,U⟩),ve (vb ⟨w.heap.size+1+1+1+1+1,0,U⟩)] 46):=by
  unfold aU;exact zW _ _ _ (by simp)
 generalize aU w=W at *;have t:PV [] [] W (w.heap.size+1+1+1) ⟨w.heap.size+1+1,w.heap.size,w.heap.size+1⟩ (vd U 0 0) 0 [] [] []:=⟨p,⟨⟨.map [],cT m,⟨rfl,λa b _ _=>rfl,λx h=>by cases h⟩⟩,⟨by simp,by simp,by simp⟩,⟨.map [],cT f,⟨rfl,λn _=>rfl,λn _=>rfl,λx h=>by cases h⟩⟩,⟨.map [],cT j,⟨rfl,λa b _ _=>rfl,λa b _ _=>rfl⟩⟩,(by show w.heap.size+1+1≠w.heap.size;omega),(by show w.heap.size+1+1≠w.heap.size+1;omega),(by show w.heap.size≠w.heap.size+1;omega)⟩,yd _ _ _ _,rfl,rfl,λi h=>absurd h (by simp),λi h=>absurd h (by simp),by simp,by omega,λl h=>absurd h (by simp),by simp⟩
 have u:RV [] [] ⟨vd U 0 0,[],vd U 0 0,[],[]⟩ W (w.heap.size+1+1+1+1+1) (vd U 0 0) 0 ⟨#[]⟩ [] []:=⟨r,yd _ _ _ _,rfl,⟨rfl,rfl⟩,⟨yd _ _ _ _,rfl,λi h=>absurd h (by simp),⟨yd _ _ _ _,rfl,λi h=>absurd h (by simp),λg h=>by cases h⟩⟩,by omega,λl h=>absurd h (by simp),by simp,Js,⟨by simp,by simp,by simp⟩⟩
 refine⟨WT d,λk h=>h.elim False.elim (xi e.2.2),e.below d,Or.inr (by omega),w.heap.size+1+1+1+1,w.heap.size+1+1+1+1+1,λk=>w.heap.size<=k/\k<=w.heap.size+4,λk=>k=w.heap.size+5,0,[],[],[],⟨#[]⟩,s,?_,?_,?_,?_,?_,wU,LO⟩
 ·refine⟨w.heap.size+1+1+1,λk=>w.heap.size<=k/\k<=w.heap.size+3,vd U 0 0,q,by omega,λh=>by omega,λk h=>by omega,⟨_,_,_,_,t,⟨by omega,by show _/\_;simp only[];omega,by show _/\_;simp only[];omega,by show _/\_;simp only[];omega,(λg h=>by cases h),(λk h=>absurd h (by simp)),(λk h=>absurd h (by simp))⟩⟩,⟨yd _ _ _ _,λ_=>rfl⟩,λk h=>by cases h⟩
 ·refine⟨_,_,_,u,rfl,(λg h=>by cases h),λg h=>?_⟩;rcases h with h|⟨i,c,_⟩|h|⟨i,c,_⟩
  ·cases h
  ·exact absurd c (by simp)
  ·cases h
  exact absurd c (by simp)
 ·intro k h;refine⟨Or.inr (by omega),by omega,by omega,by omega⟩
 ·intro k h;refine⟨Or.inr (by omega),by omega,by omega⟩
 exact xe _
def tT(w:World)(a:Gl w):Calls prog 15 #[] w λe w'=>∃Q,e=vg (vi #[ve (vb ⟨Q,0,U⟩),vh true])/\InvS Wj w w' Q 0:=by
 have b:=@xcy prog;go_enter func15,ntmps15;go_wp2_with (first|(go_at_call 36;go_in)|(go_at_call 49;go_in));go_ret2;exact⟨_,rfl,Gj w a⟩
def Hs(h:InvS Z0 w0 w Q N)(hN:N<=35184372088832)(x y:Int)(s:ByteArray)(hs:s.size<=4194295):Calls prog 17 #[ve (vb ⟨Q,0,U⟩),.agg #[Y V 1,Y V x,Y V y,vj s]] w λe w'=>e=vg (vh true)/\InvS Z0 w0 w' Q (N+(s.size+13)):=by
 have ha:=Wm w (vf #[Y V 1,Y V x,Y V y,vj s] 29);have Z:=xq w (vf #[Y V 1,Y V x,Y V y,vj s] 29);obtain⟨C,a6,P,hQ,Lb,R,K,E,td,ls,os,rj,p,a2,a0,a3,f,g,b9,A,b8⟩:=h;have b:Below w.heap.size w (w.alloc (vf #[Y V 1,Y V x,Y V y,vj s] 29)).drew:=ha.drew;have hq:=(b.block Q (zc a2)).trans a2;have b6:=a0.below b;have D:=a3.below b;have M:=P.below b;have X:=C.after b;have h4:∀k,K k->Zn Z0 w0 k/\k<(w.alloc (vf #[Y V 1,Y V x,Y V y,vj s] 29)).drew.heap.size/\k≠Q/\¬E k:=λk n=>⟨(f k n).1,xl (f k n).2.1 b.size,(f k n).2.2⟩
 have h5:∀k,E k->Zn Z0 w0 k/\k<(w.alloc (vf #[Y V 1,Y V x,Y V y,vj s] 29)).drew.heap.size/\k≠Q:=λk n=>⟨(g k n).1,xl (g k n).2.1 b.size,(g k n).2.2⟩
 have a7:¬K w.heap.size:=λh=>xaa _ (f _ h).2.1
 have a8:¬E w.heap.size:=λh=>xaa _ (g _ h).2.1
 have b5:¬K w.heap.size:=a7;have b7:p.data.toList.length=p.size:=by rw[Yy];rfl
 have HH:=zb (AX b6 A M s (by omega) (λ_=>by rw[b7];omega));have q0:(w.alloc (vf #[Y V 1,Y V x,Y V y,vj s] 29)).cell? ⟨Q,0,U⟩=vb (ve (vb ⟨Lb,0,U⟩)):=by
  have:(w.alloc (vf #[Y V 1,Y V x,Y V y,vj s] 29)).heap[Q]?=_:=hq
  rw[za this];rfl
 have o3:(w.alloc (vf #[Y V 1,Y V x,Y V y,vj s] 29)).cell? ⟨w.heap.size,3,U⟩=vb (vj s):=by rw[za Z];rfl
 have o0:(w.alloc (vf #[Y V 1,Y V x,Y V y,vj s] 29)).cell? ⟨w.heap.size,0,U⟩=vb (Y V 1):=by rw[za Z];rfl
 go_enter func17,ntmps17;go_wp2_with fail;have q:Q<(w.alloc (vf #[Y V 1,Y V x,Y V y,vj s] 29)).heap.size:=zc hq;have z:w.heap.size<(w.alloc (vf #[Y V 1,Y V x,Y V y,vj s] 29)).heap.size:=by simp
 have b3:Ha (¬K Q):=λh=>(h4 Q h).2.2.1 rfl
 have b4:Ha (¬K w.heap.size):=b5;have a1:(w.alloc (vf #[Y V 1,Y V x,Y V y,vj s] 29)).cell? ⟨Q,1,U⟩=vb (ve (vb ⟨R,0,U⟩)):=by
  have:(w.alloc (vf #[Y V 1,Y V x,Y V y,vj s] 29)).heap[Q]?=_:=hq
  rw[za this];rfl
 go_region_held3 (λw'=>w'.cell? ⟨Q,0,U⟩=vb (ve (vb ⟨Lb,0,U⟩))/\w'.cell? ⟨w.heap.size,3,U⟩=vb (vj s)) (go_keep)
  (first
   |(go_at_call 23;refine(HH.o).mono ?_;rintro e F ⟨c,rfl,r⟩;have d:=c.block Q q b3.o;have i:=c.block w.heap.size z b4.o;have m0:=(xo (a:=⟨Q,0,U⟩) d).trans q0;have m1:=(xo (a:=⟨w.heap.size,3,U⟩) i).trans o3;have m2:=(xo (a:=⟨Q,1,U⟩) d).trans a1))
 have j:ls.length<=30:=by obtain⟨v,fs,ro,hP,_⟩:=D;exact hP.room
 have t:RI os rj E F.drew R td p ls:=(D.congr (λk n=>c.block k (h5 k n).2.1 (λhz=>(h4 k hz).2.2.2 n))).below (aF F);have HR:=zb (mP t A (by omega) s hs);have a5:Ha ((w.alloc (vf #[Y V 1,Y V x,Y V y,vj s] 29)).drew.heap.size<=F.heap.size):=c.size;have b1:Ha (Q<F.heap.size):=xl q a5.o;have b2:Ha (w.heap.size<F.heap.size):=xl z a5.o;have S:Ha (¬E Q):=λh=>(h5 Q h).2.2 rfl
 have T:Ha (¬E w.heap.size):=a8;have a9:=zb c;have J:=zb r;have H4:=zb h4;have H5:=zb h5;have W:∀l∈ls,L.Ok l:=by obtain⟨v,fs,ro,hP,_⟩:=D;exact hP.ok
 have G:=zb (And.intro (lI (rj:=rj) (td:=td) A j s.data.toList) (Cg (rj:=rj) (td:=td) b8 W s.data.toList));have H:=zb (λm (hx:RecX p s m (zK rj td os ls (Pl.cmd s.data.toList)).1)=>Ry hx);generalize zK rj td os ls (Pl.cmd s.data.toList)=st at HR J G H ⊢;obtain⟨sb,c7,os',c6,ls'⟩:=st;clear d i q0 o3 o0 a1 t c r h4 h5 f g HH m0 j W;go_wp2_with fail;go_region_held3 (λw'=>w'.cell? ⟨Q,1,U⟩=vb (ve (vb ⟨R,0,U⟩))/\w'.cell? ⟨w.heap.size,3,U⟩=vb (vj s)) (go_keep)
  (first
   |(go_at_call 37;refine(HR.o).mono ?_;rintro e w5 ⟨rfl,B,m,u,a4⟩;have c5:=u.size;have b0:=zb (H.o m u);have d:=B.block Q b1.o S.o;have i:=B.block w.heap.size b2.o T.o;have r1:=(xo (a:=⟨Q,1,U⟩) d).trans m2;have r2:=(xo (a:=⟨w.heap.size,3,U⟩) i).trans m1))
 clear d i r1 r2 m1 m2;go_wp2_with fail;go_ret;refine⟨rfl,?_⟩;exact InvS.step X a6 M hQ hq H4.o H5.o a9.o (by rw[<-b0.o];exact J.o) (Kp.before (aF F) (B.mono (λk h=>Or.inl h))) a4 (by omega) G.o
def lV(h:InvS Z0 w0 w Q N)(x y:Int)(s:ByteArray):Calls prog 17 #[ve (vb ⟨Q,0,U⟩),.agg #[Y V 2,Y V x,Y V y,vj s]] w λe w'=>e=vg (vh true)/\InvS Z0 w0 w' Q N:=by
 have i:=Wm w (vf #[Y V 2,Y V x,Y V y,vj s] 29);have b:=xq w (vf #[Y V 2,Y V x,Y V y,vj s] 29);have m:=zb (h.below i);obtain⟨n,R,t,u,td,ls,os,rj,a,k,c,g,p,q,f,j⟩:=(h.below i).both;have l:=zb (Rz c);have A:(w.alloc (vf #[Y V 2,Y V x,Y V y,vj s] 29)).cell? ⟨R,4,U⟩=vb (vj a):=by
  obtain⟨v,z,ro,r,_⟩:=g;rw[za r.store];rfl
 have C:(w.alloc (vf #[Y V 2,Y V x,Y V y,vj s] 29)).cell? ⟨Q,0,U⟩=vb (ve (vb ⟨n,0,U⟩)):=by rw[za k];rfl
 have D:(w.alloc (vf #[Y V 2,Y V x,Y V y,vj s] 29)).cell? ⟨Q,1,U⟩=vb (ve (vb ⟨R,0,U⟩)):=by rw[za k];rfl
 have B:(w.alloc (vf #[Y V 2,Y V x,Y V y,vj s] 29)).cell? ⟨w.heap.size,0,U⟩=vb (Y V 2):=by rw[za b];rfl
 have d:(⟨a.data.toList.toArray⟩:ByteArray)=a:=(SP a).symm;rw[d]at l;clear h i b k c g p q f j d;go_enter func17,ntmps17;go_wp2_with (first|(go_at_call 38;refine(l.o).mono ?_;rintro e E ⟨rfl,rfl⟩)|fail);go_ret;exact⟨rfl,m.o⟩
def LS(b:ByteArray)(e:b.size<=4194304)(w:World)(c:0<w.heap.size):Calls prog 59 #[vj b] w (Wc w b):=by
 by_cases d:0<b.size
 ·by_cases a:b[0]=13
  ·exact LU b e d a w c
  exact Ch b (Or.inr ⟨d,a⟩) w
 exact Ch b (Or.inl (by omega)) w
def Uf{b:ByteArray}{e:Ending}(h:Wc w b e w'):Below w.heap.size w w'/\∃p x,e=vg (vi #[p,vh x])/\(x=true↔(zE b.data.toList).isSome=true)/\∀td ls os rj,zE b.data.toList=vb (td,ls,os,rj)->∃S,p=ve (vb ⟨S,0,U⟩)/\RI os rj (λk=>w.heap.size<=k) w' S td ⟨#[]⟩ ls:=by
 unfold Wc at h;refine⟨h.1,?_⟩;have f:=h.2;split at f
 ·next td ls os rj c=>
  obtain⟨S,g,i⟩:=f;refine⟨_,_,g,by rw[c];simp,λj ls' os' d a=>?_⟩;rw[c]at a;injection a with a
  injection a with e1 a
  injection a with e2 a
  injection a with e3 e4
  subst e1 e2 e3 e4;exact⟨S,rfl,i⟩
 next c=>
 obtain⟨p,g⟩:=f;exact⟨p,false,g,by rw[c];simp,λj ls' os' d a=>by rw[c]at a;cases a⟩
def KY(log:ByteArray)(e4:log.size<=4194295)(w:World):Calls prog 42 #[vj log] w (VF log w (Xo log.size log.data.toList MN)):=by
 obtain⟨sf,b2⟩:=Xc (Xo log.size log.data.toList MN);rw[<-b2.o];have b4:Ha (∃(R:Nat) (s:Sv) (f:Nat) (W:ByteArray),(Value.pointer (vb ⟨w.heap.size,0,U⟩)=ve (vb ⟨R,0,U⟩))/\Y V 0=Y V ((s.lg.length:Nat):Int)/\DoI log w sf (w.alloc (vf #[Y V 0,vd U 0 0,vd U 0 0,vd U 0 0,vj ⟨#[]⟩] 42)) R s f W):=⟨w.heap.size,MN,log.size,⟨#[]⟩,rfl,rfl,OT w,Wm w _,La _,Nat.zero_le _,Nat.sub_le _ _,b2.o.symm⟩
 have G:Ha (log.data.toList.length=log.size):=by unfold Ha;simp
 go_enter func42,ntmps42;go_wp2_with fail;go_loopw [4,5,6,7,8,9,10,11,12,13] (λss nn _ _ _ _ _ _ _ _ wr=>∃(R:Nat) (s:Sv) (f:Nat) (W:ByteArray),ss=ve (vb ⟨R,0,U⟩)/\nn=Y V ((s.lg.length:Nat):Int)/\DoI log w sf wr R s f W) (λ_ nn _ _ _ _ _ _ _ _ _=>log.size-(intOf nn).toNat)
 case atStart=>exact b4.o
 clear b4;obtain⟨R,s,f,W,rfl,rfl,hd⟩:=hrel;have d6:s.lg.length<=log.size:=by have:=hd.ow.le;rw[G.o]at this;exact this
 have v:Ha ((log.extract s.lg.length log.size).data.toList=log.data.toList.drop s.lg.length):=by
  unfold Ha;rw[pY,ye];rw[yw,G.o];exact xe _
 have F:=zb (Jy (log.extract s.lg.length log.size) (by rw[Ya];omega));have HD:=zb hd;obtain⟨m,y⟩:=Xc s.lg.length;have f7:(0:Int)<=(m:Int):=by omega
 have f8:(m:Int)<=(log.size:Int):=by rw[y.o];omega
 obtain⟨e2,e3,hR,e9,b5,b8⟩:=hd.ri.good;rw[<-y.o]at v F ⊢;clear hd d6;go_wp2_with fail;refine(F.o _).mono ?_
 rintro e w1 ⟨i,rfl⟩
 cases hf:WG (log.data.toList.drop m) with
 |none=>
  have he:s=sf:=(Sp (by rw[<-y.o];exact hf) f).symm.trans HD.o.fin;rw[Jz (by rw[v.o];exact hf)];have a:=zb (HD.o.done i he);rw[<-y.o]at a;obtain⟨_,_,e7,_,c4,f4⟩:=(HD.o.ri.below i).good;clear hf F v b5 b8 i;go_wp2_with fail;go_ret2;exact a.o
 |some cn=>
  obtain⟨c,n⟩:=cn;have b7:WG (log.data.toList.drop s.lg.length)=vb (c,n):=by rw[<-y.o];exact hf
  have u:=zb b7;obtain⟨f1,f2,f3,fp,f5,f6⟩:=gP hf;rw[yw,G.o]at f3;rw[JA (by rw[v.o];exact hf)];have f9:((n:Int)==0)=false:=xr.2 (by omega);obtain⟨C,HC⟩:∃C:ByteArray,Ha (C=⟨c.toArray⟩):=⟨_,rfl⟩
  rw[<-HC.o];have a1:Ha (C.data.toList=c):=by unfold Ha;rw[HC.o]
  have d1:C.size=c.length:=by rw[HC.o];simp[ByteArray.size]
  have d8:0<w1.heap.size:=by have:=i.size;omega
  have d9:w.heap.size<=w1.heap.size:=xi HD.o.bel.size i.size;have b3:=zb (LS C (by omega) w1 d8);have D:=zb (iG C (by omega));have e5:=zb f1;have E:=zb f2;clear hf b7 f1 f2 F v b5 b8;go_wp2_with fail;refine(b3.o).mono ?_
  intro e w2 hP;obtain⟨a8,p,x,rfl,hx,T⟩:=Uf hP;rw[a1.o]at hx T;have z:Below wr.heap.size wr w2:=i.trans (a8.mono i.size);clear hP b3;by_cases Q:m=0/\x=true
  ·obtain⟨h0,rfl⟩:=Q;obtain⟨⟨td,ls,os,rj⟩,hr⟩:=Option.isSome_iff_exists.1 (hx.1 rfl);obtain⟨S,rfl,c5⟩:=T td ls os rj hr;have c8:s.lg=[]:=yl.1 (by rw[<-y.o];exact h0);have c7:=El c8 hr;obtain⟨f',A⟩:=HD.o.next (s':=⟨td,os,rj,ls,bM c⟩) u.o c7.symm (by show(bM c).length=_;rw[c8,<-E.o];simp) (c5.mono (λk hk=>xi d9 hk)) (HD.o.bel.trans (z.mono HD.o.bel.size)) (by show 0<=_;omega)
   have a2:=zb A;have a4:Ha (((bM c).length:Int)=(m:Int)+(n:Int)):=by unfold Ha;rw[<-E.o,h0];simp
   have e6:((m:Int)==0)=true:=by rw[h0];rfl
   clear A c5 T hx c7 hr a8 z i;go_wp2_with fail;go_roundw
   case rel=>exact⟨S,⟨td,os,rj,ls,bM c⟩,f',⟨#[]⟩,rfl,by show _=Y V ((bM c).length:Int);rw[a4.o];go_num,a2.o⟩
   simp[intOf];omega
  have b1:Ha (¬(s.lg=[]/\(zE c).isSome=true)):=λhh=>Q ⟨by rw[y.o,hh.1];rfl,hx.2 hh.2⟩
  have e1:=z.size;have a9:=zb z;have d4:(m=0/\x=false)\/0<m:=by
   rcases Nat.eq_zero_or_pos m with q|q
   ·refine Or.inl ⟨q,?_⟩
    cases x
    ·rfl
    exact absurd ⟨q,rfl⟩ Q
   exact Or.inr q
  clear Q hx T a8 z i;rcases d4 with ⟨hm,rfl⟩|hm
  all_goals
   first
   |(have d7:((m:Int)==0)=false:=xr.2 (by omega))
   |(have d7:((m:Int)==0)=true:=by rw[hm];rfl)
   clear hm;go_wp2_with fail;refine(D.o _).mono ?_
   intro e w3 B;unfold IH at B;obtain⟨K,B⟩:=B;rw[a1.o]at B;have l:Below wr.heap.size wr w3:=a9.o.trans (K.mono a9.o.size);have b0:=zb l;obtain⟨_,_,d2,_,c4,f4⟩:=(HD.o.ri.below l).good
   cases j:Pl.cmd c with
   |error b=>
    rw[j]at B;simp only at B;subst B;have he:=HD.o.stop u.o (Ma b1.o j);have a:=zb (HD.o.done l he);rw[<-y.o]at a;have f0:((b:Int) != 0)=true:=by rw[YP];rcases Ja j with rfl|rfl<;>omega
    clear K l D he;go_wp2_with fail;go_ret2;exact a.o
   |ok p=>
    obtain⟨d,ns⟩:=p;rw[j]at B;simp only at B;obtain⟨g,cap,rfl,_⟩:=B;have a7:=zb (LZ b1.o ⟨d,ns,j,Px j⟩);by_cases d0:11<=d
    ·have he:=HD.o.stop u.o (a7.o.trans (Pb j d0));have a:=zb (HD.o.done l he);rw[<-y.o]at a;have d5:decide ((11:Int)<=(d:Int))=true:=ya (by omega);clear K l D he;go_wp2_with fail;go_ret2;exact a.o
    have d5:decide ((11:Int)<=(d:Int))=false:=xy (by omega);have a3:=zb (mP (HD.o.ri.below l) HD.o.ow.good (by have:=HD.o.rz;have:=HD.o.ow.le;rw[G.o]at this;omega) C (by omega));rw[a1.o]at a3;have a6:=zb (LY (s:=s) j (by omega));have M:=Cb s.rj s.td s.os s.ls c;clear K l D j c4 f4 d2;go_wp2_with fail;refine(a3.o).mono ?_
    rintro e w4 ⟨rfl,b9,a0,c6,Z⟩;have r:RI (aT s ⟨c.toArray⟩).os (aT s ⟨c.toArray⟩).rj (λk=>w.heap.size<=k) w4 R (aT s ⟨c.toArray⟩).td a0 (aT s ⟨c.toArray⟩).ls:=Z.mono (λk hk=>by
     rcases hk with hk|hk
     ·exact hk
     exact xi (xi HD.o.bel.size b0.o.size) hk)
    have H:Below w.heap.size w w4:=UK (HD.o.bel.trans (b0.o.mono HD.o.bel.size)) b9;have P:=c6.size;rw[d1]at P;obtain⟨_,_,e8,_,c4,f4⟩:=r.good;obtain⟨e0,c9⟩:=Xc ((zK s.rj s.td s.os s.ls (Pl.cmd c)).1);rw[<-c9.o]at M a6 ⊢;clear Z b9 c6 a3
    cases e0 with
    |nil=>exact absurd rfl M
    |cons r0 rt=>
     obtain⟨RB,a5⟩:∃RB:ByteArray,Ha (RB=⟨(r0::rt).toArray⟩):=⟨_,rfl⟩
     rw[<-a5.o];have d3:0<RB.size:=by rw[a5.o];simp[ByteArray.size]
     have J:RB[0]=r0:=by
      have:∀(X:ByteArray) (h:0<X.size),X=⟨(r0::rt).toArray⟩->X[0]=r0:=λX h e=>by subst e;rfl
      exact this RB d3 a5.o
     by_cases N:r0=0
     ·have b6:((RB[0].toNat:Int) != 0)=false:=by rw[J,N];rfl
      have t:(aT s ⟨c.toArray⟩).lg=s.lg++bM c:=by rw[a6.o];exact xh N
      obtain⟨f',A⟩:=HD.o.next (s':=aT s ⟨c.toArray⟩) u.o a7.o.symm (by rw[t,xc,<-E.o]) r H P
      have a2:=zb A;have a4:Ha (((aT s ⟨c.toArray⟩).lg.length:Int)=(m:Int)+(n:Int)):=by unfold Ha;rw[t,xc,<-E.o,y.o];omega
      clear A r H P t J M;go_wp2_with fail;go_roundw
      case rel=>exact⟨R,aT s ⟨c.toArray⟩,f',a0,rfl,by rw[a4.o],a2.o⟩
      simp[intOf];omega
     have b6:((RB[0].toNat:Int) != 0)=true:=by
      rw[YP,J];intro e;exact N (Yk.1 (by have:=Int.ofNat.inj e;exact this))
     have t:(aT s ⟨c.toArray⟩).lg=s.lg:=by rw[a6.o];exact xg N
     have a:=zb (HD.o.last u.o a7.o.symm (by rw[t]) r H);rw[<-y.o]at a;clear r H P t J M;go_wp2_with fail;go_ret2;exact a.o
def Hr(h:InvS Z0 w0 w Q N)(x y:Int)(s:ByteArray):Calls prog 17 #[ve (vb ⟨Q,0,U⟩),.agg #[Y V 3,Y V x,Y V y,vj s]] w λe w'=>e=vg (vh true)/\InvS Z0 w0 w' Q 100000:=by
 have ha:=Wm w (vf #[Y V 3,Y V x,Y V y,vj s] 29);have F:=xq w (vf #[Y V 3,Y V x,Y V y,vj s] 29);have hI:=h.below ha;obtain⟨j,u,D,hQ,Z,R,Zp,Zr,td,ls,os,rj,a0,S,G,r,C,M,T,b,c⟩:=hI;have W:=zb (AE G b c);have q0:(w.alloc (vf #[Y V 3,Y V x,Y V y,vj s] 29)).cell? ⟨Q,0,U⟩=vb (ve (vb ⟨Z,0,U⟩)):=by rw[za S];rfl
 have o0:(w.alloc (vf #[Y V 3,Y V x,Y V y,vj s] 29)).cell? ⟨w.heap.size,0,U⟩=vb (Y V 3):=by rw[za F];rfl
 have f:Tiny td os rj ls:=by obtain⟨v,fs,ro,z,_⟩:=r;exact⟨z.today,z.ok,z.room,b,c,z.rc⟩
 have J:=λ(A:World) (a:Kp Zp _ A)=>AF (r.congr (λk P=>a.block k (M k P).2.1 (λK=>(C k K).2.2.2 P))) b (λn hn=>by have:=f.small n hn;omega) (λl hl p m=>by have:=(c.lot l hl).2 p m;omega) (λo ho p m=>by have:=f.line ho m;omega) (λp m=>by have:=f.rc.fits p m;omega) (by have:=f.bytes;omega)
 have B:=zb J;have d:=S;have g:Ha ((Xv td os rj ls).data.toList=bM (Xu td os rj ls)):=by unfold Ha Xv MK;simp
 have i:Ha ((Xv td os rj ls).size<=100000):=by
  unfold Ha Xv;have h1:=qG ⟨(Xu td os rj ls).toArray⟩ (by rw[xaG];have:=f.bytes;simp;omega);have e1:(⟨(Xu td os rj ls).toArray⟩:ByteArray).size=(Xu td os rj ls).length:=by rw[xaG];simp
  rw[e1]at h1;have:=f.bytes;omega
 go_enter func17,ntmps17;go_wp2_with (first
  |(go_at_call 39;refine(W.o).mono ?_;rintro e A ⟨rfl,a,q⟩;have H:=(a.block Q (zc d) (λK=>(C Q K).2.2.1 rfl)).trans d;have q1:A.cell? ⟨Q,1,U⟩=vb (ve (vb ⟨R,0,U⟩)):=(by rw[za H];rfl);have X:=zb (B.o A a))
  |(go_at_call 40;refine(X.o).mono ?_;rintro e w5 ⟨rfl,E,t⟩))
 go_ret;refine⟨rfl,?_⟩
 exact InvS.step (N:=100000) (n:=0) j u D hQ d C M a (by rw[g.o];exact q) E t i.o ⟨b,c⟩
def Hm{w1 w2:World}{d:Nat}(b:Kv w.heap.size w w1 Z d sf)(j:Below w1.heap.size w1 w2)(f:RI sf.os sf.rj (λk=>w1.heap.size<=k) w2 R sf.td (log.extract 0 sf.lg.length) sf.ls)(c:VN log.data.toList sf)(m:log.size<=4194304):InvS Wj w (w2.alloc (vf #[ve (vb ⟨d,0,U⟩),ve (vb ⟨R,0,U⟩)] 46)) w2.heap.size log.size:=by
 have e:=b.below j;have i:=Wm w2 (vf #[ve (vb ⟨d,0,U⟩),ve (vb ⟨R,0,U⟩)] 46);have a:=e.below i;have r:(w2.alloc (vf #[ve (vb ⟨d,0,U⟩),ve (vb ⟨R,0,U⟩)] 46)).heap.size=w2.heap.size+1:=by simp
 have n:=b.size;have p:=j.size;have g:(log.extract 0 sf.lg.length).data.toList=sf.lg:=by rw[pY,xbp,xcq];exact c.lg.symm
 refine⟨WT a.old,λk h=>h.elim False.elim (xi a.two),a.gl,Or.inr e.size,d,R,Z,λk=>w1.heap.size<=k/\k<w2.heap.size,sf.td,sf.ls,sf.os,sf.rj,log.extract 0 sf.lg.length,xq w2 _,?_,f.bound.below i,λk l=>?_,λk l=>?_,?_,c.good,c.sml⟩
 ·rw[g];exact a.pl
 ·have:=b.zin k l
  exact⟨Or.inr this.1,by omega,by omega,λq=>by omega⟩
 ·exact⟨Or.inr (by omega),by omega,by omega⟩
 rw[Ya];omega
def DL(log:ByteArray)(d:log.size<=4194295)(w:World)(n:Gl w)(q:GmU w.heap.size w):Calls prog 19 #[vj log] w λe w'=>∃Q,e=vg (vi #[ve (vb ⟨Q,0,U⟩),vh true])/\InvS Wj w w' Q log.size:=by
 have p:log.data.toList.length=log.size:=by simp
 have j:=zb (KZ w n q log (by omega) (VN log.data.toList) (La _) (RM _ (by omega)));have k:=zb (λw1=>KY log d w1);have a:log.size<=4194304:=by omega
 generalize Xo log.size log.data.toList MN=sf at *;go_enter func19,ntmps19;go_wp2_with fail;refine(j.o).mono ?_
 rintro e w1 ⟨r,Z,rfl,c⟩;have i:=zb c;clear c j;go_wp2_with fail;refine(k.o w1).mono ?_
 rintro e w2 ⟨R,rfl,b,g,f⟩;have l:=zb (Hm i.o b g f a);have m:=zb (lV l.o 0 0 ⟨#[]⟩);clear b g f i k;go_wp2_with fail;refine(m.o).mono ?_
 rintro e s ⟨rfl,h⟩;go_wp2_with fail;go_ret2;exact⟨_,rfl,h⟩
