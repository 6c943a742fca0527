import Derived.Test.YtgcedalggnmooaaGreatDoorOpAX
import Derived.Test.YtgcedalggnmooaaGreatDoorRiX
set_option linter.all false
set_option maxRecDepth 100000
namespace Go.Proofs.YtgcedalggnmooaaGreatDoor
variable {R b d f n td:Nat}{c l:List UInt8}
theorem gD(h:Ut l=some (c,n)):l.take n=cF c/\n=(cF c).length/\n<=l.length/\0<n/\c.length<=n/\n<=c.length+13:=by
 unfold Ut at h;split at h
 ·cases h
 next i=>
 split at h
 ·cases h
 next j=>
 split at h
 ·cases h
 next k=>
 split at h
 ·next m=>
  simp only[Xj,XD]at h;obtain⟨rfl,rfl⟩:=h;have r:=Pl.snd_le l;have q:=Pl.snd_le9 l;have g:l=Pl.num (Pl.fst l)++l.drop (Pl.snd l):=xB (by unfold UU;rw[xg i]);generalize Pl.snd l=s at *;generalize Pl.fst l=f at *;rw[Xs]at j k;have p:(Pl.num f).length=s:=by
   have:=YA List.length g
   rw[xb,Xs]at this;omega
  have a:((l.drop s).take f).length=f:=by rw[Xt,Xs];omega
  have d:l.take s=Pl.num f:=by
   rw[g,List.take_append_of_le_length (by omega),Xh (by omega)]
  have b:l.take (s+f)=Pl.num f++(l.drop s).take f:=by rw[xbQ,d]
  have t:=eF (l.take (s+f));have e:cF ((l.drop s).take f)=l.take (s+f+4):=by
   unfold cF;rw[a,<-b,<-m,<-xbQ]
  refine⟨e.symm,?_,by omega,by omega,by omega,by omega⟩;rw[e,Xt];omega
 cases h
theorem Ii(l:List UInt8):Uu l=(Ut l).map (λ_=>(Pl.snd l,Pl.fst l)):=by
 have f:=Pl.snd_le l;unfold Uu Ut;simp only[Xs];by_cases b:Pl.snd l=0
 ·rw[xe (Or.inl b),xe b];rfl
 rw[xg b];by_cases c:l.length-Pl.snd l<Pl.fst l
 ·rw[xe c,xe (by omega)];rfl
 rw[xg c];by_cases d:l.length-(Pl.snd l+Pl.fst l)<4
 ·rw[xe d,xe (by omega)];rfl
 rw[xg d,xg (by omega)];by_cases a:(l.drop (Pl.snd l+Pl.fst l)).take 4=nG (l.take (Pl.snd l+Pl.fst l))
 ·rw[xe a,xe a.symm];rfl
 rw[xg a,xg (λe=>a e.symm)];rfl
theorem Ig{s:ByteArray}(h:Ut s.data.toList=none):Pa s=.tuple #[.string ⟨#[]⟩,.int .i64 0]:=by
 unfold Pa;rw[Ii,h];rfl
theorem Ih{s:ByteArray}(h:Ut s.data.toList=some (c,n)):Pa s=.tuple #[.string ⟨c.toArray⟩,.int .i64 ((n:Nat):Int)]:=by
 unfold Pa;rw[Ii,h];unfold Ut at h;split at h
 ·cases h
 split at h
 ·cases h
 split at h
 ·cases h
 split at h
 ·simp only[Xj,XD]at h;obtain⟨rfl,rfl⟩:=h;simp only[XK];congr 3
  ·congr 1
   apply YN
   apply Array.ext'
   rw[pE,xby]
 cases h
structure TD(l:List UInt8)(s:Sv):Prop where
 lg:s.lg=l.take s.lg.length
 le:s.lg.length<=l.length
 good:Good s.os s.ls
 sml:TQ s.os s.ls
theorem Jq(l:List UInt8):TD l Ld:=⟨rfl,Nat.zero_le _,DY,Ql⟩
variable {s sf:Sv}
theorem wV(h:TD l s)(g:∀l∈s.ls,L.Ok l)(b:s.ls.length<=30){c:List UInt8}{n:Nat}(t:Ut (l.drop s.lg.length)=some (c,n)):TD l (ZZ s ⟨c.toArray⟩)/\((ZZ s ⟨c.toArray⟩).lg.length=s.lg.length\/(ZZ s ⟨c.toArray⟩).lg.length=s.lg.length+n):=by
 obtain⟨m,f,p,w,x,y⟩:=gD t;rw[Xs]at p;have u:=h.le;have a:s.lg++cF c=l.take (s.lg.length+n):=by rw[xbQ,<-h.lg,m]
 unfold ZZ;split
 ·next q=>
  obtain⟨d,r⟩:=q;simp only;split
  ·next td ls os rj v=>
   have k:=(lH v).1;rw[d,xbK,XB,Yu]at a;refine⟨⟨?_,?_,k.good,k.sml⟩,Or.inr ?_⟩
   ·show cF c=l.take (cF c).length;rw[<-f];exact a
   ·show(cF c).length<=_;omega
   show(cF c).length=_;rw[d,<-f];simp
  exact⟨h,Or.inl rfl⟩
 unfold bI;have i:=kR (rj:=s.rj) (td:=s.td) h.good b c;have j:=Bm (rj:=s.rj) (td:=s.td) h.sml g c;have e:(⟨c.toArray⟩:ByteArray).data.toList=c:=by simp
 simp only[e];unfold UF;simp only[e];split
 ·refine⟨⟨?_,?_,i,j⟩,Or.inr ?_⟩
  ·show s.lg++cF c=l.take (s.lg++cF c).length;rw[xb,<-f];exact a
  ·show(s.lg++cF c).length<=_;rw[xb];omega
  show(s.lg++cF c).length=_;rw[xb];omega
 exact⟨⟨h.lg,h.le,i,j⟩,Or.inl rfl⟩
theorem PH(l:List UInt8)(f:l.length<=4194304):SC l (TD l):={
 small:=λs h=>xj h.le (xj f (by omega))
 step:=λs c n h b a g d=>by
  obtain⟨j,k,e,m,p,q⟩:=gD d;rw[Xs]at e;exact⟨by omega,λ_ _ td ls os rj i=>(lH i).1.good,(wV h b a d).1⟩}
theorem Qi(h:Ut (l.drop s.lg.length)=none):∀f,UX f l s=s
 |0=>rfl
 |f+1=>by
  rw[UX,h];split<;>rfl
theorem Ai{k:Nat}(h:Ut (l.drop k)=some (c,n)):k<l.length:=by
 have:=(gD h).2.2.1
 have:=(gD h).2.2.2.1
 rw[Xs]at *;omega
theorem JO(h:Ut (l.drop s.lg.length)=some (c,n))(a:(ZZ s ⟨c.toArray⟩).lg.length=s.lg.length)(f:Nat):UX (f+1) l s=ZZ s ⟨c.toArray⟩:=by
 rw[UX,xe (Ai h),h];simp only;rw[xe a]
theorem SR(h:Ut (l.drop s.lg.length)=some (c,n))(a:(ZZ s ⟨c.toArray⟩).lg.length≠s.lg.length)(f:Nat):UX (f+1) l s=UX f l (ZZ s ⟨c.toArray⟩):=by
 rw[UX,xe (Ai h),h];simp only;rw[xg a]
variable {ls:List L}{os:List O}{rj:List (Nat×Nat)}
theorem Ds(g:s.lg=[])(a:zI c=some (td,ls,os,rj)):ZZ s ⟨c.toArray⟩=⟨td,os,rj,ls,cF c⟩:=by
 have e:(⟨c.toArray⟩:ByteArray).data.toList=c:=by simp
 have d:c.getD 0 0=13:=by
  cases c with
  |nil=>cases a
  |cons b t=>
   by_cases f:b=13
   ·rw[f];rfl
   exfalso
   rw[zI,xg f]at a
   cases a
 unfold ZZ;simp only[e];rw[xe ⟨g,d⟩,a]
theorem Kf(h:¬(s.lg=[]/\(zI c).isSome))(f:∃d b,Pl.cmd c=.ok (d,b)/\d<=12):ZZ s ⟨c.toArray⟩=bI s ⟨c.toArray⟩:=by
 have e:(⟨c.toArray⟩:ByteArray).data.toList=c:=by simp
 obtain⟨d,b,hd,g⟩:=f;unfold ZZ;simp only[e];rw[xg];rintro⟨_,a⟩;have:=gA hd;rw[a]at this;simp at this;omega
theorem Hg(a:Pl.cmd c=.error b):b=1\/b=2:=by
 have h:=dL c;rw[a]at h;split at h
 ·injection h with h;exact Or.inl h
 split at h
 ·cases h
 injection h with h;exact Or.inr h
theorem Gy(a:Pl.cmd c=.error b):bI s ⟨c.toArray⟩=s:=by
 have e:(⟨c.toArray⟩:ByteArray).data.toList=c:=by simp
 unfold bI UF qF;simp only[e,a];have d:zO s.rj s.td s.os s.ls (.error b)=([UInt8.ofNat b],s.td,s.os,s.rj,s.ls):=rfl;rw[d];rcases Hg a with rfl|rfl<;>rfl
variable {ns:List Nat}
theorem Nm(h:d=11\/d=12):(zO rj td os ls (.ok (d,ns))).2=(td,os,rj,ls):=by
 rcases h with rfl|rfl
 ·rcases ns with _|⟨a,_|⟨b,t⟩⟩
  ·rfl
  ·show(zO rj td os ls (.ok (11,[a]))).2=_;simp only[zO,ZP,aH,Zi];split<;>rfl
  rfl
 rcases ns with _|⟨a,_|⟨b,_|⟨c,t⟩⟩⟩<;>rfl
theorem NF(b:Pl.cmd c=.ok (d,ns)):d<=12:=by
 rcases lF c with h|⟨g,f,_,_,a,e,_⟩
 ·rcases h d ns b with rfl|rfl|rfl|rfl|rfl|rfl|rfl|rfl|rfl|rfl<;>omega
 rw[b]at a;injection a with a
 injection a with h1 h2
 omega
theorem Nk(b:Pl.cmd c=.ok (d,ns))(hd:11<=d):bI s ⟨c.toArray⟩=s:=by
 have e:(⟨c.toArray⟩:ByteArray).data.toList=c:=by simp
 have f:=NF b;have a:=gA b;unfold bI UF qF;simp only[e,b,a];rw[show decide (d<=10)=false from xu (by omega),xah];rw[Nm (by omega)];rfl
theorem Ke(b:Pl.cmd c=.ok (d,ns))(hd:d<=10):(bI s ⟨c.toArray⟩).lg=if (zO s.rj s.td s.os s.ls (Pl.cmd c)).1.getD 0 1=0 then s.lg++cF c else s.lg:=by
 have e:(⟨c.toArray⟩:ByteArray).data.toList=c:=by simp
 have a:=gA b;unfold bI UF qF;simp only[e,a];rw[show decide (d<=10)=true from xy hd,xaR];simp only[yl]
open Go.RowKit
theorem Nb(w:World):RI [] [] (λk=>w.heap.size<=k) (w.alloc (.cells #[.int .i64 0,.slice none 0 0,.slice none 0 0,.slice none 0 0,.string ⟨#[]⟩] 42)) w.heap.size 0 ⟨#[]⟩ []:=by
 refine⟨.slice none 0 0,[],⟨.slice none 0 0,[],.slice none 0 0,[],[]⟩,⟨xo w _,Xi _ _ _ _,rfl,⟨rfl,rfl⟩,⟨Xi _ _ _ _,rfl,λi h=>absurd h (by simp),⟨Xi _ _ _ _,rfl,λi h=>absurd h (by simp),(λg h=>by cases h)⟩⟩,by omega,λl h=>absurd h (by simp),by simp,OX,⟨by simp,by simp,by simp⟩⟩,xc _,(λg h=>by cases h),λg h=>?_⟩;rcases h with h|⟨i,h,_⟩|h|⟨i,h,_⟩
 ·cases h
 ·exact absurd h (by simp)
 ·cases h
 exact absurd h (by simp)
variable {log rec:ByteArray}{w w' wr:World}
theorem RI.good{Z:Nat->Prop}(h:RI os rj Z w R td rec ls):(∀l∈ls,L.Ok l)/\ls.length<=30/\R<w.heap.size/\Z R/\w.cell? ⟨R,4,none⟩=some (.string rec)/\w.frozen? ⟨R,4,none⟩=false:=by
 obtain⟨v,c,ro,a,b,d,e⟩:=h;exact⟨a.ok,a.room,zc a.store,b,a.c4,zf a.store 4⟩
theorem RI.rec4{Z:Nat->Prop}(h:RI os rj Z w R td rec ls)(a:ByteArray):RI os rj Z (w.setCell ⟨R,4,none⟩ (.string a)) R td a ls:=by
 obtain⟨v,b,ro,c,d,e,f⟩:=h;exact⟨v,b,ro,c.recs _,d,e,f⟩
structure DoI(log:ByteArray)(w:World)(sf:Sv)(wr:World)(R:Nat)(s:Sv)(f:Nat)(rec:ByteArray):Prop where
 ri:RI s.os s.rj (λk=>w.heap.size<=k) wr R s.td rec s.ls
 bel:Below w.heap.size w wr
 ow:TD log.data.toList s
 rz:rec.size<=14*s.lg.length
 fuel:log.size-s.lg.length<=f
 fin:UX f log.data.toList s=sf
def Tw(log:ByteArray)(w:World)(sf:Sv)(e:Ending)(w':World):Prop:=∃R,e=.returned (.tuple #[.pointer (some ⟨R,0,none⟩),.int .i64 ((sf.lg.length:Nat):Int)])/\Below w.heap.size w w'/\RI sf.os sf.rj (λk=>w.heap.size<=k) w' R sf.td (log.extract 0 sf.lg.length) sf.ls/\TD log.data.toList sf
theorem SE(a:Below w.heap.size w wr)(b:Kp (λk=>w.heap.size<=k) wr w'):Below w.heap.size w w' :=
 ⟨b.os.trans a.os,b.tape.trans a.tape,b.output.trans a.output,xj a.size b.size,λk c=>(b.block k (by have:=a.size;omega) (by omega)).trans (a.block k c)⟩
theorem DoI.done(h:DoI log w sf wr R s f rec){w1:World}(a:Below wr.heap.size wr w1)(b:s=sf):Tw log w sf (.returned (.tuple #[.pointer (some ⟨R,0,none⟩),.int .i64 ((s.lg.length:Nat):Int)])) (w1.setCell ⟨R,4,none⟩ (.string (log.extract 0 s.lg.length))):=by
 subst b;have c:=(h.ri.good).2.2.2.1;exact⟨R,rfl,(h.bel.trans (a.mono h.bel.size)).setCell (p:=⟨R,4,none⟩) c _,(h.ri.below a).rec4 _,h.ow⟩
theorem Kg(h:¬(s.lg=[]/\(zI c).isSome=true))(d:Pl.cmd c=.error b):ZZ s ⟨c.toArray⟩=s:=by
 have e:(⟨c.toArray⟩:ByteArray).data.toList=c:=by simp
 unfold ZZ;simp only[e];split
 ·next a=>
  split
  ·next f=>exact absurd ⟨a.1,by rw[f];rfl⟩ h
  rfl
 exact Gy d
theorem DoI.stop(h:DoI log w sf wr R s f rec){c:List UInt8}{n:Nat}(d:Ut (log.data.toList.drop s.lg.length)=some (c,n))(b:ZZ s ⟨c.toArray⟩=s):s=sf:=by
 have g:=Ai d;have e:=h.fuel;have i:log.data.toList.length=log.size:=by simp
 obtain⟨a,rfl⟩:∃a,f=a+1:=⟨f-1,by omega⟩
 have:=JO d (by rw[b]) a
 rw[h.fin,b]at this;exact this.symm
theorem DoI.next{s':Sv}{i:Nat}{a:ByteArray}(h:DoI log w sf wr R s f rec){c:List UInt8}{n:Nat}(d:Ut (log.data.toList.drop s.lg.length)=some (c,n))(g:s'=ZZ s ⟨c.toArray⟩)(q:s'.lg.length=s.lg.length+n)(e:RI s'.os s'.rj (λk=>w.heap.size<=k) w' i s'.td a s'.ls)(m:Below w.heap.size w w')(l:a.size<=rec.size+(c.length+13)):∃b,DoI log w sf w' i s' b a:=by
 subst g;have r:=Ai d;have p:=h.fuel;have A:log.data.toList.length=log.size:=by simp
 obtain⟨t,u,v,x,y,z⟩:=gD d;obtain⟨b,rfl⟩:∃b,f=b+1:=⟨f-1,by omega⟩
 have j:=h.ri.good;refine⟨b,e,m,(wV h.ow j.1 j.2.1 d).1,?_,by omega,?_⟩
 ·have:=h.rz;omega
 rw[<-h.fin,SR d (by omega)]
theorem DoI.last{s':Sv}{d:ByteArray}(h:DoI log w sf wr R s f rec){c:List UInt8}{n:Nat}(g:Ut (log.data.toList.drop s.lg.length)=some (c,n))(i:s'=ZZ s ⟨c.toArray⟩)(a:s'.lg.length=s.lg.length)(b:RI s'.os s'.rj (λk=>w.heap.size<=k) w' R s'.td d s'.ls)(m:Below w.heap.size w w'):Tw log w sf (.returned (.tuple #[.pointer (some ⟨R,0,none⟩),.int .i64 ((s.lg.length:Nat):Int)])) (w'.setCell ⟨R,4,none⟩ (.string (log.extract 0 s.lg.length))):=by
 subst i;have r:=Ai g;have q:=h.fuel;have u:log.data.toList.length=log.size:=by simp
 obtain⟨e,rfl⟩:∃e,f=e+1:=⟨f-1,by omega⟩
 have l:=h.ri.good;have j:=JO g a e;rw[h.fin]at j;subst j;have t:=b.good.2.2.2.1;rw[<-a];exact⟨R,rfl,m.setCell (p:=⟨R,4,none⟩) t _,b.rec4 _,(wV h.ow l.1 l.2.1 g).1⟩
