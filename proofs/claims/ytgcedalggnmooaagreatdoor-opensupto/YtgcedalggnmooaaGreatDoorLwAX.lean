import Derived.Test.YtgcedalggnmooaaGreatDoorDc5X
import Derived.Test.YtgcedalggnmooaaGreatDoorOppX
import Derived.Test.YtgcedalggnmooaaGreatDoorSou
set_option linter.all false
set_option maxRecDepth 100000
set_option maxHeartbeats 6400000
namespace Go.Proofs.YtgcedalggnmooaaGreatDoor
open Go.RowKit
open Tryz
structure InvS(Z0:Nat->Prop)(w0 w:World)(Q N:Nat):Prop where
 old:Kp Z0 w0 w
 two:∀k,Zn Z0 w0 k->4<=k
 gl:Gl w
 q:Zn Z0 w0 Q
 both:∃Lb R Zp Zr td ls os rj rec,w.heap[Q]?=some (.cells #[.pointer (some ⟨Lb,0,none⟩),.pointer (some ⟨R,0,none⟩)] 46 (0,0))/\PL rec.data.toList os rj Zp w Lb td ls/\RI os rj Zr w R td rec ls /\
  (∀k,Zp k->Zn Z0 w0 k/\k<w.heap.size/\k≠Q/\¬Zr k)/\(∀k,Zr k->Zn Z0 w0 k/\k<w.heap.size/\k≠Q)/\rec.size<=N/\Good os ls/\TQ os ls
def TX(k:Nat):Prop:=False
variable {w w' w0:World}
theorem Kp.bel(h:Kp TX w w'):Below w.heap.size w w':=⟨h.os,h.tape,h.output,h.size,λk a=>h.block k a (λq=>q)⟩
theorem InvS.below{f:Nat->Prop}{Q N:Nat}{i w w':World}(h:InvS f i w Q N)(b:Below w.heap.size w w'):InvS f i w' Q N:=by
 obtain⟨j,R,l,m,td,ls,os,rj,e,g,n,p,c,d,r⟩:=h.both;have s:=b.size;exact⟨h.old.after b,h.two,h.gl.below b,h.q,j,R,l,m,td,ls,os,rj,e,(b.block Q (zc g)).trans g,n.below b,p.below b,
  λk a=>⟨(c k a).1,by have:=(c k a).2.1;omega,(c k a).2.2⟩,λk a=>⟨(d k a).1,by have:=(d k a).2.1;omega,(d k a).2.2⟩,r⟩
variable {N Q:Nat}{Z0:Nat->Prop}
theorem InvS.step{rj:List (Nat×Nat)}{n v R l:Nat}{w2 p w5:World}{m i:Nat->Prop}{ls':List L}{os':List O}{a:ByteArray}(F:Kp Z0 w0 w2)(d:∀k,Zn Z0 w0 k->4<=k)(A:Gl w2)(G:Zn Z0 w0 Q)
  (E:w2.heap[Q]?=some (.cells #[.pointer (some ⟨v,0,none⟩),.pointer (some ⟨R,0,none⟩)] 46 (0,0)))
  (g:∀k,m k->Zn Z0 w0 k/\k<w2.heap.size/\k≠Q/\¬i k) (j:∀k,i k->Zn Z0 w0 k/\k<w2.heap.size/\k≠Q)
  (f:Kp m w2 p) (C:PL a.data.toList os' rj (Zn m w2) p v l ls') (c:Kp i p w5) (D:RI os' rj (Zn i p) w5 R l a ls') (s:a.size<=N+n) (B:Good os' ls'/\TQ os' ls'):InvS Z0 w0 w5 Q (N+n):=by
 have x:=zc E;have y:¬m Q:=λh=>(g Q h).2.2.1 rfl
 have z:¬i Q:=λh=>(j Q h).2.2 rfl
 have H:=F.size;have J:=f.size;have K:=c.size;have q:=(f.block Q x y).trans E;have w:=(c.block Q (zc q) z).trans q;have t:∀k,k<4->¬m k:=λk b h=>by have:=d k (g k h).1;omega
 have u:∀k,k<4->¬i k:=λk b h=>by have:=d k (j k h).1;omega
 refine⟨(F.trans (f.mono (λk h=>(g k h).1))).trans (c.mono (λk h=>(j k h).1)),d,(A.kp f (t _ (by omega)) (t _ (by omega))).kp c (u _ (by omega)) (u _ (by omega)),G,
  v,R,λk=>Zn m w2 k/\k<p.heap.size,λk=>Zn i p k/\k<w5.heap.size,l,ls',os',rj,a,w,?_,D.bound,?_,?_,s,B⟩
 ·refine C.bound.congr (λk b=>c.block k b.2 (λe=>?_));rcases b.1 with h|h
  ·exact(g k h).2.2.2 e
  have:=(j k e).2.1;omega
 ·rintro k ⟨b,r⟩;refine⟨?_,by omega,?_,?_⟩
  ·rcases b with h|h
   ·exact(g k h).1
   exact Or.inr (by omega)
  ·rcases b with h|h
   ·exact(g k h).2.2.1
   omega
  rintro⟨e,_⟩;rcases b with h|h
  ·rcases e with e|e
   ·exact(g k h).2.2.2 e
   have:=(g k h).2.1;omega
  rcases e with e|e
  ·have:=(j k e).2.1;omega
  omega
 rintro k ⟨b,r⟩;refine⟨?_,r,?_⟩
 ·rcases b with h|h
  ·exact(j k h).1
  exact Or.inr (by omega)
 rcases b with h|h
 ·exact(j k h).2.2
 omega
theorem InvS.grow{f:Nat}(h:InvS Z0 w0 w Q N)(hN:N<=f):InvS Z0 w0 w Q f:=by
 obtain⟨a,c,d,e,g,R,i,j,td,ls,os,rj,b,k,l,m,n,p,q,r⟩:=h;exact⟨a,c,d,e,g,R,i,j,td,ls,os,rj,b,k,l,m,n,p,xj q hN,r⟩
theorem Gg(h:InvS Z0 w0 w Q N)(hN:N<=35184372088832)(x y:Int)(s:ByteArray)(hs:s.size<=4194295):Calls prog 17 #[.pointer (some ⟨Q,0,none⟩),.agg #[.int .i64 1,.int .i64 x,.int .i64 y,.string s]] w λe w'=>e=.returned (.bool true)/\InvS Z0 w0 w' Q (N+(s.size+13)):=by
 have ha:=TZ w (.cells #[.int .i64 1,.int .i64 x,.int .i64 y,.string s] 29);have Z:=xo w (.cells #[.int .i64 1,.int .i64 x,.int .i64 y,.string s] 29);obtain⟨C,a6,P,hQ,Lb,R,K,E,td,ls,os,rj,p,a2,a0,a3,f,g,b9,A,b8⟩:=h;have b:Below w.heap.size w (w.alloc (.cells #[.int .i64 1,.int .i64 x,.int .i64 y,.string s] 29)).drew:=ha.drew;have hq:=(b.block Q (zc a2)).trans a2;have b6:=a0.below b;have D:=a3.below b;have M:=P.below b;have X:=C.after b;have h4:∀k,K k->Zn Z0 w0 k/\k<(w.alloc (.cells #[.int .i64 1,.int .i64 x,.int .i64 y,.string s] 29)).drew.heap.size/\k≠Q/\¬E k:=λk n=>⟨(f k n).1,xn (f k n).2.1 b.size,(f k n).2.2⟩
 have h5:∀k,E k->Zn Z0 w0 k/\k<(w.alloc (.cells #[.int .i64 1,.int .i64 x,.int .i64 y,.string s] 29)).drew.heap.size/\k≠Q:=λk n=>⟨(g k n).1,xn (g k n).2.1 b.size,(g k n).2.2⟩
 have a7:¬K w.heap.size:=λh=>Yf _ (f _ h).2.1
 have a8:¬E w.heap.size:=λh=>Yf _ (g _ h).2.1
 have b5:¬K w.heap.size:=a7;have b7:p.data.toList.length=p.size:=by rw[Array.length_toList];rfl
 have HH:=zb (An b6 A M s (by omega) (λ_=>by rw[b7];omega));have q0:(w.alloc (.cells #[.int .i64 1,.int .i64 x,.int .i64 y,.string s] 29)).cell? ⟨Q,0,none⟩=some (.pointer (some ⟨Lb,0,none⟩)):=by
  have:(w.alloc (.cells #[.int .i64 1,.int .i64 x,.int .i64 y,.string s] 29)).heap[Q]?=_:=hq
  rw[za this];rfl
 have o3:(w.alloc (.cells #[.int .i64 1,.int .i64 x,.int .i64 y,.string s] 29)).cell? ⟨w.heap.size,3,none⟩=some (.string s):=by rw[za Z];rfl
 have o0:(w.alloc (.cells #[.int .i64 1,.int .i64 x,.int .i64 y,.string s] 29)).cell? ⟨w.heap.size,0,none⟩=some (.int .i64 1):=by rw[za Z];rfl
 go_enter func17,ntmps17;go_wp2_with fail;have q:Q<(w.alloc (.cells #[.int .i64 1,.int .i64 x,.int .i64 y,.string s] 29)).heap.size:=zc hq;have z:w.heap.size<(w.alloc (.cells #[.int .i64 1,.int .i64 x,.int .i64 y,.string s] 29)).heap.size:=by simp
 have b3:Ha (¬K Q):=λh=>(h4 Q h).2.2.1 rfl
 have b4:Ha (¬K w.heap.size):=b5;have a1:(w.alloc (.cells #[.int .i64 1,.int .i64 x,.int .i64 y,.string s] 29)).cell? ⟨Q,1,none⟩=some (.pointer (some ⟨R,0,none⟩)):=by
  have:(w.alloc (.cells #[.int .i64 1,.int .i64 x,.int .i64 y,.string s] 29)).heap[Q]?=_:=hq
  rw[za this];rfl
 go_region_held3 (λw'=>w'.cell? ⟨Q,0,none⟩=some (.pointer (some ⟨Lb,0,none⟩))/\w'.cell? ⟨w.heap.size,3,none⟩=some (.string s)) (go_keep)
  (first
   |(go_at_call 23;refine(HH.o).mono ?_;rintro e F ⟨c,rfl,r⟩;have d:=c.block Q q b3.o;have i:=c.block w.heap.size z b4.o;have m0:=(xm (a:=⟨Q,0,none⟩) d).trans q0;have m1:=(xm (a:=⟨w.heap.size,3,none⟩) i).trans o3;have m2:=(xm (a:=⟨Q,1,none⟩) d).trans a1))
 have j:ls.length<=30:=by obtain⟨v,fs,ro,hP,_⟩:=D;exact hP.room
 have t:RI os rj E F.drew R td p ls:=(D.congr (λk n=>c.block k (h5 k n).2.1 (λhz=>(h4 k hz).2.2.2 n))).below (ZC F);have HR:=zb (lZ t A (by omega) s hs);have a5:Ha ((w.alloc (.cells #[.int .i64 1,.int .i64 x,.int .i64 y,.string s] 29)).drew.heap.size<=F.heap.size):=c.size;have b1:Ha (Q<F.heap.size):=xn q a5.o;have b2:Ha (w.heap.size<F.heap.size):=xn z a5.o;have S:Ha (¬E Q):=λh=>(h5 Q h).2.2 rfl
 have T:Ha (¬E w.heap.size):=a8;have a9:=zb c;have J:=zb r;have H4:=zb h4;have H5:=zb h5;have W:∀l∈ls,L.Ok l:=by obtain⟨v,fs,ro,hP,_⟩:=D;exact hP.ok
 have G:=zb (And.intro (kR (rj:=rj) (td:=td) A j s.data.toList) (Bm (rj:=rj) (td:=td) b8 W s.data.toList));have H:=zb (λm (hx:RecX p s m (zO rj td os ls (Pl.cmd s.data.toList)).1)=>Pw hx);generalize zO rj td os ls (Pl.cmd s.data.toList)=st at HR J G H ⊢;obtain⟨sb,c7,os',c6,ls'⟩:=st;clear d i q0 o3 o0 a1 t c r h4 h5 f g HH m0 j W;go_wp2_with fail;go_region_held3 (λw'=>w'.cell? ⟨Q,1,none⟩=some (.pointer (some ⟨R,0,none⟩))/\w'.cell? ⟨w.heap.size,3,none⟩=some (.string s)) (go_keep)
  (first
   |(go_at_call 37;refine(HR.o).mono ?_;rintro e w5 ⟨rfl,B,m,u,a4⟩;have c5:=u.size;have b0:=zb (H.o m u);have d:=B.block Q b1.o S.o;have i:=B.block w.heap.size b2.o T.o;have r1:=(xm (a:=⟨Q,1,none⟩) d).trans m2;have r2:=(xm (a:=⟨w.heap.size,3,none⟩) i).trans m1))
 clear d i r1 r2 m1 m2;go_wp2_with fail;go_ret;refine⟨rfl,?_⟩;exact InvS.step X a6 M hQ hq H4.o H5.o a9.o (by rw[<-b0.o];exact J.o) (Kp.before (ZC F) (B.mono (λk h=>Or.inl h))) a4 (by omega) G.o
theorem lE(h:InvS Z0 w0 w Q N)(x y:Int)(s:ByteArray):Calls prog 17 #[.pointer (some ⟨Q,0,none⟩),.agg #[.int .i64 2,.int .i64 x,.int .i64 y,.string s]] w λe w'=>e=.returned (.bool true)/\InvS Z0 w0 w' Q N:=by
 have i:=TZ w (.cells #[.int .i64 2,.int .i64 x,.int .i64 y,.string s] 29);have b:=xo w (.cells #[.int .i64 2,.int .i64 x,.int .i64 y,.string s] 29);have m:=zb (h.below i);obtain⟨n,R,t,u,td,ls,os,rj,a,k,c,g,p,q,f,j⟩:=(h.below i).both;have l:=zb (Px c);have A:(w.alloc (.cells #[.int .i64 2,.int .i64 x,.int .i64 y,.string s] 29)).cell? ⟨R,4,none⟩=some (.string a):=by
  obtain⟨v,z,ro,r,_⟩:=g;rw[za r.store];rfl
 have C:(w.alloc (.cells #[.int .i64 2,.int .i64 x,.int .i64 y,.string s] 29)).cell? ⟨Q,0,none⟩=some (.pointer (some ⟨n,0,none⟩)):=by rw[za k];rfl
 have D:(w.alloc (.cells #[.int .i64 2,.int .i64 x,.int .i64 y,.string s] 29)).cell? ⟨Q,1,none⟩=some (.pointer (some ⟨R,0,none⟩)):=by rw[za k];rfl
 have B:(w.alloc (.cells #[.int .i64 2,.int .i64 x,.int .i64 y,.string s] 29)).cell? ⟨w.heap.size,0,none⟩=some (.int .i64 2):=by rw[za b];rfl
 have d:(⟨a.data.toList.toArray⟩:ByteArray)=a:=(QK a).symm;rw[d]at l;clear h i b k c g p q f j d;go_enter func17,ntmps17;go_wp2_with (first|(go_at_call 38;refine(l.o).mono ?_;rintro e E ⟨rfl,rfl⟩)|fail);go_ret;exact⟨rfl,m.o⟩
theorem JY(b:ByteArray)(e:b.size<=4194304)(w:World)(c:0<w.heap.size):Calls prog 59 #[.string b] w (TS w b):=by
 by_cases d:0<b.size
 ·by_cases a:b[0]=13
  ·exact JZ b e d a w c
  exact Bo b (Or.inr ⟨d,a⟩) w
 exact Bo b (Or.inl (by omega)) w
theorem Sa{b:ByteArray}{e:Ending}(h:TS w b e w'):Below w.heap.size w w'/\∃p x,e=.returned (.tuple #[p,.bool x])/\(x=true↔(zI b.data.toList).isSome=true)/\∀td ls os rj,zI b.data.toList=some (td,ls,os,rj)->∃S,p=.pointer (some ⟨S,0,none⟩)/\RI os rj (λk=>w.heap.size<=k) w' S td ⟨#[]⟩ ls:=by
 unfold TS at h;refine⟨h.1,?_⟩;have f:=h.2;split at f
 ·next td ls os rj c=>
  obtain⟨S,g,i⟩:=f;refine⟨_,_,g,by rw[c];simp,λj ls' os' d a=>?_⟩;rw[c]at a;injection a with a
  injection a with e1 a
  injection a with e2 a
  injection a with e3 e4
  subst e1 e2 e3 e4;exact⟨S,rfl,i⟩
 next c=>
 obtain⟨p,g⟩:=f;exact⟨p,false,g,by rw[c];simp,λj ls' os' d a=>by rw[c]at a;cases a⟩
theorem Jm(log:ByteArray)(e4:log.size<=4194295)(w:World):Calls prog 42 #[.string log] w (Tw log w (UX log.size log.data.toList Ld)):=by
 obtain⟨sf,b2⟩:=UM (UX log.size log.data.toList Ld);rw[<-b2.o];have b4:Ha (∃(R:Nat) (s:Sv) (f:Nat) (W:ByteArray),(Value.pointer (some ⟨w.heap.size,0,none⟩)=.pointer (some ⟨R,0,none⟩))/\Value.int .i64 0=.int .i64 ((s.lg.length:Nat):Int)/\DoI log w sf (w.alloc (.cells #[.int .i64 0,.slice none 0 0,.slice none 0 0,.slice none 0 0,.string ⟨#[]⟩] 42)) R s f W):=⟨w.heap.size,Ld,log.size,⟨#[]⟩,rfl,rfl,Nb w,TZ w _,Jq _,Nat.zero_le _,Nat.sub_le _ _,b2.o.symm⟩
 have G:Ha (log.data.toList.length=log.size):=by unfold Ha;simp
 go_enter func42,ntmps42;go_wp2_with fail;go_loopw [4,5,6,7,8,9,10,11,12,13] (λss nn _ _ _ _ _ _ _ _ wr=>∃(R:Nat) (s:Sv) (f:Nat) (W:ByteArray),ss=.pointer (some ⟨R,0,none⟩)/\nn=.int .i64 ((s.lg.length:Nat):Int)/\DoI log w sf wr R s f W) (λ_ nn _ _ _ _ _ _ _ _ _=>log.size-(intOf nn).toNat)
 case atStart=>exact b4.o
 clear b4;obtain⟨R,s,f,W,rfl,rfl,hd⟩:=hrel;have d6:s.lg.length<=log.size:=by have:=hd.ow.le;rw[G.o]at this;exact this
 have v:Ha ((log.extract s.lg.length log.size).data.toList=log.data.toList.drop s.lg.length):=by
  unfold Ha;rw[pE,Xh];rw[Xs,G.o];exact xc _
 have F:=zb (Ie (log.extract s.lg.length log.size) (by rw[XC];omega));have HD:=zb hd;obtain⟨m,y⟩:=UM s.lg.length;have f7:(0:Int)<=(m:Int):=by omega
 have f8:(m:Int)<=(log.size:Int):=by rw[y.o];omega
 obtain⟨e2,e3,hR,e9,b5,b8⟩:=hd.ri.good;rw[<-y.o]at v F ⊢;clear hd d6;go_wp2_with fail;refine(F.o _).mono ?_
 rintro e w1 ⟨i,rfl⟩
 cases hf:Ut (log.data.toList.drop m) with
 |none=>
  have he:s=sf:=(Qi (by rw[<-y.o];exact hf) f).symm.trans HD.o.fin;rw[Ig (by rw[v.o];exact hf)];have a:=zb (HD.o.done i he);rw[<-y.o]at a;obtain⟨_,_,e7,_,c4,f4⟩:=(HD.o.ri.below i).good;clear hf F v b5 b8 i;go_wp2_with fail;go_ret2;exact a.o
 |some cn=>
  obtain⟨c,n⟩:=cn;have b7:Ut (log.data.toList.drop s.lg.length)=some (c,n):=by rw[<-y.o];exact hf
  have u:=zb b7;obtain⟨f1,f2,f3,fp,f5,f6⟩:=gD hf;rw[Xs,G.o]at f3;rw[Ih (by rw[v.o];exact hf)];have f9:((n:Int)==0)=false:=xp.2 (by omega);obtain⟨C,HC⟩:∃C:ByteArray,Ha (C=⟨c.toArray⟩):=⟨_,rfl⟩
  rw[<-HC.o];have a1:Ha (C.data.toList=c):=by unfold Ha;rw[HC.o]
  have d1:C.size=c.length:=by rw[HC.o];simp[ByteArray.size]
  have d8:0<w1.heap.size:=by have:=i.size;omega
  have d9:w.heap.size<=w1.heap.size:=xj HD.o.bel.size i.size;have b3:=zb (JY C (by omega) w1 d8);have D:=zb (gX C (by omega));have e5:=zb f1;have E:=zb f2;clear hf b7 f1 f2 F v b5 b8;go_wp2_with fail;refine(b3.o).mono ?_
  intro e w2 hP;obtain⟨a8,p,x,rfl,hx,T⟩:=Sa hP;rw[a1.o]at hx T;have z:Below wr.heap.size wr w2:=i.trans (a8.mono i.size);clear hP b3;by_cases Q:m=0/\x=true
  ·obtain⟨h0,rfl⟩:=Q;obtain⟨⟨td,ls,os,rj⟩,hr⟩:=Option.isSome_iff_exists.1 (hx.1 rfl);obtain⟨S,rfl,c5⟩:=T td ls os rj hr;have c8:s.lg=[]:=Xn.1 (by rw[<-y.o];exact h0);have c7:=Ds c8 hr;obtain⟨f',A⟩:=HD.o.next (s':=⟨td,os,rj,ls,cF c⟩) u.o c7.symm (by show(cF c).length=_;rw[c8,<-E.o];simp) (c5.mono (λk hk=>xj d9 hk)) (HD.o.bel.trans (z.mono HD.o.bel.size)) (by show 0<=_;omega)
   have a2:=zb A;have a4:Ha (((cF c).length:Int)=(m:Int)+(n:Int)):=by unfold Ha;rw[<-E.o,h0];simp
   have e6:((m:Int)==0)=true:=by rw[h0];rfl
   clear A c5 T hx c7 hr a8 z i;go_wp2_with fail;go_roundw
   case rel=>exact⟨S,⟨td,os,rj,ls,cF c⟩,f',⟨#[]⟩,rfl,by show _=Value.int .i64 ((cF c).length:Int);rw[a4.o];go_num,a2.o⟩
   simp[intOf];omega
  have b1:Ha (¬(s.lg=[]/\(zI c).isSome=true)):=λhh=>Q ⟨by rw[y.o,hh.1];rfl,hx.2 hh.2⟩
  have e1:=z.size;have a9:=zb z;have d4:(m=0/\x=false)\/0<m:=by
   rcases Nat.eq_zero_or_pos m with q|q
   ·refine Or.inl ⟨q,?_⟩
    cases x
    ·rfl
    exact absurd ⟨q,rfl⟩ Q
   exact Or.inr q
  clear Q hx T a8 z i;rcases d4 with ⟨hm,rfl⟩|hm
  all_goals
   first
   |(have d7:((m:Int)==0)=false:=xp.2 (by omega))
   |(have d7:((m:Int)==0)=true:=by rw[hm];rfl)
   clear hm;go_wp2_with fail;refine(D.o _).mono ?_
   intro e w3 B;unfold GQ at B;obtain⟨K,B⟩:=B;rw[a1.o]at B;have l:Below wr.heap.size wr w3:=a9.o.trans (K.mono a9.o.size);have b0:=zb l;obtain⟨_,_,d2,_,c4,f4⟩:=(HD.o.ri.below l).good
   cases j:Pl.cmd c with
   |error b=>
    rw[j]at B;simp only at B;subst B;have he:=HD.o.stop u.o (Kg b1.o j);have a:=zb (HD.o.done l he);rw[<-y.o]at a;have f0:((b:Int) != 0)=true:=by rw[yk];rcases Hg j with rfl|rfl<;>omega
    clear K l D he;go_wp2_with fail;go_ret2;exact a.o
   |ok p=>
    obtain⟨d,ns⟩:=p;rw[j]at B;simp only at B;obtain⟨g,cap,rfl,_⟩:=B;have a7:=zb (Kf b1.o ⟨d,ns,j,NF j⟩);by_cases d0:11<=d
    ·have he:=HD.o.stop u.o (a7.o.trans (Nk j d0));have a:=zb (HD.o.done l he);rw[<-y.o]at a;have d5:decide ((11:Int)<=(d:Int))=true:=xy (by omega);clear K l D he;go_wp2_with fail;go_ret2;exact a.o
    have d5:decide ((11:Int)<=(d:Int))=false:=xu (by omega);have a3:=zb (lZ (HD.o.ri.below l) HD.o.ow.good (by have:=HD.o.rz;have:=HD.o.ow.le;rw[G.o]at this;omega) C (by omega));rw[a1.o]at a3;have a6:=zb (Ke (s:=s) j (by omega));have M:=Bg s.rj s.td s.os s.ls c;clear K l D j c4 f4 d2;go_wp2_with fail;refine(a3.o).mono ?_
    rintro e w4 ⟨rfl,b9,a0,c6,Z⟩;have r:RI (bI s ⟨c.toArray⟩).os (bI s ⟨c.toArray⟩).rj (λk=>w.heap.size<=k) w4 R (bI s ⟨c.toArray⟩).td a0 (bI s ⟨c.toArray⟩).ls:=Z.mono (λk hk=>by
     rcases hk with hk|hk
     ·exact hk
     exact xj (xj HD.o.bel.size b0.o.size) hk)
    have H:Below w.heap.size w w4:=SE (HD.o.bel.trans (b0.o.mono HD.o.bel.size)) b9;have P:=c6.size;rw[d1]at P;obtain⟨_,_,e8,_,c4,f4⟩:=r.good;obtain⟨e0,c9⟩:=UM ((zO s.rj s.td s.os s.ls (Pl.cmd c)).1);rw[<-c9.o]at M a6 ⊢;clear Z b9 c6 a3
    cases e0 with
    |nil=>exact absurd rfl M
    |cons r0 rt=>
     obtain⟨RB,a5⟩:∃RB:ByteArray,Ha (RB=⟨(r0::rt).toArray⟩):=⟨_,rfl⟩
     rw[<-a5.o];have d3:0<RB.size:=by rw[a5.o];simp[ByteArray.size]
     have J:RB[0]=r0:=by
      have:∀(X:ByteArray) (h:0<X.size),X=⟨(r0::rt).toArray⟩->X[0]=r0:=λX h e=>by subst e;rfl
      exact this RB d3 a5.o
     by_cases N:r0=0
     ·have b6:((RB[0].toNat:Int) != 0)=false:=by rw[J,N];rfl
      have t:(bI s ⟨c.toArray⟩).lg=s.lg++cF c:=by rw[a6.o];exact xe N
      obtain⟨f',A⟩:=HD.o.next (s':=bI s ⟨c.toArray⟩) u.o a7.o.symm (by rw[t,xb,<-E.o]) r H P
      have a2:=zb A;have a4:Ha (((bI s ⟨c.toArray⟩).lg.length:Int)=(m:Int)+(n:Int)):=by unfold Ha;rw[t,xb,<-E.o,y.o];omega
      clear A r H P t J M;go_wp2_with fail;go_roundw
      case rel=>exact⟨R,bI s ⟨c.toArray⟩,f',a0,rfl,by rw[a4.o],a2.o⟩
      simp[intOf];omega
     have b6:((RB[0].toNat:Int) != 0)=true:=by
      rw[yk,J];intro e;exact N (XI.1 (by have:=Int.ofNat.inj e;exact this))
     have t:(bI s ⟨c.toArray⟩).lg=s.lg:=by rw[a6.o];exact xg N
     have a:=zb (HD.o.last u.o a7.o.symm (by rw[t]) r H);rw[<-y.o]at a;clear r H P t J M;go_wp2_with fail;go_ret2;exact a.o
theorem Gc{log:ByteArray}{w1 w2:World}{Z:Nat->Prop}{e R:Nat}{a:Sv}(c:Kv w.heap.size w w1 Z e a)(l:Below w1.heap.size w1 w2)(g:RI a.os a.rj (λk=>w1.heap.size<=k) w2 R a.td (log.extract 0 a.lg.length) a.ls)(d:TD log.data.toList a)(n:log.size<=4194304):InvS TX w (w2.alloc (.cells #[.pointer (some ⟨e,0,none⟩),.pointer (some ⟨R,0,none⟩)] 46)) w2.heap.size log.size:=by
 have f:=c.below l;have j:=TZ w2 (.cells #[.pointer (some ⟨e,0,none⟩),.pointer (some ⟨R,0,none⟩)] 46);have b:=f.below j;have s:(w2.alloc (.cells #[.pointer (some ⟨e,0,none⟩),.pointer (some ⟨R,0,none⟩)] 46)).heap.size=w2.heap.size+1:=by simp
 have p:=c.size;have r:=l.size;have i:(log.extract 0 a.lg.length).data.toList=a.lg:=by rw[pE,xai,xbd];exact d.lg.symm
 refine⟨UD b.old,λk h=>h.elim False.elim (xj b.two),b.gl,Or.inr f.size,e,R,Z,λk=>w1.heap.size<=k/\k<w2.heap.size,a.td,a.ls,a.os,a.rj,log.extract 0 a.lg.length,xo w2 _,?_,g.bound.below j,λk m=>?_,λk m=>?_,?_,d.good,d.sml⟩
 ·rw[i];exact b.pl
 ·have:=c.zin k m
  exact⟨Or.inr this.1,by omega,by omega,λq=>by omega⟩
 ·exact⟨Or.inr (by omega),by omega,by omega⟩
 rw[XC];omega
theorem qN(log:ByteArray)(d:log.size<=4194295)(w:World)(n:Gl w)(q:GmU w.heap.size w):Calls prog 19 #[.string log] w λe w'=>∃Q,e=.returned (.tuple #[.pointer (some ⟨Q,0,none⟩),.bool true])/\InvS TX w w' Q log.size:=by
 have p:log.data.toList.length=log.size:=by simp
 have j:=zb (Jn w n q log (by omega) (TD log.data.toList) (Jq _) (PH _ (by omega)));have k:=zb (λw1=>Jm log d w1);have a:log.size<=4194304:=by omega
 generalize UX log.size log.data.toList Ld=sf at *;go_enter func19,ntmps19;go_wp2_with fail;refine(j.o).mono ?_
 rintro e w1 ⟨r,Z,rfl,c⟩;have i:=zb c;clear c j;go_wp2_with fail;refine(k.o w1).mono ?_
 rintro e w2 ⟨R,rfl,b,g,f⟩;have l:=zb (Gc i.o b g f a);have m:=zb (lE l.o 0 0 ⟨#[]⟩);clear b g f i k;go_wp2_with fail;refine(m.o).mono ?_
 rintro e s ⟨rfl,h⟩;go_wp2_with fail;go_ret2;exact⟨_,rfl,h⟩
theorem Jp(log:ByteArray)(m:log.size<=4194295)(b l len cap:Nat)(n:List ByteArray)(G:len<=n.length)(z:len<=4194304)(h:∀j,j<len->(n.getD j ByteArray.empty).size<=4194295)(w:World)(C:Gl w)(D:GmU w.heap.size w)(A:b<w.heap.size)
  (t:∀j,j<len->w.cell? ⟨b,l+j,none⟩=some (.string (n.getD j ByteArray.empty))) :
  Calls prog 9 #[.string log,.slice (some ⟨b,l,none⟩) len cap] w λe w'=>e=.returned (.bool true)/\Below w.heap.size w w':=by
 have x:=zb (qN log m w C D);go_enter func9,ntmps9;go_wp2_with fail;refine(x.o).mono ?_
 rintro e w1 ⟨Q,rfl,a⟩;clear x;go_wp2_with fail;go_loopw [6,7] (λok i wr=>∃k:Nat,k<=len/\ok=.bool true/\i=.int .i64 k/\InvS TX w wr Q (4194304+k*8000000)) (λ_ i _=>len-(intOf i).toNat)
 case atStart=>exact⟨0,by omega,rfl,rfl,a.grow (by omega)⟩
 clear a;obtain⟨k,F,rfl,rfl,a⟩:=hrel;by_cases g:k<len
 ·obtain⟨s,y⟩:=UM (n.getD k ByteArray.empty);have p:Ha (∀v,Below w.heap.size w v->v.cell? ⟨b,l+k,none⟩=some (.string s)):=λv E=>by rw[y.o];exact(E.cell (by exact A)).trans (t k g)
  have u:s.size<=4194295:=by rw[y.o];exact h k g
  have c:=zb a;clear t h a;have B:=p.o wr c.o.old.bel;have r:=zb (Gg c.o (by omega) 0 0 s u);clear c;go_wp2_with (go_at_call 17;with_reducible refine(r.o).mono ?_;rintro e w5 ⟨rfl,f⟩);go_roundw
  case rel=>exact⟨k+1,by omega,rfl,by go_num,f.grow (by omega)⟩
  simp[intOf];omega
 obtain rfl:k=len:=by omega
 have q:=zb (lE a 0 0 ⟨#[]⟩);clear t h g a;go_wp2_with (go_at_call 17;with_reducible refine(q.o).mono ?_;rintro e H ⟨rfl,d⟩);go_ret;exact⟨rfl,d.old.bel⟩
theorem Ge(log:ByteArray)(c:log.size<=4194295)(g:Option Addr)(cap:Nat)(w:World)(h:Gl w)(i:GmU w.heap.size w):Calls prog 9 #[.string log,.slice g 0 cap] w λe w'=>e=.returned (.bool true)/\Below w.heap.size w w':=by
 have f:=zb (qN log c w h i);go_enter func9,ntmps9;go_wp2_with fail;refine(f.o).mono ?_
 rintro e w1 ⟨Q,rfl,a⟩;clear f;go_wp2_with fail;refine Yw 1 ?_;rw[YU]
 have d:=zb (lE a 0 0 ⟨#[]⟩);clear a;go_wp2_with (go_at_call 17;with_reducible refine(d.o).mono ?_;rintro e j ⟨rfl,b⟩);go_ret;exact⟨rfl,b.old.bel⟩
