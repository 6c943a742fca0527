import Derived.Test.YtgcedalggnmooaaGreatDoorSqX
set_option linter.all false
set_option maxRecDepth 100000
set_option maxHeartbeats 6400000
namespace Go.Proofs.YtgcedalggnmooaaGreatDoor
open Go.RowKit
open Tryz
def Tk(D:Nat)(w:World)(t:Nat)(s:List Nat×Bool):Prop:=∃a cap,w.heap[t]?=some (.cells #[.slice a s.1.length cap,.bool s.2] 218 (0,0))/\s.1.length<=cap/\(D≠t/\D<w.heap.size)/\(0<s.1.length->∃off,a=some ⟨D,off,none⟩/\∀j,j<s.1.length->w.cell? ⟨D,off+j,none⟩=some (.int .i64 (s.1.getD j 0:Int)))
variable {B D N t:Nat}{s:List Nat×Bool}{w w':World}
theorem Tk.lt(h:Tk D w t s):t<w.heap.size:=by obtain⟨a,cap,b,_⟩:=h;exact zc b
theorem Tk.congr(h:Tk D w t s)(p:w.heap.size<=w'.heap.size)(k:w'.heap[t]?=w.heap[t]?)(l:w'.heap[D]?=w.heap[D]?):Tk D w' t s:=by
 obtain⟨a,cap,d,e,c,f⟩:=h;refine⟨a,cap,k.trans d,e,⟨c.1,xn c.2 p⟩,λn=>?_⟩;obtain⟨b,g,i⟩:=f n;exact⟨b,g,λj m=>(xm (a:=⟨D,b+j,none⟩) l).trans (i j m)⟩
theorem Tk.below(h:Tk D w t s)(b:Below w.heap.size w w'):Tk D w' t s :=
 h.congr b.size (b.block t h.lt) (b.block D (by obtain⟨a,cap,_,_,c,_⟩:=h;exact c.2))
def Vp:List Nat×Bool->Nat×(List Nat×Bool)
 |([],_)=>(0,([],true))
 |(n::r,b)=>(n,(r,b))
theorem Z4(s:List Nat×Bool):(Vp s).2.1.length<=s.1.length:=by
 obtain⟨l,b⟩:=s
 cases l with
 |nil=>exact xc _
 |cons n r=>show r.length<=r.length+1;omega
theorem Ze(h:∀n∈s.1,n<B)(a:0<B):(Vp s).1<B/\∀n∈(Vp s).2.1,n<B:=by
 obtain⟨l,b⟩:=s
 cases l with
 |nil=>exact⟨a,λn d=>by cases d⟩
 |cons n r=>exact⟨h n (by simp),λm c=>h m (Yx _ c)⟩
theorem cQ(h:Tk D w t s)(v:∀n∈s.1,n<9223372036854775808)(B:s.1.length<=4194304):Calls prog 138 #[.pointer (some ⟨t,0,none⟩)] w λe w'=>e=.returned (.int .i64 ((Vp s).1:Int))/\Kp (λk=>k=t) w w'/\w'.heap.size=w.heap.size/\Tk D w' t (Vp s).2:=by
 obtain⟨C,bad⟩:=s;obtain⟨a,cap,b,f,u,m⟩:=h;simp only at b f m v B;have c0:w.cell? ⟨t,0,none⟩=some (.slice a C.length cap):=by rw[za b];rfl
 have c1:w.cell? ⟨t,1,none⟩=some (.bool bad):=by rw[za b];rfl
 have K:=zf b 0;have M:=zf b 1;have l:=zb b;have HD:=zb u;have E:=zb m
 cases C with
 |nil=>
  clear b m u v;simp only[XB]at c0;go_enter func138,ntmps138;go_wp2_with fail;go_ret;refine⟨rfl,(Kp.refl (λk=>k=t) _).setCell (p:=⟨t,1,none⟩) (Or.inl rfl) _,by simp[World.setCell],a,cap,xq w t 1 _ 218 (.bool true) l.o,by simp[Vp],⟨HD.o.1,by simp[World.setCell];exact HD.o.2⟩,λq=>absurd q (by simp[Vp])⟩
 |cons n r=>
  obtain⟨c,F,g⟩:=m (by simp);subst F;have N:w.cell? ⟨D,c,none⟩=some (.int .i64 n):=g 0 (by simp);have y:=zb g;have H:=v n (by simp);simp only[List.length_cons]at c0 B f;have z:=u.1;clear b m g u v E;have d:Ha (∀(x:Addr) (i:Nat),r.length<=i->(0<r.length->x=⟨D,c+1,none⟩)->Kp (λk=>k=t) w (w.setCell ⟨t,0,none⟩ (.slice (some x) r.length i))/\(w.setCell ⟨t,0,none⟩ (.slice (some x) r.length i)).heap.size=w.heap.size/\Tk D (w.setCell ⟨t,0,none⟩ (.slice (some x) r.length i)) t (r,bad)):=λx i A J=>by
   refine⟨(Kp.refl (λk=>k=t) _).setCell (p:=⟨t,0,none⟩) (Or.inl rfl) _,by simp[World.setCell],some x,i,xq w t 0 _ 218 _ l.o,A,⟨HD.o.1,by simp[World.setCell];exact HD.o.2⟩,λq=>⟨c+1,by rw[J q],λj G=>?_⟩⟩;have:=y.o (j+1) (by simpa using G);rw[show c+(j+1)=c+1+j by omega]at this;refine(xm (a:=⟨D,c+1+j,none⟩) (xa _ _ _ _ z)).trans ?_
   simpa using this
  go_enter func138,ntmps138;go_wp2_with fail
  ·go_ret;exact⟨rfl,d.o _ _ (by omega) (λq=>by omega)⟩
  go_ret;exact⟨rfl,d.o _ _ (by omega) (λq=>rfl)⟩
def Vw(s:List Nat×Bool):Nat×(List Nat×Bool):=if (Vp s).2.1.length<(Vp s).1 then (0,((Vp s).2.1,true)) else Vp s
theorem Kp.tk{a:World}(h:Kp (λk=>k=t) w w')(k:Kp (λk=>k=t) w' a):Kp (λk=>k=t) w a :=
 h.trans (k.mono (λ_ b=>Or.inl b))
theorem Tk.bad(h:Tk D w t s):Tk D (w.setCell ⟨t,1,none⟩ (.bool true)) t (s.1,true):=by
 obtain⟨a,cap,d,e,c,f⟩:=h;refine⟨a,cap,xq w t 1 _ 218 (.bool true) d,e,⟨c.1,by simp[World.setCell];exact c.2⟩,λl=>?_⟩;obtain⟨b,g,i⟩:=f l;exact⟨b,g,λj k=>(xm (a:=⟨D,b+j,none⟩) (xa _ _ _ _ c.1)).trans (i j k)⟩
theorem xJ(h:Tk D w t s)(u:∀n∈s.1,n<9223372036854775808)(y:s.1.length<=4194304):Calls prog 139 #[.pointer (some ⟨t,0,none⟩)] w λe w'=>e=.returned (.int .i64 ((Vw s).1:Int))/\Kp (λk=>k=t) w w'/\w'.heap.size=w.heap.size/\Tk D w' t (Vw s).2:=by
 have l:=zb (cQ h u y);have r:=(Ze u (by omega)).1;have m:=Z4 s;have v:Ha (Vw s=if (Vp s).2.1.length<(Vp s).1 then (0,((Vp s).2.1,true)) else Vp s):=rfl;rw[v.o];generalize Vp s=q at *;obtain⟨n,s'⟩:=q;simp only at l r m ⊢;clear h u v;by_cases x:s'.1.length<n
 ·rw[xe x];go_enter func139,ntmps139;go_wp2_with (go_at_call 138;refine(l.o).mono ?_;rintro e w1 ⟨rfl,i,c,d⟩;have j:=zb i;have f:=zb c;have g:=zb d;obtain⟨a,cap,b,-⟩:=d;have c0:w1.cell? ⟨t,0,none⟩=some (.slice a s'.1.length cap):=(by rw[za b];rfl);have c1:w1.cell? ⟨t,1,none⟩=some (.bool s'.2):=(by rw[za b];rfl);have z:=zf b 1;clear i c b);go_ret;exact⟨rfl,j.o.setCell (p:=⟨t,1,none⟩) (Or.inl rfl) _,by simp[World.setCell];exact f.o,g.o.bad⟩
 rw[xg x];go_enter func139,ntmps139;go_wp2_with (go_at_call 138;refine(l.o).mono ?_;rintro e w1 ⟨rfl,i,c,d⟩;have j:=zb i;have f:=zb c;have g:=zb d;obtain⟨a,cap,b,-⟩:=d;have c0:w1.cell? ⟨t,0,none⟩=some (.slice a s'.1.length cap):=(by rw[za b];rfl);clear i c b);go_ret;exact⟨rfl,j.o,f.o,g.o⟩
def Vv(s:List Nat×Bool):Nat->List (Nat×Nat)×(List Nat×Bool)
 |0=>([],s)
 |k+1=>((Vv s k).1++[((Vp (Vv s k).2).1,(Vp (Vp (Vv s k).2).2).1)],(Vp (Vp (Vv s k).2).2).2)
def jT(s:List Nat×Bool):List (Nat×Nat)×(List Nat×Bool):=Vv (Vw s).2 (Vw s).1
theorem lM(s:List Nat×Bool):∀k,(Vv s k).1.length=k
 |0=>rfl
 |k+1=>by rw[Vv,xb,lM s k];rfl
theorem rG{s:List Nat×Bool}{B N:Nat}(h:∀n∈s.1,n<B)(a:0<B)(b:s.1.length<=N):∀k,(∀n∈(Vv s k).2.1,n<B)/\(Vv s k).2.1.length<=N
 |0=>⟨h,b⟩
 |k+1=>by
  obtain⟨e,i⟩:=rG h a b k;have c:=Ze e a;have d:=Ze c.2 a;have f:=Z4 (Vv s k).2;have g:=Z4 (Vp (Vv s k).2).2;exact⟨d.2,by show(Vp (Vp (Vv s k).2).2).2.1.length<=N;omega⟩
theorem gU(h:∀n∈s.1,n<B)(b:0<B)(d:s.1.length<=N):(Vw s).1<=N/\(∀n∈(Vw s).2.1,n<B)/\(Vw s).2.1.length<=N:=by
 have a:=Ze h b;have c:=Z4 s;unfold Vw;split
 ·exact⟨by omega,a.2,by show(Vp s).2.1.length<=N;omega⟩
 exact⟨by omega,a.2,by omega⟩
theorem Kp.growN{Z:Nat->Prop}{w1 w2:World}{row:Option Nat}(h:Kp Z w w1)(a:w1.grownBy w2 row)(c:∀k,row=some k->w.heap.size<=k):Kp Z w w2 :=
 ⟨a.os.trans h.os,a.tape.trans h.tape,a.output.trans h.output,xj h.size a.size,λk b d=>(a.block k (xn b h.size) (λe=>by have:=c k e.symm;omega)).trans (h.block k b d)⟩
theorem Kp.alN{Z:Nat->Prop}{w1:World}(h:Kp Z w w1)(o:Obj):Kp Z w (w1.alloc o):=h.after (TZ w1 o)
theorem lP(h:Tk D w t s)(hn:∀n∈s.1,n<9223372036854775808)(hl:s.1.length<=4194304):Calls prog 141 #[.pointer (some ⟨t,0,none⟩)] w λe w'=>Kp (λk=>k=t) w w'/\Tk D w' t (jT s).2/\∃v,e=.returned v/\w'.ownsRow w.heap.size 181 2 v (jT s).1.length (zA (jT s).1):=by
 obtain⟨ip,a7,b2,b3,b4⟩:=XH IH;have HS:=zb (xJ h hn hl);obtain⟨a8,C,H⟩:=gU hn (by omega) hl;have P:Ha (jT s=Vv (Vw s).2 (Vw s).1):=rfl;have b8:=h.lt;have b7:D<w.heap.size:=by obtain⟨a,cap,_,_,h3,_⟩:=h;exact h3.2
 rw[P.o];generalize Vw s=q at *;obtain⟨N,d⟩:=q;simp only at HS a8 C H ⊢;have a4:Ha (∀k,(∀n∈(Vv d k).2.1,n<9223372036854775808)/\(Vv d k).2.1.length<=4194304):=rG C (by omega) H;clear h hn C H P;go_enter func141,ntmps141;go_wp2_with (go_at_call 139;refine(HS.o).mono ?_;rintro e w1 ⟨rfl,hk,Z,c⟩;have A:=zb (And.intro hk (And.intro Z c));clear hk Z c HS);go_loopw [3,5,6,7] (λov ii _ _ wr=>∃k:Nat,k<=N/\ii=.int .i64 k/\wr.ownsRow w.heap.size 181 2 ov k (zA (Vv d k).1)/\Kp (λk=>k=t) w wr/\Tk D wr t (Vv d k).2) (λ_ ii _ _ _=>N-(intOf ii).toNat)
 case atStart=>exact⟨0,by omega,rfl,Xi _ _ _ _,A.o.1,A.o.2.2⟩
 clear A;obtain⟨k,hk,rfl,b,x,c⟩:=hrel;by_cases b0:k<N
 ·obtain⟨J,T⟩:=a4.o k;have y:=Ze J (show 0<9223372036854775808 by omega);have a9:=Z4 (Vv d k).2;have W:=Ze y.2 (show 0<9223372036854775808 by omega);have r:=zb (cQ c J T);have j:=zb (λ(w2:World) (h2:Tk D w2 t (Vp (Vv d k).2).2)=>cQ h2 y.2 (by omega));have i:Ha (Vv d (k+1)=((Vv d k).1++[((Vp (Vv d k).2).1,(Vp (Vp (Vv d k).2).2).1)],(Vp (Vp (Vv d k).2).2).2)):=rfl;have R:=y.1;have E:=W.1;generalize Vv d k=q0 at *;obtain⟨ps,sa⟩:=q0;simp only at r j i R E b c;generalize Vp sa=q1 at *;obtain⟨n1,sb⟩:=q1;simp only at r j i R E;generalize Vp sb=q2 at *;obtain⟨n2,sc⟩:=q2;simp only at j i E;have K:=zb b;have HK:=zb x;obtain⟨oa,oc,b1⟩:=zm b;subst b1;clear b x c J T y a9 W;go_wp2_with fail;refine(r.o).mono ?_
  rintro e w2 ⟨rfl,F,b5,a0⟩;have z:=zb (j.o w2 a0);have p:Ha (w2.ownsRow w.heap.size 181 2 (.slice oa k oc) k (zA ps)):=ze K.o (λg S=>F.block g (K.o.lt g S).2 (λe=>by have:=(K.o.lt g S).1;omega));have M:=zb (HK.o.tk F);clear F b5 a0 r j K HK;go_wp2_with fail;refine(z.o).mono ?_
  rintro e w3 ⟨rfl,G,b6,a1⟩;have f:Ha (w3.ownsRow w.heap.size 181 2 (.slice oa k oc) k (zA ps)):=ze p.o (λg S=>G.block g (p.o.lt g S).2 (λe=>by have:=(p.o.lt g S).1;omega));have B:=zb (M.o.tk G);have Q:=zb a1;have b9:=B.o.size;clear G b6 a1 z p M;go_wp2_with (at_builtin;refine Xb _ rfl _ _ 40 rfl w.heap.size 181 ip (.agg #[.int .i64 0,.int .i64 0]) 2 16 uJ a7 b2 b3 b4 rfl (by decide) _ k (zA ps) rfl (f.o.alloc _) ⟨w3.heap.size,0,none⟩ 1 1 [.int .i64 n1,.int .i64 n2] rfl rfl ?d1 ?d2 ?d3 ?d4 ?d5 ?_)
  case d1=>exact Yb _ _ _ _
  case d2=>intro u hu;simp at hu;rcases hu with rfl|rfl<;>rfl
  case d3=>unfold maxLen;omega
  case d4=>omega
  case d5=>simp;omega
  intro nv w4 m l X;have a3:Ha (w4.ownsRow w.heap.size 181 2 nv (k+1) (zA (Vv d (k+1)).1)):=by
   unfold Ha;rw[i.o,eL];exact m
  have a2:=zb ((B.o.alN _).growN l (λq hq=>(f.o.lt q hq).1));have a6:Ha (Tk D w4 t (Vv d (k+1)).2):=by
   unfold Ha;rw[i.o];refine(Q.o.below (TZ w3 _)).congr l.size (l.block t (by simp;omega) (λe=>by have:=(f.o.lt t e.symm).1;omega)) (l.block D (by simp;omega) (λe=>by have:=(f.o.lt D e.symm).1;omega))
  clear m l X f B Q;go_wp2_with fail;go_roundw
  case rel=>exact⟨k+1,by omega,by go_num,a3.o,a2.o,a6.o⟩
  simp[intOf];omega
 obtain rfl:k=N:=by omega
 have K:=zb b;have HK:=zb x;have HT:=zb c;have a5:=zb (lM d k);clear b x c b0;go_wp2_with fail;go_ret;exact⟨HK.o,HT.o,_,rfl,by rw[a5.o];exact K.o⟩
def Vs(s:List Nat×Bool):Nat->List Nat×Bool
 |0=>s
 |k+1=>(Vp (Vs s k)).2
def Vx(s:List Nat×Bool)(k:Nat):Nat:=(Vp (Vs s k)).1
theorem ET{s:List Nat×Bool}{B N:Nat}(h:∀n∈s.1,n<B)(a:0<B)(b:s.1.length<=N):∀k,(∀n∈(Vs s k).1,n<B)/\(Vs s k).1.length<=N
 |0=>⟨h,b⟩
 |k+1=>by
  obtain⟨d,f⟩:=ET h a b k;have c:=Ze d a;have e:=Z4 (Vs s k);exact⟨c.2,by show(Vp (Vs s k)).2.1.length<=N;omega⟩
structure Lq(D t:Nat)(w wx:World)(lb:Nat)(s:List Nat×Bool)(cs:Array Value):Prop where
 kp:Kp (λk=>k=t) w wx
 tk:Tk D wx t s
 box:wx.heap[lb]?=some (.cells cs 129 (0,0))
 lo:w.heap.size<=lb
 tl:t<w.heap.size
 dl:D<w.heap.size
theorem Lq.set{c:World}{a:Nat}{b:Array Value}(h:Lq D t w c a s b)(f:Nat)(v:Value):Lq D t w (c.setCell ⟨a,f,none⟩ v) a s (b.setIfInBounds f v):=by
 have d:=h.lo;have e:=h.tl;have g:=h.dl;exact⟨h.kp.setCell (p:=⟨a,f,none⟩) (Or.inr d) _,h.tk.congr (by simp[World.setCell]) (xa _ _ _ _ (by show t≠a;omega)) (xa _ _ _ _ (by show D≠a;omega)),xq c a f b 129 v h.box,d,e,g⟩
theorem Lq.take{d w2:World}{a:Nat}{s':List Nat×Bool}{b:Array Value}(h:Lq D t w d a s b)(c:Kp (λk=>k=t) d w2)(g:Tk D w2 t s'):Lq D t w w2 a s' b:=by
 have e:=h.lo;have f:=h.tl;exact⟨h.kp.tk c,g,(c.block a (zc h.box) (by show ¬a=t;omega)).trans h.box,e,f,h.dl⟩
def Vq(s:List Nat×Bool):List (Nat×Nat)×(List Nat×Bool):=jT (Vs s 8)
def Vr(s:List Nat×Bool):Nat×(List Nat×Bool):=if (Vq s).1.length=0 then Vp (Vq s).2 else (0,(Vq s).2)
def Vt(s:List Nat×Bool):L:=⟨Vx s 0,Vx s 1,Vx s 2,Vx s 3,(Vr s).1,Vx s 4,Vx s 5,Vx s 6,Vx s 7,0,(Vq s).1⟩
theorem SU(x:World)(b:Nat)(t:TypeId)(N A y w u r n l j g a:Value)(h:x.heap[b]?=some (.cells #[N,A,y,w,u,r,n,l,j,g,a] t (0,0)))(c d e f i k m q s v p:Value):(((((((((((x.setCell ⟨b,0,none⟩ c).setCell ⟨b,1,none⟩ d).setCell ⟨b,2,none⟩ e).setCell ⟨b,3,none⟩ f).setCell ⟨b,4,none⟩ i).setCell ⟨b,5,none⟩ k).setCell ⟨b,6,none⟩ m).setCell ⟨b,7,none⟩ q).setCell ⟨b,8,none⟩ s).setCell ⟨b,9,none⟩ v).setCell ⟨b,10,none⟩ p).heap[b]?=some (.cells #[c,d,e,f,i,k,m,q,s,v,p] t (0,0)):=by
 have B:(x.setCell ⟨b,0,none⟩ c).heap[b]?=some (.cells #[c,A,y,w,u,r,n,l,j,g,a] t (0,0)):=xq x b 0 #[N,A,y,w,u,r,n,l,j,g,a] t c h;generalize x.setCell ⟨b,0,none⟩ c=x0 at B ⊢;have C:(x0.setCell ⟨b,1,none⟩ d).heap[b]?=some (.cells #[c,d,y,w,u,r,n,l,j,g,a] t (0,0)):=xq x0 b 1 #[c,A,y,w,u,r,n,l,j,g,a] t d B;generalize x0.setCell ⟨b,1,none⟩ d=x1 at C ⊢;have D:(x1.setCell ⟨b,2,none⟩ e).heap[b]?=some (.cells #[c,d,e,w,u,r,n,l,j,g,a] t (0,0)):=xq x1 b 2 #[c,d,y,w,u,r,n,l,j,g,a] t e C;generalize x1.setCell ⟨b,2,none⟩ e=x2 at D ⊢;have E:(x2.setCell ⟨b,3,none⟩ f).heap[b]?=some (.cells #[c,d,e,f,u,r,n,l,j,g,a] t (0,0)):=xq x2 b 3 #[c,d,e,w,u,r,n,l,j,g,a] t f D;generalize x2.setCell ⟨b,3,none⟩ f=x3 at E ⊢;have F:(x3.setCell ⟨b,4,none⟩ i).heap[b]?=some (.cells #[c,d,e,f,i,r,n,l,j,g,a] t (0,0)):=xq x3 b 4 #[c,d,e,f,u,r,n,l,j,g,a] t i E;generalize x3.setCell ⟨b,4,none⟩ i=x4 at F ⊢;have G:(x4.setCell ⟨b,5,none⟩ k).heap[b]?=some (.cells #[c,d,e,f,i,k,n,l,j,g,a] t (0,0)):=xq x4 b 5 #[c,d,e,f,i,r,n,l,j,g,a] t k F;generalize x4.setCell ⟨b,5,none⟩ k=x5 at G ⊢;have H:(x5.setCell ⟨b,6,none⟩ m).heap[b]?=some (.cells #[c,d,e,f,i,k,m,l,j,g,a] t (0,0)):=xq x5 b 6 #[c,d,e,f,i,k,n,l,j,g,a] t m G;generalize x5.setCell ⟨b,6,none⟩ m=x6 at H ⊢;have J:(x6.setCell ⟨b,7,none⟩ q).heap[b]?=some (.cells #[c,d,e,f,i,k,m,q,j,g,a] t (0,0)):=xq x6 b 7 #[c,d,e,f,i,k,m,l,j,g,a] t q H;generalize x6.setCell ⟨b,7,none⟩ q=x7 at J ⊢;have K:(x7.setCell ⟨b,8,none⟩ s).heap[b]?=some (.cells #[c,d,e,f,i,k,m,q,s,g,a] t (0,0)):=xq x7 b 8 #[c,d,e,f,i,k,m,q,j,g,a] t s J;generalize x7.setCell ⟨b,8,none⟩ s=x8 at K ⊢;have M:(x8.setCell ⟨b,9,none⟩ v).heap[b]?=some (.cells #[c,d,e,f,i,k,m,q,s,v,a] t (0,0)):=xq x8 b 9 #[c,d,e,f,i,k,m,q,s,g,a] t v K;generalize x8.setCell ⟨b,9,none⟩ v=x9 at M ⊢;have z:(x9.setCell ⟨b,10,none⟩ p).heap[b]?=some (.cells #[c,d,e,f,i,k,m,q,s,v,p] t (0,0)):=xq x9 b 10 #[c,d,e,f,i,k,m,q,s,v,a] t p M;generalize x9.setCell ⟨b,10,none⟩ p=x10 at z ⊢;exact z
theorem Ng(x:World)(b:Nat)(d e f g h i j l m n c:Value)(k:Nat)(a:k≠b):(((((((((((x.setCell ⟨b,0,none⟩ d).setCell ⟨b,1,none⟩ e).setCell ⟨b,2,none⟩ f).setCell ⟨b,3,none⟩ g).setCell ⟨b,4,none⟩ h).setCell ⟨b,5,none⟩ i).setCell ⟨b,6,none⟩ j).setCell ⟨b,7,none⟩ l).setCell ⟨b,8,none⟩ m).setCell ⟨b,9,none⟩ n).setCell ⟨b,10,none⟩ c).heap[k]?=x.heap[k]?:=by
 rw[xa _ _ _ _ a,xa _ _ _ _ a,xa _ _ _ _ a,xa _ _ _ _ a,xa _ _ _ _ a,xa _ _ _ _ a,xa _ _ _ _ a,xa _ _ _ _ a,xa _ _ _ _ a,xa _ _ _ _ a,xa _ _ _ _ a]
theorem Gp(x:World)(b:Nat)(c d e f g h i j k l a:Value):(((((((((((x.setCell ⟨b,0,none⟩ c).setCell ⟨b,1,none⟩ d).setCell ⟨b,2,none⟩ e).setCell ⟨b,3,none⟩ f).setCell ⟨b,4,none⟩ g).setCell ⟨b,5,none⟩ h).setCell ⟨b,6,none⟩ i).setCell ⟨b,7,none⟩ j).setCell ⟨b,8,none⟩ k).setCell ⟨b,9,none⟩ l).setCell ⟨b,10,none⟩ a).heap.size=x.heap.size:=by simp[World.setCell]
def eY(s:List Nat×Bool):Nat->List L×(List Nat×Bool)
 |0=>([],s)
 |k+1=>((eY s k).1++[Vt (eY s k).2],(Vr (eY s k).2).2)
def Vu(s:List Nat×Bool):O×(List Nat×Bool):=(⟨(Vp s).1,(Vp (Vp s).2).1,(jT (Vp (Vp s).2).2).1⟩,(jT (Vp (Vp s).2).2).2)
def gL(s:List Nat×Bool):Nat->List O×(List Nat×Bool)
 |0=>([],s)
 |k+1=>((gL s k).1++[(Vu (gL s k).2).1],(Vu (gL s k).2).2)
structure TW where
 td:Nat
 com:Nat
 k:Nat
 ls:List L
 os:List O
 rj:List (Nat×Nat)
 left:List Nat×Bool
def Vy(ns:List Nat):TW :=
 let a:=Vp (ns,false)
 let b:=Vp a.2
 let c:=Vw b.2
 let d:=eY c.2 c.1
 let e:=Vw d.2
 let f:=gL e.2 e.1
 let g:=jT f.2
 ⟨a.1,b.1,c.1,d.1,f.1,g.1,g.2⟩
def NumP(ls:List L):Prop:=∀i,i<ls.length->(1<=(ls.getD i L0).id/\(ls.getD i L0).id<=2147483647)/\(1<=(ls.getD i L0).gd/\(ls.getD i L0).gd<=2147483647)/\(ls.getD i L0).ex<=2147483647/\(ls.getD i L0).free<=2147483647/\(ls.getD i L0).hd<=2147483647/\(ls.getD i L0).sh<=2147483647/\(ls.getD i L0).sc<=2147483647/\(ls.getD i L0).got<=2147483647/\UB (ls.getD i L0).id ls=i
def QH(ls:List L):Prop:=∀i,i<ls.length->(ls.getD i L0).got<=2147483647/\(ls.getD i L0).gv<=2147483647/\1<=(ls.getD i L0).got/\(ls.getD i L0).got=(ls.getD i L0).free+(ls.getD i L0).hd+(ls.getD i L0).sh+(ls.getD i L0).sc+(ls.getD i L0).gv
def Ux(l:L)(n:Nat):L:={ l with gv:=l.gv+n }
def Ur(l:L):List (Nat×Nat)->Nat->Nat->List L->Option (List L×Nat×Nat)
 |[],u,g,ls=>some (ls,u,g)
 |p::ps,u,g,ls=>if UB p.1 ls<ls.length/\p.2<=2147483647/\(ls.getD (UB p.1 ls) L0).gd=l.gd/\(ls.getD (UB p.1 ls) L0).place<l.place then Ur l ps (min u (ls.getD (UB p.1 ls) L0).ex) (g+p.2) (ls.set (UB p.1 ls) (Ux (ls.getD (UB p.1 ls) L0) p.2)) else none
def Us(ls:List L)(i:Nat):Option (List L) :=
 if (ls.getD i L0).par.length<=2/\((ls.getD i L0).par.map Prod.fst).Pairwise (·<·) then (Ur (ls.getD i L0) (ls.getD i L0).par 2147483648 0 ls).bind λr=>if (ls.getD i L0).par.length=0 then some r.1 else if r.2.1=(ls.getD i L0).ex then some (r.1.set i { r.1.getD i L0 with got:=r.2.2 }) else none
 else none
def Uq:Nat->Nat->List L->Option (List L)
 |0,_,ls=>some ls
 |k+1,i,ls=>(Us ls i).bind λls'=>Uq k (i+1) ls'
theorem KK(h:∀n∈s.1,n<B)(a:0<B)(l:s.1.length<=N):(∀n∈(Vr s).2.1,n<B)/\(Vr s).2.1.length<=N/\(Vr s).1<B/\(Vq s).1.length<=N/\∀p∈(Vq s).1,p.1<B/\p.2<B:=by
 obtain⟨d,e⟩:=ET h a l 8;obtain⟨c1,c2,c3⟩:=gU d a e;obtain⟨f,g⟩:=rG c2 a c3 (Vw (Vs s 8)).1;have hF:(∀n∈(Vq s).2.1,n<B)/\(Vq s).2.1.length<=N:=⟨f,g⟩
 have m:∀k,∀p∈(Vv (Vw (Vs s 8)).2 k).1,p.1<B/\p.2<B:=λk=>by
  induction k with
  |zero=>intro p b;cases b
  |succ k ih=>
   intro p b;obtain⟨i,q⟩:=rG c2 a c3 k;have c:=Ze i a;have j:=Ze c.2 a;rcases xw.1 b with b|b
   ·exact ih p b
   simp only[Xq]at b;subst b;exact⟨c.1,j.1⟩
 refine⟨?_,?_,?_,by unfold Vq jT;rw[lM];exact c1,m _⟩
 ·unfold Vr;split
  ·exact(Ze hF.1 a).2
  exact hF.1
 ·unfold Vr;split
  ·exact xj (Z4 _) hF.2
  exact hF.2
 unfold Vr;split
 ·exact(Ze hF.1 a).1
 exact a
theorem Dy(h:∀n∈s.1,n<B)(c:0<B)(d:s.1.length<=N)(k:Nat):(∀n∈(eY s k).2.1,n<B)/\(eY s k).2.1.length<=N:=by
 induction k with
 |zero=>exact⟨h,d⟩
 |succ k ih=>
  rw[eY];generalize eY s k=q at ih ⊢;dsimp only;obtain⟨a,b,_⟩:=KK ih.1 c ih.2;exact⟨a,b⟩
theorem Sk(h:∀n∈s.1,n<B)(a:0<B)(d:s.1.length<=N):(∀n∈(Vu s).2.1,n<B)/\(Vu s).2.1.length<=N:=by
 have b:=Ze h a;have c:=Ze b.2 a;have e:=Z4 s;have f:=Z4 (Vp s).2;obtain⟨c1,c2,c3⟩:=gU c.2 a (show(Vp (Vp s).2).2.1.length<=N by omega);exact rG c2 a c3 _
theorem xT{s:List Nat×Bool}{B N:Nat}(h:∀n∈s.1,n<B)(a:0<B)(b:s.1.length<=N):∀k,(∀n∈(gL s k).2.1,n<B)/\(gL s k).2.1.length<=N
 |0=>⟨h,b⟩
 |k+1=>by
  obtain⟨c,d⟩:=xT h a b k;exact Sk c a d
theorem SS(w:World)(p:Addr)(v:Value):(w.setCell p v).os=w.os:=rfl
theorem Qj(w:World)(p:Addr)(v:Value):(w.setCell p v).tape=w.tape:=rfl
theorem RY(w:World)(p:Addr)(v:Value):(w.setCell p v).output=w.output:=rfl
theorem Bl(x:World)(b:Nat)(t:TypeId)(q r s u v w y z A B p:Value)(h:x.heap[b]?=some (.cells #[q,r,s,u,v,w,y,z,A,B,p] t (0,0)))(c d e f g i j l m n a:Value):∃W,W=(((((((((((x.setCell ⟨b,0,none⟩ c).setCell ⟨b,1,none⟩ d).setCell ⟨b,2,none⟩ e).setCell ⟨b,3,none⟩ f).setCell ⟨b,4,none⟩ g).setCell ⟨b,5,none⟩ i).setCell ⟨b,6,none⟩ j).setCell ⟨b,7,none⟩ l).setCell ⟨b,8,none⟩ m).setCell ⟨b,9,none⟩ n).setCell ⟨b,10,none⟩ a)/\W.heap[b]?=some (.cells #[c,d,e,f,g,i,j,l,m,n,a] t (0,0))/\(∀k,k≠b->W.heap[k]?=x.heap[k]?)/\W.heap.size=x.heap.size/\W.os=x.os/\W.tape=x.tape/\W.output=x.output :=
 ⟨_,rfl,SU x b t q r s u v w y z A B p h c d e f g i j l m n a,λk C=>Ng x b c d e f g i j l m n a k C,Gp x b c d e f g i j l m n a,by simp only[SS],by simp only[Qj],by simp only[RY]⟩
theorem Nw(h:Tk D w t s)(hn:∀n∈s.1,n<9223372036854775808)(hl:s.1.length<=4194304):Calls prog 140 #[.pointer (some ⟨t,0,none⟩)] w λe w'=>Kp (λk=>k=t) w w'/\Tk D w' t (Vr s).2/\∃fv,e=.returned (.agg (zp (Vt s) fv).toArray)/\w'.ownsRow w.heap.size 181 2 fv (Vq s).1.length (zA (Vq s).1):=by
 have G:=zb (ET hn (show 0<9223372036854775808 by omega) hl);have H:Ha (∀(k:Nat) (w2:World),Tk D w2 t (Vs s k)->Calls prog 138 #[.pointer (some ⟨t,0,none⟩)] w2 λe w'=>e=.returned (.int .i64 (Vx s k:Int))/\Kp (λk=>k=t) w2 w'/\w'.heap.size=w2.heap.size/\Tk D w' t (Vs s (k+1))):=λk w2 h2=>cQ h2 (G.o k).1 (G.o k).2
 have j9:Ha (∀(w2:World),Tk D w2 t (Vs s 8)->Calls prog 141 #[.pointer (some ⟨t,0,none⟩)] w2 λe w'=>Kp (λk=>k=t) w2 w'/\Tk D w' t (Vq s).2/\∃v,e=.returned v/\w'.ownsRow w2.heap.size 181 2 v (Vq s).1.length (zA (Vq s).1)):=λw2 h2=>lP h2 (G.o 8).1 (G.o 8).2
 have H0:Ha (Tk D w t (Vs s 0)):=h;have k6:=h.lt;have k0:D<w.heap.size:=by obtain⟨a,cap,_,_,h3,_⟩:=h;exact h3.2
 clear h hn;have f0:Ha (Below w.heap.size w (w.alloc (.cells #[.int .i64 0,.int .i64 0,.int .i64 0,.int .i64 0,.int .i64 0,.int .i64 0,.int .i64 0,.int .i64 0,.int .i64 0,.int .i64 0,.slice none 0 0] 129))):=TZ w _;have H1:=zb (H0.o.below f0.o);go_enter func140,ntmps140;go_wp2_with fail;refine(H.o 0 _ H1.o).mono ?_
 rintro e w1 ⟨rfl,h1,k5,j5⟩;have d1:Ha (Kp (λk=>k=t) w w1):=Kp.before f0.o (h1.mono (λ_ h=>Or.inl h));have F:Ha (Lq D t w (w1.alloc (.cells #[.int .i64 (Vx s 0:Int),.int .i64 0,.int .i64 0,.int .i64 0,.int .i64 0,.int .i64 0,.int .i64 0,.int .i64 0,.int .i64 0,.int .i64 0,.slice none 0 0] 129)) w1.heap.size (Vs s 1) #[.int .i64 (Vx s 0:Int),.int .i64 0,.int .i64 0,.int .i64 0,.int .i64 0,.int .i64 0,.int .i64 0,.int .i64 0,.int .i64 0,.int .i64 0,.slice none 0 0]):=⟨d1.o.alN _,j5.below (TZ w1 _),xo w1 _,d1.o.size,k6,k0⟩
 have b1:w1.heap[w.heap.size]?=some (.cells #[.int .i64 0,.int .i64 0,.int .i64 0,.int .i64 0,.int .i64 0,.int .i64 0,.int .i64 0,.int .i64 0,.int .i64 0,.int .i64 0,.slice none 0 0] 129 (0,0)):=(h1.block w.heap.size (by simp) (by omega)).trans (xo w _);have a6:Ha ((w1.alloc (.cells #[.int .i64 (Vx s 0:Int),.int .i64 0,.int .i64 0,.int .i64 0,.int .i64 0,.int .i64 0,.int .i64 0,.int .i64 0,.int .i64 0,.int .i64 0,.slice none 0 0] 129)).heap[w.heap.size]?=some (.cells #[.int .i64 0,.int .i64 0,.int .i64 0,.int .i64 0,.int .i64 0,.int .i64 0,.int .i64 0,.int .i64 0,.int .i64 0,.int .i64 0,.slice none 0 0] 129 (0,0))):=(XO _ _ _ (zc b1)).trans b1;have y:Ha (w.heap.size≠w1.heap.size):=by have:=zc b1;unfold Ha;omega
 clear h1 k5 j5 d1 H1 f0 H0 b1;go_wp2_with fail;obtain⟨d,h6⟩:=UM w1.heap.size;rw[<-h6.o]at F y ⊢;obtain⟨x1,i0⟩:∃x1,Ha (x1=(w1.alloc (.cells #[.int .i64 (Vx s 0:Int),.int .i64 0,.int .i64 0,.int .i64 0,.int .i64 0,.int .i64 0,.int .i64 0,.int .i64 0,.int .i64 0,.int .i64 0,.slice none 0 0] 129))):=⟨_,rfl⟩
 rw[<-i0.o]at F a6 ⊢;clear h6 i0;refine(H.o 1 _ F.o.tk).mono ?_
 rintro e y1 ⟨rfl,l,hs,r⟩;have S:=zb (F.o.take l r);have d3:Ha (y1.heap[w.heap.size]?=x1.heap[w.heap.size]?):=l.block w.heap.size (zc a6.o) (by show ¬w.heap.size=t;omega);have K:Ha (Lq D t w (y1.setCell ⟨d,1,none⟩ (.int .i64 (Vx s 1:Int))) d (Vs s 2) #[.int .i64 (Vx s 0:Int),.int .i64 (Vx s 1:Int),.int .i64 0,.int .i64 0,.int .i64 0,.int .i64 0,.int .i64 0,.int .i64 0,.int .i64 0,.int .i64 0,.slice none 0 0]):=S.o.set 1 _;have a7:Ha ((y1.setCell ⟨d,1,none⟩ (.int .i64 (Vx s 1:Int))).heap[w.heap.size]?=some (.cells #[.int .i64 0,.int .i64 0,.int .i64 0,.int .i64 0,.int .i64 0,.int .i64 0,.int .i64 0,.int .i64 0,.int .i64 0,.int .i64 0,.slice none 0 0] 129 (0,0))):=(xa _ _ _ _ y.o).trans (d3.o.trans a6.o);have c1:y1.cell? ⟨d,1,none⟩=some (.int .i64 0):=by rw[za S.o.box];rfl
 have f1:=zf S.o.box 1;clear l hs r S d3 F a6;go_wp2_with fail;obtain⟨x2,i1⟩:∃x,Ha (x=y1.setCell ⟨d,1,none⟩ (.int .i64 (Vx s 1:Int))):=⟨_,rfl⟩
 rw[<-i1.o]at K a7 ⊢;clear i1 c1 f1;refine(H.o 2 _ K.o.tk).mono ?_
 rintro e y2 ⟨rfl,l,hs,r⟩;have T:=zb (K.o.take l r);have d4:Ha (y2.heap[w.heap.size]?=x2.heap[w.heap.size]?):=l.block w.heap.size (zc a7.o) (by show ¬w.heap.size=t;omega);have M:Ha (Lq D t w (y2.setCell ⟨d,2,none⟩ (.int .i64 (Vx s 2:Int))) d (Vs s 3) #[.int .i64 (Vx s 0:Int),.int .i64 (Vx s 1:Int),.int .i64 (Vx s 2:Int),.int .i64 0,.int .i64 0,.int .i64 0,.int .i64 0,.int .i64 0,.int .i64 0,.int .i64 0,.slice none 0 0]):=T.o.set 2 _;have a8:Ha ((y2.setCell ⟨d,2,none⟩ (.int .i64 (Vx s 2:Int))).heap[w.heap.size]?=some (.cells #[.int .i64 0,.int .i64 0,.int .i64 0,.int .i64 0,.int .i64 0,.int .i64 0,.int .i64 0,.int .i64 0,.int .i64 0,.int .i64 0,.slice none 0 0] 129 (0,0))):=(xa _ _ _ _ y.o).trans (d4.o.trans a7.o);have c2:y2.cell? ⟨d,2,none⟩=some (.int .i64 0):=by rw[za T.o.box];rfl
 have f2:=zf T.o.box 2;clear l hs r T d4 K a7;go_wp2_with fail;obtain⟨x3,i2⟩:∃x,Ha (x=y2.setCell ⟨d,2,none⟩ (.int .i64 (Vx s 2:Int))):=⟨_,rfl⟩
 rw[<-i2.o]at M a8 ⊢;clear i2 c2 f2;refine(H.o 3 _ M.o.tk).mono ?_
 rintro e y3 ⟨rfl,l,hs,r⟩;have X:=zb (M.o.take l r);have d5:Ha (y3.heap[w.heap.size]?=x3.heap[w.heap.size]?):=l.block w.heap.size (zc a8.o) (by show ¬w.heap.size=t;omega);have N:Ha (Lq D t w (y3.setCell ⟨d,3,none⟩ (.int .i64 (Vx s 3:Int))) d (Vs s 4) #[.int .i64 (Vx s 0:Int),.int .i64 (Vx s 1:Int),.int .i64 (Vx s 2:Int),.int .i64 (Vx s 3:Int),.int .i64 0,.int .i64 0,.int .i64 0,.int .i64 0,.int .i64 0,.int .i64 0,.slice none 0 0]):=X.o.set 3 _;have a9:Ha ((y3.setCell ⟨d,3,none⟩ (.int .i64 (Vx s 3:Int))).heap[w.heap.size]?=some (.cells #[.int .i64 0,.int .i64 0,.int .i64 0,.int .i64 0,.int .i64 0,.int .i64 0,.int .i64 0,.int .i64 0,.int .i64 0,.int .i64 0,.slice none 0 0] 129 (0,0))):=(xa _ _ _ _ y.o).trans (d5.o.trans a8.o);have c3:y3.cell? ⟨d,3,none⟩=some (.int .i64 0):=by rw[za X.o.box];rfl
 have f3:=zf X.o.box 3;clear l hs r X d5 M a8;go_wp2_with fail;obtain⟨x4,i3⟩:∃x,Ha (x=y3.setCell ⟨d,3,none⟩ (.int .i64 (Vx s 3:Int))):=⟨_,rfl⟩
 rw[<-i3.o]at N a9 ⊢;clear i3 c3 f3;refine(H.o 4 _ N.o.tk).mono ?_
 rintro e y4 ⟨rfl,l,hs,r⟩;have Z:=zb (N.o.take l r);have d6:Ha (y4.heap[w.heap.size]?=x4.heap[w.heap.size]?):=l.block w.heap.size (zc a9.o) (by show ¬w.heap.size=t;omega);have P:Ha (Lq D t w (y4.setCell ⟨d,5,none⟩ (.int .i64 (Vx s 4:Int))) d (Vs s 5) #[.int .i64 (Vx s 0:Int),.int .i64 (Vx s 1:Int),.int .i64 (Vx s 2:Int),.int .i64 (Vx s 3:Int),.int .i64 0,.int .i64 (Vx s 4:Int),.int .i64 0,.int .i64 0,.int .i64 0,.int .i64 0,.slice none 0 0]):=Z.o.set 5 _;have b0:Ha ((y4.setCell ⟨d,5,none⟩ (.int .i64 (Vx s 4:Int))).heap[w.heap.size]?=some (.cells #[.int .i64 0,.int .i64 0,.int .i64 0,.int .i64 0,.int .i64 0,.int .i64 0,.int .i64 0,.int .i64 0,.int .i64 0,.int .i64 0,.slice none 0 0] 129 (0,0))):=(xa _ _ _ _ y.o).trans (d6.o.trans a9.o);have c4:y4.cell? ⟨d,5,none⟩=some (.int .i64 0):=by rw[za Z.o.box];rfl
 have f4:=zf Z.o.box 5;clear l hs r Z d6 N a9;go_wp2_with fail;obtain⟨x5,i4⟩:∃x,Ha (x=y4.setCell ⟨d,5,none⟩ (.int .i64 (Vx s 4:Int))):=⟨_,rfl⟩
 rw[<-i4.o]at P b0 ⊢;clear i4 c4 f4;refine(H.o 5 _ P.o.tk).mono ?_
 rintro e y5 ⟨rfl,l,hs,r⟩;have a0:=zb (P.o.take l r);have d7:Ha (y5.heap[w.heap.size]?=x5.heap[w.heap.size]?):=l.block w.heap.size (zc b0.o) (by show ¬w.heap.size=t;omega);have Q:Ha (Lq D t w (y5.setCell ⟨d,6,none⟩ (.int .i64 (Vx s 5:Int))) d (Vs s 6) #[.int .i64 (Vx s 0:Int),.int .i64 (Vx s 1:Int),.int .i64 (Vx s 2:Int),.int .i64 (Vx s 3:Int),.int .i64 0,.int .i64 (Vx s 4:Int),.int .i64 (Vx s 5:Int),.int .i64 0,.int .i64 0,.int .i64 0,.slice none 0 0]):=a0.o.set 6 _;have b7:Ha ((y5.setCell ⟨d,6,none⟩ (.int .i64 (Vx s 5:Int))).heap[w.heap.size]?=some (.cells #[.int .i64 0,.int .i64 0,.int .i64 0,.int .i64 0,.int .i64 0,.int .i64 0,.int .i64 0,.int .i64 0,.int .i64 0,.int .i64 0,.slice none 0 0] 129 (0,0))):=(xa _ _ _ _ y.o).trans (d7.o.trans b0.o);have c5:y5.cell? ⟨d,6,none⟩=some (.int .i64 0):=by rw[za a0.o.box];rfl
 have f5:=zf a0.o.box 6;clear l hs r a0 d7 P b0;go_wp2_with fail;obtain⟨x6,i5⟩:∃x,Ha (x=y5.setCell ⟨d,6,none⟩ (.int .i64 (Vx s 5:Int))):=⟨_,rfl⟩
 rw[<-i5.o]at Q b7 ⊢;clear i5 c5 f5;refine(H.o 6 _ Q.o.tk).mono ?_
 rintro e y6 ⟨rfl,l,hs,r⟩;have a4:=zb (Q.o.take l r);have d8:Ha (y6.heap[w.heap.size]?=x6.heap[w.heap.size]?):=l.block w.heap.size (zc b7.o) (by show ¬w.heap.size=t;omega);have R:Ha (Lq D t w (y6.setCell ⟨d,7,none⟩ (.int .i64 (Vx s 6:Int))) d (Vs s 7) #[.int .i64 (Vx s 0:Int),.int .i64 (Vx s 1:Int),.int .i64 (Vx s 2:Int),.int .i64 (Vx s 3:Int),.int .i64 0,.int .i64 (Vx s 4:Int),.int .i64 (Vx s 5:Int),.int .i64 (Vx s 6:Int),.int .i64 0,.int .i64 0,.slice none 0 0]):=a4.o.set 7 _;have b8:Ha ((y6.setCell ⟨d,7,none⟩ (.int .i64 (Vx s 6:Int))).heap[w.heap.size]?=some (.cells #[.int .i64 0,.int .i64 0,.int .i64 0,.int .i64 0,.int .i64 0,.int .i64 0,.int .i64 0,.int .i64 0,.int .i64 0,.int .i64 0,.slice none 0 0] 129 (0,0))):=(xa _ _ _ _ y.o).trans (d8.o.trans b7.o);have c6:y6.cell? ⟨d,7,none⟩=some (.int .i64 0):=by rw[za a4.o.box];rfl
 have f6:=zf a4.o.box 7;clear l hs r a4 d8 Q b7;go_wp2_with fail;obtain⟨x7,i6⟩:∃x,Ha (x=y6.setCell ⟨d,7,none⟩ (.int .i64 (Vx s 6:Int))):=⟨_,rfl⟩
 rw[<-i6.o]at R b8 ⊢;clear i6 c6 f6;refine(H.o 7 _ R.o.tk).mono ?_
 rintro e y7 ⟨rfl,l,hs,r⟩;have a5:=zb (R.o.take l r);have d9:Ha (y7.heap[w.heap.size]?=x7.heap[w.heap.size]?):=l.block w.heap.size (zc b8.o) (by show ¬w.heap.size=t;omega);have A:Ha (Lq D t w (y7.setCell ⟨d,8,none⟩ (.int .i64 (Vx s 7:Int))) d (Vs s 8) #[.int .i64 (Vx s 0:Int),.int .i64 (Vx s 1:Int),.int .i64 (Vx s 2:Int),.int .i64 (Vx s 3:Int),.int .i64 0,.int .i64 (Vx s 4:Int),.int .i64 (Vx s 5:Int),.int .i64 (Vx s 6:Int),.int .i64 (Vx s 7:Int),.int .i64 0,.slice none 0 0]):=a5.o.set 8 _;have b:Ha ((y7.setCell ⟨d,8,none⟩ (.int .i64 (Vx s 7:Int))).heap[w.heap.size]?=some (.cells #[.int .i64 0,.int .i64 0,.int .i64 0,.int .i64 0,.int .i64 0,.int .i64 0,.int .i64 0,.int .i64 0,.int .i64 0,.int .i64 0,.slice none 0 0] 129 (0,0))):=(xa _ _ _ _ y.o).trans (d9.o.trans b8.o);have c7:y7.cell? ⟨d,8,none⟩=some (.int .i64 0):=by rw[za a5.o.box];rfl
 have f7:=zf a5.o.box 8;clear l hs r a5 d9 R b8;go_wp2_with fail;obtain⟨x8,i7⟩:∃x,Ha (x=y7.setCell ⟨d,8,none⟩ (.int .i64 (Vx s 7:Int))):=⟨_,rfl⟩
 rw[<-i7.o]at A b ⊢;clear i7 c7 f7;refine(j9.o _ A.o.tk).mono ?_
 rintro e m ⟨l,r,fv,rfl,c9⟩;have j:=zb (A.o.take l r);have c:Ha (m.heap[w.heap.size]?=x8.heap[w.heap.size]?):=l.block w.heap.size (zc b.o) (by show ¬w.heap.size=t;omega);obtain⟨fa,fc,k1⟩:=zm c9;have k7:w.heap.size<=x8.heap.size:=A.o.kp.size;have j2:d<x8.heap.size:=zc A.o.box;have j3:w.heap.size<x8.heap.size:=zc b.o;have h7:Ha (∀(f:Nat) (u:Value),(m.setCell ⟨d,f,none⟩ u).ownsRow w.heap.size 181 2 fv (Vq s).1.length (zA (Vq s).1)):=λf u=>zJ (ze c9 (λg hg=>xa _ _ _ _ (by have:=(c9.lt g hg).1;show g≠d;omega))) k7
 subst k1;generalize j1:(Vq s).1.length=kk at *;have d0:=zb j1;have B:Ha (Lq D t w (m.setCell ⟨d,10,none⟩ (.slice fa kk fc)) d (Vq s).2 #[.int .i64 (Vx s 0:Int),.int .i64 (Vx s 1:Int),.int .i64 (Vx s 2:Int),.int .i64 (Vx s 3:Int),.int .i64 0,.int .i64 (Vx s 4:Int),.int .i64 (Vx s 5:Int),.int .i64 (Vx s 6:Int),.int .i64 (Vx s 7:Int),.int .i64 0,.slice fa kk fc]):=j.o.set 10 _;have C:Ha ((m.setCell ⟨d,10,none⟩ (.slice fa kk fc)).heap[w.heap.size]?=some (.cells #[.int .i64 0,.int .i64 0,.int .i64 0,.int .i64 0,.int .i64 0,.int .i64 0,.int .i64 0,.int .i64 0,.int .i64 0,.int .i64 0,.slice none 0 0] 129 (0,0))):=(xa _ _ _ _ y.o).trans (c.o.trans b.o);have q:=zb (h7.o 10 (.slice fa kk fc));have c8:m.cell? ⟨d,10,none⟩=some (.slice none 0 0):=by rw[za j.o.box];rfl
 have f8:=zf j.o.box 10;have e0:m.cell? ⟨d,0,none⟩=some (.int .i64 (Vx s 0:Int)):=by rw[za j.o.box];rfl
 have e1:m.cell? ⟨d,1,none⟩=some (.int .i64 (Vx s 1:Int)):=by rw[za j.o.box];rfl
 have e2:m.cell? ⟨d,2,none⟩=some (.int .i64 (Vx s 2:Int)):=by rw[za j.o.box];rfl
 have e3:m.cell? ⟨d,3,none⟩=some (.int .i64 (Vx s 3:Int)):=by rw[za j.o.box];rfl
 have e4:m.cell? ⟨d,4,none⟩=some (.int .i64 0):=by rw[za j.o.box];rfl
 have e5:m.cell? ⟨d,5,none⟩=some (.int .i64 (Vx s 4:Int)):=by rw[za j.o.box];rfl
 have e6:m.cell? ⟨d,6,none⟩=some (.int .i64 (Vx s 5:Int)):=by rw[za j.o.box];rfl
 have e7:m.cell? ⟨d,7,none⟩=some (.int .i64 (Vx s 6:Int)):=by rw[za j.o.box];rfl
 have e8:m.cell? ⟨d,8,none⟩=some (.int .i64 (Vx s 7:Int)):=by rw[za j.o.box];rfl
 have e9:m.cell? ⟨d,9,none⟩=some (.int .i64 0):=by rw[za j.o.box];rfl
 have r0:m.cell? ⟨w.heap.size,0,none⟩=some (.int .i64 0):=by rw[za (c.o.trans b.o)];rfl
 have r1:m.cell? ⟨w.heap.size,1,none⟩=some (.int .i64 0):=by rw[za (c.o.trans b.o)];rfl
 have r2:m.cell? ⟨w.heap.size,2,none⟩=some (.int .i64 0):=by rw[za (c.o.trans b.o)];rfl
 have r3:m.cell? ⟨w.heap.size,3,none⟩=some (.int .i64 0):=by rw[za (c.o.trans b.o)];rfl
 have r4:m.cell? ⟨w.heap.size,4,none⟩=some (.int .i64 0):=by rw[za (c.o.trans b.o)];rfl
 have r5:m.cell? ⟨w.heap.size,5,none⟩=some (.int .i64 0):=by rw[za (c.o.trans b.o)];rfl
 have r6:m.cell? ⟨w.heap.size,6,none⟩=some (.int .i64 0):=by rw[za (c.o.trans b.o)];rfl
 have r7:m.cell? ⟨w.heap.size,7,none⟩=some (.int .i64 0):=by rw[za (c.o.trans b.o)];rfl
 have r8:m.cell? ⟨w.heap.size,8,none⟩=some (.int .i64 0):=by rw[za (c.o.trans b.o)];rfl
 have r9:m.cell? ⟨w.heap.size,9,none⟩=some (.int .i64 0):=by rw[za (c.o.trans b.o)];rfl
 have j7:m.cell? ⟨w.heap.size,10,none⟩=some (.slice none 0 0):=by rw[za (c.o.trans b.o)];rfl
 have g0:=zf (c.o.trans b.o) 0;have g1:=zf (c.o.trans b.o) 1;have g2:=zf (c.o.trans b.o) 2;have g3:=zf (c.o.trans b.o) 3;have g4:=zf (c.o.trans b.o) 4;have g5:=zf (c.o.trans b.o) 5;have g6:=zf (c.o.trans b.o) 6;have g7:=zf (c.o.trans b.o) 7;have g8:=zf (c.o.trans b.o) 8;have g9:=zf (c.o.trans b.o) 9;have i9:=zf (c.o.trans b.o) 10;have k4:=y.o;have h4:Ha ((Vq s).1.length<=4194304):=by
  unfold Ha Vq jT;rw[lM];exact(gU (G.o 8).1 (show 0<9223372036854775808 by omega) (G.o 8).2).1
 have k9:kk<=4194304:=by rw[<-d0.o];exact h4.o
 clear l r c9 j c A b j1 h7 h4 j2 j3;by_cases j0:kk=0
 ·subst j0;have f9:Ha ((∀n∈(Vq s).2.1,n<9223372036854775808)/\(Vq s).2.1.length<=4194304):=by
   unfold Ha Vq jT;obtain⟨a1,a2,a3⟩:=gU (G.o 8).1 (show 0<9223372036854775808 by omega) (G.o 8).2;exact rG a2 (by omega) a3 _
  have d2:=zb (cQ B.o.tk f9.o.1 f9.o.2);have HG:Ha (Vr s=Vp (Vq s).2):=by unfold Ha Vr;rw[d0.o,xe rfl]
  obtain⟨gt,sg,h5⟩:∃gt sg,Ha (Vp (Vq s).2=(gt,sg)):=⟨_,_,rfl⟩
  rw[h5.o]at d2 HG;have h0:Ha (Vt s=⟨Vx s 0,Vx s 1,Vx s 2,Vx s 3,gt,Vx s 4,Vx s 5,Vx s 6,Vx s 7,0,(Vq s).1⟩):=by unfold Ha Vt;rw[HG.o]
  clear f9 h5 e0 e1 e2 e3 e4 e5 e6 e7 e8 e9 r0 r1 r2 r3 r4 r5 r6 r7 r8 r9 j7 g0 g1 g2 g3 g4 g5 g6 g7 g8 g9 i9;go_wp2_with fail;obtain⟨y9,i8⟩:=UM (m.setCell ⟨d,10,none⟩ (.slice fa 0 fc));rw[<-i8.o]at d2 B C q ⊢;clear i8 c8 f8;refine(d2.o).mono ?_
  rintro e z ⟨rfl,b9,j4,j6⟩;have p:=zb (B.o.take b9 j6);have i:Ha (z.heap[w.heap.size]?=some (.cells #[.int .i64 0,.int .i64 0,.int .i64 0,.int .i64 0,.int .i64 0,.int .i64 0,.int .i64 0,.int .i64 0,.int .i64 0,.int .i64 0,.slice none 0 0] 129 (0,0))):=(b9.block w.heap.size (zc C.o) (by show ¬w.heap.size=t;omega)).trans C.o;have j8:Ha (Lq D t w (z.setCell ⟨d,4,none⟩ (.int .i64 gt)) d sg #[.int .i64 (Vx s 0:Int),.int .i64 (Vx s 1:Int),.int .i64 (Vx s 2:Int),.int .i64 (Vx s 3:Int),.int .i64 gt,.int .i64 (Vx s 4:Int),.int .i64 (Vx s 5:Int),.int .i64 (Vx s 6:Int),.int .i64 (Vx s 7:Int),.int .i64 0,.slice fa 0 fc]):=p.o.set 4 _;have h9:Ha ((z.setCell ⟨d,4,none⟩ (.int .i64 gt)).heap[w.heap.size]?=some (.cells #[.int .i64 0,.int .i64 0,.int .i64 0,.int .i64 0,.int .i64 0,.int .i64 0,.int .i64 0,.int .i64 0,.int .i64 0,.int .i64 0,.slice none 0 0] 129 (0,0))):=(xa _ _ _ _ k4).trans i.o;have h8:Ha ((z.setCell ⟨d,4,none⟩ (.int .i64 gt)).ownsRow w.heap.size 181 2 (.slice fa 0 fc) 0 (zA (Vq s).1)):=ze q.o (λg hg=>by
   have k3:=q.o.lt g hg;have k2:g≠d:=λe=>by
    obtain⟨cs,J⟩:=zi q.o hg;rw[e,B.o.box]at J;simp at J
   exact(xa _ _ _ _ k2).trans (b9.block g k3.2 (by show ¬g=t;omega)))
  have f4:=zf p.o.box 4;have e0:z.cell? ⟨d,0,none⟩=some (.int .i64 (Vx s 0:Int)):=by rw[za p.o.box];rfl
  have e1:z.cell? ⟨d,1,none⟩=some (.int .i64 (Vx s 1:Int)):=by rw[za p.o.box];rfl
  have e2:z.cell? ⟨d,2,none⟩=some (.int .i64 (Vx s 2:Int)):=by rw[za p.o.box];rfl
  have e3:z.cell? ⟨d,3,none⟩=some (.int .i64 (Vx s 3:Int)):=by rw[za p.o.box];rfl
  have e4:z.cell? ⟨d,4,none⟩=some (.int .i64 0):=by rw[za p.o.box];rfl
  have e5:z.cell? ⟨d,5,none⟩=some (.int .i64 (Vx s 4:Int)):=by rw[za p.o.box];rfl
  have e6:z.cell? ⟨d,6,none⟩=some (.int .i64 (Vx s 5:Int)):=by rw[za p.o.box];rfl
  have e7:z.cell? ⟨d,7,none⟩=some (.int .i64 (Vx s 6:Int)):=by rw[za p.o.box];rfl
  have e8:z.cell? ⟨d,8,none⟩=some (.int .i64 (Vx s 7:Int)):=by rw[za p.o.box];rfl
  have e9:z.cell? ⟨d,9,none⟩=some (.int .i64 0):=by rw[za p.o.box];rfl
  have k8:z.cell? ⟨d,10,none⟩=some (.slice fa 0 fc):=by rw[za p.o.box];rfl
  have r0:z.cell? ⟨w.heap.size,0,none⟩=some (.int .i64 0):=by rw[za i.o];rfl
  have g0:=zf i.o 0;have r1:z.cell? ⟨w.heap.size,1,none⟩=some (.int .i64 0):=by rw[za i.o];rfl
  have g1:=zf i.o 1;have r2:z.cell? ⟨w.heap.size,2,none⟩=some (.int .i64 0):=by rw[za i.o];rfl
  have g2:=zf i.o 2;have r3:z.cell? ⟨w.heap.size,3,none⟩=some (.int .i64 0):=by rw[za i.o];rfl
  have g3:=zf i.o 3;have r4:z.cell? ⟨w.heap.size,4,none⟩=some (.int .i64 0):=by rw[za i.o];rfl
  have g4:=zf i.o 4;have r5:z.cell? ⟨w.heap.size,5,none⟩=some (.int .i64 0):=by rw[za i.o];rfl
  have g5:=zf i.o 5;have r6:z.cell? ⟨w.heap.size,6,none⟩=some (.int .i64 0):=by rw[za i.o];rfl
  have g6:=zf i.o 6;have r7:z.cell? ⟨w.heap.size,7,none⟩=some (.int .i64 0):=by rw[za i.o];rfl
  have g7:=zf i.o 7;have r8:z.cell? ⟨w.heap.size,8,none⟩=some (.int .i64 0):=by rw[za i.o];rfl
  have g8:=zf i.o 8;have r9:z.cell? ⟨w.heap.size,9,none⟩=some (.int .i64 0):=by rw[za i.o];rfl
  have g9:=zf i.o 9;have j7:z.cell? ⟨w.heap.size,10,none⟩=some (.slice none 0 0):=by rw[za i.o];rfl
  have i9:=zf i.o 10;clear b9 j4 j6 B C q d2;go_wp2_with fail;obtain⟨W,hW,b1,b2,b3,b4,b5,b6⟩:=Bl (z.setCell ⟨d,4,none⟩ (.int .i64 gt)) w.heap.size 129 _ _ _ _ _ _ _ _ _ _ _ h9.o (.int .i64 (Vx s 0:Int)) (.int .i64 (Vx s 1:Int)) (.int .i64 (Vx s 2:Int)) (.int .i64 (Vx s 3:Int)) (.int .i64 gt) (.int .i64 (Vx s 4:Int)) (.int .i64 (Vx s 5:Int)) (.int .i64 (Vx s 6:Int)) (.int .i64 (Vx s 7:Int)) (.int .i64 0) (.slice fa 0 fc);rw[<-hW];clear hW;refine bodyPost_ret (results_cell_row rfl _ _ w.heap.size 129 _ (0,0) _ rfl b1 Tryz.underlying129 rfl (by kernel_rfl)) rfl ?_
  have hq:=j8.o;have E:=zb b2;clear b1;refine⟨⟨b4.trans hq.kp.os,b5.trans hq.kp.tape,b6.trans hq.kp.output,by rw[b3];exact hq.kp.size,λk l hz=>(E.o k (by omega)).trans (hq.kp.block k l hz)⟩,?_,.slice fa 0 fc,?_,?_⟩
  ·rw[HG.o];exact hq.tk.congr (by rw[b3];exact xc _) (E.o t (by omega)) (E.o D (by omega))
  ·rw[h0.o];rfl
  rw[d0.o];refine ze h8.o (λg hg=>E.o g (λe=>?_));obtain⟨cs,J⟩:=zi h8.o hg;rw[e,h9.o]at J;simp at J
 have HG:Ha (Vr s=(0,(Vq s).2)):=by unfold Ha Vr;rw[d0.o,xg j0]
 have l0:((kk:Int)==0)=false:=by rw[xp];omega
 have h0:Ha (Vt s=⟨Vx s 0,Vx s 1,Vx s 2,Vx s 3,0,Vx s 4,Vx s 5,Vx s 6,Vx s 7,0,(Vq s).1⟩):=by unfold Ha Vt;rw[HG.o]
 go_wp2_with fail;obtain⟨W,hW,b1,b2,b3,b4,b5,b6⟩:=Bl (m.setCell ⟨d,10,none⟩ (.slice fa kk fc)) w.heap.size 129 _ _ _ _ _ _ _ _ _ _ _ C.o (.int .i64 (Vx s 0:Int)) (.int .i64 (Vx s 1:Int)) (.int .i64 (Vx s 2:Int)) (.int .i64 (Vx s 3:Int)) (.int .i64 0) (.int .i64 (Vx s 4:Int)) (.int .i64 (Vx s 5:Int)) (.int .i64 (Vx s 6:Int)) (.int .i64 (Vx s 7:Int)) (.int .i64 0) (.slice fa kk fc)
 rw[<-hW];clear hW;refine bodyPost_ret (results_cell_row rfl _ _ w.heap.size 129 _ (0,0) _ rfl b1 Tryz.underlying129 rfl (by kernel_rfl)) rfl ?_
 have hq:=B.o;have E:=zb b2;clear b1;refine⟨⟨b4.trans hq.kp.os,b5.trans hq.kp.tape,b6.trans hq.kp.output,by rw[b3];exact hq.kp.size,λk l hz=>(E.o k (by omega)).trans (hq.kp.block k l hz)⟩,?_,.slice fa kk fc,?_,?_⟩
 ·rw[HG.o];exact hq.tk.congr (by rw[b3];exact xc _) (E.o t (by omega)) (E.o D (by omega))
 ·rw[h0.o];rfl
 rw[d0.o];refine ze q.o (λg hg=>E.o g (λe=>?_));obtain⟨cs,J⟩:=zi q.o hg;rw[e,C.o]at J;simp at J
