import Derived.Test.YtgcedalggnmooaaGreatDoorSqX
set_option linter.all false
set_option maxRecDepth 100000
set_option maxHeartbeats 6400000
namespace Go.Proofs.YtgcedalggnmooaaGreatDoor
open Go.RowKit
open Tryz
def Tk(D:Nat)(w:World)(t:Nat)(s:List Nat×Bool):Prop:=∃a cap,w.heap[t]?=some (.cells #[.slice a s.1.length cap,.bool s.2] 218 (0,0))/\s.1.length<=cap/\(D≠t/\D<w.heap.size)/\(0<s.1.length->∃off,a=some ⟨D,off,none⟩/\∀j,j<s.1.length->w.cell? ⟨D,off+j,none⟩=some (.int .i64 (s.1.getD j 0:Int)))
variable {B D N t:Nat}{s:List Nat×Bool}{w w':World}
def Tk.lt(h:Tk D w t s):t<w.heap.size:=by obtain⟨a,cap,b,_⟩:=h;exact zc b
def Tk.congr(h:Tk D w t s)(p:w.heap.size<=w'.heap.size)(k:w'.heap[t]?=w.heap[t]?)(l:w'.heap[D]?=w.heap[D]?):Tk D w' t s:=by
 obtain⟨a,cap,d,e,c,f⟩:=h;refine⟨a,cap,k.trans d,e,⟨c.1,xl c.2 p⟩,λn=>?_⟩;obtain⟨b,g,i⟩:=f n;exact⟨b,g,λj m=>(xo (a:=⟨D,b+j,none⟩) l).trans (i j m)⟩
def Tk.below(h:Tk D w t s)(b:Below w.heap.size w w'):Tk D w' t s :=
 h.congr b.size (b.block t h.lt) (b.block D (by obtain⟨a,cap,_,_,c,_⟩:=h;exact c.2))
def Xe:List Nat×Bool->Nat×(List Nat×Bool)
 |([],_)=>(0,([],true))
 |(n::r,b)=>(n,(r,b))
def ZZ(s:List Nat×Bool):(Xe s).2.1.length<=s.1.length:=by
 obtain⟨l,b⟩:=s
 cases l with
 |nil=>exact xe _
 |cons n r=>show r.length<=r.length+1;omega
def zY(h:∀n∈s.1,n<B)(a:0<B):(Xe s).1<B/\∀n∈(Xe s).2.1,n<B:=by
 obtain⟨l,b⟩:=s
 cases l with
 |nil=>exact⟨a,λn d=>by cases d⟩
 |cons n r=>exact⟨h n (by simp),λm c=>h m (xae _ c)⟩
def cV(h:Tk D w t s)(v:∀n∈s.1,n<9223372036854775808)(B:s.1.length<=4194304):Calls prog 138 #[.pointer (some ⟨t,0,none⟩)] w λe w'=>e=.returned (.int .i64 ((Xe s).1:Int))/\Kp (λk=>k=t) w w'/\w'.heap.size=w.heap.size/\Tk D w' t (Xe s).2:=by
 obtain⟨C,bad⟩:=s;obtain⟨a,cap,b,f,u,m⟩:=h;simp only at b f m v B;have c0:w.cell? ⟨t,0,none⟩=some (.slice a C.length cap):=by rw[za b];rfl
 have c1:w.cell? ⟨t,1,none⟩=some (.bool bad):=by rw[za b];rfl
 have K:=ze b 0;have M:=ze b 1;have l:=zb b;have HD:=zb u;have E:=zb m
 cases C with
 |nil=>
  clear b m u v;simp only[XO]at c0;go_enter func138,ntmps138;go_wp2_with fail;go_ret;refine⟨rfl,(Kp.refl (λk=>k=t) _).setCell (p:=⟨t,1,none⟩) (Or.inl rfl) _,by simp[World.setCell],a,cap,xu w t 1 _ 218 (.bool true) l.o,by simp[Xe],⟨HD.o.1,by simp[World.setCell];exact HD.o.2⟩,λq=>absurd q (by simp[Xe])⟩
 |cons n r=>
  obtain⟨c,F,g⟩:=m (by simp);subst F;have N:w.cell? ⟨D,c,none⟩=some (.int .i64 n):=g 0 (by simp);have y:=zb g;have H:=v n (by simp);simp only[List.length_cons]at c0 B f;have z:=u.1;clear b m g u v E;have d:Ha (∀(x:Addr) (i:Nat),r.length<=i->(0<r.length->x=⟨D,c+1,none⟩)->Kp (λk=>k=t) w (w.setCell ⟨t,0,none⟩ (.slice (some x) r.length i))/\(w.setCell ⟨t,0,none⟩ (.slice (some x) r.length i)).heap.size=w.heap.size/\Tk D (w.setCell ⟨t,0,none⟩ (.slice (some x) r.length i)) t (r,bad)):=λx i A J=>by
   refine⟨(Kp.refl (λk=>k=t) _).setCell (p:=⟨t,0,none⟩) (Or.inl rfl) _,by simp[World.setCell],some x,i,xu w t 0 _ 218 _ l.o,A,⟨HD.o.1,by simp[World.setCell];exact HD.o.2⟩,λq=>⟨c+1,by rw[J q],λj G=>?_⟩⟩;have:=y.o (j+1) (by simpa using G);rw[show c+(j+1)=c+1+j by omega]at this;refine(xo (a:=⟨D,c+1+j,none⟩) (xd _ _ _ _ z)).trans ?_
   simpa using this
  go_enter func138,ntmps138;go_wp2_with fail
  ·go_ret;exact⟨rfl,d.o _ _ (by omega) (λq=>by omega)⟩
  go_ret;exact⟨rfl,d.o _ _ (by omega) (λq=>rfl)⟩
def Xl(s:List Nat×Bool):Nat×(List Nat×Bool):=if (Xe s).2.1.length<(Xe s).1 then (0,((Xe s).2.1,true)) else Xe s
def Kp.tk{a:World}(h:Kp (λk=>k=t) w w')(k:Kp (λk=>k=t) w' a):Kp (λk=>k=t) w a :=
 h.trans (k.mono (λ_ b=>Or.inl b))
def Tk.bad(h:Tk D w t s):Tk D (w.setCell ⟨t,1,none⟩ (.bool true)) t (s.1,true):=by
 obtain⟨a,cap,d,e,c,f⟩:=h;refine⟨a,cap,xu w t 1 _ 218 (.bool true) d,e,⟨c.1,by simp[World.setCell];exact c.2⟩,λl=>?_⟩;obtain⟨b,g,i⟩:=f l;exact⟨b,g,λj k=>(xo (a:=⟨D,b+j,none⟩) (xd _ _ _ _ c.1)).trans (i j k)⟩
def yA(h:Tk D w t s)(u:∀n∈s.1,n<9223372036854775808)(y:s.1.length<=4194304):Calls prog 139 #[.pointer (some ⟨t,0,none⟩)] w λe w'=>e=.returned (.int .i64 ((Xl s).1:Int))/\Kp (λk=>k=t) w w'/\w'.heap.size=w.heap.size/\Tk D w' t (Xl s).2:=by
 have l:=zb (cV h u y);have r:=(zY u (by omega)).1;have m:=ZZ s;have v:Ha (Xl s=if (Xe s).2.1.length<(Xe s).1 then (0,((Xe s).2.1,true)) else Xe s):=rfl;rw[v.o];generalize Xe s=q at *;obtain⟨n,s'⟩:=q;simp only at l r m ⊢;clear h u v;by_cases x:s'.1.length<n
 ·rw[xh x];go_enter func139,ntmps139;go_wp2_with (go_at_call 138;refine(l.o).mono ?_;rintro e w1 ⟨rfl,i,c,d⟩;have j:=zb i;have f:=zb c;have g:=zb d;obtain⟨a,cap,b,-⟩:=d;have c0:w1.cell? ⟨t,0,none⟩=some (.slice a s'.1.length cap):=(by rw[za b];rfl);have c1:w1.cell? ⟨t,1,none⟩=some (.bool s'.2):=(by rw[za b];rfl);have z:=ze b 1;clear i c b);go_ret;exact⟨rfl,j.o.setCell (p:=⟨t,1,none⟩) (Or.inl rfl) _,by simp[World.setCell];exact f.o,g.o.bad⟩
 rw[xg x];go_enter func139,ntmps139;go_wp2_with (go_at_call 138;refine(l.o).mono ?_;rintro e w1 ⟨rfl,i,c,d⟩;have j:=zb i;have f:=zb c;have g:=zb d;obtain⟨a,cap,b,-⟩:=d;have c0:w1.cell? ⟨t,0,none⟩=some (.slice a s'.1.length cap):=(by rw[za b];rfl);clear i c b);go_ret;exact⟨rfl,j.o,f.o,g.o⟩
def Xk(s:List Nat×Bool):Nat->List (Nat×Nat)×(List Nat×Bool)
 |0=>([],s)
 |k+1=>((Xk s k).1++[((Xe (Xk s k).2).1,(Xe (Xe (Xk s k).2).2).1)],(Xe (Xe (Xk s k).2).2).2)
def kF(s:List Nat×Bool):List (Nat×Nat)×(List Nat×Bool):=Xk (Xl s).2 (Xl s).1
def mA(s:List Nat×Bool):∀k,(Xk s k).1.length=k
 |0=>rfl
 |k+1=>by rw[Xk,xc,mA s k];rfl
def rX{s:List Nat×Bool}{B N:Nat}(h:∀n∈s.1,n<B)(a:0<B)(b:s.1.length<=N):∀k,(∀n∈(Xk s k).2.1,n<B)/\(Xk s k).2.1.length<=N
 |0=>⟨h,b⟩
 |k+1=>by
  obtain⟨e,i⟩:=rX h a b k;have c:=zY e a;have d:=zY c.2 a;have f:=ZZ (Xk s k).2;have g:=ZZ (Xe (Xk s k).2).2;exact⟨d.2,by show(Xe (Xe (Xk s k).2).2).2.1.length<=N;omega⟩
def iA(h:∀n∈s.1,n<B)(b:0<B)(d:s.1.length<=N):(Xl s).1<=N/\(∀n∈(Xl s).2.1,n<B)/\(Xl s).2.1.length<=N:=by
 have a:=zY h b;have c:=ZZ s;unfold Xl;split
 ·exact⟨by omega,a.2,by show(Xe s).2.1.length<=N;omega⟩
 exact⟨by omega,a.2,by omega⟩
def Kp.growN{Z:Nat->Prop}{w1 w2:World}{row:Option Nat}(h:Kp Z w w1)(a:w1.grownBy w2 row)(c:∀k,row=some k->w.heap.size<=k):Kp Z w w2 :=
 ⟨a.os.trans h.os,a.tape.trans h.tape,a.output.trans h.output,xj h.size a.size,λk b d=>(a.block k (xl b h.size) (λe=>by have:=c k e.symm;omega)).trans (h.block k b d)⟩
def Kp.alN{Z:Nat->Prop}{w1:World}(h:Kp Z w w1)(o:Obj):Kp Z w (w1.alloc o):=h.after (VE w1 o)
def mD(h:Tk D w t s)(hn:∀n∈s.1,n<9223372036854775808)(hl:s.1.length<=4194304):Calls prog 141 #[.pointer (some ⟨t,0,none⟩)] w λe w'=>Kp (λk=>k=t) w w'/\Tk D w' t (kF s).2/\∃v,e=.returned v/\w'.ownsRow w.heap.size 181 2 v (kF s).1.length (zl (kF s).1):=by
 obtain⟨ip,a7,b2,b3,b4⟩:=XT JC;have HS:=zb (yA h hn hl);obtain⟨a8,C,H⟩:=iA hn (by omega) hl;have P:Ha (kF s=Xk (Xl s).2 (Xl s).1):=rfl;have b8:=h.lt;have b7:D<w.heap.size:=by obtain⟨a,cap,_,_,h3,_⟩:=h;exact h3.2
 rw[P.o];generalize Xl s=q at *;obtain⟨N,d⟩:=q;simp only at HS a8 C H ⊢;have a4:Ha (∀k,(∀n∈(Xk d k).2.1,n<9223372036854775808)/\(Xk d k).2.1.length<=4194304):=rX C (by omega) H;clear h hn C H P;go_enter func141,ntmps141;go_wp2_with (go_at_call 139;refine(HS.o).mono ?_;rintro e w1 ⟨rfl,hk,Z,c⟩;have A:=zb (And.intro hk (And.intro Z c));clear hk Z c HS);go_loopw [3,5,6,7] (λov ii _ _ wr=>∃k:Nat,k<=N/\ii=.int .i64 k/\wr.ownsRow w.heap.size 181 2 ov k (zl (Xk d k).1)/\Kp (λk=>k=t) w wr/\Tk D wr t (Xk d k).2) (λ_ ii _ _ _=>N-(intOf ii).toNat)
 case atStart=>exact⟨0,by omega,rfl,Xx _ _ _ _,A.o.1,A.o.2.2⟩
 clear A;obtain⟨k,hk,rfl,b,x,c⟩:=hrel;by_cases b0:k<N
 ·obtain⟨J,T⟩:=a4.o k;have y:=zY J (show 0<9223372036854775808 by omega);have a9:=ZZ (Xk d k).2;have W:=zY y.2 (show 0<9223372036854775808 by omega);have r:=zb (cV c J T);have j:=zb (λ(w2:World) (h2:Tk D w2 t (Xe (Xk d k).2).2)=>cV h2 y.2 (by omega));have i:Ha (Xk d (k+1)=((Xk d k).1++[((Xe (Xk d k).2).1,(Xe (Xe (Xk d k).2).2).1)],(Xe (Xe (Xk d k).2).2).2)):=rfl;have R:=y.1;have E:=W.1;generalize Xk d k=q0 at *;obtain⟨ps,sa⟩:=q0;simp only at r j i R E b c;generalize Xe sa=q1 at *;obtain⟨n1,sb⟩:=q1;simp only at r j i R E;generalize Xe sb=q2 at *;obtain⟨n2,sc⟩:=q2;simp only at j i E;have K:=zb b;have HK:=zb x;obtain⟨oa,oc,b1⟩:=zj b;subst b1;clear b x c J T y a9 W;go_wp2_with fail;refine(r.o).mono ?_
  rintro e w2 ⟨rfl,F,b5,a0⟩;have z:=zb (j.o w2 a0);have p:Ha (w2.ownsRow w.heap.size 181 2 (.slice oa k oc) k (zl ps)):=zd K.o (λg S=>F.block g (K.o.lt g S).2 (λe=>by have:=(K.o.lt g S).1;omega));have M:=zb (HK.o.tk F);clear F b5 a0 r j K HK;go_wp2_with fail;refine(z.o).mono ?_
  rintro e w3 ⟨rfl,G,b6,a1⟩;have f:Ha (w3.ownsRow w.heap.size 181 2 (.slice oa k oc) k (zl ps)):=zd p.o (λg S=>G.block g (p.o.lt g S).2 (λe=>by have:=(p.o.lt g S).1;omega));have B:=zb (M.o.tk G);have Q:=zb a1;have b9:=B.o.size;clear G b6 a1 z p M;go_wp2_with (at_builtin;refine Xr _ rfl _ _ 40 rfl w.heap.size 181 ip (.agg #[.int .i64 0,.int .i64 0]) 2 16 uY a7 b2 b3 b4 rfl (by decide) _ k (zl ps) rfl (f.o.alloc _) ⟨w3.heap.size,0,none⟩ 1 1 [.int .i64 n1,.int .i64 n2] rfl rfl ?d1 ?d2 ?d3 ?d4 ?d5 ?_)
  case d1=>exact Yt _ _ _ _
  case d2=>intro u hu;simp at hu;rcases hu with rfl|rfl<;>rfl
  case d3=>unfold maxLen;omega
  case d4=>omega
  case d5=>simp;omega
  intro nv w4 m l X;have a3:Ha (w4.ownsRow w.heap.size 181 2 nv (k+1) (zl (Xk d (k+1)).1)):=by
   unfold Ha;rw[i.o,eQ];exact m
  have a2:=zb ((B.o.alN _).growN l (λq hq=>(f.o.lt q hq).1));have a6:Ha (Tk D w4 t (Xk d (k+1)).2):=by
   unfold Ha;rw[i.o];refine(Q.o.below (VE w3 _)).congr l.size (l.block t (by simp;omega) (λe=>by have:=(f.o.lt t e.symm).1;omega)) (l.block D (by simp;omega) (λe=>by have:=(f.o.lt D e.symm).1;omega))
  clear m l X f B Q;go_wp2_with fail;go_roundw
  case rel=>exact⟨k+1,by omega,by go_num,a3.o,a2.o,a6.o⟩
  simp[intOf];omega
 obtain rfl:k=N:=by omega
 have K:=zb b;have HK:=zb x;have HT:=zb c;have a5:=zb (mA d k);clear b x c b0;go_wp2_with fail;go_ret;exact⟨HK.o,HT.o,_,rfl,by rw[a5.o];exact K.o⟩
def Xh(s:List Nat×Bool):Nat->List Nat×Bool
 |0=>s
 |k+1=>(Xe (Xh s k)).2
def Xm(s:List Nat×Bool)(k:Nat):Nat:=(Xe (Xh s k)).1
def Fz{s:List Nat×Bool}{B N:Nat}(h:∀n∈s.1,n<B)(a:0<B)(b:s.1.length<=N):∀k,(∀n∈(Xh s k).1,n<B)/\(Xh s k).1.length<=N
 |0=>⟨h,b⟩
 |k+1=>by
  obtain⟨d,f⟩:=Fz h a b k;have c:=zY d a;have e:=ZZ (Xh s k);exact⟨c.2,by show(Xe (Xh s k)).2.1.length<=N;omega⟩
structure Lq(D t:Nat)(w wx:World)(lb:Nat)(s:List Nat×Bool)(cs:Array Value):Prop where
 kp:Kp (λk=>k=t) w wx
 tk:Tk D wx t s
 box:wx.heap[lb]?=some (.cells cs 129 (0,0))
 lo:w.heap.size<=lb
 tl:t<w.heap.size
 dl:D<w.heap.size
def Lq.set{b:World}{lb:Nat}{a:Array Value}(h:Lq D t w b lb s a)(f:Nat)(v:Value):Lq D t w (b.setCell ⟨lb,f,none⟩ v) lb s (a.setIfInBounds f v):=by
 have c:=h.lo;have d:=h.tl;have e:=h.dl;exact⟨h.kp.setCell (p:=⟨lb,f,none⟩) (Or.inr c) _,h.tk.congr (by simp[World.setCell]) (xd _ _ _ _ (by show t≠lb;omega)) (xd _ _ _ _ (by show D≠lb;omega)),xu b lb f a 129 v h.box,c,d,e⟩
def Lq.take{c w2:World}{lb:Nat}{s':List Nat×Bool}{a:Array Value}(h:Lq D t w c lb s a)(b:Kp (λk=>k=t) c w2)(f:Tk D w2 t s'):Lq D t w w2 lb s' a:=by
 have d:=h.lo;have e:=h.tl;exact⟨h.kp.tk b,f,(b.block lb (zc h.box) (by show ¬lb=t;omega)).trans h.box,d,e,h.dl⟩
def Xf(s:List Nat×Bool):List (Nat×Nat)×(List Nat×Bool):=kF (Xh s 8)
def Xg(s:List Nat×Bool):Nat×(List Nat×Bool):=if (Xf s).1.length=0 then Xe (Xf s).2 else (0,(Xf s).2)
def Xi(s:List Nat×Bool):L:=⟨Xm s 0,Xm s 1,Xm s 2,Xm s 3,(Xg s).1,Xm s 4,Xm s 5,Xm s 6,Xm s 7,0,(Xf s).1⟩
def Uw(x:World)(b:Nat)(t:TypeId)(N A y w u r n l j g a:Value)(h:x.heap[b]?=some (.cells #[N,A,y,w,u,r,n,l,j,g,a] t (0,0)))(c d e f i k m q s v p:Value):(((((((((((x.setCell ⟨b,0,none⟩ c).setCell ⟨b,1,none⟩ d).setCell ⟨b,2,none⟩ e).setCell ⟨b,3,none⟩ f).setCell ⟨b,4,none⟩ i).setCell ⟨b,5,none⟩ k).setCell ⟨b,6,none⟩ m).setCell ⟨b,7,none⟩ q).setCell ⟨b,8,none⟩ s).setCell ⟨b,9,none⟩ v).setCell ⟨b,10,none⟩ p).heap[b]?=some (.cells #[c,d,e,f,i,k,m,q,s,v,p] t (0,0)):=by
 have B:(x.setCell ⟨b,0,none⟩ c).heap[b]?=some (.cells #[c,A,y,w,u,r,n,l,j,g,a] t (0,0)):=xu x b 0 #[N,A,y,w,u,r,n,l,j,g,a] t c h;generalize x.setCell ⟨b,0,none⟩ c=x0 at B ⊢;have C:(x0.setCell ⟨b,1,none⟩ d).heap[b]?=some (.cells #[c,d,y,w,u,r,n,l,j,g,a] t (0,0)):=xu x0 b 1 #[c,A,y,w,u,r,n,l,j,g,a] t d B;generalize x0.setCell ⟨b,1,none⟩ d=x1 at C ⊢;have D:(x1.setCell ⟨b,2,none⟩ e).heap[b]?=some (.cells #[c,d,e,w,u,r,n,l,j,g,a] t (0,0)):=xu x1 b 2 #[c,d,y,w,u,r,n,l,j,g,a] t e C;generalize x1.setCell ⟨b,2,none⟩ e=x2 at D ⊢;have E:(x2.setCell ⟨b,3,none⟩ f).heap[b]?=some (.cells #[c,d,e,f,u,r,n,l,j,g,a] t (0,0)):=xu x2 b 3 #[c,d,e,w,u,r,n,l,j,g,a] t f D;generalize x2.setCell ⟨b,3,none⟩ f=x3 at E ⊢;have F:(x3.setCell ⟨b,4,none⟩ i).heap[b]?=some (.cells #[c,d,e,f,i,r,n,l,j,g,a] t (0,0)):=xu x3 b 4 #[c,d,e,f,u,r,n,l,j,g,a] t i E;generalize x3.setCell ⟨b,4,none⟩ i=x4 at F ⊢;have G:(x4.setCell ⟨b,5,none⟩ k).heap[b]?=some (.cells #[c,d,e,f,i,k,n,l,j,g,a] t (0,0)):=xu x4 b 5 #[c,d,e,f,i,r,n,l,j,g,a] t k F;generalize x4.setCell ⟨b,5,none⟩ k=x5 at G ⊢;have H:(x5.setCell ⟨b,6,none⟩ m).heap[b]?=some (.cells #[c,d,e,f,i,k,m,l,j,g,a] t (0,0)):=xu x5 b 6 #[c,d,e,f,i,k,n,l,j,g,a] t m G;generalize x5.setCell ⟨b,6,none⟩ m=x6 at H ⊢;have J:(x6.setCell ⟨b,7,none⟩ q).heap[b]?=some (.cells #[c,d,e,f,i,k,m,q,j,g,a] t (0,0)):=xu x6 b 7 #[c,d,e,f,i,k,m,l,j,g,a] t q H;generalize x6.setCell ⟨b,7,none⟩ q=x7 at J ⊢;have K:(x7.setCell ⟨b,8,none⟩ s).heap[b]?=some (.cells #[c,d,e,f,i,k,m,q,s,g,a] t (0,0)):=xu x7 b 8 #[c,d,e,f,i,k,m,q,j,g,a] t s J;generalize x7.setCell ⟨b,8,none⟩ s=x8 at K ⊢;have M:(x8.setCell ⟨b,9,none⟩ v).heap[b]?=some (.cells #[c,d,e,f,i,k,m,q,s,v,a] t (0,0)):=xu x8 b 9 #[c,d,e,f,i,k,m,q,s,g,a] t v K;generalize x8.setCell ⟨b,9,none⟩ v=x9 at M ⊢;have z:(x9.setCell ⟨b,10,none⟩ p).heap[b]?=some (.cells #[c,d,e,f,i,k,m,q,s,v,p] t (0,0)):=xu x9 b 10 #[c,d,e,f,i,k,m,q,s,v,a] t p M;generalize x9.setCell ⟨b,10,none⟩ p=x10 at z ⊢;exact z
def Oq(x:World)(b:Nat)(d e f g h i j l m n c:Value)(k:Nat)(a:k≠b):(((((((((((x.setCell ⟨b,0,none⟩ d).setCell ⟨b,1,none⟩ e).setCell ⟨b,2,none⟩ f).setCell ⟨b,3,none⟩ g).setCell ⟨b,4,none⟩ h).setCell ⟨b,5,none⟩ i).setCell ⟨b,6,none⟩ j).setCell ⟨b,7,none⟩ l).setCell ⟨b,8,none⟩ m).setCell ⟨b,9,none⟩ n).setCell ⟨b,10,none⟩ c).heap[k]?=x.heap[k]?:=by
 rw[xd _ _ _ _ a,xd _ _ _ _ a,xd _ _ _ _ a,xd _ _ _ _ a,xd _ _ _ _ a,xd _ _ _ _ a,xd _ _ _ _ a,xd _ _ _ _ a,xd _ _ _ _ a,xd _ _ _ _ a,xd _ _ _ _ a]
def Hg(x:World)(b:Nat)(c d e f g h i j k l a:Value):(((((((((((x.setCell ⟨b,0,none⟩ c).setCell ⟨b,1,none⟩ d).setCell ⟨b,2,none⟩ e).setCell ⟨b,3,none⟩ f).setCell ⟨b,4,none⟩ g).setCell ⟨b,5,none⟩ h).setCell ⟨b,6,none⟩ i).setCell ⟨b,7,none⟩ j).setCell ⟨b,8,none⟩ k).setCell ⟨b,9,none⟩ l).setCell ⟨b,10,none⟩ a).heap.size=x.heap.size:=by simp[World.setCell]
def fD(s:List Nat×Bool):Nat->List L×(List Nat×Bool)
 |0=>([],s)
 |k+1=>((fD s k).1++[Xi (fD s k).2],(Xg (fD s k).2).2)
def Xj(s:List Nat×Bool):O×(List Nat×Bool):=(⟨(Xe s).1,(Xe (Xe s).2).1,(kF (Xe (Xe s).2).2).1⟩,(kF (Xe (Xe s).2).2).2)
def gS(s:List Nat×Bool):Nat->List O×(List Nat×Bool)
 |0=>([],s)
 |k+1=>((gS s k).1++[(Xj (gS s k).2).1],(Xj (gS s k).2).2)
structure VB where
 td:Nat
 com:Nat
 k:Nat
 ls:List L
 os:List O
 rj:List (Nat×Nat)
 left:List Nat×Bool
def Xn(ns:List Nat):VB :=
 let a:=Xe (ns,false)
 let b:=Xe a.2
 let c:=Xl b.2
 let d:=fD c.2 c.1
 let e:=Xl d.2
 let f:=gS e.2 e.1
 let g:=kF f.2
 ⟨a.1,b.1,c.1,d.1,f.1,g.1,g.2⟩
def NumP(ls:List L):Prop:=∀i,i<ls.length->(1<=(ls.getD i L0).id/\(ls.getD i L0).id<=2147483647)/\(1<=(ls.getD i L0).gd/\(ls.getD i L0).gd<=2147483647)/\(ls.getD i L0).ex<=2147483647/\(ls.getD i L0).free<=2147483647/\(ls.getD i L0).hd<=2147483647/\(ls.getD i L0).sh<=2147483647/\(ls.getD i L0).sc<=2147483647/\(ls.getD i L0).got<=2147483647/\Wj (ls.getD i L0).id ls=i
def Sc(ls:List L):Prop:=∀i,i<ls.length->(ls.getD i L0).got<=2147483647/\(ls.getD i L0).gv<=2147483647/\1<=(ls.getD i L0).got/\(ls.getD i L0).got=(ls.getD i L0).free+(ls.getD i L0).hd+(ls.getD i L0).sh+(ls.getD i L0).sc+(ls.getD i L0).gv
def Wf(l:L)(n:Nat):L:={ l with gv:=l.gv+n }
def VY(l:L):List (Nat×Nat)->Nat->Nat->List L->Option (List L×Nat×Nat)
 |[],u,g,ls=>some (ls,u,g)
 |p::ps,u,g,ls=>if Wj p.1 ls<ls.length/\p.2<=2147483647/\(ls.getD (Wj p.1 ls) L0).gd=l.gd/\(ls.getD (Wj p.1 ls) L0).place<l.place then VY l ps (min u (ls.getD (Wj p.1 ls) L0).ex) (g+p.2) (ls.set (Wj p.1 ls) (Wf (ls.getD (Wj p.1 ls) L0) p.2)) else none
def VZ(ls:List L)(i:Nat):Option (List L) :=
 if (ls.getD i L0).par.length<=2/\((ls.getD i L0).par.map Prod.fst).Pairwise (·<·) then (VY (ls.getD i L0) (ls.getD i L0).par 2147483648 0 ls).bind λr=>if (ls.getD i L0).par.length=0 then some r.1 else if r.2.1=(ls.getD i L0).ex then some (r.1.set i { r.1.getD i L0 with got:=r.2.2 }) else none
 else none
def VX:Nat->Nat->List L->Option (List L)
 |0,_,ls=>some ls
 |k+1,i,ls=>(VZ ls i).bind λls'=>VX k (i+1) ls'
def LR(h:∀n∈s.1,n<B)(a:0<B)(l:s.1.length<=N):(∀n∈(Xg s).2.1,n<B)/\(Xg s).2.1.length<=N/\(Xg s).1<B/\(Xf s).1.length<=N/\∀p∈(Xf s).1,p.1<B/\p.2<B:=by
 obtain⟨d,e⟩:=Fz h a l 8;obtain⟨c1,c2,c3⟩:=iA d a e;obtain⟨f,g⟩:=rX c2 a c3 (Xl (Xh s 8)).1;have hF:(∀n∈(Xf s).2.1,n<B)/\(Xf s).2.1.length<=N:=⟨f,g⟩
 have m:∀k,∀p∈(Xk (Xl (Xh s 8)).2 k).1,p.1<B/\p.2<B:=λk=>by
  induction k with
  |zero=>intro p b;cases b
  |succ k ih=>
   intro p b;obtain⟨i,q⟩:=rX c2 a c3 k;have c:=zY i a;have j:=zY c.2 a;rcases xx.1 b with b|b
   ·exact ih p b
   simp only[XN]at b;subst b;exact⟨c.1,j.1⟩
 refine⟨?_,?_,?_,by unfold Xf kF;rw[mA];exact c1,m _⟩
 ·unfold Xg;split
  ·exact(zY hF.1 a).2
  exact hF.1
 ·unfold Xg;split
  ·exact xj (ZZ _) hF.2
  exact hF.2
 unfold Xg;split
 ·exact(zY hF.1 a).1
 exact a
def Ec(h:∀n∈s.1,n<B)(c:0<B)(d:s.1.length<=N)(k:Nat):(∀n∈(fD s k).2.1,n<B)/\(fD s k).2.1.length<=N:=by
 induction k with
 |zero=>exact⟨h,d⟩
 |succ k ih=>
  rw[fD];generalize fD s k=q at ih ⊢;dsimp only;obtain⟨a,b,_⟩:=LR ih.1 c ih.2;exact⟨a,b⟩
def TM(h:∀n∈s.1,n<B)(a:0<B)(d:s.1.length<=N):(∀n∈(Xj s).2.1,n<B)/\(Xj s).2.1.length<=N:=by
 have b:=zY h a;have c:=zY b.2 a;have e:=ZZ s;have f:=ZZ (Xe s).2;obtain⟨c1,c2,c3⟩:=iA c.2 a (show(Xe (Xe s).2).2.1.length<=N by omega);exact rX c2 a c3 _
def yI{s:List Nat×Bool}{B N:Nat}(h:∀n∈s.1,n<B)(a:0<B)(b:s.1.length<=N):∀k,(∀n∈(gS s k).2.1,n<B)/\(gS s k).2.1.length<=N
 |0=>⟨h,b⟩
 |k+1=>by
  obtain⟨c,d⟩:=yI h a b k;exact TM c a d
def Uv(w:World)(p:Addr)(v:Value):(w.setCell p v).os=w.os:=rfl
def Rz(w:World)(p:Addr)(v:Value):(w.setCell p v).tape=w.tape:=rfl
def Tw(w:World)(p:Addr)(v:Value):(w.setCell p v).output=w.output:=rfl
def BT(x:World)(b:Nat)(t:TypeId)(q r s u v w y z A B p:Value)(h:x.heap[b]?=some (.cells #[q,r,s,u,v,w,y,z,A,B,p] t (0,0)))(c d e f g i j l m n a:Value):∃W,W=(((((((((((x.setCell ⟨b,0,none⟩ c).setCell ⟨b,1,none⟩ d).setCell ⟨b,2,none⟩ e).setCell ⟨b,3,none⟩ f).setCell ⟨b,4,none⟩ g).setCell ⟨b,5,none⟩ i).setCell ⟨b,6,none⟩ j).setCell ⟨b,7,none⟩ l).setCell ⟨b,8,none⟩ m).setCell ⟨b,9,none⟩ n).setCell ⟨b,10,none⟩ a)/\W.heap[b]?=some (.cells #[c,d,e,f,g,i,j,l,m,n,a] t (0,0))/\(∀k,k≠b->W.heap[k]?=x.heap[k]?)/\W.heap.size=x.heap.size/\W.os=x.os/\W.tape=x.tape/\W.output=x.output :=
 ⟨_,rfl,Uw x b t q r s u v w y z A B p h c d e f g i j l m n a,λk C=>Oq x b c d e f g i j l m n a k C,Hg x b c d e f g i j l m n a,by simp only[Uv],by simp only[Rz],by simp only[Tw]⟩
def ON(h:Tk D w t s)(hn:∀n∈s.1,n<9223372036854775808)(hl:s.1.length<=4194304):Calls prog 140 #[.pointer (some ⟨t,0,none⟩)] w λe w'=>Kp (λk=>k=t) w w'/\Tk D w' t (Xg s).2/\∃fv,e=.returned (.agg (zo (Xi s) fv).toArray)/\w'.ownsRow w.heap.size 181 2 fv (Xf s).1.length (zl (Xf s).1):=by
 have F:=zb (Fz hn (show 0<9223372036854775808 by omega) hl);have G:Ha (∀(k:Nat) (w2:World),Tk D w2 t (Xh s k)->Calls prog 138 #[.pointer (some ⟨t,0,none⟩)] w2 λe w'=>e=.returned (.int .i64 (Xm s k:Int))/\Kp (λk=>k=t) w2 w'/\w'.heap.size=w2.heap.size/\Tk D w' t (Xh s (k+1))):=λk w2 h2=>cV h2 (F.o k).1 (F.o k).2
 have j8:Ha (∀(w2:World),Tk D w2 t (Xh s 8)->Calls prog 141 #[.pointer (some ⟨t,0,none⟩)] w2 λe w'=>Kp (λk=>k=t) w2 w'/\Tk D w' t (Xf s).2/\∃v,e=.returned v/\w'.ownsRow w2.heap.size 181 2 v (Xf s).1.length (zl (Xf s).1)):=λw2 h2=>mD h2 (F.o 8).1 (F.o 8).2
 have H0:Ha (Tk D w t (Xh s 0)):=h;have k5:=h.lt;have j9:D<w.heap.size:=by obtain⟨a,cap,_,_,h3,_⟩:=h;exact h3.2
 clear h hn;have d9:Ha (Below w.heap.size w (w.alloc (.cells #[.int .i64 0,.int .i64 0,.int .i64 0,.int .i64 0,.int .i64 0,.int .i64 0,.int .i64 0,.int .i64 0,.int .i64 0,.int .i64 0,.slice none 0 0] 129))):=VE w _;have H1:=zb (H0.o.below d9.o);go_enter func140,ntmps140;go_wp2_with fail;refine(G.o 0 _ H1.o).mono ?_
 rintro e w1 ⟨rfl,h0,k4,j4⟩;have d0:Ha (Kp (λk=>k=t) w w1):=Kp.before d9.o (h0.mono (λ_ h=>Or.inl h));have E:Ha (Lq D t w (w1.alloc (.cells #[.int .i64 (Xm s 0:Int),.int .i64 0,.int .i64 0,.int .i64 0,.int .i64 0,.int .i64 0,.int .i64 0,.int .i64 0,.int .i64 0,.int .i64 0,.slice none 0 0] 129)) w1.heap.size (Xh s 1) #[.int .i64 (Xm s 0:Int),.int .i64 0,.int .i64 0,.int .i64 0,.int .i64 0,.int .i64 0,.int .i64 0,.int .i64 0,.int .i64 0,.int .i64 0,.slice none 0 0]):=⟨d0.o.alN _,j4.below (VE w1 _),xp w1 _,d0.o.size,k5,j9⟩
 have b1:w1.heap[w.heap.size]?=some (.cells #[.int .i64 0,.int .i64 0,.int .i64 0,.int .i64 0,.int .i64 0,.int .i64 0,.int .i64 0,.int .i64 0,.int .i64 0,.int .i64 0,.slice none 0 0] 129 (0,0)):=(h0.block w.heap.size (by simp) (by omega)).trans (xp w _);have a5:Ha ((w1.alloc (.cells #[.int .i64 (Xm s 0:Int),.int .i64 0,.int .i64 0,.int .i64 0,.int .i64 0,.int .i64 0,.int .i64 0,.int .i64 0,.int .i64 0,.int .i64 0,.slice none 0 0] 129)).heap[w.heap.size]?=some (.cells #[.int .i64 0,.int .i64 0,.int .i64 0,.int .i64 0,.int .i64 0,.int .i64 0,.int .i64 0,.int .i64 0,.int .i64 0,.int .i64 0,.slice none 0 0] 129 (0,0))):=(yl _ _ _ (zc b1)).trans b1;have r:Ha (w.heap.size≠w1.heap.size):=by have:=zc b1;unfold Ha;omega
 clear h0 k4 j4 d0 H1 d9 H0 b1;go_wp2_with fail;obtain⟨lb,h5⟩:=Ww w1.heap.size;rw[<-h5.o]at E r ⊢;obtain⟨x1,h9⟩:∃x1,Ha (x1=(w1.alloc (.cells #[.int .i64 (Xm s 0:Int),.int .i64 0,.int .i64 0,.int .i64 0,.int .i64 0,.int .i64 0,.int .i64 0,.int .i64 0,.int .i64 0,.int .i64 0,.slice none 0 0] 129))):=⟨_,rfl⟩
 rw[<-h9.o]at E a5 ⊢;clear h5 h9;refine(G.o 1 _ E.o.tk).mono ?_
 rintro e y1 ⟨rfl,j,hs,q⟩;have R:=zb (E.o.take j q);have d2:Ha (y1.heap[w.heap.size]?=x1.heap[w.heap.size]?):=j.block w.heap.size (zc a5.o) (by show ¬w.heap.size=t;omega);have J:Ha (Lq D t w (y1.setCell ⟨lb,1,none⟩ (.int .i64 (Xm s 1:Int))) lb (Xh s 2) #[.int .i64 (Xm s 0:Int),.int .i64 (Xm s 1:Int),.int .i64 0,.int .i64 0,.int .i64 0,.int .i64 0,.int .i64 0,.int .i64 0,.int .i64 0,.int .i64 0,.slice none 0 0]):=R.o.set 1 _;have a6:Ha ((y1.setCell ⟨lb,1,none⟩ (.int .i64 (Xm s 1:Int))).heap[w.heap.size]?=some (.cells #[.int .i64 0,.int .i64 0,.int .i64 0,.int .i64 0,.int .i64 0,.int .i64 0,.int .i64 0,.int .i64 0,.int .i64 0,.int .i64 0,.slice none 0 0] 129 (0,0))):=(xd _ _ _ _ r.o).trans (d2.o.trans a5.o);have c1:y1.cell? ⟨lb,1,none⟩=some (.int .i64 0):=by rw[za R.o.box];rfl
 have f1:=ze R.o.box 1;clear j hs q R d2 E a5;go_wp2_with fail;obtain⟨x2,i0⟩:∃x,Ha (x=y1.setCell ⟨lb,1,none⟩ (.int .i64 (Xm s 1:Int))):=⟨_,rfl⟩
 rw[<-i0.o]at J a6 ⊢;clear i0 c1 f1;refine(G.o 2 _ J.o.tk).mono ?_
 rintro e y2 ⟨rfl,j,hs,q⟩;have S:=zb (J.o.take j q);have d3:Ha (y2.heap[w.heap.size]?=x2.heap[w.heap.size]?):=j.block w.heap.size (zc a6.o) (by show ¬w.heap.size=t;omega);have K:Ha (Lq D t w (y2.setCell ⟨lb,2,none⟩ (.int .i64 (Xm s 2:Int))) lb (Xh s 3) #[.int .i64 (Xm s 0:Int),.int .i64 (Xm s 1:Int),.int .i64 (Xm s 2:Int),.int .i64 0,.int .i64 0,.int .i64 0,.int .i64 0,.int .i64 0,.int .i64 0,.int .i64 0,.slice none 0 0]):=S.o.set 2 _;have a7:Ha ((y2.setCell ⟨lb,2,none⟩ (.int .i64 (Xm s 2:Int))).heap[w.heap.size]?=some (.cells #[.int .i64 0,.int .i64 0,.int .i64 0,.int .i64 0,.int .i64 0,.int .i64 0,.int .i64 0,.int .i64 0,.int .i64 0,.int .i64 0,.slice none 0 0] 129 (0,0))):=(xd _ _ _ _ r.o).trans (d3.o.trans a6.o);have c2:y2.cell? ⟨lb,2,none⟩=some (.int .i64 0):=by rw[za S.o.box];rfl
 have f2:=ze S.o.box 2;clear j hs q S d3 J a6;go_wp2_with fail;obtain⟨x3,i1⟩:∃x,Ha (x=y2.setCell ⟨lb,2,none⟩ (.int .i64 (Xm s 2:Int))):=⟨_,rfl⟩
 rw[<-i1.o]at K a7 ⊢;clear i1 c2 f2;refine(G.o 3 _ K.o.tk).mono ?_
 rintro e y3 ⟨rfl,j,hs,q⟩;have T:=zb (K.o.take j q);have d4:Ha (y3.heap[w.heap.size]?=x3.heap[w.heap.size]?):=j.block w.heap.size (zc a7.o) (by show ¬w.heap.size=t;omega);have M:Ha (Lq D t w (y3.setCell ⟨lb,3,none⟩ (.int .i64 (Xm s 3:Int))) lb (Xh s 4) #[.int .i64 (Xm s 0:Int),.int .i64 (Xm s 1:Int),.int .i64 (Xm s 2:Int),.int .i64 (Xm s 3:Int),.int .i64 0,.int .i64 0,.int .i64 0,.int .i64 0,.int .i64 0,.int .i64 0,.slice none 0 0]):=T.o.set 3 _;have a8:Ha ((y3.setCell ⟨lb,3,none⟩ (.int .i64 (Xm s 3:Int))).heap[w.heap.size]?=some (.cells #[.int .i64 0,.int .i64 0,.int .i64 0,.int .i64 0,.int .i64 0,.int .i64 0,.int .i64 0,.int .i64 0,.int .i64 0,.int .i64 0,.slice none 0 0] 129 (0,0))):=(xd _ _ _ _ r.o).trans (d4.o.trans a7.o);have c3:y3.cell? ⟨lb,3,none⟩=some (.int .i64 0):=by rw[za T.o.box];rfl
 have f3:=ze T.o.box 3;clear j hs q T d4 K a7;go_wp2_with fail;obtain⟨x4,i2⟩:∃x,Ha (x=y3.setCell ⟨lb,3,none⟩ (.int .i64 (Xm s 3:Int))):=⟨_,rfl⟩
 rw[<-i2.o]at M a8 ⊢;clear i2 c3 f3;refine(G.o 4 _ M.o.tk).mono ?_
 rintro e y4 ⟨rfl,j,hs,q⟩;have X:=zb (M.o.take j q);have d5:Ha (y4.heap[w.heap.size]?=x4.heap[w.heap.size]?):=j.block w.heap.size (zc a8.o) (by show ¬w.heap.size=t;omega);have N:Ha (Lq D t w (y4.setCell ⟨lb,5,none⟩ (.int .i64 (Xm s 4:Int))) lb (Xh s 5) #[.int .i64 (Xm s 0:Int),.int .i64 (Xm s 1:Int),.int .i64 (Xm s 2:Int),.int .i64 (Xm s 3:Int),.int .i64 0,.int .i64 (Xm s 4:Int),.int .i64 0,.int .i64 0,.int .i64 0,.int .i64 0,.slice none 0 0]):=X.o.set 5 _;have a9:Ha ((y4.setCell ⟨lb,5,none⟩ (.int .i64 (Xm s 4:Int))).heap[w.heap.size]?=some (.cells #[.int .i64 0,.int .i64 0,.int .i64 0,.int .i64 0,.int .i64 0,.int .i64 0,.int .i64 0,.int .i64 0,.int .i64 0,.int .i64 0,.slice none 0 0] 129 (0,0))):=(xd _ _ _ _ r.o).trans (d5.o.trans a8.o);have c4:y4.cell? ⟨lb,5,none⟩=some (.int .i64 0):=by rw[za X.o.box];rfl
 have f4:=ze X.o.box 5;clear j hs q X d5 M a8;go_wp2_with fail;obtain⟨x5,i3⟩:∃x,Ha (x=y4.setCell ⟨lb,5,none⟩ (.int .i64 (Xm s 4:Int))):=⟨_,rfl⟩
 rw[<-i3.o]at N a9 ⊢;clear i3 c4 f4;refine(G.o 5 _ N.o.tk).mono ?_
 rintro e y5 ⟨rfl,j,hs,q⟩;have Z:=zb (N.o.take j q);have d6:Ha (y5.heap[w.heap.size]?=x5.heap[w.heap.size]?):=j.block w.heap.size (zc a9.o) (by show ¬w.heap.size=t;omega);have P:Ha (Lq D t w (y5.setCell ⟨lb,6,none⟩ (.int .i64 (Xm s 5:Int))) lb (Xh s 6) #[.int .i64 (Xm s 0:Int),.int .i64 (Xm s 1:Int),.int .i64 (Xm s 2:Int),.int .i64 (Xm s 3:Int),.int .i64 0,.int .i64 (Xm s 4:Int),.int .i64 (Xm s 5:Int),.int .i64 0,.int .i64 0,.int .i64 0,.slice none 0 0]):=Z.o.set 6 _;have b0:Ha ((y5.setCell ⟨lb,6,none⟩ (.int .i64 (Xm s 5:Int))).heap[w.heap.size]?=some (.cells #[.int .i64 0,.int .i64 0,.int .i64 0,.int .i64 0,.int .i64 0,.int .i64 0,.int .i64 0,.int .i64 0,.int .i64 0,.int .i64 0,.slice none 0 0] 129 (0,0))):=(xd _ _ _ _ r.o).trans (d6.o.trans a9.o);have c5:y5.cell? ⟨lb,6,none⟩=some (.int .i64 0):=by rw[za Z.o.box];rfl
 have f5:=ze Z.o.box 6;clear j hs q Z d6 N a9;go_wp2_with fail;obtain⟨x6,i4⟩:∃x,Ha (x=y5.setCell ⟨lb,6,none⟩ (.int .i64 (Xm s 5:Int))):=⟨_,rfl⟩
 rw[<-i4.o]at P b0 ⊢;clear i4 c5 f5;refine(G.o 6 _ P.o.tk).mono ?_
 rintro e y6 ⟨rfl,j,hs,q⟩;have a0:=zb (P.o.take j q);have d7:Ha (y6.heap[w.heap.size]?=x6.heap[w.heap.size]?):=j.block w.heap.size (zc b0.o) (by show ¬w.heap.size=t;omega);have Q:Ha (Lq D t w (y6.setCell ⟨lb,7,none⟩ (.int .i64 (Xm s 6:Int))) lb (Xh s 7) #[.int .i64 (Xm s 0:Int),.int .i64 (Xm s 1:Int),.int .i64 (Xm s 2:Int),.int .i64 (Xm s 3:Int),.int .i64 0,.int .i64 (Xm s 4:Int),.int .i64 (Xm s 5:Int),.int .i64 (Xm s 6:Int),.int .i64 0,.int .i64 0,.slice none 0 0]):=a0.o.set 7 _;have b7:Ha ((y6.setCell ⟨lb,7,none⟩ (.int .i64 (Xm s 6:Int))).heap[w.heap.size]?=some (.cells #[.int .i64 0,.int .i64 0,.int .i64 0,.int .i64 0,.int .i64 0,.int .i64 0,.int .i64 0,.int .i64 0,.int .i64 0,.int .i64 0,.slice none 0 0] 129 (0,0))):=(xd _ _ _ _ r.o).trans (d7.o.trans b0.o);have c6:y6.cell? ⟨lb,7,none⟩=some (.int .i64 0):=by rw[za a0.o.box];rfl
 have f6:=ze a0.o.box 7;clear j hs q a0 d7 P b0;go_wp2_with fail;obtain⟨x7,i5⟩:∃x,Ha (x=y6.setCell ⟨lb,7,none⟩ (.int .i64 (Xm s 6:Int))):=⟨_,rfl⟩
 rw[<-i5.o]at Q b7 ⊢;clear i5 c6 f6;refine(G.o 7 _ Q.o.tk).mono ?_
 rintro e y7 ⟨rfl,j,hs,q⟩;have a4:=zb (Q.o.take j q);have d8:Ha (y7.heap[w.heap.size]?=x7.heap[w.heap.size]?):=j.block w.heap.size (zc b7.o) (by show ¬w.heap.size=t;omega);have y:Ha (Lq D t w (y7.setCell ⟨lb,8,none⟩ (.int .i64 (Xm s 7:Int))) lb (Xh s 8) #[.int .i64 (Xm s 0:Int),.int .i64 (Xm s 1:Int),.int .i64 (Xm s 2:Int),.int .i64 (Xm s 3:Int),.int .i64 0,.int .i64 (Xm s 4:Int),.int .i64 (Xm s 5:Int),.int .i64 (Xm s 6:Int),.int .i64 (Xm s 7:Int),.int .i64 0,.slice none 0 0]):=a4.o.set 8 _;have b:Ha ((y7.setCell ⟨lb,8,none⟩ (.int .i64 (Xm s 7:Int))).heap[w.heap.size]?=some (.cells #[.int .i64 0,.int .i64 0,.int .i64 0,.int .i64 0,.int .i64 0,.int .i64 0,.int .i64 0,.int .i64 0,.int .i64 0,.int .i64 0,.slice none 0 0] 129 (0,0))):=(xd _ _ _ _ r.o).trans (d8.o.trans b7.o);have c7:y7.cell? ⟨lb,8,none⟩=some (.int .i64 0):=by rw[za a4.o.box];rfl
 have f7:=ze a4.o.box 8;clear j hs q a4 d8 Q b7;go_wp2_with fail;obtain⟨x8,i6⟩:∃x,Ha (x=y7.setCell ⟨lb,8,none⟩ (.int .i64 (Xm s 7:Int))):=⟨_,rfl⟩
 rw[<-i6.o]at y b ⊢;clear i6 c7 f7;refine(j8.o _ y.o.tk).mono ?_
 rintro e l ⟨j,q,fv,rfl,b9⟩;have i:=zb (y.o.take j q);have c:Ha (l.heap[w.heap.size]?=x8.heap[w.heap.size]?):=j.block w.heap.size (zc b.o) (by show ¬w.heap.size=t;omega);obtain⟨fa,fc,k0⟩:=zj b9;have k6:w.heap.size<=x8.heap.size:=y.o.kp.size;have j1:lb<x8.heap.size:=zc y.o.box;have j2:w.heap.size<x8.heap.size:=zc b.o;have h6:Ha (∀(f:Nat) (u:Value),(l.setCell ⟨lb,f,none⟩ u).ownsRow w.heap.size 181 2 fv (Xf s).1.length (zl (Xf s).1)):=λf u=>zF (zd b9 (λg hg=>xd _ _ _ _ (by have:=(b9.lt g hg).1;show g≠lb;omega))) k6
 subst k0;generalize j0:(Xf s).1.length=kk at *;have c9:=zb j0;have A:Ha (Lq D t w (l.setCell ⟨lb,10,none⟩ (.slice fa kk fc)) lb (Xf s).2 #[.int .i64 (Xm s 0:Int),.int .i64 (Xm s 1:Int),.int .i64 (Xm s 2:Int),.int .i64 (Xm s 3:Int),.int .i64 0,.int .i64 (Xm s 4:Int),.int .i64 (Xm s 5:Int),.int .i64 (Xm s 6:Int),.int .i64 (Xm s 7:Int),.int .i64 0,.slice fa kk fc]):=i.o.set 10 _;have B:Ha ((l.setCell ⟨lb,10,none⟩ (.slice fa kk fc)).heap[w.heap.size]?=some (.cells #[.int .i64 0,.int .i64 0,.int .i64 0,.int .i64 0,.int .i64 0,.int .i64 0,.int .i64 0,.int .i64 0,.int .i64 0,.int .i64 0,.slice none 0 0] 129 (0,0))):=(xd _ _ _ _ r.o).trans (c.o.trans b.o);have p:=zb (h6.o 10 (.slice fa kk fc));have c8:l.cell? ⟨lb,10,none⟩=some (.slice none 0 0):=by rw[za i.o.box];rfl
 have f8:=ze i.o.box 10;have e0:l.cell? ⟨lb,0,none⟩=some (.int .i64 (Xm s 0:Int)):=by rw[za i.o.box];rfl
 have e1:l.cell? ⟨lb,1,none⟩=some (.int .i64 (Xm s 1:Int)):=by rw[za i.o.box];rfl
 have e2:l.cell? ⟨lb,2,none⟩=some (.int .i64 (Xm s 2:Int)):=by rw[za i.o.box];rfl
 have e3:l.cell? ⟨lb,3,none⟩=some (.int .i64 (Xm s 3:Int)):=by rw[za i.o.box];rfl
 have e4:l.cell? ⟨lb,4,none⟩=some (.int .i64 0):=by rw[za i.o.box];rfl
 have e5:l.cell? ⟨lb,5,none⟩=some (.int .i64 (Xm s 4:Int)):=by rw[za i.o.box];rfl
 have e6:l.cell? ⟨lb,6,none⟩=some (.int .i64 (Xm s 5:Int)):=by rw[za i.o.box];rfl
 have e7:l.cell? ⟨lb,7,none⟩=some (.int .i64 (Xm s 6:Int)):=by rw[za i.o.box];rfl
 have e8:l.cell? ⟨lb,8,none⟩=some (.int .i64 (Xm s 7:Int)):=by rw[za i.o.box];rfl
 have e9:l.cell? ⟨lb,9,none⟩=some (.int .i64 0):=by rw[za i.o.box];rfl
 have r0:l.cell? ⟨w.heap.size,0,none⟩=some (.int .i64 0):=by rw[za (c.o.trans b.o)];rfl
 have r1:l.cell? ⟨w.heap.size,1,none⟩=some (.int .i64 0):=by rw[za (c.o.trans b.o)];rfl
 have r2:l.cell? ⟨w.heap.size,2,none⟩=some (.int .i64 0):=by rw[za (c.o.trans b.o)];rfl
 have r3:l.cell? ⟨w.heap.size,3,none⟩=some (.int .i64 0):=by rw[za (c.o.trans b.o)];rfl
 have r4:l.cell? ⟨w.heap.size,4,none⟩=some (.int .i64 0):=by rw[za (c.o.trans b.o)];rfl
 have r5:l.cell? ⟨w.heap.size,5,none⟩=some (.int .i64 0):=by rw[za (c.o.trans b.o)];rfl
 have r6:l.cell? ⟨w.heap.size,6,none⟩=some (.int .i64 0):=by rw[za (c.o.trans b.o)];rfl
 have r7:l.cell? ⟨w.heap.size,7,none⟩=some (.int .i64 0):=by rw[za (c.o.trans b.o)];rfl
 have r8:l.cell? ⟨w.heap.size,8,none⟩=some (.int .i64 0):=by rw[za (c.o.trans b.o)];rfl
 have r9:l.cell? ⟨w.heap.size,9,none⟩=some (.int .i64 0):=by rw[za (c.o.trans b.o)];rfl
 have j6:l.cell? ⟨w.heap.size,10,none⟩=some (.slice none 0 0):=by rw[za (c.o.trans b.o)];rfl
 have g0:=ze (c.o.trans b.o) 0;have g1:=ze (c.o.trans b.o) 1;have g2:=ze (c.o.trans b.o) 2;have g3:=ze (c.o.trans b.o) 3;have g4:=ze (c.o.trans b.o) 4;have g5:=ze (c.o.trans b.o) 5;have g6:=ze (c.o.trans b.o) 6;have g7:=ze (c.o.trans b.o) 7;have g8:=ze (c.o.trans b.o) 8;have g9:=ze (c.o.trans b.o) 9;have i8:=ze (c.o.trans b.o) 10;have k3:=r.o;have h1:Ha ((Xf s).1.length<=4194304):=by
  unfold Ha Xf kF;rw[mA];exact(iA (F.o 8).1 (show 0<9223372036854775808 by omega) (F.o 8).2).1
 have k8:kk<=4194304:=by rw[<-c9.o];exact h1.o
 clear j q b9 i c y b j0 h6 h1 j1 j2;by_cases i9:kk=0
 ·subst i9;have f0:Ha ((∀n∈(Xf s).2.1,n<9223372036854775808)/\(Xf s).2.1.length<=4194304):=by
   unfold Ha Xf kF;obtain⟨a1,a2,a3⟩:=iA (F.o 8).1 (show 0<9223372036854775808 by omega) (F.o 8).2;exact rX a2 (by omega) a3 _
  have d1:=zb (cV A.o.tk f0.o.1 f0.o.2);have HG:Ha (Xg s=Xe (Xf s).2):=by unfold Ha Xg;rw[c9.o,xh rfl]
  obtain⟨gt,sg,h4⟩:∃gt sg,Ha (Xe (Xf s).2=(gt,sg)):=⟨_,_,rfl⟩
  rw[h4.o]at d1 HG;have f9:Ha (Xi s=⟨Xm s 0,Xm s 1,Xm s 2,Xm s 3,gt,Xm s 4,Xm s 5,Xm s 6,Xm s 7,0,(Xf s).1⟩):=by unfold Ha Xi;rw[HG.o]
  clear f0 h4 e0 e1 e2 e3 e4 e5 e6 e7 e8 e9 r0 r1 r2 r3 r4 r5 r6 r7 r8 r9 j6 g0 g1 g2 g3 g4 g5 g6 g7 g8 g9 i8;go_wp2_with fail;obtain⟨y9,i7⟩:=Ww (l.setCell ⟨lb,10,none⟩ (.slice fa 0 fc));rw[<-i7.o]at d1 A B p ⊢;clear i7 c8 f8;refine(d1.o).mono ?_
  rintro e z ⟨rfl,b8,j3,j5⟩;have m:=zb (A.o.take b8 j5);have d:Ha (z.heap[w.heap.size]?=some (.cells #[.int .i64 0,.int .i64 0,.int .i64 0,.int .i64 0,.int .i64 0,.int .i64 0,.int .i64 0,.int .i64 0,.int .i64 0,.int .i64 0,.slice none 0 0] 129 (0,0))):=(b8.block w.heap.size (zc B.o) (by show ¬w.heap.size=t;omega)).trans B.o;have j7:Ha (Lq D t w (z.setCell ⟨lb,4,none⟩ (.int .i64 gt)) lb sg #[.int .i64 (Xm s 0:Int),.int .i64 (Xm s 1:Int),.int .i64 (Xm s 2:Int),.int .i64 (Xm s 3:Int),.int .i64 gt,.int .i64 (Xm s 4:Int),.int .i64 (Xm s 5:Int),.int .i64 (Xm s 6:Int),.int .i64 (Xm s 7:Int),.int .i64 0,.slice fa 0 fc]):=m.o.set 4 _;have h8:Ha ((z.setCell ⟨lb,4,none⟩ (.int .i64 gt)).heap[w.heap.size]?=some (.cells #[.int .i64 0,.int .i64 0,.int .i64 0,.int .i64 0,.int .i64 0,.int .i64 0,.int .i64 0,.int .i64 0,.int .i64 0,.int .i64 0,.slice none 0 0] 129 (0,0))):=(xd _ _ _ _ k3).trans d.o;have h7:Ha ((z.setCell ⟨lb,4,none⟩ (.int .i64 gt)).ownsRow w.heap.size 181 2 (.slice fa 0 fc) 0 (zl (Xf s).1)):=zd p.o (λg hg=>by
   have k2:=p.o.lt g hg;have k1:g≠lb:=λe=>by
    obtain⟨cs,H⟩:=zh p.o hg;rw[e,A.o.box]at H;simp at H
   exact(xd _ _ _ _ k1).trans (b8.block g k2.2 (by show ¬g=t;omega)))
  have f4:=ze m.o.box 4;have e0:z.cell? ⟨lb,0,none⟩=some (.int .i64 (Xm s 0:Int)):=by rw[za m.o.box];rfl
  have e1:z.cell? ⟨lb,1,none⟩=some (.int .i64 (Xm s 1:Int)):=by rw[za m.o.box];rfl
  have e2:z.cell? ⟨lb,2,none⟩=some (.int .i64 (Xm s 2:Int)):=by rw[za m.o.box];rfl
  have e3:z.cell? ⟨lb,3,none⟩=some (.int .i64 (Xm s 3:Int)):=by rw[za m.o.box];rfl
  have e4:z.cell? ⟨lb,4,none⟩=some (.int .i64 0):=by rw[za m.o.box];rfl
  have e5:z.cell? ⟨lb,5,none⟩=some (.int .i64 (Xm s 4:Int)):=by rw[za m.o.box];rfl
  have e6:z.cell? ⟨lb,6,none⟩=some (.int .i64 (Xm s 5:Int)):=by rw[za m.o.box];rfl
  have e7:z.cell? ⟨lb,7,none⟩=some (.int .i64 (Xm s 6:Int)):=by rw[za m.o.box];rfl
  have e8:z.cell? ⟨lb,8,none⟩=some (.int .i64 (Xm s 7:Int)):=by rw[za m.o.box];rfl
  have e9:z.cell? ⟨lb,9,none⟩=some (.int .i64 0):=by rw[za m.o.box];rfl
  have k7:z.cell? ⟨lb,10,none⟩=some (.slice fa 0 fc):=by rw[za m.o.box];rfl
  have r0:z.cell? ⟨w.heap.size,0,none⟩=some (.int .i64 0):=by rw[za d.o];rfl
  have g0:=ze d.o 0;have r1:z.cell? ⟨w.heap.size,1,none⟩=some (.int .i64 0):=by rw[za d.o];rfl
  have g1:=ze d.o 1;have r2:z.cell? ⟨w.heap.size,2,none⟩=some (.int .i64 0):=by rw[za d.o];rfl
  have g2:=ze d.o 2;have r3:z.cell? ⟨w.heap.size,3,none⟩=some (.int .i64 0):=by rw[za d.o];rfl
  have g3:=ze d.o 3;have r4:z.cell? ⟨w.heap.size,4,none⟩=some (.int .i64 0):=by rw[za d.o];rfl
  have g4:=ze d.o 4;have r5:z.cell? ⟨w.heap.size,5,none⟩=some (.int .i64 0):=by rw[za d.o];rfl
  have g5:=ze d.o 5;have r6:z.cell? ⟨w.heap.size,6,none⟩=some (.int .i64 0):=by rw[za d.o];rfl
  have g6:=ze d.o 6;have r7:z.cell? ⟨w.heap.size,7,none⟩=some (.int .i64 0):=by rw[za d.o];rfl
  have g7:=ze d.o 7;have r8:z.cell? ⟨w.heap.size,8,none⟩=some (.int .i64 0):=by rw[za d.o];rfl
  have g8:=ze d.o 8;have r9:z.cell? ⟨w.heap.size,9,none⟩=some (.int .i64 0):=by rw[za d.o];rfl
  have g9:=ze d.o 9;have j6:z.cell? ⟨w.heap.size,10,none⟩=some (.slice none 0 0):=by rw[za d.o];rfl
  have i8:=ze d.o 10;clear b8 j3 j5 A B p d1;go_wp2_with fail;obtain⟨W,hW,b1,b2,b3,b4,b5,b6⟩:=BT (z.setCell ⟨lb,4,none⟩ (.int .i64 gt)) w.heap.size 129 _ _ _ _ _ _ _ _ _ _ _ h8.o (.int .i64 (Xm s 0:Int)) (.int .i64 (Xm s 1:Int)) (.int .i64 (Xm s 2:Int)) (.int .i64 (Xm s 3:Int)) (.int .i64 gt) (.int .i64 (Xm s 4:Int)) (.int .i64 (Xm s 5:Int)) (.int .i64 (Xm s 6:Int)) (.int .i64 (Xm s 7:Int)) (.int .i64 0) (.slice fa 0 fc);rw[<-hW];clear hW;refine bodyPost_ret (results_cell_row rfl _ _ w.heap.size 129 _ (0,0) _ rfl b1 Tryz.underlying129 rfl (by kernel_rfl)) rfl ?_
  have hq:=j7.o;have C:=zb b2;clear b1;refine⟨⟨b4.trans hq.kp.os,b5.trans hq.kp.tape,b6.trans hq.kp.output,by rw[b3];exact hq.kp.size,λk j hz=>(C.o k (by omega)).trans (hq.kp.block k j hz)⟩,?_,.slice fa 0 fc,?_,?_⟩
  ·rw[HG.o];exact hq.tk.congr (by rw[b3];exact xe _) (C.o t (by omega)) (C.o D (by omega))
  ·rw[f9.o];rfl
  rw[c9.o];refine zd h7.o (λg hg=>C.o g (λe=>?_));obtain⟨cs,H⟩:=zh h7.o hg;rw[e,h8.o]at H;simp at H
 have HG:Ha (Xg s=(0,(Xf s).2)):=by unfold Ha Xg;rw[c9.o,xg i9]
 have k9:((kk:Int)==0)=false:=by rw[xr];omega
 have f9:Ha (Xi s=⟨Xm s 0,Xm s 1,Xm s 2,Xm s 3,0,Xm s 4,Xm s 5,Xm s 6,Xm s 7,0,(Xf s).1⟩):=by unfold Ha Xi;rw[HG.o]
 go_wp2_with fail;obtain⟨W,hW,b1,b2,b3,b4,b5,b6⟩:=BT (l.setCell ⟨lb,10,none⟩ (.slice fa kk fc)) w.heap.size 129 _ _ _ _ _ _ _ _ _ _ _ B.o (.int .i64 (Xm s 0:Int)) (.int .i64 (Xm s 1:Int)) (.int .i64 (Xm s 2:Int)) (.int .i64 (Xm s 3:Int)) (.int .i64 0) (.int .i64 (Xm s 4:Int)) (.int .i64 (Xm s 5:Int)) (.int .i64 (Xm s 6:Int)) (.int .i64 (Xm s 7:Int)) (.int .i64 0) (.slice fa kk fc)
 rw[<-hW];clear hW;refine bodyPost_ret (results_cell_row rfl _ _ w.heap.size 129 _ (0,0) _ rfl b1 Tryz.underlying129 rfl (by kernel_rfl)) rfl ?_
 have hq:=A.o;have C:=zb b2;clear b1;refine⟨⟨b4.trans hq.kp.os,b5.trans hq.kp.tape,b6.trans hq.kp.output,by rw[b3];exact hq.kp.size,λk j hz=>(C.o k (by omega)).trans (hq.kp.block k j hz)⟩,?_,.slice fa kk fc,?_,?_⟩
 ·rw[HG.o];exact hq.tk.congr (by rw[b3];exact xe _) (C.o t (by omega)) (C.o D (by omega))
 ·rw[f9.o];rfl
 rw[c9.o];refine zd p.o (λg hg=>C.o g (λe=>?_));obtain⟨cs,H⟩:=zh p.o hg;rw[e,B.o]at H;simp at H
