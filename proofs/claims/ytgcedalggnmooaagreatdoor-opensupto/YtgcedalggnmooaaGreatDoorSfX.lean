import Derived.Test.YtgcedalggnmooaaGreatDoorSqX
set_option linter.all false
set_option maxRecDepth 100000
set_option maxHeartbeats 6400000
namespace Go.Proofs.YtgcedalggnmooaaGreatDoor
open Go.RowKit
def Tk(D:Nat)(w:World)(t:Nat)(s:List Nat×Bool):Prop:=∃a cap,w.heap[t]?=some (.cells #[.slice a s.1.length cap,.bool s.2] 218 (0,0))/\s.1.length<=cap/\(D≠t/\D<w.heap.size)/\(0<s.1.length->∃off,a=some ⟨D,off,none⟩/\∀j,j<s.1.length->w.cell? ⟨D,off+j,none⟩=some (.int .i64 (s.1.getD j 0:Int)))
variable {B D N t:Nat}{s:List Nat×Bool}{w w':World}
theorem Tk.lt(h:Tk D w t s):t<w.heap.size:=by obtain⟨a,cap,b,_⟩:=h;exact zc b
theorem Tk.congr(h:Tk D w t s)(p:w.heap.size<=w'.heap.size)(k:w'.heap[t]?=w.heap[t]?)(l:w'.heap[D]?=w.heap[D]?):Tk D w' t s:=by
 obtain⟨a,cap,d,e,c,f⟩:=h;refine⟨a,cap,k.trans d,e,⟨c.1,xn c.2 p⟩,λn=>?_⟩;obtain⟨b,g,i⟩:=f n;exact⟨b,g,λj m=>(xm (a:=⟨D,b+j,none⟩) l).trans (i j m)⟩
theorem Tk.below(h:Tk D w t s)(b:Below w.heap.size w w'):Tk D w' t s :=
 h.congr b.size (b.block t h.lt) (b.block D (by obtain⟨a,cap,_,_,c,_⟩:=h;exact c.2))
def Vf:List Nat×Bool->Nat×(List Nat×Bool)
 |([],_)=>(0,([],true))
 |(n::r,b)=>(n,(r,b))
theorem ZZ(s:List Nat×Bool):(Vf s).2.1.length<=s.1.length:=by
 obtain⟨l,b⟩:=s
 cases l with
 |nil=>exact xc _
 |cons n r=>show r.length<=r.length+1;omega
theorem Ze(h:∀n∈s.1,n<B)(a:0<B):(Vf s).1<B/\∀n∈(Vf s).2.1,n<B:=by
 obtain⟨l,b⟩:=s
 cases l with
 |nil=>exact⟨a,λn d=>by cases d⟩
 |cons n r=>exact⟨h n (by simp),λm c=>h m (Yx _ c)⟩
theorem cN(h:Tk D w t s)(v:∀n∈s.1,n<9223372036854775808)(B:s.1.length<=4194304):Calls Tryz.prog 138 #[.pointer (some ⟨t,0,none⟩)] w λe w'=>e=.returned (.int .i64 ((Vf s).1:Int))/\Kp (λk=>k=t) w w'/\w'.heap.size=w.heap.size/\Tk D w' t (Vf s).2:=by
 obtain⟨C,bad⟩:=s;obtain⟨a,cap,b,f,u,m⟩:=h;simp only at b f m v B;have c0:w.cell? ⟨t,0,none⟩=some (.slice a C.length cap):=by rw[za b];rfl
 have c1:w.cell? ⟨t,1,none⟩=some (.bool bad):=by rw[za b];rfl
 have K:=zf b 0;have M:=zf b 1;have l:=zb b;have HD:=zb u;have E:=zb m
 cases C with
 |nil=>
  clear b m u v;simp only[XB]at c0;go_enter Tryz.func138,Tryz.ntmps138;go_wp2_with fail;go_ret;refine⟨rfl,(Kp.refl (λk=>k=t) _).setCell (p:=⟨t,1,none⟩) (Or.inl rfl) _,by simp[World.setCell],a,cap,xp w t 1 _ 218 (.bool true) l.out,by simp[Vf],⟨HD.out.1,by simp[World.setCell];exact HD.out.2⟩,λq=>absurd q (by simp[Vf])⟩
 |cons n r=>
  obtain⟨c,F,g⟩:=m (by simp);subst F;have N:w.cell? ⟨D,c,none⟩=some (.int .i64 n):=g 0 (by simp);have y:=zb g;have H:=v n (by simp);simp only[List.length_cons]at c0 B f;have z:=u.1;clear b m g u v E;have d:Hid (∀(x:Addr) (i:Nat),r.length<=i->(0<r.length->x=⟨D,c+1,none⟩)->Kp (λk=>k=t) w (w.setCell ⟨t,0,none⟩ (.slice (some x) r.length i))/\(w.setCell ⟨t,0,none⟩ (.slice (some x) r.length i)).heap.size=w.heap.size/\Tk D (w.setCell ⟨t,0,none⟩ (.slice (some x) r.length i)) t (r,bad)):=λx i A J=>by
   refine⟨(Kp.refl (λk=>k=t) _).setCell (p:=⟨t,0,none⟩) (Or.inl rfl) _,by simp[World.setCell],some x,i,xp w t 0 _ 218 _ l.out,A,⟨HD.out.1,by simp[World.setCell];exact HD.out.2⟩,λq=>⟨c+1,by rw[J q],λj G=>?_⟩⟩;have:=y.out (j+1) (by simpa using G);rw[show c+(j+1)=c+1+j by omega]at this;refine(xm (a:=⟨D,c+1+j,none⟩) (xa _ _ _ _ z)).trans ?_
   simpa using this
  go_enter Tryz.func138,Tryz.ntmps138;go_wp2_with fail
  ·go_ret;exact⟨rfl,d.out _ _ (by omega) (λq=>by omega)⟩
  go_ret;exact⟨rfl,d.out _ _ (by omega) (λq=>rfl)⟩
def Vm(s:List Nat×Bool):Nat×(List Nat×Bool):=if (Vf s).2.1.length<(Vf s).1 then (0,((Vf s).2.1,true)) else Vf s
theorem Kp.tk{a:World}(h:Kp (λk=>k=t) w w')(k:Kp (λk=>k=t) w' a):Kp (λk=>k=t) w a :=
 h.trans (k.mono (λ_ b=>Or.inl b))
theorem Tk.bad(h:Tk D w t s):Tk D (w.setCell ⟨t,1,none⟩ (.bool true)) t (s.1,true):=by
 obtain⟨a,cap,d,e,c,f⟩:=h;refine⟨a,cap,xp w t 1 _ 218 (.bool true) d,e,⟨c.1,by simp[World.setCell];exact c.2⟩,λl=>?_⟩;obtain⟨b,g,i⟩:=f l;exact⟨b,g,λj k=>(xm (a:=⟨D,b+j,none⟩) (xa _ _ _ _ c.1)).trans (i j k)⟩
theorem xM(h:Tk D w t s)(u:∀n∈s.1,n<9223372036854775808)(y:s.1.length<=4194304):Calls Tryz.prog 139 #[.pointer (some ⟨t,0,none⟩)] w λe w'=>e=.returned (.int .i64 ((Vm s).1:Int))/\Kp (λk=>k=t) w w'/\w'.heap.size=w.heap.size/\Tk D w' t (Vm s).2:=by
 have l:=zb (cN h u y);have r:=(Ze u (by omega)).1;have m:=ZZ s;have v:Hid (Vm s=if (Vf s).2.1.length<(Vf s).1 then (0,((Vf s).2.1,true)) else Vf s):=rfl;rw[v.out];generalize Vf s=q at *;obtain⟨n,s'⟩:=q;simp only at l r m ⊢;clear h u v;by_cases x:s'.1.length<n
 ·rw[xd x];go_enter Tryz.func139,Tryz.ntmps139;go_wp2_with (go_at_call 138;refine(l.out).mono ?_;rintro e w1 ⟨rfl,i,c,d⟩;have j:=zb i;have f:=zb c;have g:=zb d;obtain⟨a,cap,b,-⟩:=d;have c0:w1.cell? ⟨t,0,none⟩=some (.slice a s'.1.length cap):=(by rw[za b];rfl);have c1:w1.cell? ⟨t,1,none⟩=some (.bool s'.2):=(by rw[za b];rfl);have z:=zf b 1;clear i c b);go_ret;exact⟨rfl,j.out.setCell (p:=⟨t,1,none⟩) (Or.inl rfl) _,by simp[World.setCell];exact f.out,g.out.bad⟩
 rw[xe x];go_enter Tryz.func139,Tryz.ntmps139;go_wp2_with (go_at_call 138;refine(l.out).mono ?_;rintro e w1 ⟨rfl,i,c,d⟩;have j:=zb i;have f:=zb c;have g:=zb d;obtain⟨a,cap,b,-⟩:=d;have c0:w1.cell? ⟨t,0,none⟩=some (.slice a s'.1.length cap):=(by rw[za b];rfl);clear i c b);go_ret;exact⟨rfl,j.out,f.out,g.out⟩
def Vl(s:List Nat×Bool):Nat->List (Nat×Nat)×(List Nat×Bool)
 |0=>([],s)
 |k+1=>((Vl s k).1++[((Vf (Vl s k).2).1,(Vf (Vf (Vl s k).2).2).1)],(Vf (Vf (Vl s k).2).2).2)
def jS(s:List Nat×Bool):List (Nat×Nat)×(List Nat×Bool):=Vl (Vm s).2 (Vm s).1
theorem lN(s:List Nat×Bool):∀k,(Vl s k).1.length=k
 |0=>rfl
 |k+1=>by rw[Vl,xb,lN s k];rfl
theorem rH{s:List Nat×Bool}{B N:Nat}(h:∀n∈s.1,n<B)(a:0<B)(b:s.1.length<=N):∀k,(∀n∈(Vl s k).2.1,n<B)/\(Vl s k).2.1.length<=N
 |0=>⟨h,b⟩
 |k+1=>by
  obtain⟨e,i⟩:=rH h a b k;have c:=Ze e a;have d:=Ze c.2 a;have f:=ZZ (Vl s k).2;have g:=ZZ (Vf (Vl s k).2).2;exact⟨d.2,by show(Vf (Vf (Vl s k).2).2).2.1.length<=N;omega⟩
theorem gT(h:∀n∈s.1,n<B)(b:0<B)(d:s.1.length<=N):(Vm s).1<=N/\(∀n∈(Vm s).2.1,n<B)/\(Vm s).2.1.length<=N:=by
 have a:=Ze h b;have c:=ZZ s;unfold Vm;split
 ·exact⟨by omega,a.2,by show(Vf s).2.1.length<=N;omega⟩
 exact⟨by omega,a.2,by omega⟩
theorem Kp.growN{Z:Nat->Prop}{w1 w2:World}{row:Option Nat}(h:Kp Z w w1)(a:w1.grownBy w2 row)(c:∀k,row=some k->w.heap.size<=k):Kp Z w w2 :=
 ⟨a.os.trans h.os,a.tape.trans h.tape,a.output.trans h.output,xj h.size a.size,λk b d=>(a.block k (xn b h.size) (λe=>by have:=c k e.symm;omega)).trans (h.block k b d)⟩
theorem Kp.alN{Z:Nat->Prop}{w1:World}(h:Kp Z w w1)(o:Obj):Kp Z w (w1.alloc o):=h.after (TQ w1 o)
theorem lQ(h:Tk D w t s)(hn:∀n∈s.1,n<9223372036854775808)(hl:s.1.length<=4194304):Calls Tryz.prog 141 #[.pointer (some ⟨t,0,none⟩)] w λe w'=>Kp (λk=>k=t) w w'/\Tk D w' t (jS s).2/\∃v,e=.returned v/\w'.ownsRow w.heap.size 181 2 v (jS s).1.length (zx (jS s).1):=by
 obtain⟨ip,a7,b2,b3,b4⟩:=XH IE;have HS:=zb (xM h hn hl);obtain⟨a8,C,H⟩:=gT hn (by omega) hl;have P:Hid (jS s=Vl (Vm s).2 (Vm s).1):=rfl;have b8:=h.lt;have b7:D<w.heap.size:=by obtain⟨a,cap,_,_,h3,_⟩:=h;exact h3.2
 rw[P.out];generalize Vm s=q at *;obtain⟨N,d⟩:=q;simp only at HS a8 C H ⊢;have a4:Hid (∀k,(∀n∈(Vl d k).2.1,n<9223372036854775808)/\(Vl d k).2.1.length<=4194304):=rH C (by omega) H;clear h hn C H P;go_enter Tryz.func141,Tryz.ntmps141;go_wp2_with (go_at_call 139;refine(HS.out).mono ?_;rintro e w1 ⟨rfl,hk,Z,c⟩;have A:=zb (And.intro hk (And.intro Z c));clear hk Z c HS);go_loopw [3,5,6,7] (λov ii _ _ wr=>∃k:Nat,k<=N/\ii=.int .i64 k/\wr.ownsRow w.heap.size 181 2 ov k (zx (Vl d k).1)/\Kp (λk=>k=t) w wr/\Tk D wr t (Vl d k).2) (λ_ ii _ _ _=>N-(intOf ii).toNat)
 case atStart=>exact⟨0,by omega,rfl,Xi _ _ _ _,A.out.1,A.out.2.2⟩
 clear A;obtain⟨k,hk,rfl,b,x,c⟩:=hrel;by_cases b0:k<N
 ·obtain⟨J,T⟩:=a4.out k;have y:=Ze J (show 0<9223372036854775808 by omega);have a9:=ZZ (Vl d k).2;have W:=Ze y.2 (show 0<9223372036854775808 by omega);have r:=zb (cN c J T);have j:=zb (λ(w2:World) (h2:Tk D w2 t (Vf (Vl d k).2).2)=>cN h2 y.2 (by omega));have i:Hid (Vl d (k+1)=((Vl d k).1++[((Vf (Vl d k).2).1,(Vf (Vf (Vl d k).2).2).1)],(Vf (Vf (Vl d k).2).2).2)):=rfl;have R:=y.1;have E:=W.1;generalize Vl d k=q0 at *;obtain⟨ps,sa⟩:=q0;simp only at r j i R E b c;generalize Vf sa=q1 at *;obtain⟨n1,sb⟩:=q1;simp only at r j i R E;generalize Vf sb=q2 at *;obtain⟨n2,sc⟩:=q2;simp only at j i E;have K:=zb b;have HK:=zb x;obtain⟨oa,oc,b1⟩:=zm b;subst b1;clear b x c J T y a9 W;go_wp2_with fail;refine(r.out).mono ?_
  rintro e w2 ⟨rfl,F,b5,a0⟩;have z:=zb (j.out w2 a0);have p:Hid (w2.ownsRow w.heap.size 181 2 (.slice oa k oc) k (zx ps)):=ze K.out (λg S=>F.block g (K.out.lt g S).2 (λe=>by have:=(K.out.lt g S).1;omega));have M:=zb (HK.out.tk F);clear F b5 a0 r j K HK;go_wp2_with fail;refine(z.out).mono ?_
  rintro e w3 ⟨rfl,G,b6,a1⟩;have f:Hid (w3.ownsRow w.heap.size 181 2 (.slice oa k oc) k (zx ps)):=ze p.out (λg S=>G.block g (p.out.lt g S).2 (λe=>by have:=(p.out.lt g S).1;omega));have B:=zb (M.out.tk G);have Q:=zb a1;have b9:=B.out.size;clear G b6 a1 z p M;go_wp2_with (at_builtin;refine Xb _ rfl _ _ 40 rfl w.heap.size 181 ip (.agg #[.int .i64 0,.int .i64 0]) 2 16 uK a7 b2 b3 b4 rfl (by decide) _ k (zx ps) rfl (f.out.alloc _) ⟨w3.heap.size,0,none⟩ 1 1 [.int .i64 n1,.int .i64 n2] rfl rfl ?d1 ?d2 ?d3 ?d4 ?d5 ?_)
  case d1=>exact Yb _ _ _ _
  case d2=>intro u hu;simp at hu;rcases hu with rfl|rfl<;>rfl
  case d3=>unfold maxLen;omega
  case d4=>omega
  case d5=>simp;omega
  intro nv w4 m l X;have a3:Hid (w4.ownsRow w.heap.size 181 2 nv (k+1) (zx (Vl d (k+1)).1)):=by
   unfold Hid;rw[i.out,eI];exact m
  have a2:=zb ((B.out.alN _).growN l (λq hq=>(f.out.lt q hq).1));have a6:Hid (Tk D w4 t (Vl d (k+1)).2):=by
   unfold Hid;rw[i.out];refine(Q.out.below (TQ w3 _)).congr l.size (l.block t (by simp;omega) (λe=>by have:=(f.out.lt t e.symm).1;omega)) (l.block D (by simp;omega) (λe=>by have:=(f.out.lt D e.symm).1;omega))
  clear m l X f B Q;go_wp2_with fail;go_roundw
  case rel=>exact⟨k+1,by omega,by go_num,a3.out,a2.out,a6.out⟩
  simp[intOf];omega
 obtain rfl:k=N:=by omega
 have K:=zb b;have HK:=zb x;have HT:=zb c;have a5:=zb (lN d k);clear b x c b0;go_wp2_with fail;go_ret;exact⟨HK.out,HT.out,_,rfl,by rw[a5.out];exact K.out⟩
def Vi(s:List Nat×Bool):Nat->List Nat×Bool
 |0=>s
 |k+1=>(Vf (Vi s k)).2
def Vn(s:List Nat×Bool)(k:Nat):Nat:=(Vf (Vi s k)).1
theorem EV{s:List Nat×Bool}{B N:Nat}(h:∀n∈s.1,n<B)(a:0<B)(b:s.1.length<=N):∀k,(∀n∈(Vi s k).1,n<B)/\(Vi s k).1.length<=N
 |0=>⟨h,b⟩
 |k+1=>by
  obtain⟨d,f⟩:=EV h a b k;have c:=Ze d a;have e:=ZZ (Vi s k);exact⟨c.2,by show(Vf (Vi s k)).2.1.length<=N;omega⟩
structure Lq(D t:Nat)(w wx:World)(lb:Nat)(s:List Nat×Bool)(cs:Array Value):Prop where
 kp:Kp (λk=>k=t) w wx
 tk:Tk D wx t s
 box:wx.heap[lb]?=some (.cells cs 129 (0,0))
 lo:w.heap.size<=lb
 tl:t<w.heap.size
 dl:D<w.heap.size
theorem Lq.set{c:World}{a:Nat}{b:Array Value}(h:Lq D t w c a s b)(f:Nat)(v:Value):Lq D t w (c.setCell ⟨a,f,none⟩ v) a s (b.setIfInBounds f v):=by
 have d:=h.lo;have e:=h.tl;have g:=h.dl;exact⟨h.kp.setCell (p:=⟨a,f,none⟩) (Or.inr d) _,h.tk.congr (by simp[World.setCell]) (xa _ _ _ _ (by show t≠a;omega)) (xa _ _ _ _ (by show D≠a;omega)),xp c a f b 129 v h.box,d,e,g⟩
theorem Lq.take{d w2:World}{a:Nat}{s':List Nat×Bool}{b:Array Value}(h:Lq D t w d a s b)(c:Kp (λk=>k=t) d w2)(g:Tk D w2 t s'):Lq D t w w2 a s' b:=by
 have e:=h.lo;have f:=h.tl;exact⟨h.kp.tk c,g,(c.block a (zc h.box) (by show ¬a=t;omega)).trans h.box,e,f,h.dl⟩
def Vg(s:List Nat×Bool):List (Nat×Nat)×(List Nat×Bool):=jS (Vi s 8)
def Vh(s:List Nat×Bool):Nat×(List Nat×Bool):=if (Vg s).1.length=0 then Vf (Vg s).2 else (0,(Vg s).2)
def Vj(s:List Nat×Bool):L:=⟨Vn s 0,Vn s 1,Vn s 2,Vn s 3,(Vh s).1,Vn s 4,Vn s 5,Vn s 6,Vn s 7,0,(Vg s).1⟩
theorem SL(x:World)(b:Nat)(t:TypeId)(N A y w u r n l j g a:Value)(h:x.heap[b]?=some (.cells #[N,A,y,w,u,r,n,l,j,g,a] t (0,0)))(c d e f i k m q s v p:Value):(((((((((((x.setCell ⟨b,0,none⟩ c).setCell ⟨b,1,none⟩ d).setCell ⟨b,2,none⟩ e).setCell ⟨b,3,none⟩ f).setCell ⟨b,4,none⟩ i).setCell ⟨b,5,none⟩ k).setCell ⟨b,6,none⟩ m).setCell ⟨b,7,none⟩ q).setCell ⟨b,8,none⟩ s).setCell ⟨b,9,none⟩ v).setCell ⟨b,10,none⟩ p).heap[b]?=some (.cells #[c,d,e,f,i,k,m,q,s,v,p] t (0,0)):=by
 have B:(x.setCell ⟨b,0,none⟩ c).heap[b]?=some (.cells #[c,A,y,w,u,r,n,l,j,g,a] t (0,0)):=xp x b 0 #[N,A,y,w,u,r,n,l,j,g,a] t c h;generalize x.setCell ⟨b,0,none⟩ c=x0 at B ⊢;have C:(x0.setCell ⟨b,1,none⟩ d).heap[b]?=some (.cells #[c,d,y,w,u,r,n,l,j,g,a] t (0,0)):=xp x0 b 1 #[c,A,y,w,u,r,n,l,j,g,a] t d B;generalize x0.setCell ⟨b,1,none⟩ d=x1 at C ⊢;have D:(x1.setCell ⟨b,2,none⟩ e).heap[b]?=some (.cells #[c,d,e,w,u,r,n,l,j,g,a] t (0,0)):=xp x1 b 2 #[c,d,y,w,u,r,n,l,j,g,a] t e C;generalize x1.setCell ⟨b,2,none⟩ e=x2 at D ⊢;have E:(x2.setCell ⟨b,3,none⟩ f).heap[b]?=some (.cells #[c,d,e,f,u,r,n,l,j,g,a] t (0,0)):=xp x2 b 3 #[c,d,e,w,u,r,n,l,j,g,a] t f D;generalize x2.setCell ⟨b,3,none⟩ f=x3 at E ⊢;have F:(x3.setCell ⟨b,4,none⟩ i).heap[b]?=some (.cells #[c,d,e,f,i,r,n,l,j,g,a] t (0,0)):=xp x3 b 4 #[c,d,e,f,u,r,n,l,j,g,a] t i E;generalize x3.setCell ⟨b,4,none⟩ i=x4 at F ⊢;have G:(x4.setCell ⟨b,5,none⟩ k).heap[b]?=some (.cells #[c,d,e,f,i,k,n,l,j,g,a] t (0,0)):=xp x4 b 5 #[c,d,e,f,i,r,n,l,j,g,a] t k F;generalize x4.setCell ⟨b,5,none⟩ k=x5 at G ⊢;have H:(x5.setCell ⟨b,6,none⟩ m).heap[b]?=some (.cells #[c,d,e,f,i,k,m,l,j,g,a] t (0,0)):=xp x5 b 6 #[c,d,e,f,i,k,n,l,j,g,a] t m G;generalize x5.setCell ⟨b,6,none⟩ m=x6 at H ⊢;have J:(x6.setCell ⟨b,7,none⟩ q).heap[b]?=some (.cells #[c,d,e,f,i,k,m,q,j,g,a] t (0,0)):=xp x6 b 7 #[c,d,e,f,i,k,m,l,j,g,a] t q H;generalize x6.setCell ⟨b,7,none⟩ q=x7 at J ⊢;have K:(x7.setCell ⟨b,8,none⟩ s).heap[b]?=some (.cells #[c,d,e,f,i,k,m,q,s,g,a] t (0,0)):=xp x7 b 8 #[c,d,e,f,i,k,m,q,j,g,a] t s J;generalize x7.setCell ⟨b,8,none⟩ s=x8 at K ⊢;have M:(x8.setCell ⟨b,9,none⟩ v).heap[b]?=some (.cells #[c,d,e,f,i,k,m,q,s,v,a] t (0,0)):=xp x8 b 9 #[c,d,e,f,i,k,m,q,s,g,a] t v K;generalize x8.setCell ⟨b,9,none⟩ v=x9 at M ⊢;have z:(x9.setCell ⟨b,10,none⟩ p).heap[b]?=some (.cells #[c,d,e,f,i,k,m,q,s,v,p] t (0,0)):=xp x9 b 10 #[c,d,e,f,i,k,m,q,s,v,a] t p M;generalize x9.setCell ⟨b,10,none⟩ p=x10 at z ⊢;exact z
theorem Na(x:World)(b:Nat)(d e f g h i j l m n c:Value)(k:Nat)(a:k≠b):(((((((((((x.setCell ⟨b,0,none⟩ d).setCell ⟨b,1,none⟩ e).setCell ⟨b,2,none⟩ f).setCell ⟨b,3,none⟩ g).setCell ⟨b,4,none⟩ h).setCell ⟨b,5,none⟩ i).setCell ⟨b,6,none⟩ j).setCell ⟨b,7,none⟩ l).setCell ⟨b,8,none⟩ m).setCell ⟨b,9,none⟩ n).setCell ⟨b,10,none⟩ c).heap[k]?=x.heap[k]?:=by
 rw[xa _ _ _ _ a,xa _ _ _ _ a,xa _ _ _ _ a,xa _ _ _ _ a,xa _ _ _ _ a,xa _ _ _ _ a,xa _ _ _ _ a,xa _ _ _ _ a,xa _ _ _ _ a,xa _ _ _ _ a,xa _ _ _ _ a]
theorem Gm(x:World)(b:Nat)(c d e f g h i j k l a:Value):(((((((((((x.setCell ⟨b,0,none⟩ c).setCell ⟨b,1,none⟩ d).setCell ⟨b,2,none⟩ e).setCell ⟨b,3,none⟩ f).setCell ⟨b,4,none⟩ g).setCell ⟨b,5,none⟩ h).setCell ⟨b,6,none⟩ i).setCell ⟨b,7,none⟩ j).setCell ⟨b,8,none⟩ k).setCell ⟨b,9,none⟩ l).setCell ⟨b,10,none⟩ a).heap.size=x.heap.size:=by simp[World.setCell]
def eV(s:List Nat×Bool):Nat->List L×(List Nat×Bool)
 |0=>([],s)
 |k+1=>((eV s k).1++[Vj (eV s k).2],(Vh (eV s k).2).2)
def Vk(s:List Nat×Bool):O×(List Nat×Bool):=(⟨(Vf s).1,(Vf (Vf s).2).1,(jS (Vf (Vf s).2).2).1⟩,(jS (Vf (Vf s).2).2).2)
def gK(s:List Nat×Bool):Nat->List O×(List Nat×Bool)
 |0=>([],s)
 |k+1=>((gK s k).1++[(Vk (gK s k).2).1],(Vk (gK s k).2).2)
structure TO where
 td:Nat
 com:Nat
 k:Nat
 ls:List L
 os:List O
 rcs:List (Nat×Nat)
 left:List Nat×Bool
def Vo(ns:List Nat):TO :=
 let a:=Vf (ns,false)
 let b:=Vf a.2
 let c:=Vm b.2
 let d:=eV c.2 c.1
 let e:=Vm d.2
 let f:=gK e.2 e.1
 let g:=jS f.2
 ⟨a.1,b.1,c.1,d.1,f.1,g.1,g.2⟩
def NumP(ls:List L):Prop:=∀i,i<ls.length->(1<=(ls.getD i L0).id/\(ls.getD i L0).id<=2147483647)/\(1<=(ls.getD i L0).gd/\(ls.getD i L0).gd<=2147483647)/\(ls.getD i L0).ex<=2147483647/\(ls.getD i L0).free<=2147483647/\(ls.getD i L0).hd<=2147483647/\(ls.getD i L0).sh<=2147483647/\(ls.getD i L0).sc<=2147483647/\(ls.getD i L0).got<=2147483647/\Ur (ls.getD i L0).id ls=i
def Qz(ls:List L):Prop:=∀i,i<ls.length->(ls.getD i L0).got<=2147483647/\(ls.getD i L0).gv<=2147483647/\1<=(ls.getD i L0).got/\(ls.getD i L0).got=(ls.getD i L0).free+(ls.getD i L0).hd+(ls.getD i L0).sh+(ls.getD i L0).sc+(ls.getD i L0).gv
def Un(l:L)(n:Nat):L:={ l with gv:=l.gv+n }
def Uh(l:L):List (Nat×Nat)->Nat->Nat->List L->Option (List L×Nat×Nat)
 |[],u,g,ls=>some (ls,u,g)
 |p::ps,u,g,ls=>if Ur p.1 ls<ls.length/\p.2<=2147483647/\(ls.getD (Ur p.1 ls) L0).gd=l.gd/\(ls.getD (Ur p.1 ls) L0).place<l.place then Uh l ps (min u (ls.getD (Ur p.1 ls) L0).ex) (g+p.2) (ls.set (Ur p.1 ls) (Un (ls.getD (Ur p.1 ls) L0) p.2)) else none
def Ui(ls:List L)(i:Nat):Option (List L) :=
 if (ls.getD i L0).par.length<=2/\((ls.getD i L0).par.map Prod.fst).Pairwise (·<·) then (Uh (ls.getD i L0) (ls.getD i L0).par 2147483648 0 ls).bind λr=>if (ls.getD i L0).par.length=0 then some r.1 else if r.2.1=(ls.getD i L0).ex then some (r.1.set i { r.1.getD i L0 with got:=r.2.2 }) else none
 else none
def Ug:Nat->Nat->List L->Option (List L)
 |0,_,ls=>some ls
 |k+1,i,ls=>(Ui ls i).bind λls'=>Ug k (i+1) ls'
theorem KG(h:∀n∈s.1,n<B)(a:0<B)(l:s.1.length<=N):(∀n∈(Vh s).2.1,n<B)/\(Vh s).2.1.length<=N/\(Vh s).1<B/\(Vg s).1.length<=N/\∀p∈(Vg s).1,p.1<B/\p.2<B:=by
 obtain⟨d,e⟩:=EV h a l 8;obtain⟨c1,c2,c3⟩:=gT d a e;obtain⟨f,g⟩:=rH c2 a c3 (Vm (Vi s 8)).1;have hF:(∀n∈(Vg s).2.1,n<B)/\(Vg s).2.1.length<=N:=⟨f,g⟩
 have m:∀k,∀p∈(Vl (Vm (Vi s 8)).2 k).1,p.1<B/\p.2<B:=λk=>by
  induction k with
  |zero=>intro p b;cases b
  |succ k ih=>
   intro p b;obtain⟨i,q⟩:=rH c2 a c3 k;have c:=Ze i a;have j:=Ze c.2 a;rcases xw.1 b with b|b
   ·exact ih p b
   simp only[Xp]at b;subst b;exact⟨c.1,j.1⟩
 refine⟨?_,?_,?_,by unfold Vg jS;rw[lN];exact c1,m _⟩
 ·unfold Vh;split
  ·exact(Ze hF.1 a).2
  exact hF.1
 ·unfold Vh;split
  ·exact xj (ZZ _) hF.2
  exact hF.2
 unfold Vh;split
 ·exact(Ze hF.1 a).1
 exact a
theorem Dz(h:∀n∈s.1,n<B)(c:0<B)(d:s.1.length<=N)(k:Nat):(∀n∈(eV s k).2.1,n<B)/\(eV s k).2.1.length<=N:=by
 induction k with
 |zero=>exact⟨h,d⟩
 |succ k ih=>
  rw[eV];generalize eV s k=q at ih ⊢;dsimp only;obtain⟨a,b,_⟩:=KG ih.1 c ih.2;exact⟨a,b⟩
theorem Sa(h:∀n∈s.1,n<B)(a:0<B)(d:s.1.length<=N):(∀n∈(Vk s).2.1,n<B)/\(Vk s).2.1.length<=N:=by
 have b:=Ze h a;have c:=Ze b.2 a;have e:=ZZ s;have f:=ZZ (Vf s).2;obtain⟨c1,c2,c3⟩:=gT c.2 a (show(Vf (Vf s).2).2.1.length<=N by omega);exact rH c2 a c3 _
theorem xW{s:List Nat×Bool}{B N:Nat}(h:∀n∈s.1,n<B)(a:0<B)(b:s.1.length<=N):∀k,(∀n∈(gK s k).2.1,n<B)/\(gK s k).2.1.length<=N
 |0=>⟨h,b⟩
 |k+1=>by
  obtain⟨c,d⟩:=xW h a b k;exact Sa c a d
theorem SK(w:World)(p:Addr)(v:Value):(w.setCell p v).os=w.os:=rfl
theorem Qc(w:World)(p:Addr)(v:Value):(w.setCell p v).tape=w.tape:=rfl
theorem RO(w:World)(p:Addr)(v:Value):(w.setCell p v).output=w.output:=rfl
theorem Bm(x:World)(b:Nat)(t:TypeId)(q r s u v w y z A B p:Value)(h:x.heap[b]?=some (.cells #[q,r,s,u,v,w,y,z,A,B,p] t (0,0)))(c d e f g i j l m n a:Value):∃W,W=(((((((((((x.setCell ⟨b,0,none⟩ c).setCell ⟨b,1,none⟩ d).setCell ⟨b,2,none⟩ e).setCell ⟨b,3,none⟩ f).setCell ⟨b,4,none⟩ g).setCell ⟨b,5,none⟩ i).setCell ⟨b,6,none⟩ j).setCell ⟨b,7,none⟩ l).setCell ⟨b,8,none⟩ m).setCell ⟨b,9,none⟩ n).setCell ⟨b,10,none⟩ a)/\W.heap[b]?=some (.cells #[c,d,e,f,g,i,j,l,m,n,a] t (0,0))/\(∀k,k≠b->W.heap[k]?=x.heap[k]?)/\W.heap.size=x.heap.size/\W.os=x.os/\W.tape=x.tape/\W.output=x.output :=
 ⟨_,rfl,SL x b t q r s u v w y z A B p h c d e f g i j l m n a,λk C=>Na x b c d e f g i j l m n a k C,Gm x b c d e f g i j l m n a,by simp only[SK],by simp only[Qc],by simp only[RO]⟩
theorem Nq(h:Tk D w t s)(hn:∀n∈s.1,n<9223372036854775808)(hl:s.1.length<=4194304):Calls Tryz.prog 140 #[.pointer (some ⟨t,0,none⟩)] w λe w'=>Kp (λk=>k=t) w w'/\Tk D w' t (Vh s).2/\∃fv,e=.returned (.agg (zp (Vj s) fv).toArray)/\w'.ownsRow w.heap.size 181 2 fv (Vg s).1.length (zx (Vg s).1):=by
 have G:=zb (EV hn (show 0<9223372036854775808 by omega) hl);have H:Hid (∀(k:Nat) (w2:World),Tk D w2 t (Vi s k)->Calls Tryz.prog 138 #[.pointer (some ⟨t,0,none⟩)] w2 λe w'=>e=.returned (.int .i64 (Vn s k:Int))/\Kp (λk=>k=t) w2 w'/\w'.heap.size=w2.heap.size/\Tk D w' t (Vi s (k+1))):=λk w2 h2=>cN h2 (G.out k).1 (G.out k).2
 have j9:Hid (∀(w2:World),Tk D w2 t (Vi s 8)->Calls Tryz.prog 141 #[.pointer (some ⟨t,0,none⟩)] w2 λe w'=>Kp (λk=>k=t) w2 w'/\Tk D w' t (Vg s).2/\∃v,e=.returned v/\w'.ownsRow w2.heap.size 181 2 v (Vg s).1.length (zx (Vg s).1)):=λw2 h2=>lQ h2 (G.out 8).1 (G.out 8).2
 have H0:Hid (Tk D w t (Vi s 0)):=h;have k6:=h.lt;have k0:D<w.heap.size:=by obtain⟨a,cap,_,_,h3,_⟩:=h;exact h3.2
 clear h hn;have f0:Hid (Below w.heap.size w (w.alloc (.cells #[.int .i64 0,.int .i64 0,.int .i64 0,.int .i64 0,.int .i64 0,.int .i64 0,.int .i64 0,.int .i64 0,.int .i64 0,.int .i64 0,.slice none 0 0] 129))):=TQ w _;have H1:=zb (H0.out.below f0.out);go_enter Tryz.func140,Tryz.ntmps140;go_wp2_with fail;refine(H.out 0 _ H1.out).mono ?_
 rintro e w1 ⟨rfl,h1,k5,j5⟩;have d1:Hid (Kp (λk=>k=t) w w1):=Kp.before f0.out (h1.mono (λ_ h=>Or.inl h));have F:Hid (Lq D t w (w1.alloc (.cells #[.int .i64 (Vn s 0:Int),.int .i64 0,.int .i64 0,.int .i64 0,.int .i64 0,.int .i64 0,.int .i64 0,.int .i64 0,.int .i64 0,.int .i64 0,.slice none 0 0] 129)) w1.heap.size (Vi s 1) #[.int .i64 (Vn s 0:Int),.int .i64 0,.int .i64 0,.int .i64 0,.int .i64 0,.int .i64 0,.int .i64 0,.int .i64 0,.int .i64 0,.int .i64 0,.slice none 0 0]):=⟨d1.out.alN _,j5.below (TQ w1 _),xo w1 _,d1.out.size,k6,k0⟩
 have b1:w1.heap[w.heap.size]?=some (.cells #[.int .i64 0,.int .i64 0,.int .i64 0,.int .i64 0,.int .i64 0,.int .i64 0,.int .i64 0,.int .i64 0,.int .i64 0,.int .i64 0,.slice none 0 0] 129 (0,0)):=(h1.block w.heap.size (by simp) (by omega)).trans (xo w _);have a6:Hid ((w1.alloc (.cells #[.int .i64 (Vn s 0:Int),.int .i64 0,.int .i64 0,.int .i64 0,.int .i64 0,.int .i64 0,.int .i64 0,.int .i64 0,.int .i64 0,.int .i64 0,.slice none 0 0] 129)).heap[w.heap.size]?=some (.cells #[.int .i64 0,.int .i64 0,.int .i64 0,.int .i64 0,.int .i64 0,.int .i64 0,.int .i64 0,.int .i64 0,.int .i64 0,.int .i64 0,.slice none 0 0] 129 (0,0))):=(XO _ _ _ (zc b1)).trans b1;have y:Hid (w.heap.size≠w1.heap.size):=by have:=zc b1;unfold Hid;omega
 clear h1 k5 j5 d1 H1 f0 H0 b1;go_wp2_with fail;obtain⟨d,h6⟩:=UC w1.heap.size;rw[<-h6.out]at F y ⊢;obtain⟨x1,i0⟩:∃x1,Hid (x1=(w1.alloc (.cells #[.int .i64 (Vn s 0:Int),.int .i64 0,.int .i64 0,.int .i64 0,.int .i64 0,.int .i64 0,.int .i64 0,.int .i64 0,.int .i64 0,.int .i64 0,.slice none 0 0] 129))):=⟨_,rfl⟩
 rw[<-i0.out]at F a6 ⊢;clear h6 i0;refine(H.out 1 _ F.out.tk).mono ?_
 rintro e y1 ⟨rfl,l,hs,r⟩;have S:=zb (F.out.take l r);have d3:Hid (y1.heap[w.heap.size]?=x1.heap[w.heap.size]?):=l.block w.heap.size (zc a6.out) (by show ¬w.heap.size=t;omega);have K:Hid (Lq D t w (y1.setCell ⟨d,1,none⟩ (.int .i64 (Vn s 1:Int))) d (Vi s 2) #[.int .i64 (Vn s 0:Int),.int .i64 (Vn s 1:Int),.int .i64 0,.int .i64 0,.int .i64 0,.int .i64 0,.int .i64 0,.int .i64 0,.int .i64 0,.int .i64 0,.slice none 0 0]):=S.out.set 1 _;have a7:Hid ((y1.setCell ⟨d,1,none⟩ (.int .i64 (Vn s 1:Int))).heap[w.heap.size]?=some (.cells #[.int .i64 0,.int .i64 0,.int .i64 0,.int .i64 0,.int .i64 0,.int .i64 0,.int .i64 0,.int .i64 0,.int .i64 0,.int .i64 0,.slice none 0 0] 129 (0,0))):=(xa _ _ _ _ y.out).trans (d3.out.trans a6.out);have c1:y1.cell? ⟨d,1,none⟩=some (.int .i64 0):=by rw[za S.out.box];rfl
 have f1:=zf S.out.box 1;clear l hs r S d3 F a6;go_wp2_with fail;obtain⟨x2,i1⟩:∃x,Hid (x=y1.setCell ⟨d,1,none⟩ (.int .i64 (Vn s 1:Int))):=⟨_,rfl⟩
 rw[<-i1.out]at K a7 ⊢;clear i1 c1 f1;refine(H.out 2 _ K.out.tk).mono ?_
 rintro e y2 ⟨rfl,l,hs,r⟩;have T:=zb (K.out.take l r);have d4:Hid (y2.heap[w.heap.size]?=x2.heap[w.heap.size]?):=l.block w.heap.size (zc a7.out) (by show ¬w.heap.size=t;omega);have M:Hid (Lq D t w (y2.setCell ⟨d,2,none⟩ (.int .i64 (Vn s 2:Int))) d (Vi s 3) #[.int .i64 (Vn s 0:Int),.int .i64 (Vn s 1:Int),.int .i64 (Vn s 2:Int),.int .i64 0,.int .i64 0,.int .i64 0,.int .i64 0,.int .i64 0,.int .i64 0,.int .i64 0,.slice none 0 0]):=T.out.set 2 _;have a8:Hid ((y2.setCell ⟨d,2,none⟩ (.int .i64 (Vn s 2:Int))).heap[w.heap.size]?=some (.cells #[.int .i64 0,.int .i64 0,.int .i64 0,.int .i64 0,.int .i64 0,.int .i64 0,.int .i64 0,.int .i64 0,.int .i64 0,.int .i64 0,.slice none 0 0] 129 (0,0))):=(xa _ _ _ _ y.out).trans (d4.out.trans a7.out);have c2:y2.cell? ⟨d,2,none⟩=some (.int .i64 0):=by rw[za T.out.box];rfl
 have f2:=zf T.out.box 2;clear l hs r T d4 K a7;go_wp2_with fail;obtain⟨x3,i2⟩:∃x,Hid (x=y2.setCell ⟨d,2,none⟩ (.int .i64 (Vn s 2:Int))):=⟨_,rfl⟩
 rw[<-i2.out]at M a8 ⊢;clear i2 c2 f2;refine(H.out 3 _ M.out.tk).mono ?_
 rintro e y3 ⟨rfl,l,hs,r⟩;have X:=zb (M.out.take l r);have d5:Hid (y3.heap[w.heap.size]?=x3.heap[w.heap.size]?):=l.block w.heap.size (zc a8.out) (by show ¬w.heap.size=t;omega);have N:Hid (Lq D t w (y3.setCell ⟨d,3,none⟩ (.int .i64 (Vn s 3:Int))) d (Vi s 4) #[.int .i64 (Vn s 0:Int),.int .i64 (Vn s 1:Int),.int .i64 (Vn s 2:Int),.int .i64 (Vn s 3:Int),.int .i64 0,.int .i64 0,.int .i64 0,.int .i64 0,.int .i64 0,.int .i64 0,.slice none 0 0]):=X.out.set 3 _;have a9:Hid ((y3.setCell ⟨d,3,none⟩ (.int .i64 (Vn s 3:Int))).heap[w.heap.size]?=some (.cells #[.int .i64 0,.int .i64 0,.int .i64 0,.int .i64 0,.int .i64 0,.int .i64 0,.int .i64 0,.int .i64 0,.int .i64 0,.int .i64 0,.slice none 0 0] 129 (0,0))):=(xa _ _ _ _ y.out).trans (d5.out.trans a8.out);have c3:y3.cell? ⟨d,3,none⟩=some (.int .i64 0):=by rw[za X.out.box];rfl
 have f3:=zf X.out.box 3;clear l hs r X d5 M a8;go_wp2_with fail;obtain⟨x4,i3⟩:∃x,Hid (x=y3.setCell ⟨d,3,none⟩ (.int .i64 (Vn s 3:Int))):=⟨_,rfl⟩
 rw[<-i3.out]at N a9 ⊢;clear i3 c3 f3;refine(H.out 4 _ N.out.tk).mono ?_
 rintro e y4 ⟨rfl,l,hs,r⟩;have Z:=zb (N.out.take l r);have d6:Hid (y4.heap[w.heap.size]?=x4.heap[w.heap.size]?):=l.block w.heap.size (zc a9.out) (by show ¬w.heap.size=t;omega);have P:Hid (Lq D t w (y4.setCell ⟨d,5,none⟩ (.int .i64 (Vn s 4:Int))) d (Vi s 5) #[.int .i64 (Vn s 0:Int),.int .i64 (Vn s 1:Int),.int .i64 (Vn s 2:Int),.int .i64 (Vn s 3:Int),.int .i64 0,.int .i64 (Vn s 4:Int),.int .i64 0,.int .i64 0,.int .i64 0,.int .i64 0,.slice none 0 0]):=Z.out.set 5 _;have b0:Hid ((y4.setCell ⟨d,5,none⟩ (.int .i64 (Vn s 4:Int))).heap[w.heap.size]?=some (.cells #[.int .i64 0,.int .i64 0,.int .i64 0,.int .i64 0,.int .i64 0,.int .i64 0,.int .i64 0,.int .i64 0,.int .i64 0,.int .i64 0,.slice none 0 0] 129 (0,0))):=(xa _ _ _ _ y.out).trans (d6.out.trans a9.out);have c4:y4.cell? ⟨d,5,none⟩=some (.int .i64 0):=by rw[za Z.out.box];rfl
 have f4:=zf Z.out.box 5;clear l hs r Z d6 N a9;go_wp2_with fail;obtain⟨x5,i4⟩:∃x,Hid (x=y4.setCell ⟨d,5,none⟩ (.int .i64 (Vn s 4:Int))):=⟨_,rfl⟩
 rw[<-i4.out]at P b0 ⊢;clear i4 c4 f4;refine(H.out 5 _ P.out.tk).mono ?_
 rintro e y5 ⟨rfl,l,hs,r⟩;have a0:=zb (P.out.take l r);have d7:Hid (y5.heap[w.heap.size]?=x5.heap[w.heap.size]?):=l.block w.heap.size (zc b0.out) (by show ¬w.heap.size=t;omega);have Q:Hid (Lq D t w (y5.setCell ⟨d,6,none⟩ (.int .i64 (Vn s 5:Int))) d (Vi s 6) #[.int .i64 (Vn s 0:Int),.int .i64 (Vn s 1:Int),.int .i64 (Vn s 2:Int),.int .i64 (Vn s 3:Int),.int .i64 0,.int .i64 (Vn s 4:Int),.int .i64 (Vn s 5:Int),.int .i64 0,.int .i64 0,.int .i64 0,.slice none 0 0]):=a0.out.set 6 _;have b7:Hid ((y5.setCell ⟨d,6,none⟩ (.int .i64 (Vn s 5:Int))).heap[w.heap.size]?=some (.cells #[.int .i64 0,.int .i64 0,.int .i64 0,.int .i64 0,.int .i64 0,.int .i64 0,.int .i64 0,.int .i64 0,.int .i64 0,.int .i64 0,.slice none 0 0] 129 (0,0))):=(xa _ _ _ _ y.out).trans (d7.out.trans b0.out);have c5:y5.cell? ⟨d,6,none⟩=some (.int .i64 0):=by rw[za a0.out.box];rfl
 have f5:=zf a0.out.box 6;clear l hs r a0 d7 P b0;go_wp2_with fail;obtain⟨x6,i5⟩:∃x,Hid (x=y5.setCell ⟨d,6,none⟩ (.int .i64 (Vn s 5:Int))):=⟨_,rfl⟩
 rw[<-i5.out]at Q b7 ⊢;clear i5 c5 f5;refine(H.out 6 _ Q.out.tk).mono ?_
 rintro e y6 ⟨rfl,l,hs,r⟩;have a4:=zb (Q.out.take l r);have d8:Hid (y6.heap[w.heap.size]?=x6.heap[w.heap.size]?):=l.block w.heap.size (zc b7.out) (by show ¬w.heap.size=t;omega);have R:Hid (Lq D t w (y6.setCell ⟨d,7,none⟩ (.int .i64 (Vn s 6:Int))) d (Vi s 7) #[.int .i64 (Vn s 0:Int),.int .i64 (Vn s 1:Int),.int .i64 (Vn s 2:Int),.int .i64 (Vn s 3:Int),.int .i64 0,.int .i64 (Vn s 4:Int),.int .i64 (Vn s 5:Int),.int .i64 (Vn s 6:Int),.int .i64 0,.int .i64 0,.slice none 0 0]):=a4.out.set 7 _;have b8:Hid ((y6.setCell ⟨d,7,none⟩ (.int .i64 (Vn s 6:Int))).heap[w.heap.size]?=some (.cells #[.int .i64 0,.int .i64 0,.int .i64 0,.int .i64 0,.int .i64 0,.int .i64 0,.int .i64 0,.int .i64 0,.int .i64 0,.int .i64 0,.slice none 0 0] 129 (0,0))):=(xa _ _ _ _ y.out).trans (d8.out.trans b7.out);have c6:y6.cell? ⟨d,7,none⟩=some (.int .i64 0):=by rw[za a4.out.box];rfl
 have f6:=zf a4.out.box 7;clear l hs r a4 d8 Q b7;go_wp2_with fail;obtain⟨x7,i6⟩:∃x,Hid (x=y6.setCell ⟨d,7,none⟩ (.int .i64 (Vn s 6:Int))):=⟨_,rfl⟩
 rw[<-i6.out]at R b8 ⊢;clear i6 c6 f6;refine(H.out 7 _ R.out.tk).mono ?_
 rintro e y7 ⟨rfl,l,hs,r⟩;have a5:=zb (R.out.take l r);have d9:Hid (y7.heap[w.heap.size]?=x7.heap[w.heap.size]?):=l.block w.heap.size (zc b8.out) (by show ¬w.heap.size=t;omega);have A:Hid (Lq D t w (y7.setCell ⟨d,8,none⟩ (.int .i64 (Vn s 7:Int))) d (Vi s 8) #[.int .i64 (Vn s 0:Int),.int .i64 (Vn s 1:Int),.int .i64 (Vn s 2:Int),.int .i64 (Vn s 3:Int),.int .i64 0,.int .i64 (Vn s 4:Int),.int .i64 (Vn s 5:Int),.int .i64 (Vn s 6:Int),.int .i64 (Vn s 7:Int),.int .i64 0,.slice none 0 0]):=a5.out.set 8 _;have b:Hid ((y7.setCell ⟨d,8,none⟩ (.int .i64 (Vn s 7:Int))).heap[w.heap.size]?=some (.cells #[.int .i64 0,.int .i64 0,.int .i64 0,.int .i64 0,.int .i64 0,.int .i64 0,.int .i64 0,.int .i64 0,.int .i64 0,.int .i64 0,.slice none 0 0] 129 (0,0))):=(xa _ _ _ _ y.out).trans (d9.out.trans b8.out);have c7:y7.cell? ⟨d,8,none⟩=some (.int .i64 0):=by rw[za a5.out.box];rfl
 have f7:=zf a5.out.box 8;clear l hs r a5 d9 R b8;go_wp2_with fail;obtain⟨x8,i7⟩:∃x,Hid (x=y7.setCell ⟨d,8,none⟩ (.int .i64 (Vn s 7:Int))):=⟨_,rfl⟩
 rw[<-i7.out]at A b ⊢;clear i7 c7 f7;refine(j9.out _ A.out.tk).mono ?_
 rintro e m ⟨l,r,fv,rfl,c9⟩;have j:=zb (A.out.take l r);have c:Hid (m.heap[w.heap.size]?=x8.heap[w.heap.size]?):=l.block w.heap.size (zc b.out) (by show ¬w.heap.size=t;omega);obtain⟨fa,fc,k1⟩:=zm c9;have k7:w.heap.size<=x8.heap.size:=A.out.kp.size;have j2:d<x8.heap.size:=zc A.out.box;have j3:w.heap.size<x8.heap.size:=zc b.out;have h7:Hid (∀(f:Nat) (u:Value),(m.setCell ⟨d,f,none⟩ u).ownsRow w.heap.size 181 2 fv (Vg s).1.length (zx (Vg s).1)):=λf u=>zI (ze c9 (λg hg=>xa _ _ _ _ (by have:=(c9.lt g hg).1;show g≠d;omega))) k7
 subst k1;generalize j1:(Vg s).1.length=kk at *;have d0:=zb j1;have B:Hid (Lq D t w (m.setCell ⟨d,10,none⟩ (.slice fa kk fc)) d (Vg s).2 #[.int .i64 (Vn s 0:Int),.int .i64 (Vn s 1:Int),.int .i64 (Vn s 2:Int),.int .i64 (Vn s 3:Int),.int .i64 0,.int .i64 (Vn s 4:Int),.int .i64 (Vn s 5:Int),.int .i64 (Vn s 6:Int),.int .i64 (Vn s 7:Int),.int .i64 0,.slice fa kk fc]):=j.out.set 10 _;have C:Hid ((m.setCell ⟨d,10,none⟩ (.slice fa kk fc)).heap[w.heap.size]?=some (.cells #[.int .i64 0,.int .i64 0,.int .i64 0,.int .i64 0,.int .i64 0,.int .i64 0,.int .i64 0,.int .i64 0,.int .i64 0,.int .i64 0,.slice none 0 0] 129 (0,0))):=(xa _ _ _ _ y.out).trans (c.out.trans b.out);have q:=zb (h7.out 10 (.slice fa kk fc));have c8:m.cell? ⟨d,10,none⟩=some (.slice none 0 0):=by rw[za j.out.box];rfl
 have f8:=zf j.out.box 10;have e0:m.cell? ⟨d,0,none⟩=some (.int .i64 (Vn s 0:Int)):=by rw[za j.out.box];rfl
 have e1:m.cell? ⟨d,1,none⟩=some (.int .i64 (Vn s 1:Int)):=by rw[za j.out.box];rfl
 have e2:m.cell? ⟨d,2,none⟩=some (.int .i64 (Vn s 2:Int)):=by rw[za j.out.box];rfl
 have e3:m.cell? ⟨d,3,none⟩=some (.int .i64 (Vn s 3:Int)):=by rw[za j.out.box];rfl
 have e4:m.cell? ⟨d,4,none⟩=some (.int .i64 0):=by rw[za j.out.box];rfl
 have e5:m.cell? ⟨d,5,none⟩=some (.int .i64 (Vn s 4:Int)):=by rw[za j.out.box];rfl
 have e6:m.cell? ⟨d,6,none⟩=some (.int .i64 (Vn s 5:Int)):=by rw[za j.out.box];rfl
 have e7:m.cell? ⟨d,7,none⟩=some (.int .i64 (Vn s 6:Int)):=by rw[za j.out.box];rfl
 have e8:m.cell? ⟨d,8,none⟩=some (.int .i64 (Vn s 7:Int)):=by rw[za j.out.box];rfl
 have e9:m.cell? ⟨d,9,none⟩=some (.int .i64 0):=by rw[za j.out.box];rfl
 have r0:m.cell? ⟨w.heap.size,0,none⟩=some (.int .i64 0):=by rw[za (c.out.trans b.out)];rfl
 have r1:m.cell? ⟨w.heap.size,1,none⟩=some (.int .i64 0):=by rw[za (c.out.trans b.out)];rfl
 have r2:m.cell? ⟨w.heap.size,2,none⟩=some (.int .i64 0):=by rw[za (c.out.trans b.out)];rfl
 have r3:m.cell? ⟨w.heap.size,3,none⟩=some (.int .i64 0):=by rw[za (c.out.trans b.out)];rfl
 have r4:m.cell? ⟨w.heap.size,4,none⟩=some (.int .i64 0):=by rw[za (c.out.trans b.out)];rfl
 have r5:m.cell? ⟨w.heap.size,5,none⟩=some (.int .i64 0):=by rw[za (c.out.trans b.out)];rfl
 have r6:m.cell? ⟨w.heap.size,6,none⟩=some (.int .i64 0):=by rw[za (c.out.trans b.out)];rfl
 have r7:m.cell? ⟨w.heap.size,7,none⟩=some (.int .i64 0):=by rw[za (c.out.trans b.out)];rfl
 have r8:m.cell? ⟨w.heap.size,8,none⟩=some (.int .i64 0):=by rw[za (c.out.trans b.out)];rfl
 have r9:m.cell? ⟨w.heap.size,9,none⟩=some (.int .i64 0):=by rw[za (c.out.trans b.out)];rfl
 have j7:m.cell? ⟨w.heap.size,10,none⟩=some (.slice none 0 0):=by rw[za (c.out.trans b.out)];rfl
 have g0:=zf (c.out.trans b.out) 0;have g1:=zf (c.out.trans b.out) 1;have g2:=zf (c.out.trans b.out) 2;have g3:=zf (c.out.trans b.out) 3;have g4:=zf (c.out.trans b.out) 4;have g5:=zf (c.out.trans b.out) 5;have g6:=zf (c.out.trans b.out) 6;have g7:=zf (c.out.trans b.out) 7;have g8:=zf (c.out.trans b.out) 8;have g9:=zf (c.out.trans b.out) 9;have i9:=zf (c.out.trans b.out) 10;have k4:=y.out;have h4:Hid ((Vg s).1.length<=4194304):=by
  unfold Hid Vg jS;rw[lN];exact(gT (G.out 8).1 (show 0<9223372036854775808 by omega) (G.out 8).2).1
 have k9:kk<=4194304:=by rw[<-d0.out];exact h4.out
 clear l r c9 j c A b j1 h7 h4 j2 j3;by_cases j0:kk=0
 ·subst j0;have f9:Hid ((∀n∈(Vg s).2.1,n<9223372036854775808)/\(Vg s).2.1.length<=4194304):=by
   unfold Hid Vg jS;obtain⟨a1,a2,a3⟩:=gT (G.out 8).1 (show 0<9223372036854775808 by omega) (G.out 8).2;exact rH a2 (by omega) a3 _
  have d2:=zb (cN B.out.tk f9.out.1 f9.out.2);have HG:Hid (Vh s=Vf (Vg s).2):=by unfold Hid Vh;rw[d0.out,xd rfl]
  obtain⟨gt,sg,h5⟩:∃gt sg,Hid (Vf (Vg s).2=(gt,sg)):=⟨_,_,rfl⟩
  rw[h5.out]at d2 HG;have h0:Hid (Vj s=⟨Vn s 0,Vn s 1,Vn s 2,Vn s 3,gt,Vn s 4,Vn s 5,Vn s 6,Vn s 7,0,(Vg s).1⟩):=by unfold Hid Vj;rw[HG.out]
  clear f9 h5 e0 e1 e2 e3 e4 e5 e6 e7 e8 e9 r0 r1 r2 r3 r4 r5 r6 r7 r8 r9 j7 g0 g1 g2 g3 g4 g5 g6 g7 g8 g9 i9;go_wp2_with fail;obtain⟨y9,i8⟩:=UC (m.setCell ⟨d,10,none⟩ (.slice fa 0 fc));rw[<-i8.out]at d2 B C q ⊢;clear i8 c8 f8;refine(d2.out).mono ?_
  rintro e z ⟨rfl,b9,j4,j6⟩;have p:=zb (B.out.take b9 j6);have i:Hid (z.heap[w.heap.size]?=some (.cells #[.int .i64 0,.int .i64 0,.int .i64 0,.int .i64 0,.int .i64 0,.int .i64 0,.int .i64 0,.int .i64 0,.int .i64 0,.int .i64 0,.slice none 0 0] 129 (0,0))):=(b9.block w.heap.size (zc C.out) (by show ¬w.heap.size=t;omega)).trans C.out;have j8:Hid (Lq D t w (z.setCell ⟨d,4,none⟩ (.int .i64 gt)) d sg #[.int .i64 (Vn s 0:Int),.int .i64 (Vn s 1:Int),.int .i64 (Vn s 2:Int),.int .i64 (Vn s 3:Int),.int .i64 gt,.int .i64 (Vn s 4:Int),.int .i64 (Vn s 5:Int),.int .i64 (Vn s 6:Int),.int .i64 (Vn s 7:Int),.int .i64 0,.slice fa 0 fc]):=p.out.set 4 _;have h9:Hid ((z.setCell ⟨d,4,none⟩ (.int .i64 gt)).heap[w.heap.size]?=some (.cells #[.int .i64 0,.int .i64 0,.int .i64 0,.int .i64 0,.int .i64 0,.int .i64 0,.int .i64 0,.int .i64 0,.int .i64 0,.int .i64 0,.slice none 0 0] 129 (0,0))):=(xa _ _ _ _ k4).trans i.out;have h8:Hid ((z.setCell ⟨d,4,none⟩ (.int .i64 gt)).ownsRow w.heap.size 181 2 (.slice fa 0 fc) 0 (zx (Vg s).1)):=ze q.out (λg hg=>by
   have k3:=q.out.lt g hg;have k2:g≠d:=λe=>by
    obtain⟨cs,J⟩:=zi q.out hg;rw[e,B.out.box]at J;simp at J
   exact(xa _ _ _ _ k2).trans (b9.block g k3.2 (by show ¬g=t;omega)))
  have f4:=zf p.out.box 4;have e0:z.cell? ⟨d,0,none⟩=some (.int .i64 (Vn s 0:Int)):=by rw[za p.out.box];rfl
  have e1:z.cell? ⟨d,1,none⟩=some (.int .i64 (Vn s 1:Int)):=by rw[za p.out.box];rfl
  have e2:z.cell? ⟨d,2,none⟩=some (.int .i64 (Vn s 2:Int)):=by rw[za p.out.box];rfl
  have e3:z.cell? ⟨d,3,none⟩=some (.int .i64 (Vn s 3:Int)):=by rw[za p.out.box];rfl
  have e4:z.cell? ⟨d,4,none⟩=some (.int .i64 0):=by rw[za p.out.box];rfl
  have e5:z.cell? ⟨d,5,none⟩=some (.int .i64 (Vn s 4:Int)):=by rw[za p.out.box];rfl
  have e6:z.cell? ⟨d,6,none⟩=some (.int .i64 (Vn s 5:Int)):=by rw[za p.out.box];rfl
  have e7:z.cell? ⟨d,7,none⟩=some (.int .i64 (Vn s 6:Int)):=by rw[za p.out.box];rfl
  have e8:z.cell? ⟨d,8,none⟩=some (.int .i64 (Vn s 7:Int)):=by rw[za p.out.box];rfl
  have e9:z.cell? ⟨d,9,none⟩=some (.int .i64 0):=by rw[za p.out.box];rfl
  have k8:z.cell? ⟨d,10,none⟩=some (.slice fa 0 fc):=by rw[za p.out.box];rfl
  have r0:z.cell? ⟨w.heap.size,0,none⟩=some (.int .i64 0):=by rw[za i.out];rfl
  have g0:=zf i.out 0;have r1:z.cell? ⟨w.heap.size,1,none⟩=some (.int .i64 0):=by rw[za i.out];rfl
  have g1:=zf i.out 1;have r2:z.cell? ⟨w.heap.size,2,none⟩=some (.int .i64 0):=by rw[za i.out];rfl
  have g2:=zf i.out 2;have r3:z.cell? ⟨w.heap.size,3,none⟩=some (.int .i64 0):=by rw[za i.out];rfl
  have g3:=zf i.out 3;have r4:z.cell? ⟨w.heap.size,4,none⟩=some (.int .i64 0):=by rw[za i.out];rfl
  have g4:=zf i.out 4;have r5:z.cell? ⟨w.heap.size,5,none⟩=some (.int .i64 0):=by rw[za i.out];rfl
  have g5:=zf i.out 5;have r6:z.cell? ⟨w.heap.size,6,none⟩=some (.int .i64 0):=by rw[za i.out];rfl
  have g6:=zf i.out 6;have r7:z.cell? ⟨w.heap.size,7,none⟩=some (.int .i64 0):=by rw[za i.out];rfl
  have g7:=zf i.out 7;have r8:z.cell? ⟨w.heap.size,8,none⟩=some (.int .i64 0):=by rw[za i.out];rfl
  have g8:=zf i.out 8;have r9:z.cell? ⟨w.heap.size,9,none⟩=some (.int .i64 0):=by rw[za i.out];rfl
  have g9:=zf i.out 9;have j7:z.cell? ⟨w.heap.size,10,none⟩=some (.slice none 0 0):=by rw[za i.out];rfl
  have i9:=zf i.out 10;clear b9 j4 j6 B C q d2;go_wp2_with fail;obtain⟨W,hW,b1,b2,b3,b4,b5,b6⟩:=Bm (z.setCell ⟨d,4,none⟩ (.int .i64 gt)) w.heap.size 129 _ _ _ _ _ _ _ _ _ _ _ h9.out (.int .i64 (Vn s 0:Int)) (.int .i64 (Vn s 1:Int)) (.int .i64 (Vn s 2:Int)) (.int .i64 (Vn s 3:Int)) (.int .i64 gt) (.int .i64 (Vn s 4:Int)) (.int .i64 (Vn s 5:Int)) (.int .i64 (Vn s 6:Int)) (.int .i64 (Vn s 7:Int)) (.int .i64 0) (.slice fa 0 fc);rw[<-hW];clear hW;refine bodyPost_ret (results_cell_row rfl _ _ w.heap.size 129 _ (0,0) _ rfl b1 Tryz.underlying129 rfl (by kernel_rfl)) rfl ?_
  have hq:=j8.out;have E:=zb b2;clear b1;refine⟨⟨b4.trans hq.kp.os,b5.trans hq.kp.tape,b6.trans hq.kp.output,by rw[b3];exact hq.kp.size,λk l hz=>(E.out k (by omega)).trans (hq.kp.block k l hz)⟩,?_,.slice fa 0 fc,?_,?_⟩
  ·rw[HG.out];exact hq.tk.congr (by rw[b3];exact xc _) (E.out t (by omega)) (E.out D (by omega))
  ·rw[h0.out];rfl
  rw[d0.out];refine ze h8.out (λg hg=>E.out g (λe=>?_));obtain⟨cs,J⟩:=zi h8.out hg;rw[e,h9.out]at J;simp at J
 have HG:Hid (Vh s=(0,(Vg s).2)):=by unfold Hid Vh;rw[d0.out,xe j0]
 have l0:((kk:Int)==0)=false:=by rw[xr];omega
 have h0:Hid (Vj s=⟨Vn s 0,Vn s 1,Vn s 2,Vn s 3,0,Vn s 4,Vn s 5,Vn s 6,Vn s 7,0,(Vg s).1⟩):=by unfold Hid Vj;rw[HG.out]
 go_wp2_with fail;obtain⟨W,hW,b1,b2,b3,b4,b5,b6⟩:=Bm (m.setCell ⟨d,10,none⟩ (.slice fa kk fc)) w.heap.size 129 _ _ _ _ _ _ _ _ _ _ _ C.out (.int .i64 (Vn s 0:Int)) (.int .i64 (Vn s 1:Int)) (.int .i64 (Vn s 2:Int)) (.int .i64 (Vn s 3:Int)) (.int .i64 0) (.int .i64 (Vn s 4:Int)) (.int .i64 (Vn s 5:Int)) (.int .i64 (Vn s 6:Int)) (.int .i64 (Vn s 7:Int)) (.int .i64 0) (.slice fa kk fc)
 rw[<-hW];clear hW;refine bodyPost_ret (results_cell_row rfl _ _ w.heap.size 129 _ (0,0) _ rfl b1 Tryz.underlying129 rfl (by kernel_rfl)) rfl ?_
 have hq:=B.out;have E:=zb b2;clear b1;refine⟨⟨b4.trans hq.kp.os,b5.trans hq.kp.tape,b6.trans hq.kp.output,by rw[b3];exact hq.kp.size,λk l hz=>(E.out k (by omega)).trans (hq.kp.block k l hz)⟩,?_,.slice fa kk fc,?_,?_⟩
 ·rw[HG.out];exact hq.tk.congr (by rw[b3];exact xc _) (E.out t (by omega)) (E.out D (by omega))
 ·rw[h0.out];rfl
 rw[d0.out];refine ze q.out (λg hg=>E.out g (λe=>?_));obtain⟨cs,J⟩:=zi q.out hg;rw[e,C.out]at J;simp at J
