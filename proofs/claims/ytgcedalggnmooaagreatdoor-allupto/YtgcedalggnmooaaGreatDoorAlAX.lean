import Derived.Test.YtgcedalggnmooaaGreatDoorOppX
set_option linter.all false
set_option maxRecDepth 100000
set_option maxHeartbeats 1600000
namespace Go.Proofs.YtgcedalggnmooaaGreatDoor
open Go.RowKit
open Value renaming int->Y,pointer->vd,string->vf
open IntKind renaming i64->V
open Option renaming none->U,some->vb
open Ending renaming returned->ve
open Tryz
variable {N N' Q:Nat}{Z0:Nat->Prop}{w w' w0:World}
def InvS.here(h:InvS Z0 w0 w Q N):InvS (λk=>Zn Z0 w0 k/\k<w.heap.size) w w Q N:=by
 obtain⟨a,c,d,e,l,R,m,n,td,ls,os,rj,i,j,p,r,f,g,s⟩:=h;exact⟨Kp.refl _ w,λk b=>b.elim (λq=>c k q.1) (xi d.2.2),d,Or.inl ⟨e,zc j⟩,l,R,m,n,td,ls,os,rj,i,j,p,r,λk b=>⟨Or.inl ⟨(f k b).1,(f k b).2.1⟩,(f k b).2⟩,λk b=>⟨Or.inl ⟨(g k b).1,(g k b).2.1⟩,(g k b).2⟩,s⟩
def InvS.keep{Z Z':Nat->Prop}(h:InvS Z w w Q N)(g:Kp Z' w w')(hd:∀k,Z k->¬Z' k)(x:∀k,Z' k->4<=k):InvS Z w' w' Q N:=by
 obtain⟨a,c,d,e,p,R,r,s,td,ls,os,rj,n,j,t,u,b,f,v⟩:=h;have i:∀k,Zn Z w k->k<w.heap.size->Z k:=λk q l=>q.elim id (λq=>absurd l (by omega))
 have m:∀k,Zn Z w k->k<w.heap.size->w'.heap[k]?=w.heap[k]?:=λk q l=>g.block k l (hd k (i k q l))
 have ne:∀k,k<4->¬Z' k:=λk l q=>by have:=x k q;omega
 exact⟨Kp.refl _ w',λk q=>q.elim (λq=>c k (Or.inl q)) (λq=>xi d.2.2 (xi g.size q)),d.kp g (ne _ (by omega)) (ne _ (by omega)),Or.inl (i Q e (zc j)),p,R,r,s,td,ls,os,rj,n,(m Q e (zc j)).trans j,
  t.congr (λk q=>m k (b k q).1 (b k q).2.1),u.congr (λk q=>m k (f k q).1 (f k q).2.1),
  λk q=>⟨Or.inl (i k (b k q).1 (b k q).2.1),xl (b k q).2.1 g.size,(b k q).2.2⟩,λk q=>⟨Or.inl (i k (f k q).1 (f k q).2.1),xl (f k q).2.1 g.size,(f k q).2.2⟩,v⟩
structure InvA(w0 w:World)(Qs:List Nat)(Zs:Nat->Nat->Prop)(N:Nat):Prop where
 old:Below w0.heap.size w0 w
 two:4<=w0.heap.size
 gl:Gl w
 each:∀i,i<Qs.length->InvS (Zs i) w w (Qs.getD i 0) N
 apart:∀i j k,i<Qs.length->j<Qs.length->i≠j->Zs i k->¬Zs j k
 inn:∀i k,i<Qs.length->Zs i k->w0.heap.size<=k/\k<w.heap.size
def InvA.keep{e w w':World}{c:List Nat}{d:Nat->Nat->Prop}{N:Nat}{Z':Nat->Prop}(h:InvA e w c d N)(a:Kp Z' w w')(hd:∀k,Z' k->e.heap.size<=k/\∀i,i<c.length->¬d i k):InvA e w' c d N:={
 old:=h.old.trans ⟨a.os,a.tape,a.output,a.size,λk f=>a.block k (xl f h.old.size) (λq=>by have:=(hd k q).1;omega)⟩
 two:=h.two
 gl:=h.gl.kp a (λq=>by have:=(hd _ q).1;have:=h.two;omega) (λq=>by have:=(hd _ q).1;have:=h.two;omega)
 each:=λi b=>(h.each i b).keep a (λk q g=>(hd k g).2 i b q) (λk q=>xi h.two (hd k q).1)
 apart:=h.apart
 inn:=λi k b q=>⟨(h.inn i k b q).1,xl (h.inn i k b q).2 a.size⟩}
variable {Qs:List Nat}{Zs:Nat->Nat->Prop}
def InvA.below(h:InvA w0 w Qs Zs N)(a:Below w.heap.size w w'):InvA w0 w' Qs Zs N:=h.keep (Z':=Wj) (WT a) (λ_ q=>q.elim)
def InvA.play{j:Nat}(h:InvA w0 w Qs Zs N)(r:j<Qs.length)(c:InvS (Zs j) w w' (Qs.getD j 0) N')(hN:N<=N'):InvA w0 w' Qs (λi=>if i=j then λk=>Zn (Zs j) w k/\k<w'.heap.size else Zs i) N':={
 old:=h.old.trans ⟨c.old.os,c.old.tape,c.old.output,c.old.size,λk s=>c.old.block k (xl s h.old.size) (λq=>by have:=(h.inn j k r q).1;omega)⟩
 two:=h.two
 gl:=c.gl
 each:=λi g=>by
  by_cases e:i=j
  ·subst e;simp only[YX];exact c.here
  simp only[xg e];exact((h.each i g).keep c.old (λk q f=>h.apart i j k g r e q f) (λk q=>c.two k (Or.inl q))).grow hN
 apart:=λa b k m n d=>by
  by_cases e:a=j
  ·subst e;simp only[YX,xg (YM d)];rintro⟨q|q,_⟩ f
   ·exact h.apart a b k m n d q f
   have:=(h.inn b k n f).2;omega
  by_cases p:b=j
  ·subst p;simp only[YX,xg e];rintro f ⟨q|q,_⟩
   ·exact h.apart a b k m n d f q
   have:=(h.inn a k m f).2;omega
  simp only[xg e,xg p];exact h.apart a b k m n d
 inn:=λi k g=>by
  by_cases e:i=j
  ·subst e;simp only[YX];rintro⟨q|q,l⟩
   ·exact⟨(h.inn i k g q).1,l⟩
   exact⟨xi h.old.size q,l⟩
  simp only[xg e];intro q;exact⟨(h.inn i k g q).1,xl (h.inn i k g q).2 c.old.size⟩}
def InvA.push(h:InvA w0 w Qs Zs N)(m:InvS Wj w w' Q N')(hN:N<=N'):InvA w0 w' (Qs++[Q]) (λi=>if i=Qs.length then λk=>Zn Wj w k/\k<w'.heap.size else Zs i) N':=by
 have g:=h.below m.old.bel;have u:(Qs++[Q]).length=Qs.length+1:=by simp
 refine⟨g.old,h.two,m.gl,λi s=>?_,λa b k t r c=>?_,λi k s=>?_⟩
 ·by_cases e:i=Qs.length
  ·subst e;simp only[YX];rw[show(Qs++[Q]).getD Qs.length 0=Q by simp[WI]];exact m.here
  have d:i<Qs.length:=by omega
  simp only[xg e];rw[show(Qs++[Q]).getD i 0=Qs.getD i 0 by rw[WI,yj d,WI]];exact(g.each i d).grow hN
 ·by_cases e:a=Qs.length
  ·subst e;have j:b<Qs.length:=by omega
   simp only[YX,xg (YM c)];rintro⟨q|q,_⟩ n
   ·exact q.elim
   have:=(h.inn b k j n).2;omega
  by_cases p:b=Qs.length
  ·subst p;have f:a<Qs.length:=by omega
   simp only[YX,xg e];rintro n ⟨q|q,_⟩
   ·exact q.elim
   have:=(h.inn a k f n).2;omega
  simp only[xg e,xg p];exact h.apart a b k (by omega) (by omega) c
 by_cases e:i=Qs.length
 ·subst e;simp only[YX];rintro⟨q|q,l⟩
  ·exact q.elim
  exact⟨xi h.old.size q,l⟩
 simp only[xg e];exact g.inn i k (by omega)
def Mk:prog.underlying 36=vb (.slice 23):=by kernel_rfl
def NT:(prog.info? 23).map (λi=>(i.zero,i.size,i.bytes))=vb (vb (vd U),1,8):=by kernel_rfl
def BL(c:Int)(f:VP c)(n:Nat)(d:0<n)(i:n<=100000000)(w:World):Calls prog 20 #[Y V c,Y V n] w λe w'=>e=ve (Y V (pk c n:Int))/\w'=w:=by
 obtain⟨j,k⟩:=f;have a:=zb (UX c d);have g:=tP c d;by_cases h:c<0
 ·rw[xh h]at a;have b:Ha (-(Int.tmod (c+1) (n:Int))=(pk c n:Int)):=by unfold Ha;rw[<-Int.neg_tmod,xbn (by omega),a.o]
  generalize pk c n=p at *;go_enter func20,ntmps20;go_wp2_with fail;go_ret;exact⟨by rw[b.o];rfl,rfl⟩
 rw[xg h]at a;have b:Ha (Int.tmod c (n:Int)=(pk c n:Int)):=by unfold Ha;rw[xbn (by omega),a.o]
 generalize pk c n=p at *;go_enter func20,ntmps20;go_wp2_with fail;go_ret;exact⟨by rw[a.o];rfl,rfl⟩
def Lh(h:InvS Z0 w0 w Q N)(a x y:Int)(s:ByteArray)(b:a≠1)(c:a≠2)(d:a≠3):Calls prog 17 #[vd (vb ⟨Q,0,U⟩),.agg #[Y V a,Y V x,Y V y,vf s]] w λe w'=>e=ve (.bool true)/\InvS Z0 w0 w' Q N:=by
 have f:=zb (h.below (Wm w (.cells #[Y V a,Y V x,Y V y,vf s] 29)));have k:(w.alloc (.cells #[Y V a,Y V x,Y V y,vf s] 29)).cell? ⟨w.heap.size,0,U⟩=vb (Y V a):=by rw[za (xq w _)];rfl
 have g:(a==1)=false:=xr.2 b;have i:(a==2)=false:=xr.2 c;have j:(a==3)=false:=xr.2 d;clear h b c d;go_enter func17,ntmps17;go_wp2_with fail;go_ret;exact⟨rfl,f.o⟩
def OJ(h:InvS Z0 w0 w Q N)(hN:N<=35184372088832)(g:100000<=N)(a x y:Int)(s:ByteArray)(f:s.size<=4194295):Calls prog 17 #[vd (vb ⟨Q,0,U⟩),.agg #[Y V a,Y V x,Y V y,vf s]] w λe w'=>e=ve (.bool true)/\InvS Z0 w0 w' Q (N+(s.size+13)):=by
 by_cases b:a=1
 ·subst b;exact Hs h hN x y s f
 by_cases c:a=2
 ·subst c;exact(lV h x y s).mono λe w' q=>⟨q.1,q.2.grow (by omega)⟩
 by_cases d:a=3
 ·subst d;exact(Hr h x y s).mono λe w' q=>⟨q.1,q.2.grow (by omega)⟩
 exact(Lh h a x y s b c d).mono λe w' q=>⟨q.1,q.2.grow (by omega)⟩
def XT(ss:Nat->ByteArray):Nat->Nat
 |0=>100000
 |k+1=>XT ss k+((ss k).size+13)
def Qk(a:Nat->ByteArray):∀k,100000<=XT a k
 |0=>xe _
 |k+1=>by have:=Qk a k;simp only[XT];omega
def Ql(a:Nat->ByteArray){k:Nat}:∀{n:Nat},k<=n->XT a k<=XT a n
 |0,h=>by rw[Nat.le_zero.1 h];exact xe _
 |n+1,h=>by
  by_cases e:k=n+1
  ·rw[e];exact xe _
  have:=Ql a (k:=k) (n:=n) (by omega);simp only[XT];omega
structure AlI(w0 w:World)(l:Value)(Qs:List Nat)(Zs:Nat->Nat->Prop)(N:Nat):Prop where
 inv:InvA w0 w Qs Zs N
 pos:0<Qs.length
 row:w.ownsRow w0.heap.size 23 1 l Qs.length (aW Qs)
 far:∀g,l.ownBlock=vb g->∀i,i<Qs.length->¬Zs i g
def AlI.play{p w w':World}{l:Value}{b:List Nat}{f:Nat->Nat->Prop}{N c j:Nat}(h:AlI p w l b f N)(m:j<b.length)(n:InvS (f j) w w' (b.getD j 0) c)(hN:N<=c):∃d,AlI p w' l b d c :=
 ⟨_,h.inv.play m n hN,h.pos,zd h.row (λg a=>n.old.block g (h.row.lt g a).2 (h.far g a j m)),λg a i k=>by
  by_cases e:i=j
  ·subst e;simp only[YX];rintro⟨q|q,_⟩
   ·exact h.far g a i k q
   have:=(h.row.lt g a).2;omega
  simp only[xg e];exact h.far g a i k⟩
def AlI.push{m w w' w1 w2:World}{l v':Value}{a:List Nat}{n:Nat->Nat->Prop}{N d Q:Nat}(h:AlI m w l a n N)(t:InvS Wj w w' Q d)(hN:N<=d)(r:Below w'.heap.size w' w1)(v:w1.grownBy w2 l.ownBlock)
  (b:w2.ownsRow m.heap.size 23 1 v' (a.length+1) (aW a++[vd (vb ⟨Q,0,U⟩)])) (j:∀g,v'.ownBlock=vb g->l.ownBlock=vb g\/w1.heap.size<=g):∃f,AlI m w2 v' (a++[Q]) f d:=by
 have p:=h.inv.push t hN;have y:=t.old.size;have s:∀g,l.ownBlock=vb g->∀i,i<(a++[Q]).length->¬(if i=a.length then λk=>Zn Wj w k/\k<w'.heap.size else n i) g:=λg q i c=>by
  have x:=(h.row.lt g q).2;by_cases e:i=a.length
  ·simp only[xh e];rintro⟨z|z,_⟩
   ·exact z.elim
   omega
  simp only[xg e];exact h.far g q i (by rw[xc,XX]at c;omega)
 refine⟨_,(p.below r).keep (Z':=λk=>l.ownBlock=vb k) ((Kp.refl _ _).grown v (λk q=>Or.inl q)) (λk q=>⟨(h.row.lt k q).1,s k q⟩),by simp,?_,λg q i c z=>?_⟩
 ·rw[xc,XX,show aW (a++[Q])=aW a++[vd (vb ⟨Q,0,U⟩)] by simp[aW]];exact b
 rcases j g q with u|u
 ·exact s g u i c z
 have:=(p.inn i g c z).2
 have:=r.size
 omega
def AlI.below{d w w':World}{l:Value}{a:List Nat}{b:Nat->Nat->Prop}{N:Nat}(h:AlI d w l a b N)(c:Below w.heap.size w w'):AlI d w' l a b N:=⟨h.inv.below c,h.pos,zd h.row (λg e=>c.block g (h.row.lt g e).2),h.far⟩
def AlI.one{w1:World}{v:Value}(h:InvS Wj w0 w Q 0)(d:Gl w0)(j:Below w.heap.size w w1)(a:w1.ownsRow w.heap.size 23 1 v 1 [vd (vb ⟨Q,0,U⟩)]):∃e,AlI w0 w1 v [Q] e 100000:=by
 have f:InvA w0 w0 [] (λ_=>Wj) 100000:=⟨xm _ _,d.2.2,d,λi b=>absurd b (by simp),λi _ _ b=>absurd b (by simp),λi _ b=>absurd b (by simp)⟩
 have c:=f.push (h.grow (Nat.zero_le 100000)) (xe _);refine⟨_,c.below j,by simp,eC a h.old.size,λg q i b z=>?_⟩;have k:=(c.inn i g b z).2;have l:=(a.lt g q).1;omega
def InvS.rcd(h:InvS Z0 w0 w Q N):∃R a,w.cell? ⟨Q,1,U⟩=vb (vd (vb ⟨R,0,U⟩))/\w.cell? ⟨R,4,U⟩=vb (vf a)/\a.size<=N:=by
 obtain⟨e,R,f,g,td,ls,os,rj,a,b,_,c,_,_,d,_⟩:=h.both;exact⟨R,a,by rw[za b];rfl,c.good.2.2.2.2.1,d⟩
def Qr(ao:Option Addr)(len cap:Nat)(X:Nat->Nat->Int)(E:Nat->ByteArray)(D:∀j,j<len->∀f,f<3->VP (X j f))(d8:len<=4194304)(a4:XT E len<=4194295)(w:World)(hg:Gl w)(hm:GmU w.heap.size w)
  (ho:0<len->∃b x,ao=vb ⟨b,x,U⟩/\b<w.heap.size/\∀j,j<len->(∀f,f<3->w.cell? ⟨b,x+j*4+f,U⟩=vb (Y V (X j f)))/\w.cell? ⟨b,x+j*4+3,U⟩=vb (vf (E j))) :
  Calls prog 10 #[.slice ao len cap] w λe w'=>e=ve (.bool true)/\Below w.heap.size w w':=by
 obtain⟨i0,hi,b9,c6,c7⟩:=Yc NT;have HM:=zb hm;have HG:=zb hg;have HO:=zb ho;clear hm ho;go_enter func10,ntmps10;go_wp2_with (go_at_call 15;refine(tT _ hg).mono ?_;rintro e w1 ⟨Q,rfl,a2⟩);clear hg;go_loopw [3,4,5,6,7,8] (λ_ ok l i _ _ wr=>∃(k:Nat) (A:List Nat) (Zs:Nat->Nat->Prop),k<=len/\ok=.bool true/\i=Y V k/\A.length<=k+1/\AlI w wr l A Zs (XT E k)) (λ_ _ _ i _ _ _=>len-(intOf i).toNat)
 case atStart=>
  obtain⟨Zs,hz⟩:=AlI.one a2 HG.o (Wm w1 _) (YE w1 #[vd (vb ⟨Q,0,U⟩)] 1 (xe _) (by unfold maxLen;omega) rfl);exact⟨0,[Q],Zs,Nat.zero_le _,rfl,rfl,xe _,hz⟩
 clear a2;obtain⟨k,A,Zs,hk,rfl,rfl,a1,a⟩:=hrel;obtain⟨g,lc,rfl,e3,e4⟩:=zN a.row a.pos;by_cases a0:k<len
 ·obtain⟨b,x,rfl,hb,hc⟩:=HO.o (by omega);clear HO;obtain⟨Z,b6⟩:=hc k a0;have c0:wr.cell? ⟨b,x+k*4,U⟩=vb (Y V (X k 0)):=(a.inv.old.cell (p:=⟨b,x+k*4+0,U⟩) hb).trans (Z 0 (by omega));have c1:=(a.inv.old.cell (p:=⟨b,x+k*4+1,U⟩) hb).trans (Z 1 (by omega));have c2:=(a.inv.old.cell (p:=⟨b,x+k*4+2,U⟩) hb).trans (Z 2 (by omega));have c3:=(a.inv.old.cell (p:=⟨b,x+k*4+3,U⟩) hb).trans b6;have a8:=D k a0 1 (by omega);have b7:=D k a0 2 (by omega);obtain⟨m,c⟩:=Xc A.length;have a3:0<m:=by rw[c.o];exact a.pos
  have d3:m<=k+1:=by rw[c.o];exact a1
  have G:=zb (BL (X k 2) b7 m a3 (by omega) wr);have hj:=tP (X k 2) a3;generalize pk (X k 2) m=j at *;have y:wr.cell? ⟨g,j,U⟩=vb (vd (vb ⟨A.getD j 0,0,U⟩)):=by
   rw[a.row.cellAt j (by rw[<-c.o];omega)];have:j<A.length:=by rw[<-c.o];exact hj
   simp[aW,WI,this]
  have HS:Ha (XT E (k+1)=XT E k+((E k).size+13)):=rfl;have HT:Ha (XT E (k+1)<=4194295):=xi (Ql E (by omega)) a4;have c8:=zb (Qk E k);have F:=zb (a.inv.each j (by rw[<-c.o];exact hj));have t:=zb a;generalize E k=s at *;generalize X k 0=kd at *;generalize X k 1=xa at *;generalize X k 2=xb at *;obtain⟨q,HQ⟩:=Xc (A.getD j 0);rw[<-HQ.o]at y F;rw[<-c.o]at t ⊢;clear hc D Z b6 a b7 a1 a4;by_cases h5:kd=5
  ·subst h5;go_wp2_with (go_at_call 20;refine(G.o).mono ?_;rintro e w3 ⟨rfl,hw⟩;have W:=hw.symm;subst W;clear hw);refine(tT _ t.o.inv.gl).mono ?_
   rintro e H ⟨Q4,rfl,r⟩;have J:=zb (r.grow (Nat.zero_le (XT E (k+1))));have z:=zb r.old.bel;clear r c0 c1 c2 c3 y G F;go_wp2_with (at_builtin;refine xal _ rfl _ _ 36 rfl w.heap.size 23 i0 (vd U) 1 8 Mk hi b9 c6 c7 rfl (by decide) _ m (aW A) rfl ?r1 ⟨H.heap.size,0,U⟩ 1 1 [vd (vb ⟨Q4,0,U⟩)] rfl rfl ?r3 ?r4 (by decide) ?r5 ?r6 ?r7 _ rfl ?_)
   case r1=>have:=λo=>(t.o.below (z.o.trans ((Wm H o).mono z.o.size))).row;rw[<-c.o]at this;exact this _
   case r3=>exact ZD _ _ _
   case r4=>intro u hu;simp at hu;subst hu;rfl
   case r5=>unfold maxLen;omega
   case r6=>omega
   case r7=>have h1:=z.o.size;have h2:=t.o.inv.old.size;simp;omega
   intro g5 c5 w5 T P B S;obtain⟨N,v⟩:=t.o.push J.o (by rw[HS.o];omega) (Wm H _) P (by rw[<-c.o];exact T) (λg' a6=>by cases a6;exact B.imp id (λq=>xcQ (by simp[q])));have K:=zb v;clear T P B S v J z t;go_wp2_with fail;go_roundw
   case rel=>exact⟨k+1,A++[Q4],N,by omega,rfl,by go_num,by rw[xc,<-c.o];simp;omega,K.o⟩
   simp[intOf];omega
  by_cases h4:kd=4
  ·subst h4;obtain⟨R,d,d1,d4,b8⟩:=F.o.rcd;have e6:d.size<=4194295:=by have:=HT.o;rw[HS.o]at this;omega
   have b2:Ha (∀w2,Calls prog 20 #[Y V xa,Y V ((d.size:Int)+1)] w2 λe w'=>e=ve (Y V (pk xa (d.size+1):Int))/\w'=w2):=BL xa a8 (d.size+1) (by omega) (by omega);have d6:IntKind.i64.wrap ((d.size:Int)+1)=(d.size:Int)+1:=by rw[xbY];exact bI _ ⟨by omega,by omega⟩
   have d0:=tP xa (n:=d.size+1) (by omega);generalize pk xa (d.size+1)=i2 at *;have c9:=zb b8;have e0:(0:Int)<=(i2:Int):=by omega
   have e1:(i2:Int)<=(d.size:Int):=by omega
   have d2:(d.extract 0 i2++s).size<=d.size+s.size:=by rw[ByteArray.size_append,Ya];omega
   have a5:Ha ((d.extract 0 i2++s).size<=XT E (k+1)):=by unfold Ha;rw[HS.o];omega
   have C:=zb (t.o.below (aF wr));have b1:=zb (DL (d.extract 0 i2++s) (xi a5.o HT.o) wr.drew C.o.inv.gl (HM.o.up C.o.inv.old C.o.inv.old.size));have d7:(d.extract 0 i2).size<=4194295:=by rw[Ya];omega
   have d5:s.size<=4194295:=by have:=HT.o;rw[HS.o]at this;omega
   have d9:¬(9223372036854775807<min i2 d.size+s.size):=by omega
   have e2:¬(9223372036854775807<min i2 d.size-0+s.size):=by omega
   have a9:Ha (b<wr.heap.size):=xl hb t.o.inv.old.size;clear d0 b8 h5 a8 d2;go_wp2_with (go_at_call 20;with_reducible refine(G.o).mono ?_;rintro e w3 ⟨rfl,hw⟩;have W:=hw.symm;subst W;clear hw);go_region_held3 (λw'=>w'.cell? ⟨b,x+k*4+1,U⟩=vb (Y V xa)/\w'.cell? ⟨b,x+k*4+3,U⟩=vb (vf s)) (go_keep)
    (first
     |(go_at_call 20;with_reducible refine(b2.o _).mono ?_;rintro e w3 ⟨rfl,rfl⟩)
     |(go_at_call 19;refine(b1.o).mono ?_;rintro e H ⟨Q4,rfl,r⟩;have c1:=(r.old.bel.cell (p:=⟨b,x+k*4+1,U⟩) a9.o).trans c1;have c3:=(r.old.bel.cell (p:=⟨b,x+k*4+3,U⟩) a9.o).trans c3))
   have J:=zb (r.grow a5.o);have z:=zb r.old.bel;clear r c0 c1 c2 c3 y G b2 b1 F c9 a5 d1 d4 e0 e1 d7 d5 d6;go_wp2_with (at_builtin;refine xal _ rfl _ _ 36 rfl w.heap.size 23 i0 (vd U) 1 8 Mk hi b9 c6 c7 rfl (by decide) _ m (aW A) rfl ?r1 ⟨H.heap.size,0,U⟩ 1 1 [vd (vb ⟨Q4,0,U⟩)] rfl rfl ?r3 ?r4 (by decide) ?r5 ?r6 ?r7 _ rfl ?_)
   case r1=>have:=λo=>(C.o.below (z.o.trans ((Wm H o).mono z.o.size))).row;rw[<-c.o]at this;exact this _
   case r3=>exact ZD _ _ _
   case r4=>intro u hu;simp at hu;subst hu;rfl
   case r5=>unfold maxLen;omega
   case r6=>omega
   case r7=>have h1:=z.o.size;have h2:=C.o.inv.old.size;simp;omega
   intro g5 c5 w5 T P B S;obtain⟨N,v⟩:=C.o.push J.o (by rw[HS.o];omega) (Wm H _) P (by rw[<-c.o];exact T) (λg' a6=>by cases a6;exact B.imp id (λq=>xcQ (by simp[q])));have K:=zb v;clear T P B S v J z t C;go_wp2_with fail;go_roundw
   case rel=>exact⟨k+1,A++[Q4],N,by omega,rfl,by go_num,by rw[xc,<-c.o];simp;omega,K.o⟩
   simp[intOf];omega
  have b5:(kd==5)=false:=xr.2 h5;have b4:(kd==4)=false:=xr.2 h4;have M:=zb (OJ F.o (by have:=HT.o;rw[HS.o]at this;omega) c8.o kd xa xb s (by have:=HT.o;rw[HS.o]at this;omega));clear h5 h4 a8 F;go_wp2_with (first|(go_at_call 20;with_reducible refine(G.o).mono ?_;rintro e w3 ⟨rfl,hw⟩;have W:=hw.symm;subst W;clear hw)|(go_at_call 17;with_reducible refine(M.o).mono ?_;rintro e H ⟨rfl,r⟩));obtain⟨N,v⟩:=t.o.play (by rw[<-c.o];exact hj) (by rw[<-HQ.o];exact r) (xcE _ _);rw[<-HS.o]at v;have K:=zb v;clear v r t M G c0 c1 c2 c3 y;go_roundw
  case rel=>exact⟨k+1,A,N,by omega,rfl,by go_num,by rw[<-c.o];omega,K.o⟩
  simp[intOf];omega
 obtain rfl:k=len:=by omega
 obtain⟨m,c⟩:=Xc A.length;have d3:m<=k+1:=by rw[c.o];exact a1
 rw[<-c.o]at a ⊢;have t:=zb a;clear HO D a0 a a1;go_wp2_with fail;go_loopw [4,9] (λok i w2=>∃(j:Nat) (Zs:Nat->Nat->Prop),j<=m/\ok=.bool true/\i=Y V j/\AlI w w2 (.slice (vb ⟨g,0,U⟩) m lc) A Zs (XT E k)) (λ_ i _=>m-(intOf i).toNat)
 case atStart=>exact⟨0,Zs,Nat.zero_le _,rfl,rfl,t.o⟩
 clear t;obtain⟨j,Zj,e5,rfl,rfl,a⟩:=hrel;by_cases hj:j<m
 ·have y:wr.cell? ⟨g,j,U⟩=vb (vd (vb ⟨A.getD j 0,0,U⟩)):=by
   have hr:=a.row;rw[<-c.o]at hr;rw[hr.cellAt j (by omega)];have:j<A.length:=by rw[<-c.o];exact hj
   simp[aW,WI,this]
  have a7:j<A.length:=by rw[<-c.o];exact hj
  have M:=zb (lV (a.inv.each j a7) 0 0 ⟨#[]⟩);have b0:=zb (λH (h:InvS (Zj j) wr H (A.getD j 0) (XT E k))=>a.play a7 h (xe _));clear a a7;generalize A.getD j 0=q at *;go_wp2_with (go_at_call 17;with_reducible refine(M.o).mono ?_;rintro e H ⟨rfl,r⟩);obtain⟨Z4,b3⟩:=b0.o H r;clear r b0 M y;go_roundw
  case rel=>exact⟨j+1,Z4,by omega,rfl,by go_num,b3⟩
  simp[intOf];omega
 have HB:=zb a.inv.old;obtain rfl:j=m:=by omega
 clear a;go_wp2_with fail;go_ret;exact⟨rfl,HB.o⟩
