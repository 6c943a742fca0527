import Derived.Test.YtgcedalggnmooaaGreatDoorFaX
import Derived.Test.YtgcedalggnmooaaGreatDoorEn0X
set_option linter.all false
set_option maxRecDepth 100000
set_option maxHeartbeats 6400000
namespace Go.Proofs.YtgcedalggnmooaaGreatDoor
open Go.RowKit
open Tryz
structure PR(N:Nat)(os:List O)(rj:List (Nat×Nat))(w:World)(S:Nat)(M:Mx)(v:Value)(td:Nat)(bs:List Nat)(pvs:List Value)(ls:List L):Prop where
 pw:PW N w S v bs pvs ls
 sb:Sb w S td v M
 mp:Mp os rj w M
structure Zo(Z:Nat->Prop)(b:Nat):Prop where
 low:∀k,Z k->NU<=k
 b:Z b
structure Kz(Z:Nat->Prop)(b:Nat)(w w':World)(l:List UInt8):Prop where
 kp:Kp Z w w'
 here:w'.heap[b]?=some (.cells #[.string (VM l)] 225 (0,0))
def Bz(Z:Nat->Prop)(w:World)(e:Ending)(w':World):Prop:=(∃t v,e=.panicked [{ v:=.iface t v,recovered:=false }])/\Kp Z w w'
section
variable {Z:Nat->Prop}{b:Nat}{w w' w'':World}{l r:List UInt8}{e:Ending}
def Kz.rd(h:Kz Z b w w' l):Rd b w' w' (VM l):=Rd.refl h.here
def Kz.step(h:Kz Z b w w' l)(a:Zo Z b)(k:Rd b w' w'' (VM r)):Kz Z b w w'' r :=
 ⟨h.kp.trans ⟨k.os,k.tape,k.output,by rw[k.size];exact xe _,λi _ c=>k.block i (λe=>c (Or.inl (by rw[e];exact a.b)))⟩,k.here⟩
def Kz.after(h:Kz Z b w w' l)(k:Below w'.heap.size w' w''):Kz Z b w w'' l:=⟨h.kp.after k,(k.block b (zc h.here)).trans h.here⟩
def Kz.refl(h:w.heap[b]?=some (.cells #[.string (VM l)] 225 (0,0))):Kz Z b w w l:=⟨Kp.refl _ _,h⟩
def Kz.gl(h:Kz Z b w w' l)(g:Zo Z b)(i:Gl w):Gl w':=by
 obtain⟨⟨j,m,e⟩,⟨k,n,f⟩,p⟩:=i;have q:=h.kp.size;have c:=g.low;unfold NU at c;refine⟨⟨j,m,(xo (a:=⟨2,0,none⟩) (h.kp.block _ (by show 2<_;omega) (λd=>absurd (c 2 d) (by omega)))).trans e⟩,⟨k,n,(xo (a:=⟨3,0,none⟩) (h.kp.block _ (by show 3<_;omega) (λd=>absurd (c 3 d) (by omega)))).trans f⟩,by omega⟩
def Kz.gu(h:Kz Z b w w' l)(e:Zo Z b)(f:Gu w):Gu w':=by
 obtain⟨t,v,c⟩:=f;have d:=e.low;unfold NU at d;exact⟨t,v,(xo (a:=⟨4,0,none⟩) (h.kp.block _ (bY c) (λg=>absurd (d 4 g) (by omega)))).trans c⟩
def Kz.broke(h:Kz Z b w w' l)(c:Zo Z b)(k:iL b w' e w''):Bz Z w e w'':=by
 obtain⟨f,s,a⟩:=k;exact⟨f,h.kp.trans ⟨a.os,a.tape,a.output,by rw[a.size];exact xe _,λi _ d=>a.block i (λe=>d (Or.inl (by rw[e];exact c.b)))⟩⟩
def Kz.trans(h:Kz Z b w w' l)(k:Kz Z b w' w'' r):Kz Z b w w'' r:=⟨h.kp.trans (k.kp.mono (λ_ q=>Or.inl q)),k.here⟩
def Kz.bz(h:Kz Z b w w' l)(k:Bz Z w' e w''):Bz Z w e w'':=⟨k.1,h.kp.trans (k.2.mono (λ_ q=>Or.inl q))⟩
end
section
variable {N:Nat}{os:List O}{rj:List (Nat×Nat)}{w w':World}{S:Nat}{M:Mx}{v:Value}{td:Nat}{bs:List Nat}{pvs:List Value}{ls:List L}
def PW.keep(h:PW N w S v bs pvs ls)(m:Sb w S td v M)(d:∀(k:Nat) (c:Array Value) (t:TypeId),w.heap[k]?=some (.cells c t (0,0))->t≠225->t≠202->w'.heap[k]?=w.heap[k]?):PW N w' S v bs pvs ls:={
 c1:=(xo (a:=⟨S,1,none⟩) (d S _ _ m (by decide) (by decide))).trans h.c1
 row:=zd h.row (λg l=>by obtain⟨c,j⟩:=zh h.row l;exact d g c _ j (by decide) (by decide))
 len:=h.len
 plen:=h.plen
 lot:=λi b=>(d _ _ _ (h.lot i b) (by decide) (by decide)).trans (h.lot i b)
 par:=λi b=>(h.par i b).congr (λq e=>by obtain⟨c,f⟩:=(h.par i b).blk e;exact d _ _ _ f (by decide) (by decide))
 nodup:=h.nodup
 ids:=h.ids
 pars:=h.pars
 giv:=h.giv
 room:=h.room}
def PR.below(h:PR N os rj w S M v td bs pvs ls)(a:Below w.heap.size w w'):PR N os rj w' S M v td bs pvs ls :=
 ⟨h.pw.below a,(a.block S (zc h.sb)).trans h.sb,h.mp.congr (λk d c b=>a.block k (zc b))⟩
def PR.rd{b:Nat}{l:List UInt8}{s:ByteArray}(h:PR N os rj w S M v td bs pvs ls)(a:w.heap[b]?=some (.cells #[.string (VM l)] 225 (0,0)))(k:Rd b w w' s):PR N os rj w' S M v td bs pvs ls :=
 ⟨h.pw.keep h.sb (λz f t d e _=>k.block z (zt d a e)),(k.block S (zt h.sb a (by decide))).trans h.sb,h.mp.congr (λz g c d=>k.block z (zX a d).symm)⟩
def PR.box{A:Nat}{d:Array Value}(h:PR N os rj w S M v td bs pvs ls)(a:w.heap[A]?=some (.cells d 202 (0,0)))(i:Nat)(u:Value):PR N os rj (w.setCell ⟨A,i,none⟩ u) S M v td bs pvs ls :=
 ⟨h.pw.keep h.sb (λz d t b _ e=>xd _ _ _ _ (zt b a e)),(xd _ _ _ _ (zt h.sb a (by decide))).trans h.sb,h.mp.congr (λz f c b=>xd _ _ _ _ (zX a b).symm)⟩
def PR.map{os':List O}{a:List (Nat×Nat)}{q:Nat}{f:Array MapEntry}{c:Nat}(h:PR N os rj w S M v td bs pvs ls)(j:w.heap[q]?=some (.map f c))(g:w.grownBy w' (some q))(i:Mp os' a w' M):PR N os' a w' S M v td bs pvs ls:=by
 have b:∀(k:Nat) (d:Array Value) (t:TypeId),w.heap[k]?=some (.cells d t (0,0))->w'.heap[k]?=w.heap[k]?:=λk d t b=>g.block k (zc b) (λe=>zX b j (xt e))
 exact⟨h.pw.keep h.sb (λk d t l _ _=>b k d t l),(b _ _ _ h.sb).trans h.sb,i⟩
end
variable {D:DataW Unit}
def QO{w:World}{b n:Nat}{os:List O}(h:Mv w b n D)(hd:OD os D)(k:Nat)(d:k<=2147483647):(Instr.lookup 112 (.map (some b)) (.int .i64 k) false).run prog w=.ok (.int .i64 ((Zu os k:Nat):Int)) w:=by
 obtain⟨c,e,a,_⟩:=xaU h AV Ii WZ (Mg w) (qS d);rw[hd.val k d]at a;simp at a;rw[e,<-a]
def sG(ls:List L)(g:Nat):Nat->Nat->List (Nat×Nat)->List UInt8->Option (List (Nat×Nat)×List UInt8)
 |0,_,acc,l=>some (acc,l)
 |k+1,p,acc,l=>(WG (p+1) 2147483647 l).bind λa=>if Wj a.1 ls<ls.length/\(ls.getD (Wj a.1 ls) L0).gd=g then (WG 1 2147483647 a.2).bind λc=>sG ls g k a.1 (acc++[(a.1,c.1)]) c.2 else none
def aD(ls:List L)(g:Nat)(l:List UInt8):Option (List (Nat×Nat)×List UInt8):=(WG 1 30 l).bind λk=>sG ls g k.1 0 [] k.2
def Vb(Z:Nat->Prop)(N b:Nat)(os:List O)(id g:Nat)(rj:List (Nat×Nat))(w:World)(S:Nat)(M:Mx)(v:Value)(td:Nat)(bs:List Nat)(pvs:List Value)(ls:List L)(X:Option (List (Nat×Nat)×List UInt8))(e:Ending)(w':World):Prop:=match X with
 |some (ln,r)=>e=.returned (.tuple #[])/\PR N (os++[⟨id,g,ln⟩]) rj w' S M v td bs pvs ls/\Kz Z b w w' r
 |none=>Bz Z w e w'
def xW{Z:Nat->Prop}{N b:Nat}{os:List O}{id g:Nat}{rj:List (Nat×Nat)}{w:World}{S:Nat}{M:Mx}{v:Value}{td:Nat}{W:List Nat}{y:List Value}{ls:List L}(P:Zo Z b)(f0:Z M.h)(l:List UInt8)(hl:l.length<=1000000000)(hg:Gl w)(hu:Gu w)(hr:w.heap[b]?=some (.cells #[.string (VM l)] 225 (0,0)))(h:PR N (os++[⟨id,g,[]⟩]) rj w S M v td W y ls)(d0:id<=2147483647)(f9:g<=2147483647)(b5:∀o'∈os,o'.id≠id)(g2:Zc os<=300):Calls prog 196 #[.pointer (some ⟨S,0,none⟩),.pointer (some ⟨b,0,none⟩),.int .i64 id] w (Vb Z N b os id g rj w S M v td W y ls (aD ls g l)):=by
 obtain⟨X,HX⟩:=Ww (aD ls g l);rw[<-HX.o];have hb:=P.low b P.b;have k0:Kz Z b w w l:=Kz.refl hr;have d8:=zb h;have b1:=zb b5;clear h b5;go_enter func196,ntmps196;go_wp2_with fail;refine(Zt b hb l hl 1 30 (by omega) (by omega) w hg hu (Rd.refl hr)).mono ?_
 intro e w1 B;rcases h1:WG 1 30 l with _|⟨n,r1⟩
 ·rw[h1]at B;obtain⟨t,v',rfl⟩:=B.1;refine⟨rfl,?_⟩;show Vb Z N b os id g rj w S M v td W y ls X _ _;rw[show X=none by rw[HX.o];unfold aD;simp only[h1,XF]];exact k0.broke P B
 rw[h1]at B;obtain⟨rfl,c7⟩:=B;have K1:=zb (k0.step P c7);obtain⟨_,f6,g0⟩:=zv h1;have d9:=zb (d8.rd hr c7);have T:Ha (X=sG ls g n 0 [] r1):=by unfold Ha;rw[HX.o];unfold aD;simp only[h1,xk]
 clear c7 k0 h1 HX d8;go_wp2_with fail;go_loopw [6,7,10] (λnv _ ii wr=>∃(k p:Nat) (u:List (Nat×Nat)) (q:List UInt8),ii=.int .i64 k/\k<=n/\nv=.int .i64 p/\p<=2147483647/\u.length=k/\(∀x∈u,x.1<=p)/\q.length<=1000000000/\PR N (os++[⟨id,g,u⟩]) rj wr S M v td W y ls/\Kz Z b w wr q/\sG ls g (n-k) p u q=X) (λ_ _ ii _=>n-(intOf ii).toNat)
 case atStart=>exact⟨0,0,[],r1,rfl,by omega,rfl,by omega,rfl,λx hx=>by simp at hx,by omega,d9,K1,T.symm⟩
 clear d9 K1 T;obtain⟨k,p,u,q,rfl,hk,rfl,hp,f1,c6,f5,b0,G,hX⟩:=hrel;by_cases g1:k<n
 ·have T:Ha ((WG (p+1) 2147483647 q).bind (λa=>if Wj a.1 ls<ls.length/\(ls.getD (Wj a.1 ls) L0).gd=g then (WG 1 2147483647 a.2).bind λc=>sG ls g (n-(k+1)) a.1 (u++[(a.1,c.1)]) c.2 else none)=X):=by
   unfold Ha;rw[<-hX,show n-k=(n-(k+1))+1 by omega];rfl
  clear hX;have HA:=zb (iM b hb q f5 p hp wr (G.gl P hg) (G.gu P hu) G.rd);have a7:=zb b0;have R:=zb G;have b7:=zb c6;clear b0 G c6;go_wp2_with fail;refine HA.mono ?_
  intro e w5 B;rcases h5:WG (p+1) 2147483647 q with _|⟨num,q5⟩
  ·rw[h5]at B;obtain⟨t,v',rfl⟩:=B.1;refine⟨rfl,?_⟩;show Vb Z N b os id g rj w S M v td W y ls X _ _;rw[show X=none by rw[<-T.o,h5];rfl];exact R.broke P B
  rw[h5]at B;obtain⟨rfl,c8⟩:=B;obtain⟨g3,Q,g4⟩:=zv h5;have k5:=R.step P c8;have D:=a7.rd R.here c8;have a8:Ha ((if Wj num ls<ls.length/\(ls.getD (Wj num ls) L0).gd=g then (WG 1 2147483647 q5).bind λc=>sG ls g (n-(k+1)) num (u++[(num,c.1)]) c.2 else none)=X):=by
   rw[Ha,<-T.o,h5];rfl
  have HF:=zb (pY D.pw num Q);have d7:Ha (Calls prog 175 #[.bool true] w5.drew λe w'=>w'=w5.drew/\e=.returned (.tuple #[])):=by
   refine(zI true _ (show Gu w5.drew from k5.gu P hu)).mono ?_
   rintro e w' ⟨h1,h2⟩;rw[xh rfl]at h2;exact⟨h1,h2⟩
  have b8:Ha (Calls prog 175 #[.bool false] w5.drew λe w'=>w'=w5.drew/\∃t v,e=.panicked [{ v:=.iface t v,recovered:=false }]):=by
   refine(zI false _ (show Gu w5.drew from k5.gu P hu)).mono ?_
   rintro e w' ⟨h1,h2⟩;rw[xg (by simp)]at h2;exact⟨h1,h2⟩
  have a6:=zb k5;have e0:=zb D;clear HA a7 R c8 h5 T k5;by_cases hj:Wj num ls<ls.length
  ·obtain⟨bf,d4⟩:=Ww (W.getD (Wj num ls) 0);obtain⟨lf,d5⟩:=Ww (ls.getD (Wj num ls) L0);have a3:zJ W ls num=.pointer (some ⟨bf,0,none⟩):=by unfold zJ;rw[xh hj,<-d4.o]
   rw[a3]at HF;have d1:=D.pw.lot _ hj;rw[<-d5.o,<-d4.o]at d1;have e4:=D.pw.ids _ (zf hj);rw[<-d5.o]at e4 a8;obtain⟨Do,a0,C⟩:=D.mp.o;have b4:Zu (os++[⟨id,g,u⟩]) id=g:=by
    unfold Zu;rw[pZ os ⟨id,g,u⟩ b1.o id];simp
   have a4:=QO (w:=w5.drew) a0 C id d0;rw[b4]at a4;have x1:w5.drew.cell? ⟨bf,1,none⟩=some (.int .i64 lf.gd):=by
    show w5.cell? _=_;rw[za d1];rfl
   have s2:w5.drew.cell? ⟨S,2,none⟩=some (.map (some M.o)):=by
    show w5.cell? _=_;rw[za D.sb];rfl
   clear a3 D d1 a0 C b4;by_cases F:lf.gd=g
   ·have f3:=aR F;have e2:Ha ((WG 1 2147483647 q5).bind (λc=>sG ls g (n-(k+1)) num (u++[(num,c.1)]) c.2)=X):=by
     rw[Ha,<-a8.o,xh ⟨hj,F⟩]
    have f8:=zb F;clear hj F;go_wp2_with fail;refine HF.mono ?_
    rintro _ w6 ⟨rfl,rfl⟩;go_wp2_with fail;obtain⟨s,f⟩:∃s:World->Prop,∀w',s w'↔(w'.cell? ⟨bf,1,none⟩=some (.int .i64 lf.gd)/\w'.cell? ⟨S,2,none⟩=some (.map (some M.o))/\(Instr.lookup 112 (.map (some M.o)) (.int .i64 id) false).run prog w'=.ok (.int .i64 g) w'):=⟨_,λ_=>xaw⟩
    have z0:∀x:Wd s,x.w.cell? ⟨bf,1,none⟩=some (.int .i64 lf.gd):=λx=>((f _).1 x.h).1
    have z1:∀x:Wd s,x.w.cell? ⟨S,2,none⟩=some (.map (some M.o)):=λx=>((f _).1 x.h).2.1
    have z2:∀x:Wd s,(Instr.lookup 112 (.map (some M.o)) (.int .i64 id) false).run prog x.w=.ok (.int .i64 g) x.w:=λx=>((f _).1 x.h).2.2
    have j:s w6.drew:=(f _).2 ⟨x1,s2,a4⟩;clear f x1 s2 a4;haveI hinh:Inhabited (Wd s):=⟨⟨_,j⟩⟩
    refine zw (n:=8) (m:=1) 15 15 (λw'=>∃x:Wd s,w'=x.w) (by kernel_rfl) (by kernel_rfl) (λ_ _ d _ _ h=>by cases d<;>exact h) (by kernel_rfl) (by kernel_rfl) rfl rfl ⟨⟨_,j⟩,rfl⟩ ?_
    clear j;dsimp only[List.take];repeat (go_big_quiet_step (fail))
    refine yi ?_
    refine zR (i:=15) (by kernel_rfl) rfl rfl (λK hK=>?_);go_wp2_with (go_at_call 175;refine d7.mono ?_;rintro _ w7 ⟨rfl,rfl⟩);refine hK _ _ (by first|exact Or.inl rfl|exact Or.inl trivial|trivial) ?_
    refine bO (by kernel_rfl) ?_
    clear hK z0 z1 z2;have E:=zb (a6.after ((xm _ _).drew.drew:Below _ _ w6.drew.drew));have b9:=zb (e0.below ((xm _ _).drew.drew:Below _ _ w6.drew.drew));have s3:w6.drew.drew.cell? ⟨S,3,none⟩=some (.map (some M.h)):=by rw[za b9.o.sb];rfl
    have HB:=zb (Zt b hb q5 (by omega) 1 2147483647 (by omega) (by omega) w6.drew.drew (E.gl P hg) (E.gu P hu) E.rd);clear d7 b8 HF a6 e0;go_wp2_with fail;generalize w6.drew=wd at *;rcases h6:WG 1 2147483647 q5 with _|⟨c,q7⟩
    ·rw[h6]at HB;have a1:Ha (X=none):=by rw[Ha,<-e2.o,h6];rfl
     clear h6;obtain⟨s,f⟩:∃s:World->Prop,∀w',s w'↔(w'.cell? ⟨S,3,none⟩=some (.map (some M.h))):=⟨_,λ_=>xaw⟩
     have z0:∀x:Wd s,x.w.cell? ⟨S,3,none⟩=some (.map (some M.h)):=λx=>((f _).1 x.h)
     have j:s wd.drew:=(f _).2 s3;clear f s3;haveI hinh:Inhabited (Wd s):=⟨⟨_,j⟩⟩
     refine zw (n:=8) (m:=2) 8 9 (λw'=>∃x:Wd s,w'=x.w) (by kernel_rfl) (by kernel_rfl) (λ_ _ d _ _ h=>by cases d<;>exact h) (by kernel_rfl) (by kernel_rfl) rfl rfl ⟨⟨_,j⟩,rfl⟩ ?_
     clear j;dsimp only[List.take];repeat (go_big_quiet_step (fail))
     refine yi ?_
     refine zR (i:=8) (by kernel_rfl) rfl rfl (λK hK=>?_);go_wp2_with (go_at_call 176;refine HB.mono ?_;rintro e w7 e3;obtain⟨t,v',rfl⟩:=e3.1);refine⟨rfl,?_⟩;show Vb Z N b os id g rj w S M v td W y ls X _ _;rw[a1.o];exact E.broke P e3
    rw[h6]at HB;obtain⟨_,f2,g5⟩:=zv h6;have e8:Ha (sG ls g (n-(k+1)) num (u++[(num,c)]) q7=X):=by rw[Ha,<-e2.o,h6];rfl
    clear h6;obtain⟨s,f⟩:∃s:World->Prop,∀w',s w'↔(w'.cell? ⟨S,3,none⟩=some (.map (some M.h))):=⟨_,λ_=>xaw⟩
    have z0:∀x:Wd s,x.w.cell? ⟨S,3,none⟩=some (.map (some M.h)):=λx=>((f _).1 x.h)
    have j:s wd.drew:=(f _).2 s3;have e1:=zb f;clear f s3;haveI hinh:Inhabited (Wd s):=⟨⟨_,j⟩⟩
    refine zw (n:=8) (m:=2) 8 9 (λw'=>∃x:Wd s,w'=x.w) (by kernel_rfl) (by kernel_rfl) (λ_ _ d _ _ h=>by cases d<;>exact h) (by kernel_rfl) (by kernel_rfl) rfl rfl ⟨⟨_,j⟩,rfl⟩ ?_
    clear j;dsimp only[List.take];repeat (go_big_quiet_step (fail))
    refine yi ?_
    refine zR (i:=8) (by kernel_rfl) rfl rfl (λK hK=>?_);go_wp2_with (go_at_call 176;refine HB.mono ?_;rintro e w7 ⟨rfl,c9⟩);have J:=b9.rd E.here c9;have k7:=E.step P c9;refine hK _ _ (Or.inr ⟨⟨_,(e1 _).2 (by rw[za J.sb];rfl)⟩,rfl⟩) ?_
    obtain⟨Do,a0,C⟩:=J.mp.o;obtain⟨Dh,a9,a2⟩:=J.mp.h;obtain⟨Dr,c5,b3⟩:=J.mp.r;have e5:Maps.size Dh<maxLen:=by
     rw[a2.size];have:Zc (os++[⟨id,g,u⟩])=Zc os+u.length:=by simp[Zc]
     rw[this];unfold maxLen;omega
    obtain⟨w8,f7,a5,A⟩:=Yp (w:=w7) a9 wY TF e5 (Db d0 Q) (xaE (H:=Unit) WZ (RY (n:=c) f2));have b6:Maps.Tidy Dh:=Yj a9 wY;have b2:=a2.put b6 d0 b1 Q (n:=c) (iG (λx hx e=>by
     have:=b7.o x hx
     omega))
    have d6:Ha (Mp (os++[⟨id,g,u++[(num,c)]⟩]) rj w8 M):=by
     have B:=J.mp;exact⟨⟨Dr,zu c5 (A.block M.r (XG c5) (λe=>B.rh (xt e))),b3⟩,B.rc,⟨Do,zu a0 (A.block M.o (XG a0) (λe=>B.oh (xt e))),C.congr (by simp)⟩,⟨_,Z7 a5,b2⟩,B.ro,B.rh,B.oh⟩
    obtain⟨es,cl,d2⟩:=ZP a9;have e7:Ha (PR N (os++[⟨id,g,u++[(num,c)]⟩]) rj w8 S M v td W y ls):=J.map d2 A d6;have e6:Ha (Kz Z b w w8 q7):=⟨k7.kp.grown A (λz hz=>Or.inl (by cases hz;exact f0)),(A.block b (zc k7.here) (λe=>zX k7.here d2 (xt e))).trans k7.here⟩
    have d3:Ha (∀x∈u++[(num,c)],x.1<=num):=λx hx=>by
     rcases xx.1 hx with hx|hx
     ·have:=b7.o x hx;omega
     simp at hx;subst hx;exact xe _
    clear J k7 a0 C a9 a2 c5 b3 e5 b6 b2 d2 d6 c9 A a5 HB b9 E e1 b7;refine zR (i:=9) (by kernel_rfl) rfl rfl (λK hK=>?_);go_wp2_with fail;refine hK _ _ (by first|exact Or.inl rfl|exact Or.inl trivial|trivial) ?_
    refine bO (by kernel_rfl) ?_
    clear hK z0;go_wp2_with fail;go_roundw
    case rel=>exact⟨k+1,num,u++[(num,c)],q7,by go_num,by omega,rfl,Q,by simp[f1],d3,by omega,e7,e6,e8⟩
    simp[intOf];omega
   have f3:=ZT F;have a1:Ha (X=none):=by
    rw[Ha,<-a8.o,xg (λhc=>F hc.2)]
   clear hj F;go_wp2_with fail;refine HF.mono ?_
   rintro _ w6 ⟨rfl,rfl⟩;go_wp2_with fail;obtain⟨s,f⟩:∃s:World->Prop,∀w',s w'↔(w'.cell? ⟨bf,1,none⟩=some (.int .i64 lf.gd)/\w'.cell? ⟨S,2,none⟩=some (.map (some M.o))/\(Instr.lookup 112 (.map (some M.o)) (.int .i64 id) false).run prog w'=.ok (.int .i64 g) w'):=⟨_,λ_=>xaw⟩
   have z0:∀x:Wd s,x.w.cell? ⟨bf,1,none⟩=some (.int .i64 lf.gd):=λx=>((f _).1 x.h).1
   have z1:∀x:Wd s,x.w.cell? ⟨S,2,none⟩=some (.map (some M.o)):=λx=>((f _).1 x.h).2.1
   have z2:∀x:Wd s,(Instr.lookup 112 (.map (some M.o)) (.int .i64 id) false).run prog x.w=.ok (.int .i64 g) x.w:=λx=>((f _).1 x.h).2.2
   have j:s w6.drew:=(f _).2 ⟨x1,s2,a4⟩;clear f x1 s2 a4;haveI hinh:Inhabited (Wd s):=⟨⟨_,j⟩⟩
   refine zw (n:=8) (m:=1) 15 15 (λw'=>∃x:Wd s,w'=x.w) (by kernel_rfl) (by kernel_rfl) (λ_ _ d _ _ h=>by cases d<;>exact h) (by kernel_rfl) (by kernel_rfl) rfl rfl ⟨⟨_,j⟩,rfl⟩ ?_
   clear j;dsimp only[List.take];repeat (go_big_quiet_step (fail))
   refine yi ?_
   refine zR (i:=15) (by kernel_rfl) rfl rfl (λK hK=>?_);go_wp2_with (go_at_call 175;refine b8.mono ?_;rintro _ w7 ⟨rfl,t,v',rfl⟩);refine⟨rfl,?_⟩;show Vb Z N b os id g rj w S M v td W y ls X _ _;rw[a1.o];exact⟨⟨t,v',rfl⟩,(a6.after ((xm _ _).drew)).kp⟩
  have a1:Ha (X=none):=by
   rw[Ha,<-a8.o,xg (λhc=>hj hc.1)]
  have a3:zJ W ls num=.pointer none:=by unfold zJ;rw[xg hj]
  rw[a3]at HF;clear a3 hj D;go_wp2_with fail;refine HF.mono ?_
  rintro _ w6 ⟨rfl,rfl⟩;go_wp2_with fail;obtain⟨s,f⟩:∃s:World->Prop,∀w',s w'↔(True):=⟨_,λ_=>xaw⟩
  have j:s w6.drew:=(f _).2 trivial;clear f;haveI hinh:Inhabited (Wd s):=⟨⟨_,j⟩⟩
  refine zw (n:=8) (m:=1) 15 15 (λw'=>∃x:Wd s,w'=x.w) (by kernel_rfl) (by kernel_rfl) (λ_ _ d _ _ h=>by cases d<;>exact h) (by kernel_rfl) (by kernel_rfl) rfl rfl ⟨⟨_,j⟩,rfl⟩ ?_
  clear j;dsimp only[List.take];repeat (go_big_quiet_step (fail))
  refine yi ?_
  refine zR (i:=15) (by kernel_rfl) rfl rfl (λK hK=>?_);go_wp2_with (go_at_call 175;refine b8.mono ?_;rintro _ w7 ⟨rfl,t,v',rfl⟩);refine⟨rfl,?_⟩;show Vb Z N b os id g rj w S M v td W y ls X _ _;rw[a1.o];exact⟨⟨t,v',rfl⟩,(a6.after ((xm _ _).drew)).kp⟩
 have f4:k=n:=by omega
 subst f4;rw[xap]at hX;have e9:Ha (X=some (u,q)):=by rw[Ha,<-hX];rfl
 have a7:=zb b0;have R:=zb G;clear b0 G hX c6;go_wp2_with fail;go_end0;show Vb Z N b os id g rj w S M v td W y ls X _ _;rw[e9.o];exact⟨rfl,a7,R⟩
structure OF(os:List O):Prop where
 nodup:(os.map O.id).Nodup
 len:os.length<=10
 id:∀o∈os,o.id<=2147483647
 cnt:∀o∈os,∀p∈o.li,p.2<=2147483647
def QN{w:World}{b n:Nat}{os:List O}(h:Mu w b n D)(hd:HD os D)(k l:Nat)(d:k<=2147483647)(e:l<=2147483647):(Instr.lookup 113 (.map (some b)) (.agg #[.int .i64 k,.int .i64 l]) false).run prog w=.ok (.int .i64 (((zq os k l).getD 0:Nat):Int)) w:=by
 obtain⟨c,f,a,_⟩:=xaU h wY TF WZ (Mg w) (Db d e);rw[hd.val k l d e]at a;simp at a;rw[f,<-a]
def fB(os:List O)(left:Lit->Bool)(n:Nat):Nat:=(os.map λo=>if left (dT o.id) then 0 else ZV o n).sum
def IM{os:List O}{left:Lit->Bool}(h:∀a,left a=false)(n:Nat):fB os left n=zD os n:=by simp[fB,zD,h]
def Fx:∀l:List O,(l.map (λ_=>0)).sum=0
 |[]=>rfl
 |_::l=>by rw[Xv,XZ,Fx l]
def tS(o:O)(os:List O)(left:Lit->Bool)(n:Nat):fB (o::os) left n=(if left (dT o.id) then 0 else ZV o n)+fB os left n:=by simp[fB]
def CJ{os:List O}(b:OD os D)(c:OF os)(n:Nat):fB os (Maps.has D) n=0:=by
 unfold fB;have:os.map (λo=>if Maps.has D (dT o.id) then 0 else ZV o n)=os.map (λ_=>0):=ye (λo a=>by
  rw[b.has o.id (c.id o a)];have:os.any (λx=>x.id==o.id)=true:=xal.2 ⟨o,a,by simp⟩;rw[this];rfl)
 rw[this];exact Fx os
def rC(a b:Nat):(dT a).sameKey (dT b)=decide (a=b):=by
 by_cases h:a=b
 ·subst h;simp[dT,Lit.sameKey]
 rw[xcs (λe=>h (gP e))];simp[h]
def tT(left:Lit->Bool)(n:Nat):∀{os:List O},(os.map O.id).Nodup->∀{o:O},o∈os->left (dT o.id)=true->fB os (λz=>left z&&!z.sameKey (dT o.id)) n=fB os left n+ZV o n
 |[],_,o,h,_=>by simp at h
 |x::os,hn,o,h,hl=>by
  simp only[Xv,yj]at hn;have a:∀{os':List O},(∀y∈os',y.id≠o.id)->fB os' (λz=>left z&&!z.sameKey (dT o.id)) n=fB os' left n:=λ{os'} hq=>by
   unfold fB;congr 1;refine ye (λy c=>?_);have:(dT y.id).sameKey (dT o.id)=false:=by rw[rC];simp[hq y c]
   simp only[this,xbP,xbz]
  rw[tS,tS];rcases xz.1 h with rfl|h
  ·rw[a (os':=os) (λy c e=>hn.1 (by rw[<-e];exact Xu c))];have:(dT o.id).sameKey (dT o.id)=true:=by rw[rC];simp
   simp only[this,hl,Bool.not_true,xaJ,XV,YF,Yo];omega
  have b:x.id≠o.id:=λe=>hn.1 (by rw[e];exact Xu h)
  rw[tT left n hn.2 h hl];have:(dT x.id).sameKey (dT o.id)=false:=by rw[rC];simp[b]
  simp only[this,xbP,xbz];omega
def AN{os:List O}(a:OF os){o:O}(b:o∈os)(n:Nat):ZV o n<=2147483647:=by
 unfold ZV
 cases h:o.li.lookup n with
 |none=>simp
 |some c=>exact a.cnt o b _ (Zx h)
def MS{os:List O}(c:OF os)(left:Lit->Bool)(n:Nat):fB os left n<=21474836470:=by
 have d:∀l:List O,(∀o∈l,o∈os)->fB l left n<=l.length*2147483647:=λl=>by
  induction l with
  |nil=>intro _;simp[fB]
  |cons x l ih=>
   intro h;have a:=ih (λo e=>h o (by simp[e]));have b:=AN c (h x (by simp)) n;unfold fB at a ⊢;simp only[Xv,XZ,List.length_cons];split<;>omega
 have:=d os (λ_ h=>h)
 have:=c.len
 omega
def Gv{os:List O}(b:(os.map O.id).Nodup){o:O}(a:o∈os)(n:Nat):(zq os o.id n).getD 0=ZV o n:=by
 have:os.find? (λx=>x.id==o.id)=some o:=by
  induction os with
  |nil=>simp at a
  |cons x os ih=>
   simp only[Xv,yj]at b;rcases xz.1 a with rfl|a
   ·simp
   have c:(x.id==o.id)=false:=by
    simp;exact λe=>b.1 (by rw[e];exact Xu a)
   rw[List.find?_cons,c];exact ih b.2 a
 unfold zq ZV;rw[this];rfl
def CQ{N:Nat}{os:List O}{rj:List (Nat×Nat)}{w:World}{S:Nat}{M:Mx}{v:Value}{td:Nat}{bs:List Nat}{b2:List Value}{ls:List L}(h:PR N os rj w S M v td bs b2 ls)(hO:OF os)(i:Nat)(hi:i<ls.length):Calls prog 197 #[.pointer (some ⟨S,0,none⟩),.pointer (some ⟨bs.getD i 0,0,none⟩)] w λe w'=>e=.returned (.int .i64 ((zD os (ls.getD i L0).id:Nat):Int))/\Below w.heap.size w w':=by
 obtain⟨D,hD,G⟩:=h.mp.o;have c2:w.cell? ⟨S,2,none⟩=some (.map (some M.o)):=by rw[za h.sb];rfl
 have a:=h.pw.lot i hi;have J:=(h.pw.ids _ (zf hi)).1;obtain⟨l,HL⟩:=Ww (ls.getD i L0);obtain⟨bl,a1⟩:=Ww (bs.getD i 0);rw[<-HL.o]at a J ⊢;rw[<-a1.o]at a ⊢;have HP:=zb h;have B:=zb G;have u:=zb hO;have A:=zb hD;have f:=zb a;clear h hD G hO a;go_enter func197,ntmps197;go_wp2_with (at_range;refine wpList_range_own _ rfl _ 112 rfl 2 2 AV Ii _ M.o (Maps.size D) D rfl A ?_;intro w0 p b a7);go_frame;have g:=zb p;have y:Ha (Below w.heap.size w w0):=⟨b.os,b.tape,b.output,by omega,λk hk=>b.block k hk (by simp)⟩
 clear p b a7 A c2;go_loopw [5,6] (λhv _ wr=>∃(left:Lit->Bool) (cnt:Nat),hv=.int .i64 ((fB os left l.id:Nat):Int)/\wr.ranges prog 2 (plainElem prog 2) M.o w.heap.size (Maps.size D) D left cnt/\(∀X,left X=true->Maps.has D X=true)/\Below w.heap.size w wr) (λ_ _ wr=>wr.rangeLeft M.o w.heap.size)
 case atStart=>exact⟨_,_,(by rw[CJ B.o u.o];rfl),g,λX h=>h,y⟩
 clear g y;obtain⟨left,cnt,rfl,T,r,hb⟩:=hrel;have C:=zb T;have m:=zb r;have Z:=zb hb;clear T r hb;go_wp2_with (at_next;refine wpList_next_ranges_ii _ rfl _ rfl 2 2 .i64 .i64 AV WZ WZ M.o w.heap.size (Maps.size D) D left cnt rfl C ?_ ?_)
 ·intro _ a5;have HE:=zb (IM (os:=os) a5 l.id);go_wp2_with fail;go_ret;exact⟨by rw[<-HE.o];rfl,Z⟩
 intro x c w1 n b0 a9 s a4 q P H a8 b4;obtain⟨o,Q,W⟩:=B.keys _ (m _ s);have b1:x=((o.id:Nat):Int):=by simpa [dT] using W
 subst b1;have d:Below w.heap.size w w1:=Z.grown H Z.size (λk hk=>by cases hk;exact xe _);have t:=HP.below d;have s3:w1.cell? ⟨S,3,none⟩=some (.map (some M.h)):=by rw[za t.sb];rfl
 have l0:w1.cell? ⟨bl,0,none⟩=some (.int .i64 l.id):=by rw[za ((d.block bl (zc f.o)).trans f.o)];rfl
 obtain⟨Dh,E,F⟩:=t.mp.h;have R:=u.id o Q;have a6:=QN (w:=w1.drew) E F o.id l.id R J;rw[Gv u.o.nodup Q]at a6;have b3:=MS u left l.id;have b5:=AN u Q l.id;have a3:=zb (tT left l.id u.nodup Q s);have a0:=zb d;have j:Ha (w1.drew.ranges prog 2 (plainElem prog 2) M.o w.heap.size (Maps.size D) D (λz=>left z&&!z.sameKey (dT o.id)) n):=q;have a2:=zb P;clear d t E F q P H a8 W a4 b0 a9 s Q;generalize fB os left l.id=sd at *;generalize ZV o l.id=hbv at *;go_wp2_with fail;go_region;go_wp2_with fail;go_roundw
 case rel=>
  refine⟨_,n,?_,j,λX K=>?_,a0.drew⟩
  ·rw[a3.o];rfl
  simp only[XK]at K;exact m X K.1
 rw[j.o.left_eq,C.o.left_eq];exact a2
def VD(os:List O)(l:L):Bool:=decide (l.got=l.free+l.hd+l.sh+l.sc+l.gv)&&decide (l.hd=zD os l.id)
def Cs(l:L):Prop:=l.got<=2147483647/\l.free<=2147483647/\l.hd<=2147483647/\l.sh<=2147483647/\l.sc<=2147483647
def UV(w:World)(X:Bool)(e:Ending)(w':World):Prop:=if X=true then e=.returned (.tuple #[])/\Below w.heap.size w w' else (∃t v,e=.panicked [{ v:=.iface t v,recovered:=false }])/\Below w.heap.size w w'
def Iq{N:Nat}{os:List O}{rj:List (Nat×Nat)}{w:World}{S:Nat}{M:Mx}{v:Value}{td:Nat}{bs:List Nat}{b7:List Value}{ls:List L}(h:PR N os rj w S M v td bs b7 ls)(hN:N<=1000000000000)(hO:OF os)(hC:∀l∈ls,Cs l)(hu:Gu w):Calls prog 180 #[.pointer (some ⟨S,0,none⟩)] w (UV w (ls.all (VD os))):=by
 obtain⟨X,HX⟩:=Ww (ls.all (VD os));rw[<-HX.o];obtain⟨a,cap,hv,R⟩:=h.pw.shape;have c1:=h.pw.c1;rw[hv]at c1;have b5:=h.pw.room;have HP:=zb h;have a3:=zb R;have HO:=zb hO;have HC:=zb hC;clear h hv hO hC R;go_enter func180,ntmps180;go_wp2_with fail;go_loopw [3,9] (λ_ ii wr=>∃i:Nat,ii=.int .i64 i/\i<=ls.length/\(ls.take i).all (VD os)=true/\Below w.heap.size w wr) (λ_ ii _=>ls.length-(intOf ii).toNat)
 case atStart=>exact⟨0,rfl,by omega,rfl,xm _ _⟩
 obtain⟨i,rfl,hi,F,B⟩:=hrel;by_cases q:i<ls.length
 ·obtain⟨G,hG,p⟩:=a3.o (by omega);subst hG;have hp:=HP.below B;obtain⟨l,HL⟩:=Ww (ls.getD i L0);obtain⟨f,a0⟩:=Ww (bs.getD i 0);have b1:=(B.cell (bY (p i q))).trans (p i q);have g:=hp.pw.lot i q;have a5:=HC.o _ (zf q);have b2:=hp.pw.giv _ (zf q);have a8:Ha (∀s,Below w.heap.size w s->Calls prog 197 #[.pointer (some ⟨S,0,none⟩),.pointer (some ⟨f,0,none⟩)] s λe w'=>e=.returned (.int .i64 ((zD os l.id:Nat):Int))/\Ha (Below s.heap.size s w')):=λs hz=>by
   rw[a0.o,HL.o];exact CQ (HP.below hz) HO i q
  have a2:Ha (∀s,Below w.heap.size w s->Calls prog 175 #[.bool true] s λe w'=>w'=s/\e=.returned (.tuple #[])):=λs hz=>by
   obtain⟨t,v',hc⟩:=hu;refine(zI true s ⟨t,v',(hz.cell (bY hc)).trans hc⟩).mono ?_
   rintro e w' ⟨h1,h2⟩;rw[xh rfl]at h2;exact⟨h1,h2⟩
  have a1:Ha (∀s,Below w.heap.size w s->Calls prog 175 #[.bool false] s λe w'=>w'=s/\∃t v,e=.panicked [{ v:=.iface t v,recovered:=false }]):=λs hz=>by
   obtain⟨t,v',hc⟩:=hu;refine(zI false s ⟨t,v',(hz.cell (bY hc)).trans hc⟩).mono ?_
   rintro e w' ⟨h1,h2⟩;rw[xg (by simp)]at h2;exact⟨h1,h2⟩
  rw[<-HL.o]at a5 b2 g;rw[<-a0.o]at b1 g;obtain⟨b9,c5,c6,c7,c8⟩:=a5;have a9:Ha ((ls.take (i+1)).all (VD os)=((ls.take i).all (VD os)&&VD os l)):=by
   rw[Ha,xn q,List.all_append,HL.o];simp[Wc,q]
  have P:Ha (VD os l=false->X=false):=λhq=>by
   rw[HX.o];refine List.all_eq_false.2 ⟨l,by rw[HL.o];exact zf q,by rw[hq];simp⟩
  have r:=zb g;have k:=zb B;have a6:=zb F;have y5:wr.cell? ⟨f,5,none⟩=some (.int .i64 l.got):=by rw[za g];rfl
  have y6:wr.cell? ⟨f,6,none⟩=some (.int .i64 l.free):=by rw[za g];rfl
  have J:wr.cell? ⟨f,7,none⟩=some (.int .i64 l.hd):=by rw[za g];rfl
  have y8:wr.cell? ⟨f,8,none⟩=some (.int .i64 l.sh):=by rw[za g];rfl
  have y9:wr.cell? ⟨f,9,none⟩=some (.int .i64 l.sc):=by rw[za g];rfl
  have H:wr.cell? ⟨f,10,none⟩=some (.int .i64 l.gv):=by rw[za g];rfl
  have b8:l.gv<=1000000000000:=by omega
  clear hp p g B F;go_wp2_with fail;by_cases A:l.got=l.free+l.hd+l.sh+l.sc+l.gv
  ·have b6:((l.got:Int)==(l.free:Int)+(l.hd:Int)+(l.sh:Int)+(l.sc:Int)+(l.gv:Int))=true:=by rw[Yi];omega
   have a4:=zb A;clear A;obtain⟨c,b⟩:∃c:World->Prop,∀w',c w'↔(w'.cell? ⟨f,5,none⟩=some (.int .i64 l.got)/\w'.cell? ⟨f,6,none⟩=some (.int .i64 l.free)/\w'.cell? ⟨f,7,none⟩=some (.int .i64 l.hd)/\w'.cell? ⟨f,8,none⟩=some (.int .i64 l.sh)/\w'.cell? ⟨f,9,none⟩=some (.int .i64 l.sc)/\w'.cell? ⟨f,10,none⟩=some (.int .i64 l.gv)):=⟨_,λ_=>xaw⟩
   have z0:∀x:Wd c,x.w.cell? ⟨f,5,none⟩=some (.int .i64 l.got):=λx=>((b _).1 x.h).1
   have z1:∀x:Wd c,x.w.cell? ⟨f,6,none⟩=some (.int .i64 l.free):=λx=>((b _).1 x.h).2.1
   have z2:∀x:Wd c,x.w.cell? ⟨f,7,none⟩=some (.int .i64 l.hd):=λx=>((b _).1 x.h).2.2.1
   have z3:∀x:Wd c,x.w.cell? ⟨f,8,none⟩=some (.int .i64 l.sh):=λx=>((b _).1 x.h).2.2.2.1
   have z4:∀x:Wd c,x.w.cell? ⟨f,9,none⟩=some (.int .i64 l.sc):=λx=>((b _).1 x.h).2.2.2.2.1
   have z5:∀x:Wd c,x.w.cell? ⟨f,10,none⟩=some (.int .i64 l.gv):=λx=>((b _).1 x.h).2.2.2.2.2
   have j:c wr.drew:=(b _).2 ⟨y5,y6,J,y8,y9,H⟩;clear b y5 y6 J y8 y9 H;haveI hinh:Inhabited (Wd c):=⟨⟨_,j⟩⟩
   refine zw (n:=12) (m:=1) 29 29 (λw'=>∃x:Wd c,w'=x.w) (by kernel_rfl) (by kernel_rfl) (λ_ _ d _ _ h=>by cases d<;>exact h) (by kernel_rfl) (by kernel_rfl) rfl rfl ⟨⟨_,j⟩,rfl⟩ ?_
   clear j;dsimp only[List.take];repeat (go_big_quiet_step (fail))
   refine yi ?_
   refine zR (i:=29) (by kernel_rfl) rfl rfl (λK u=>?_);go_wp2_with (go_at_call 175;refine(a2 _ k.drew).mono ?_;rintro _ w4 ⟨rfl,rfl⟩);refine u _ _ (by first|exact Or.inl rfl|exact Or.inl trivial|trivial) ?_
   refine bO (by kernel_rfl) ?_
   clear u z0 z1 z2 z3 z4 z5;go_wp2_with fail;have J:wr.drew.drew.cell? ⟨f,7,none⟩=some (.int .i64 l.hd):=by
    show wr.cell? _=_;rw[za r.o];rfl
   have Q:=zb (a8 _ k.drew.drew);by_cases C:l.hd=zD os l.id
   ·have b3:=aR C;have a7:=zb C;clear C;obtain⟨c,b⟩:∃c:World->Prop,∀w',c w'↔(w'.cell? ⟨f,7,none⟩=some (.int .i64 l.hd)):=⟨_,λ_=>xaw⟩
    have z0:∀x:Wd c,x.w.cell? ⟨f,7,none⟩=some (.int .i64 l.hd):=λx=>((b _).1 x.h)
    have j:c wr.drew.drew:=(b _).2 J;have D:=zb b;clear b J;haveI hinh:Inhabited (Wd c):=⟨⟨_,j⟩⟩
    refine zw (n:=8) (m:=3) 6 8 (λw'=>∃x:Wd c,w'=x.w) (by kernel_rfl) (by kernel_rfl) (λ_ _ d _ _ h=>by cases d<;>exact h) (by kernel_rfl) (by kernel_rfl) rfl rfl ⟨⟨_,j⟩,rfl⟩ ?_
    clear j;dsimp only[List.take];repeat (go_big_quiet_step (fail))
    refine yi ?_
    refine zR (i:=6) (by kernel_rfl) rfl rfl (λK u=>?_);go_wp2_with (go_at_call 197;refine Q.mono ?_;rintro _ w5 ⟨rfl,y⟩);have z:Below w.heap.size w w5:=k.drew.drew.trans (y.mono k.drew.drew.size);have W:=zb (a2 w5 z);have E:Ha (c w5):=(D _).2 (by rw[za ((y.o.block f (zc r.o)).trans r.o)];rfl);have T:=zb z;clear z y D;refine u _ _ (Or.inr ⟨⟨_,E⟩,rfl⟩) ?_
    refine zR (i:=7) (by kernel_rfl) rfl rfl (λK u=>?_);go_wp2_with fail;refine u _ _ (Or.inr ⟨⟨_,E⟩,rfl⟩) ?_
    refine zR (i:=8) (by kernel_rfl) rfl rfl (λK u=>?_);go_wp2_with (go_at_call 175;refine W.mono ?_;rintro _ w6 ⟨rfl,rfl⟩);refine u _ _ (by first|exact Or.inl rfl|exact Or.inl trivial|trivial) ?_
    refine bO (by kernel_rfl) ?_
    clear u z0;go_wp2_with fail;go_roundw
    case rel=>exact⟨i+1,by go_num,by omega,by rw[a9.o,a6.o];unfold VD;rw[Xt a4.o,Xt a7.o];rfl,T⟩
    simp[intOf];omega
   have b3:=ZT C;have Z:Ha (X=false):=P.o (by unfold VD;rw[xy C];simp);clear C;obtain⟨c,b⟩:∃c:World->Prop,∀w',c w'↔(w'.cell? ⟨f,7,none⟩=some (.int .i64 l.hd)):=⟨_,λ_=>xaw⟩
   have z0:∀x:Wd c,x.w.cell? ⟨f,7,none⟩=some (.int .i64 l.hd):=λx=>((b _).1 x.h)
   have j:c wr.drew.drew:=(b _).2 J;have D:=zb b;clear b J;haveI hinh:Inhabited (Wd c):=⟨⟨_,j⟩⟩
   refine zw (n:=8) (m:=3) 6 8 (λw'=>∃x:Wd c,w'=x.w) (by kernel_rfl) (by kernel_rfl) (λ_ _ d _ _ h=>by cases d<;>exact h) (by kernel_rfl) (by kernel_rfl) rfl rfl ⟨⟨_,j⟩,rfl⟩ ?_
   clear j;dsimp only[List.take];repeat (go_big_quiet_step (fail))
   refine yi ?_
   refine zR (i:=6) (by kernel_rfl) rfl rfl (λK u=>?_);go_wp2_with (go_at_call 197;refine Q.mono ?_;rintro _ w5 ⟨rfl,y⟩);have z:Below w.heap.size w w5:=k.drew.drew.trans (y.mono k.drew.drew.size);have W:=zb (a1 w5 z);have E:Ha (c w5):=(D _).2 (by rw[za ((y.o.block f (zc r.o)).trans r.o)];rfl);have T:=zb z;clear z y D;refine u _ _ (Or.inr ⟨⟨_,E⟩,rfl⟩) ?_
   refine zR (i:=7) (by kernel_rfl) rfl rfl (λK u=>?_);go_wp2_with fail;refine u _ _ (Or.inr ⟨⟨_,E⟩,rfl⟩) ?_
   refine zR (i:=8) (by kernel_rfl) rfl rfl (λK u=>?_);go_wp2_with (go_at_call 175;refine W.mono ?_;rintro _ w6 ⟨rfl,t,v',rfl⟩);refine⟨rfl,?_⟩;show UV w X _ _;rw[Z.o];exact⟨⟨t,v',rfl⟩,T⟩
  have b6:((l.got:Int)==(l.free:Int)+(l.hd:Int)+(l.sh:Int)+(l.sc:Int)+(l.gv:Int))=false:=by rw[xr];omega
  have Z:Ha (X=false):=P.o (by unfold VD;rw[xy A];rfl);clear A;obtain⟨c,b⟩:∃c:World->Prop,∀w',c w'↔(w'.cell? ⟨f,5,none⟩=some (.int .i64 l.got)/\w'.cell? ⟨f,6,none⟩=some (.int .i64 l.free)/\w'.cell? ⟨f,7,none⟩=some (.int .i64 l.hd)/\w'.cell? ⟨f,8,none⟩=some (.int .i64 l.sh)/\w'.cell? ⟨f,9,none⟩=some (.int .i64 l.sc)/\w'.cell? ⟨f,10,none⟩=some (.int .i64 l.gv)):=⟨_,λ_=>xaw⟩
  have z0:∀x:Wd c,x.w.cell? ⟨f,5,none⟩=some (.int .i64 l.got):=λx=>((b _).1 x.h).1
  have z1:∀x:Wd c,x.w.cell? ⟨f,6,none⟩=some (.int .i64 l.free):=λx=>((b _).1 x.h).2.1
  have z2:∀x:Wd c,x.w.cell? ⟨f,7,none⟩=some (.int .i64 l.hd):=λx=>((b _).1 x.h).2.2.1
  have z3:∀x:Wd c,x.w.cell? ⟨f,8,none⟩=some (.int .i64 l.sh):=λx=>((b _).1 x.h).2.2.2.1
  have z4:∀x:Wd c,x.w.cell? ⟨f,9,none⟩=some (.int .i64 l.sc):=λx=>((b _).1 x.h).2.2.2.2.1
  have z5:∀x:Wd c,x.w.cell? ⟨f,10,none⟩=some (.int .i64 l.gv):=λx=>((b _).1 x.h).2.2.2.2.2
  have j:c wr.drew:=(b _).2 ⟨y5,y6,J,y8,y9,H⟩;clear b y5 y6 J y8 y9 H;haveI hinh:Inhabited (Wd c):=⟨⟨_,j⟩⟩
  refine zw (n:=12) (m:=1) 29 29 (λw'=>∃x:Wd c,w'=x.w) (by kernel_rfl) (by kernel_rfl) (λ_ _ d _ _ h=>by cases d<;>exact h) (by kernel_rfl) (by kernel_rfl) rfl rfl ⟨⟨_,j⟩,rfl⟩ ?_
  clear j;dsimp only[List.take];repeat (go_big_quiet_step (fail))
  refine yi ?_
  refine zR (i:=29) (by kernel_rfl) rfl rfl (λK u=>?_);go_wp2_with (go_at_call 175;refine(a1 _ k.drew).mono ?_;rintro _ w4 ⟨rfl,t,v',rfl⟩);refine⟨rfl,?_⟩;show UV w X _ _;rw[Z.o];exact⟨⟨t,v',rfl⟩,k.drew⟩
 have b4:i=ls.length:=by omega
 subst b4;rw[Xs]at F;have b0:Ha (X=true):=by rw[Ha,HX.o,F]
 have k:=zb B;clear B F;go_wp2_with fail;go_end0;show UV w X _ _;rw[b0.o];exact⟨rfl,k⟩
