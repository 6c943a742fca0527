import Derived.Test.YtgcedalggnmooaaGreatDoorCm0X
set_option linter.all false
set_option maxRecDepth 100000
set_option maxHeartbeats 3200000
namespace Go.Proofs.YtgcedalggnmooaaGreatDoor
open Go.RowKit
open Tryz
def RN(b:Nat)(s:ByteArray)(g:s.size<=70368744177664)(w:World)(d:w.cell? ⟨b,0,none⟩=some (.string s))(f:w.frozen? ⟨b,0,none⟩=false)(c:Nat)(a:c<=s.size):Calls prog 135 #[.pointer (some ⟨b,0,none⟩),.int .i64 c] w λe w'=>e=.returned (.string (s.extract 0 c))/\w'=w.setCell ⟨b,0,none⟩ (.string (s.extract c s.size)):=by
 have hd:decide ((s.size:Int)<(c:Int))=false:=by simp;omega
 go_enter func135,ntmps135;go_wp2_with (go_at_call 137;go_in);go_ret;exact⟨rfl,rfl⟩
def RM(b:Nat)(s:ByteArray)(g:s.size<=70368744177664)(w:World)(d:w.cell? ⟨b,0,none⟩=some (.string s))(c:Nat)(a:s.size<c)(t:TypeId)(v:Value)(f:w.cell? ⟨3,0,none⟩=some (.iface t v)):Calls prog 135 #[.pointer (some ⟨b,0,none⟩),.int .i64 c] w λe w'=>e=.panicked [{ v:=.iface t v,recovered:=false }]/\w'=w:=by
 have hd:decide ((s.size:Int)<(c:Int))=true:=by simp;omega
 go_enter func135,ntmps135;go_wp2_with (go_at_call 137;go_in);exact⟨rfl,rfl,rfl⟩
def Fy(b:Nat)(l:4<=b)(s:ByteArray)(h:s.size<=70368744177664)(w g:World)(m:Gl w)(a:Rd b w g s)(c:Nat):Calls prog 135 #[.pointer (some ⟨b,0,none⟩),.int .i64 c] g λe w'=>(c<=s.size/\e=.returned (.string (s.extract 0 c))/\Rd b w w' (s.extract c s.size))\/(s.size<c/\iL b w e w'):=by
 have d:g.cell? ⟨b,0,none⟩=some (.string s):=by rw[za a.here];rfl
 by_cases f:c<=s.size
 ·refine(RN b s h g d (ze a.here 0) c f).mono ?_
  rintro e w' ⟨rfl,rfl⟩;exact Or.inl ⟨f,rfl,a.set _⟩
 obtain⟨i,j,k⟩:=(m.rd a l).2.1;refine(RM b s h g d c (by omega) i j k).mono ?_
 rintro e w' ⟨rfl,rfl⟩;exact Or.inr ⟨by omega,⟨i,j,rfl⟩,s,a⟩
def Wa(l:List UInt8):Option (List UInt8×Nat) :=
 if Pl.snd l=0 then none
 else if (l.drop (Pl.snd l)).length<Pl.fst l then none
 else if (l.drop (Pl.snd l+Pl.fst l)).length<4 then none
 else if (l.drop (Pl.snd l+Pl.fst l)).take 4=nU (l.take (Pl.snd l+Pl.fst l)) then some ((l.drop (Pl.snd l)).take (Pl.fst l),Pl.snd l+Pl.fst l+4) else none
def xH(s:ByteArray)(w:World):Calls prog 94 #[.string s] w λe w'=>e=.returned (.pointer (some ⟨w.heap.size,0,none⟩))/\w'=w.alloc (.cells #[.string s] 225):=by
 go_enter func94,ntmps94;go_wp2_with fail;go_ret;exact⟨rfl,rfl⟩
def Sg(w:World)(l:List UInt8)(e:Ending)(w':World):Prop:=Below w.heap.size w w' /\
 match Wa l with
 |some (c,_)=>e=.returned (.string ⟨c.toArray⟩)
 |none=>∃t v,e=.panicked [{ v:=.iface t v,recovered:=false }]
def Ss(s:ByteArray):s=⟨s.data.toList.toArray⟩:=by simp
def lB(s:ByteArray)(a b:Nat):(s.extract a b).data.toList=(s.data.toList.take b).drop a:=by
 rw[YL,xbC,List.extract_eq_take_drop,List.drop_take]
def Gg(s:ByteArray)(hs:s.size<=70368744177664)(w:World)(K:Gl w)(F:∃t v,w.cell? ⟨1,0,none⟩=some (.iface t v))(G:1<w.heap.size):Calls prog 86 #[.string s] w (Sg w s.data.toList):=by
 have j:4<=w.heap.size:=K.2.2;have C:=VE w (.cells #[.string s] 225);have H:Rd w.heap.size (w.alloc (.cells #[.string s] 225)) (w.alloc (.cells #[.string s] 225)) s:=Rd.refl (xp w _);have k:=K.below C;have r:=zb (xH s w);have d:=zb (lO w.heap.size j s hs _ _ k H);obtain⟨l,B⟩:=Ww s.data.toList;have Z:l.length=s.size:=by rw[B.o,yq];rfl
 rw[<-B.o]at d ⊢;have hn:=Pl.snd_le l;have bel:∀{w':World} {s':ByteArray},Rd w.heap.size (w.alloc (.cells #[.string s] 225)) w' s'->Below w.heap.size w w':=λh=>C.trans (h.below (xe _))
 have z:(s.extract (Pl.snd l) s.size).size=s.size-Pl.snd l:=by rw[XR];omega
 obtain⟨n,g⟩:=Ww (Pl.snd l);obtain⟨c,p⟩:=Ww (Pl.fst l);rw[<-g.o]at hn z;rw[<-g.o,<-p.o]at d;go_enter func86,ntmps86;go_wp2_with (go_at_call 94;refine(r.o).mono ?_;rintro e w1 ⟨rfl,rfl⟩);refine(d.o).mono ?_
 clear r d;rintro e w2 (⟨hn0,rfl,hr2⟩|⟨hn0,⟨t2,v2,rfl⟩,s2,hr2⟩)
 ·have y:=zb (Fy w.heap.size j (s.extract n s.size) (by omega) _ w2 k hr2 c);go_wp2_with fail;refine(y.o).mono ?_
  clear y;rintro e Q (⟨hc,rfl,hr3⟩|⟨hc,⟨t3,v3,rfl⟩,s3,hr3⟩)
  ·have E:Q.cell? ⟨w.heap.size,0,none⟩=some (.string ((s.extract n s.size).extract c (s.extract n s.size).size)):=hr3.cell;have A:((s.extract n s.size).extract c (s.extract n s.size).size).size=s.size-n-c:=by rw[XR];omega
   go_wp2_with (go_at_call 137;go_in)
   obtain⟨s2,i⟩:=Ww ((s.extract n s.size).extract c (s.extract n s.size).size);rw[<-i.o]at A hr3;clear E;have u:=zb (Fy w.heap.size j s2 (by omega) _ Q k hr3 4);refine(u.o).mono ?_
   clear u;rintro e w4 (⟨h4,rfl,hr4⟩|⟨h4,⟨t4,v4,rfl⟩,s4,hr4⟩)
   ·have W:(s.size:Int)-((s.extract n s.size).extract c (s.extract n s.size).size).size=((n+c:Nat):Int):=by rw[<-i.o];omega
    go_wp2_with fail;have X:s.size-(s.size-n-c)=n+c:=by omega
    have q:=zb (tW (s.extract 0 (s.size-(s.size-n-c))) (by rw[XR];omega) w4);refine(q.o).mono ?_
    clear q;rintro e w5 ⟨rfl,D⟩;have b:Below w.heap.size w w5:=(bel hr4).trans (D.mono (by rw[hr4.size];exact C.size));obtain⟨N,P,T⟩:=F;have h5:w5.cell? ⟨1,0,none⟩=some (.iface N P):=by rw[b.cell G];exact T
    have m:s.data.toList=l:=B.o.symm;have R:(s.extract 0 (s.size-(s.size-n-c))).data.toList=l.take (n+c):=by rw[X,<-m];simp
    have J:(s2.extract 0 4).data.toList=(l.drop (n+c)).take 4:=by
     rw[lB,i.o,lB,lB,m,Xy (l:=l) (by omega),Xy (l:=l.drop n) (by rw[XM];omega),List.drop_drop,xaK]
    have S:((s.extract n s.size).extract 0 c).data.toList=(l.drop n).take c:=by
     rw[lB,lB,m,Xy (l:=l) (by omega),xaK]
    rw[R];go_wp2_with fail
    ·have M:(!(s2.extract 0 4).toList==nU (l.take (n+c)))=true:=by assumption
     rw[yd,J,xbk,xr]at M;have a:¬(l.drop (n+c)).take 4=nU (l.take (n+c)):=M;refine⟨rfl,b,?_⟩;have f:Wa l=none:=by
      unfold Wa;rw[<-g.o,<-p.o,xg hn0,xg (by rw[XM];omega),xg (by rw[XM];omega),xg a]
     rw[f];exact⟨N,P,rfl⟩
    rename_i a;rw[yd,J]at a;have a:(l.drop (n+c)).take 4=nU (l.take (n+c)):=by simpa using a
    go_ret;refine⟨b,?_⟩
    have f:Wa l=some ((l.drop n).take c,n+c+4):=by
     unfold Wa;rw[<-g.o,<-p.o,xg hn0,xg (by rw[XM];omega),xg (by rw[XM];omega),xh a]
    rw[f,<-S];exact YK (λx=>Ending.returned (Value.string x)) (Ss _)
   go_wp2_with fail;refine⟨rfl,bel hr4,?_⟩
   have f:Wa l=none:=by
    unfold Wa;rw[<-g.o,<-p.o,xg hn0,xg (by rw[XM];omega),xh (by rw[XM];omega)]
   rw[f];exact⟨t4,v4,rfl⟩
  go_wp2_with fail;refine⟨rfl,bel hr3,?_⟩
  have f:Wa l=none:=by
   unfold Wa;rw[<-g.o,<-p.o,xg hn0,xh (by rw[XM];omega)]
  rw[f];exact⟨t3,v3,rfl⟩
 go_wp2_with fail;refine⟨rfl,bel hr2,?_⟩
 have f:Wa l=none:=by unfold Wa;rw[<-g.o,xh hn0]
 rw[f];exact⟨t2,v2,rfl⟩
structure GmB(B:Nat)(w:World):Prop where
 nogo:∃t v,w.cell? ⟨0,0,none⟩=some (.iface t v)
 chk:∃t v,w.cell? ⟨1,0,none⟩=some (.iface t v)
 lt1:0<B
 lt2:1<B
variable {B Lb:Nat}{w w0:World}
def GmB.at(h:GmB B w0)(a:Below B w0 w):GmB B w:=by
 obtain⟨⟨f,i,d⟩,⟨g,j,e⟩,b,c⟩:=h;exact⟨⟨f,i,by rw[a.cell b];exact d⟩,⟨g,j,by rw[a.cell c];exact e⟩,b,c⟩
variable {Z:Nat->Prop}{s:Sv}
def Kv.logv(h:Kv B w0 w Z Lb s):∃a c,w.cell? ⟨Lb,1,none⟩=some (.slice a s.lg.length c):=by
 obtain⟨S,i,lv,e⟩:=h.pl.ps;have c1:w.cell? ⟨Lb,1,none⟩=some lv:=by rw[za e.here];rfl
 have d:=e.log
 cases f:s.lg with
 |nil=>
  obtain rfl:=d.2 f;exact⟨none,0,c1⟩
 |cons b r=>
  rw[f]at d;obtain⟨g,cap,rfl,_,_⟩:=rE d.1 (by simp);exact⟨_,cap,c1⟩
def Ug(h:Kv B w0 w Z Lb s)(t:ByteArray)(q:t.size<=4194304)(j:s.lg.length<=35184372088832):Calls prog 46 #[.pointer (some ⟨Lb,0,none⟩),.string t] w λe w'=>(∃n m,e=.returned (.tuple #[n,m]))/\∃Z',Kv B w0 w' Z' Lb (aO s t)/\Kn Z w Z' w':=by
 have f:=lF (rj:=s.rj) (td:=s.td) h.good h.room t.data.toList;refine(JQ h.pl h.good h.gl t q (λ_=>j)).mono ?_
 rintro e w' ⟨⟨n,r,m,p,_,_,_⟩,b,l⟩;refine⟨⟨_,_,p⟩,λk=>Zn Z w k/\k<w'.heap.size,⟨h.old.trans ⟨b.os,b.tape,b.output,b.size,λk g=>b.block k (xl g h.size) (λa=>by have:=(h.zin k a).1;omega)⟩,xj h.size b.size,h.two,h.gl.kp b (λa=>by have:=(h.zin 2 a).1;have:=h.two;omega) (λa=>by have:=(h.zin 3 a).1;have:=h.two;omega),l.bound,?_,f⟩,b.size,λk i a=>⟨b.block k i a,?_⟩⟩
 ·rintro k ⟨a,c⟩;rcases a with a|a
  ·exact⟨(h.zin k a).1,c⟩
  exact⟨xj h.size a,c⟩
 rintro⟨d,_⟩;rcases d with d|d
 ·exact a d
 omega
def Gs(t:ByteArray)(h:t.data.toList.getD 0 0≠13)(w:World):Calls prog 133 #[.string t] w λe w'=>e=.returned (.bool false)/\w'=w:=by
 by_cases a:t.size=0
 ·have f:t.toList.isEmpty=true:=by
   rw[yd];have:t.data.toList.length=0:=by rw[yq];exact a
   rw[XD.1 this];rfl
  go_enter func133,ntmps133;go_wp2_with fail;go_ret;exact⟨rfl,rfl⟩
 have f:t.toList.isEmpty=false:=by
  rw[yd];have:t.data.toList.length≠0:=by rw[yq];exact a
  cases b:t.data.toList with
  |nil=>rw[b]at this;exact absurd rfl this
  |cons=>rfl
 have c:0<t.size:=by omega
 have g:(t[0].toNat:Int)≠13:=by
  intro b;apply h;have:t.data.toList.getD 0 0=t[0]:=by rw[cZ t 0 c]
  rw[this];have d:(13:UInt8).toNat=13:=rfl;exact ya.1 (by omega)
 go_enter func133,ntmps133;go_wp2_with fail;rw[xr.2 g];go_ret;exact⟨rfl,rfl⟩
def Uc(B:Nat)(w0:World)(Z:Nat->Prop)(w:World)(Lb:Nat)(s:Sv)(t:ByteArray)(e:Ending)(w':World):Prop :=
 (((aO s t).lg.length≠s.lg.length/\e=.returned (.tuple #[]))\/((aO s t).lg.length=s.lg.length/\∃u v,e=.panicked [{ v:=.iface u v,recovered:=false }]))/\∃Z',Kv B w0 w' Z' Lb (aO s t)/\Kn Z w Z' w'
def Oe(h:Kv B w0 w Z Lb s)(u:GmB B w0)(t:ByteArray)(v:t.size<=4194304)(m:s.lg.length<=35184372088832)(d:s.lg=[]->t.data.toList.getD 0 0≠13):Calls prog 85 #[.pointer (some ⟨Lb,0,none⟩),.string t] w (Uc B w0 Z w Lb s t):=by
 obtain⟨A,c1,k⟩:=h.logv;have c:=zb (Ug h t v m);have r:=Ox s t v;by_cases q:s.lg.length=0
 ·have i:=zb (Gs t (d (XD.1 q)) w);clear h d;rw[q]at k;go_enter func85,ntmps85;go_wp2_with (go_at_call 133;refine(i.o).mono ?_;rintro e w1 ⟨rfl,rfl⟩);refine(c.o).mono ?_
  rintro e w2 ⟨⟨z,y,rfl⟩,g,a,b⟩;obtain⟨x,c2,l⟩:=a.logv;obtain⟨n,p,j⟩:=(u.at a.old).nogo;clear c;go_wp2_with fail
  ·have f:(((aO s t).lg.length:Int)==0)=true:=by assumption
   rw[Yi]at f;exact⟨rfl,Or.inr ⟨by omega,n,p,rfl⟩,g,a,b⟩
  have f:(((aO s t).lg.length:Int)==0)=false:=by assumption
  rw[xr]at f;go_end0;exact⟨Or.inl ⟨by omega,rfl⟩,g,a,b⟩
 clear h d;go_enter func85,ntmps85;go_wp2_with fail;refine(c.o).mono ?_
 rintro e w2 ⟨⟨z,y,rfl⟩,g,a,b⟩;obtain⟨x,c2,l⟩:=a.logv;obtain⟨n,p,j⟩:=(u.at a.old).nogo;clear c;go_wp2_with fail
 ·have f:(((aO s t).lg.length:Int)==(s.lg.length:Int))=true:=by assumption
  rw[Yi]at f;exact⟨rfl,Or.inr ⟨by omega,n,p,rfl⟩,g,a,b⟩
 have f:(((aO s t).lg.length:Int)==(s.lg.length:Int))=false:=by assumption
 rw[xr]at f;go_end0;exact⟨Or.inl ⟨by omega,rfl⟩,g,a,b⟩
def nQ(p q:Addr)(g:Nat)(a:Option Addr)(n c:Nat)(x:Value)(u:TypeId)(pv:Value)(b:List PanicEntry)(w:World)(r:n<=70368744177664)(h:w.cell? p=some (.pointer (some ⟨g,0,none⟩)))(i:w.cell? ⟨g,1,none⟩=some (.slice a n c))(d:w.cell? q=some x)(f:w.frozen? q=false):CallsD prog 84 #[.pointer (some p),.pointer (some q)] (.panicking ({ v:=.iface u pv,recovered:=false }::b)) w λe k w' =>
   e=.returned (.tuple #[])/\k=.panicking ({ v:=.iface u pv,recovered:=true }::b)/\w'=w.setCell q (.int .i64 n):=by
 refine xbZ func84 rfl λm l j=>?_
 apply wpS_seq
 apply xbQ
 simp[wpOpsS,go_sem,recoverD,j,ntmps84,Exit.thenS];refine wpS_cond (t:=true) (by simp[Act.eval,Array.replicate]) ?_
 simp only[Yo];apply xbQ;simp[wpOpsS,go_sem,h,i,d,f,bodyPostS,results,Tryz.results84]
def DE(p q:Addr)(w:World):CallsD prog 84 #[.pointer (some p),.pointer (some q)] .returning w λe c w'=>e=.returned (.tuple #[])/\c=.returning/\w'=w:=by
 refine xbZ func84 rfl λa d b=>?_
 apply wpS_seq
 apply xbQ
 simp[wpOpsS,go_sem,recoverD,b,ntmps84,Exit.thenS];refine wpS_cond (t:=false) (by simp[Act.eval,Array.replicate]) ?_
 simp only[XV,YF];refine wpS_of_wp (wp_skip ?_)
 cases a;simp_all [bodyPostS,results,Tryz.results84]
def rp:Nat->List UInt8->Sv->Sv
 |0,_,s=>s
 |f+1,l,s=>if s.lg.length<l.length then
   (match Wa (l.drop s.lg.length) with
   |none=>s
   |some (c,_)=>if (aO s ⟨c.toArray⟩).lg.length=s.lg.length then aO s ⟨c.toArray⟩ else rp f l (aO s ⟨c.toArray⟩))
  else s
def JU(w:World)(Lb:Nat):Nat:=match w.cell? ⟨Lb,1,none⟩ with|some (.slice _ n _)=>n|_=>0
def Pn(h:Kv B w0 w Z Lb s){b:Nat}(l:¬Z b)(t:B<=b)(i:Nat)(u:Value):Kv B w0 (w.setCell ⟨b,i,none⟩ u) Z Lb s:=by
 have d:(w.setCell ⟨b,i,none⟩ u).heap.size=w.heap.size:=by simp[World.setCell]
 have c:∀k,k≠b->(w.setCell ⟨b,i,none⟩ u).heap[k]?=w.heap[k]?:=λk f=>xd _ _ _ _ f
 have r:=h.two;refine⟨⟨h.old.os,h.old.tape,h.old.output,by rw[d];exact h.old.size,λk f=>(c k (by omega)).trans (h.old.block k f)⟩,by rw[d];exact h.size,h.two,?_,h.pl.congr (λk f=>c k (λe=>l (e ▸ f))),λk f=>by rw[d];exact h.zin k f,h.good⟩;obtain⟨⟨m,p,g⟩,⟨n,q,j⟩,g2⟩:=h.gl;exact⟨⟨m,p,(xo (a:=⟨2,0,none⟩) (c 2 (by omega))).trans g⟩,⟨n,q,(xo (a:=⟨3,0,none⟩) (c 3 (by omega))).trans j⟩,by rw[d];exact g2⟩
def Pm{Z':Nat->Prop}{w':World}(h:Kn Z w Z' w'){b:Nat}(d:w.heap.size<=b)(i:Nat)(u:Value):Kn Z w Z' (w'.setCell ⟨b,i,none⟩ u) :=
 ⟨by simp[World.setCell];exact h.size,λk a c=>⟨(xd _ _ _ _ (show k≠b by omega)).trans (h.keep k a c).1,(h.keep k a c).2⟩⟩
def PQ(Qn:Act->World->Prop)(D:List Deferred)(p:Value)(G:List PanicEntry->World->Prop)(e:Exit)(a:Act)(w:World):Prop :=
 match e with
 | .normal=>Qn a w
 | .panic ch=>a.defers=D/\a.tmps.getD 4 undef=p/\G ch w
 |_=>False
def BC{e:Act->World->Prop}{D:List Deferred}{p:Value}{G:List PanicEntry->World->Prop}(d:Nat)(hd:d≠4)(v:Value):∀c a w,PQ e D p G (.panic c) (a.put (some d) v) w->PQ e D p G (.panic c) a w:=by
 rintro c a w ⟨f,g,h⟩;refine⟨f,?_,h⟩;have b:(a.tmps.setIfInBounds d v).getD 4 undef=p:=g;rw[<-b];simp[Array.getD_eq_getD_getElem?,Array.getElem?_setIfInBounds_ne hd]
def OQ{P:Program}{c:Code}{Q:Exit->Act->World->Prop}{a:Act}(D:List Deferred)(p:Value)(G:List PanicEntry->World->Prop)(f:∀d b w',b.defers=D->b.tmps.getD 4 undef=p->G d w'->Q (.panic d) b w')
  (h:c.wp P (PQ (Q .normal) D p G) a w):c.wp P Q a w :=
 Code.wp_mono (λe a w q=>by cases e<;>first|exact q|exact f _ _ _ q.1 q.2.1 q.2.2|exact False.elim q) h
structure Vo(B:Nat)(w0 w:World)(Z:Nat->Prop)(Lb:Nat)(sf:Sv)(ch:List PanicEntry)(w2:World):Prop where
 one:∃tp vp,ch=[{ v:=.iface tp vp,recovered:=false }]
 kv:∃Z2,Kv B w0 w2 Z2 Lb sf/\Kn Z w Z2 w2/\¬Z2 (w.heap.size+1)
 box:w2.cell? ⟨w.heap.size,0,none⟩=some (.pointer (some ⟨Lb,0,none⟩))
 tak:w2.heap[w.heap.size+1]?=some (.cells #[.int .i64 0] 3 (0,0))
 sml:sf.lg.length<=70368744177664
abbrev Gt(w:World)(Lb:Nat):World:=(w.alloc (.cells #[.pointer (some ⟨Lb,0,none⟩)] 43)).alloc (.cells #[.int .i64 0] 3)
def ZX(s:Sv)(t:ByteArray):Sv:=if s.lg=[]/\t.data.toList.getD 0 0=13 then (match zE t.data.toList with|some (td,ls,os,rj)=>⟨td,os,rj,ls,bM t.data.toList⟩|none=>s) else aO s t
def DV(s:Sv)(t:ByteArray):s.lg.length<=(ZX s t).lg.length:=by
 unfold ZX;split
 ·rename_i h;rw[h.1];exact Nat.zero_le _
 show _<=(Wp _ _ _).length;unfold Wp;split
 ·rw[xc];omega
 omega
structure GmU(B:Nat)(w:World):Prop where
 gm:GmB B w
 un:Gu w
 lt:4<B
def GmU.at{B:Nat}{b w:World}(h:GmU B b)(a:Below B b w):GmU B w:=by
 obtain⟨t,v,c⟩:=h.un;exact⟨h.gm.at a,⟨t,v,by rw[a.cell h.lt];exact c⟩,h.lt⟩
def GmU.up(h:GmU B w0)(b:Below B w0 w)(a:B<=w.heap.size):GmU w.heap.size w:=by
 have k:=h.at b;exact⟨⟨k.gm.nogo,k.gm.chk,xl k.gm.lt1 a,xl k.gm.lt2 a⟩,k.un,xl k.lt a⟩
def CZ(t:ByteArray)(h:t.data.toList.getD 0 0=13)(w:World):Calls prog 133 #[.string t] w λe w'=>e=.returned (.bool true)/\w'=w:=by
 have a:t.size≠0:=λa=>by
  have:t.data.toList.length=0:=by rw[yq];exact a
  rw[XD.1 this]at h;cases h
 have d:t.toList.isEmpty=false:=by
  rw[yd];have:t.data.toList.length≠0:=by rw[yq];exact a
  cases c:t.data.toList with
  |nil=>rw[c]at this;exact absurd rfl this
  |cons=>rfl
 have b:0<t.size:=by omega
 have f:(t[0].toNat:Int)=13:=by
  have:t.data.toList.getD 0 0=t[0]:=by rw[cZ t 0 b]
  rw[this]at h;rw[h];rfl
 go_enter func133,ntmps133;go_wp2_with fail;go_ret;exact⟨rfl,rfl⟩
def PS.anewS{lg f:List UInt8}{rj m:List (Nat×Nat)}{P:Nat->Prop}{w1 w5:World}{td y S r:Nat}{ls x:List L}{os os':List O}{lv a:Value}(h:PS lg os rj Z w Lb td ls S P lv)(R:f≠[])
  (s:Below w.heap.size w w1) (E:PI os' m (λk=>w.heap.size<=k) w1 r y x)
  (c:Below w1.heap.size (w1.setCell ⟨Lb,0,none⟩ (.pointer (some ⟨r,0,none⟩))) w5) (N:w5.ownsRow w1.heap.size 5 1 a f.length (U8 f)) :
  Kp Z w (w5.setCell ⟨Lb,1,none⟩ a)/\PL f os' m (Zn Z w) (w5.setCell ⟨Lb,1,none⟩ a) Lb y x:=by
 have D:=zc h.here;have T:=s.size;have A:=(s.block Lb D).trans h.here;have d:=xu w1 Lb 0 _ 91 (.pointer (some ⟨r,0,none⟩)) A;have B:=(c.block Lb (by omega)).trans d;have p:=xu w5 Lb 1 _ 91 a B;have l:∀k,k≠Lb->(w5.setCell ⟨Lb,1,none⟩ a).heap[k]?=w5.heap[k]?:=λk b=>xd _ _ _ _ b
 have n:∀k,k≠Lb->(w1.setCell ⟨Lb,0,none⟩ (.pointer (some ⟨r,0,none⟩))).heap[k]?=w1.heap[k]?:=λk b=>xd _ _ _ _ b
 have u:(w1.setCell ⟨Lb,0,none⟩ (.pointer (some ⟨r,0,none⟩))).heap.size=w1.heap.size:=by simp[World.setCell]
 have F:=c.size;rw[u]at F;have G:(w5.setCell ⟨Lb,1,none⟩ a).heap.size=w5.heap.size:=by simp[World.setCell]
 have g:∀k,k<w1.heap.size->k≠Lb->(w5.setCell ⟨Lb,1,none⟩ a).heap[k]?=w1.heap[k]?:=λk b t=>(l k t).trans ((c.block k b).trans (n k t))
 have j:∀k,a.ownBlock=some k->w1.heap.size<=k:=λk b=>(N.lt k b).1
 obtain⟨M,v,Q,J,K,C⟩:=E;have i:=K.bound C;refine⟨⟨c.os.trans s.os,c.tape.trans s.tape,c.output.trans s.output,by rw[G];omega,λk b W=>?_⟩,r,λk=>w.heap.size<=k/\k<w1.heap.size,a,p,Or.inl h.inZ,λq=>by omega,λk q=>Or.inr q.1,?_,⟨zd (dZ N (Nat.zero_le _)) (λk b=>l k (λe=>?_)),λe=>absurd e R⟩,λk b=>?_⟩
 ·have H:k≠Lb:=λe=>W (e ▸ h.inZ)
  exact(g k (by omega) H).trans (s.block k b)
 ·exact⟨M,v,Q,J,K.congr i (λk b=>g k b.2 (λe=>by have:=b.1;omega)),i⟩
 ·have:=j k b;omega
 have:=j k b
 exact⟨Or.inr (by omega),by omega,λz=>by omega⟩
def Sj(B:Nat)(w0:World)(Z:Nat->Prop)(w:World)(Lb:Nat)(s:Sv)(t:ByteArray)(e:Ending)(w':World):Prop :=
 (((ZX s t).lg.length≠s.lg.length/\e=.returned (.tuple #[]))\/((ZX s t).lg.length=s.lg.length/\∃u v,e=.panicked [{ v:=.iface u v,recovered:=false }]))/\∃Z',Kv B w0 w' Z' Lb (ZX s t)/\Kn Z w Z' w'
def KZ(h:Kv B w0 w Z Lb s)(hm:GmU B w0)(t:ByteArray)(ht:t.size<=4194304)(a3:s.lg.length<=35184372088832)(u:s.lg=[]->t.data.toList.getD 0 0=13->∀td ls os rj,zE t.data.toList=some (td,ls,os,rj)->Good os ls):Calls prog 85 #[.pointer (some ⟨Lb,0,none⟩),.string t] w (Sj B w0 Z w Lb s t):=by
 by_cases X:s.lg=[]/\t.data.toList.getD 0 0=13
 ·obtain⟨p,b⟩:=X;obtain⟨S,Zs,lv,j⟩:=h.pl.ps;obtain rfl:lv=.slice none 0 0:=j.log.2 p;have J:=j.here;have c0:w.cell? ⟨Lb,0,none⟩=some (.pointer (some ⟨S,0,none⟩)):=by rw[za J];rfl
  have c1:w.cell? ⟨Lb,1,none⟩=some (.slice none 0 0):=by rw[za J];rfl
  have A:=zb (CZ t b w);have d:=zb (wI t (by omega) w h.gl (hm.at h.old).un);have r:=u p b
  cases E:zE t.data.toList with
  |none=>
   have e:ZX s t=s:=by unfold ZX;rw[xh ⟨p,b⟩,E]
   rw[E]at d;have P:=zb h;have y:=zb e;clear h u r j e;go_enter func85,ntmps85;go_wp2_with (go_at_call 133;refine(A.o).mono ?_;rintro e w1 ⟨rfl,l⟩;have v:=l.symm;subst v;clear l);refine(d.o).mono ?_
   rintro e w1 ⟨⟨tp,vp,rfl⟩,c⟩;refine⟨rfl,Or.inr ⟨by rw[y.o],tp,vp,rfl⟩,Z,?_,Kn.below c⟩;rw[y.o];exact P.o.below c
  |some x=>
   obtain⟨td,ls,os,rj⟩:=x;have e:ZX s t=⟨td,os,rj,ls,bM t.data.toList⟩:=by unfold ZX;rw[xh ⟨p,b⟩,E]
   have g:=r td ls os rj E;rw[E]at d;have P:=zb h;have y:=zb e;have R:=zb j;have N:=zb g;have z:=zb (λ(w1:World)=>iE w1.heap.size (.slice none 0 0) [] t (by omega) (by simp) w1 (xe _) (Xx _ _ _ _));have m:=zc J;have Q:Ha (s.lg.length=0):=by unfold Ha;rw[p];rfl
   obtain⟨F,M⟩:=Ww (bM t.data.toList);rw[<-M.o]at z y;have f:0<([]++F).length:=by have:=Yx.2 (lC t.data.toList);rw[<-M.o]at this;simpa using this
   clear h u r j e g;go_enter func85,ntmps85;go_wp2_with (go_at_call 133;refine(A.o).mono ?_;rintro e w1 ⟨rfl,l⟩;have v:=l.symm;subst v;clear l);refine(d.o).mono ?_
   rintro e w1 ⟨T,rfl,a6,c⟩;have q:=(c.block Lb m).trans J;have d0:w1.cell? ⟨Lb,0,none⟩=some (.pointer (some ⟨S,0,none⟩)):=by rw[za q];rfl
   have f0:=ze q 0;clear d;go_wp2_with (go_at_call 54;refine(z.o _).mono ?_;rintro e w5 ⟨v5,rfl,H,a0,b2⟩;have W:=xu w1 Lb 0 _ 91 (.pointer (some ⟨T,0,none⟩)) q;have G:Below w1.heap.size (w1.setCell ⟨Lb,0,none⟩ (.pointer (some ⟨T,0,none⟩))) w5:=((xm _ _).grown a0 (by simp[World.setCell]) (λk i=>by cases i));obtain⟨g5,n,a8,_,_⟩:=zL H f;subst a8;have D:=(G.block Lb (by have:=c.size;omega)).trans W;have b0:w5.cell? ⟨Lb,1,none⟩=some (.slice none 0 0):=(by rw[za D];rfl);have b1:=ze D 1);go_end0;have a9:(w1.setCell ⟨Lb,0,none⟩ (.pointer (some ⟨T,0,none⟩))).heap.size=w1.heap.size:=by simp[World.setCell]
   have a5:w5.ownsRow w1.heap.size 5 1 (.slice (some ⟨g5,0,none⟩) F.length n) F.length (U8 F):=dZ (by simpa using H) (xe _);have C:F≠[]:=by rw[M.o];exact lC _
   obtain⟨i,a7⟩:=R.o.anewS C c a6 G a5;have h:=P.o;have a4:([]++F).length=F.length:=by simp
   refine⟨Or.inl ⟨by rw[y.o,Q.o];show F.length≠0;rw[a4]at f;omega,rfl⟩,λk=>Zn Z w k/\k<(w5.setCell ⟨Lb,1,none⟩ (.slice (some ⟨g5,0,none⟩) F.length n)).heap.size,?_,?_⟩
   ·rw[y.o];refine⟨h.old.trans ⟨i.os,i.tape,i.output,i.size,λk a1=>i.block k (xl a1 h.size) (λa=>by have:=(h.zin k a).1;omega)⟩,xj h.size i.size,h.two,h.gl.kp i (λa=>by have:=(h.zin 2 a).1;have:=h.two;omega) (λa=>by have:=(h.zin 3 a).1;have:=h.two;omega),a7.bound,?_,N.o⟩;rintro k ⟨a,m⟩;rcases a with a|a
    ·exact⟨(h.zin k a).1,m⟩
    exact⟨xj h.size a,m⟩
   refine⟨i.size,λk a2 a=>⟨i.block k a2 a,?_⟩⟩;rintro⟨K,_⟩;rcases K with K|K
   ·exact a K
   omega
 have e:ZX s t=aO s t:=by unfold ZX;rw[xg X]
 refine(Oe h hm.gm t ht a3 (λp b=>X ⟨p,b⟩)).mono ?_
 intro e' w' hr;unfold Sj;rw[e];exact hr
def WI:Nat->List UInt8->Sv->Sv
 |0,_,s=>s
 |f+1,l,s=>if s.lg.length<l.length then
   (match Wa (l.drop s.lg.length) with
   |none=>s
   |some (c,_)=>if (ZX s ⟨c.toArray⟩).lg.length=s.lg.length then ZX s ⟨c.toArray⟩ else WI f l (ZX s ⟨c.toArray⟩))
  else s
structure Ud(l:List UInt8)(I:Sv->Prop):Prop where
 small:∀s,I s->s.lg.length<=35184372088832
 step:∀s c n,I s->(∀l∈s.ls,L.Ok l)->s.ls.length<=30->s.lg.length<l.length->Wa (l.drop s.lg.length)=some (c,n)->c.length<=4194304/\(s.lg=[]->c.getD 0 0=13->∀td ls os rj,zE c=some (td,ls,os,rj)->Good os ls)/\I (ZX s ⟨c.toArray⟩)
def DO(h:Kv B w0 w Z Lb s)(hm:GmU B w0)(log:ByteArray)(e3:log.size<=35184372088832)(I:Sv->Prop)(c6:I s)(hI:Ud log.data.toList I):Calls prog 57 #[.pointer (some ⟨Lb,0,none⟩),.string log] w λe w'=>e=.returned (.int .i64 (((WI log.size log.data.toList s).lg.length:Nat):Int))/\∃Z',Kv B w0 w' Z' Lb (WI log.size log.data.toList s)/\Kn Z w Z' w':=by
 have e7:∀(fn:Fn) (first cap:Array Value) (w:World),(Instr.makeFunc fn first cap).run prog w=.ok (.func fn first cap) w:=λ_ _ _ _=>rfl
 have k:Below w.heap.size w (Gt w Lb):=(VE w _).trans ((VE _ _).mono (by show _<=(w.heap.push _).size;rw[xcu];omega));have h2:=h.below k;have b3:(Gt w Lb).heap.size=w.heap.size+2:=by show((w.heap.push _).push _).size=_;rw[xcu,xcu]
 have a0:(Gt w Lb).heap[w.heap.size]?=some (.cells #[.pointer (some ⟨Lb,0,none⟩)] 43 (0,0)):=by
  show((w.heap.push _).push _)[w.heap.size]?=_;rw[Ym,xg (by simp),Ym,xh rfl]
 have M:(Gt w Lb).heap[w.heap.size+1]?=some (.cells #[.int .i64 0] 3 (0,0)):=by
  show((w.heap.push _).push _)[w.heap.size+1]?=_;rw[Ym,xh (by simp)]
 have b0:¬Z w.heap.size:=λhz=>by have:=(h.zin _ hz).2;omega
 have b1:¬Z (w.heap.size+1):=λhz=>by have:=(h.zin _ hz).2;omega
 have P:∀{Z':Nat->Prop} {w':World},Kn Z (Gt w Lb) Z' w'->Kn Z w Z' w':=λhk=>(Kn.below k).trans hk
 obtain⟨l,HL⟩:=Ww log.data.toList;have e5:l.length=log.size:=by rw[HL.o,yq];rfl
 rw[<-HL.o]at hI ⊢;obtain⟨d,a4⟩:=Ww (WI log.size l s);rw[<-a4.o];go_enter_defers func57,ntmps57;go_wp2_with fail;go_loopw [6] (λ_ wr=>∃(Z':Nat->Prop) (s':Sv) (f:Nat),Kv B w0 wr Z' Lb s'/\Kn Z (Gt w Lb) Z' wr/\I s'/\log.size-s'.lg.length<=f/\WI f l s'=d) (λ_ wr=>log.size-JU wr Lb)
 case atStart=>exact⟨Z,s,log.size,h2,Kn.refl _ _,c6,by omega,a4.o.symm⟩
 obtain⟨Z1,s1,f,x,y,hi,hf,N⟩:=hrel;obtain⟨a1,c1,d5⟩:=x.logv;obtain⟨k0,z0⟩:=y.keep w.heap.size (by rw[b3];omega) b0;obtain⟨k1,z1⟩:=y.keep (w.heap.size+1) (by rw[b3];omega) b1;have c0:wr.cell? ⟨w.heap.size,0,none⟩=some (.pointer (some ⟨Lb,0,none⟩)):=by rw[za (k0.trans a0)];rfl
 have b8:wr.cell? ⟨w.heap.size+1,0,none⟩=some (.int .i64 0):=by rw[za (k1.trans M)];rfl
 have f1:wr.frozen? ⟨w.heap.size+1,0,none⟩=false:=ze (k1.trans M) 0;have d9:=hI.small s1 hi;have b5:=zb x.ok;have b6:=zb x.room;by_cases e6:s1.lg.length<log.size
 ·have e4:(0:Int)<=(s1.lg.length:Int):=by omega
  have k:(s1.lg.length:Int)<=(log.size:Int):=by omega
  have hD:Below wr.heap.size wr wr.drew:=⟨rfl,rfl,rfl,xe _,λ_ _=>rfl⟩
  have t:=x.below hD;have X:=Gg (log.extract s1.lg.length log.size) (by rw[XR];omega) wr.drew t.gl (hm.at t.old).gm.chk (xl hm.gm.lt2 t.size);have d7:(log.extract s1.lg.length log.size).data.toList=l.drop s1.lg.length:=by rw[lB,<-HL.o,Xy (l:=l) (by omega)]
  rw[d7]at X;have F:=zb X;have b4:∀w2,Below wr.drew.heap.size wr.drew w2->Kv B w0 w2 Z1 Lb s1/\Kn Z w Z1 w2/\w2.heap[w.heap.size]?=some (.cells #[.pointer (some ⟨Lb,0,none⟩)] 43 (0,0))/\w2.heap[w.heap.size+1]?=some (.cells #[.int .i64 0] 3 (0,0)):=λw2 hb=>by
   have J:Below wr.heap.size wr w2:=hD.trans hb;exact⟨x.below J,(P y).trans (Kn.below J),(J.block _ (zc (k0.trans a0))).trans (k0.trans a0),(J.block _ (zc (k1.trans M))).trans (k1.trans M)⟩
  have a5:=zb b4;clear X b4 t;go_wp2_with fail;refine OQ [{ target:=.fn (.func 84) #[.pointer (some ⟨w.heap.size,0,none⟩),.pointer (some ⟨w.heap.size+1,0,none⟩)],args:=#[] }] (.pointer (some ⟨w.heap.size+1,0,none⟩)) (Vo B w0 w Z Lb d) ?_ ?_
  ·rintro ch ⟨T,D⟩ w2 c5 hT ⟨⟨tp,vp,rfl⟩,⟨Z2,Q,a8,zP⟩,b7,a6,b2⟩;obtain rfl:D=_:=c5;have c9:T.getD 4 undef=.pointer (some ⟨w.heap.size+1,0,none⟩):=hT;have d0:T[4]?.getD undef=.pointer (some ⟨w.heap.size+1,0,none⟩):=by rw[<-c9];simp
   have a7:w2.cell? ⟨w.heap.size+1,0,none⟩=some (.int .i64 0):=by rw[za a6];rfl
   have b9:w2.frozen? ⟨w.heap.size+1,0,none⟩=false:=ze a6 0;go_wp2_with fail;have m:=ym w2 ⟨w.heap.size+1,0,none⟩ (Value.int .i64 d.lg.length) a7
   obtain⟨aP,cP,a9⟩:=Q.logv;have hk:=Pn Q zP (xj h.size (by omega)) 0 (Value.int .i64 d.lg.length);have hn:=Pm a8 (b:=w.heap.size+1) (by omega) 0 (Value.int .i64 d.lg.length);have a:∃Z',Kv B w0 (w2.setCell ⟨w.heap.size+1,0,none⟩ (Value.int .i64 d.lg.length)) Z' Lb d/\Kn Z w Z' (w2.setCell ⟨w.heap.size+1,0,none⟩ (Value.int .i64 d.lg.length)):=⟨Z2,hk,hn⟩
   refine xbX (f:=84) (args:=#[.pointer (some ⟨w.heap.size,0,none⟩),.pointer (some ⟨w.heap.size+1,0,none⟩)]) (by simp) (by simp[go_sem]) ?_
   refine(nQ ⟨w.heap.size,0,none⟩ ⟨w.heap.size+1,0,none⟩ Lb aP d.lg.length cP (.int .i64 0) tp vp [] w2 b2 b7 a9 a7 b9).mono ?_
   rintro e u' e2 ⟨rfl,rfl,rfl⟩;clear hk hn a9;generalize (w2.setCell ⟨w.heap.size+1,0,none⟩ (Value.int .i64 d.lg.length))=W at m a ⊢;simp[Leaves,settle,results,Tryz.results57,go_sem,m,a,d0]
  have g:wr.drew.cell? ⟨w.heap.size,0,none⟩=some (.pointer (some ⟨Lb,0,none⟩)):=c0;refine wp_region_held_drew (S:=λw'=>w'.cell? ⟨w.heap.size,0,none⟩=some (.pointer (some ⟨Lb,0,none⟩))) (by kernel_rfl) g (λ_=>?_);refine wpAnyH_take (i:=0) (v:=.pointer (some ⟨Lb,0,none⟩)) rfl (by kernel_rfl) (by kernel_rfl) (by kernel_rfl) (BC _ (by decide) _) (Or.inl ⟨by rfl,λw j=>by dsimp only at j;go_simp⟩) g ?_
  simp only[Act.put,List.setIfInBounds_toArray,List.set_cons_zero,List.set_cons_succ];refine wpAnyH_take (i:=1) (v:=.string log) rfl (by kernel_rfl) (by kernel_rfl) (by kernel_rfl) (BC _ (by decide) _) (Or.inl ⟨by rfl,λw j=>by dsimp only at j;go_simp⟩) g ?_
  simp only[Act.put,List.setIfInBounds_toArray,List.set_cons_zero,List.set_cons_succ];refine wpAnyH_take (i:=2) (v:=.pointer (some ⟨Lb,0,none⟩)) rfl (by kernel_rfl) (by kernel_rfl) (by kernel_rfl) (BC _ (by decide) _) (Or.inl ⟨by rfl,λw j=>by dsimp only at j;go_simp⟩) g ?_
  simp only[Act.put,List.setIfInBounds_toArray,List.set_cons_zero,List.set_cons_succ];refine wpAnyH_take (i:=3) (v:=.pointer (some ⟨Lb,0,none⟩)) rfl (by kernel_rfl) (by kernel_rfl) (by kernel_rfl) (BC _ (by decide) _) (Or.inl ⟨by rfl,λw j=>by dsimp only at j;go_simp⟩) g ?_
  simp only[Act.put,List.setIfInBounds_toArray,List.set_cons_zero,List.set_cons_succ];refine wpAnyH_take (i:=4) (v:=.pointer (some ⟨Lb,1,none⟩)) rfl (by kernel_rfl) (by kernel_rfl) (by kernel_rfl) (BC _ (by decide) _) (Or.inl ⟨by rfl,λw j=>by dsimp only at j;go_simp⟩) g ?_
  simp only[Act.put,List.setIfInBounds_toArray,List.set_cons_zero,xbR];refine xbo (rs:=[5]) (by kernel_rfl) (by simp) (xaL rfl (λK r=>?_) xaV);go_simp;refine Hid.out r _ _ g (λ_=>?_);clear r K;refine xbo (rs:=[6]) (by kernel_rfl) (by simp) (xaL rfl (λK r=>?_) xaV);go_simp;refine Hid.out r _ _ g (λ_=>?_);clear r K;refine xbo (rs:=[7]) (by kernel_rfl) (by simp) (xaL rfl (λK r=>?_) xaV);go_simp;refine Hid.out r _ _ g (λ_=>?_);clear r K
  cases u:Wa (l.drop s1.lg.length) with
  |none=>
   have E:d=s1:=by
    rw[<-N];obtain⟨H,rfl⟩:∃H,f=H+1:=⟨f-1,by omega⟩
    show(if s1.lg.length<l.length then _ else _)=_;rw[xh (by omega),u]
   subst E;have G:Ha (Calls prog 86 #[.string (log.extract d.lg.length log.size)] wr.drew λe w2=>(∃tp vp,e=.panicked [{ v:=.iface tp vp,recovered:=false }])/\Below wr.drew.heap.size wr.drew w2):=F.o.mono λe w2 ⟨q1,q2⟩=>by
    rw[u]at q2;exact⟨q2,q1⟩
   clear F;refine xbo (rs:=[8]) (by kernel_rfl) (by simp) (xaL rfl (λK r=>?_) xaV);go_simp;refine(G.o).mono ?_
   rintro e w2 ⟨⟨tp,vp,rfl⟩,k⟩;obtain⟨A,z,R,e1⟩:=a5.o w2 k;refine⟨rfl,rfl,⟨tp,vp,rfl⟩,⟨Z1,A,z,z1⟩,?_,e1,by omega⟩;rw[za R];rfl
  |some p=>
   obtain⟨c,n⟩:=p;obtain⟨d1,d2,d3⟩:=hI.step s1 c n hi b5.o b6.o (by omega) u;have G:Ha (Calls prog 86 #[.string (log.extract s1.lg.length log.size)] wr.drew λe w2=>e=.returned (.string ⟨c.toArray⟩)/\Below wr.drew.heap.size wr.drew w2):=F.o.mono λe w2 ⟨q1,q2⟩=>by
    rw[u]at q2;exact⟨q2,q1⟩
   clear F;refine xbo (rs:=[8]) (by kernel_rfl) (by simp) (xaL rfl (λK r=>?_) xaV);go_simp;refine(G.o).mono ?_
   clear G;rintro e w2 ⟨rfl,k⟩;obtain⟨A,z,R,e1⟩:=a5.o w2 k;have c7:w2.cell? ⟨w.heap.size,0,none⟩=some (.pointer (some ⟨Lb,0,none⟩)):=by rw[za R];rfl
   have a2:=zb (KZ A hm ⟨c.toArray⟩ (by show c.toArray.size<=_;simpa using d1) d9 (by simpa using d2));refine Hid.out r _ _ c7 (λ_=>?_);clear r K;refine xbo (rs:=[9]) (by kernel_rfl) (by simp) (xaL rfl (λK r=>?_) xaV);go_simp;refine(a2.o).mono ?_
   clear a2;rintro e w3 ⟨(⟨d8,rfl⟩|⟨d4,tp,vp,rfl⟩),Z3,C,q⟩
   ·obtain⟨q0,x0⟩:=q.keep w.heap.size (zc R) z0;have c8:w3.cell? ⟨w.heap.size,0,none⟩=some (.pointer (some ⟨Lb,0,none⟩)):=by rw[za (q0.trans R)];rfl
    refine Hid.out r _ _ c8 (λ_=>?_);clear r K;refine wpAnyH_done (by kernel_rfl) ?_ _
    have e8:=DV s1 ⟨c.toArray⟩;simp only[PQ];go_wp2_with fail;obtain⟨a3,c3,d6⟩:=C.logv;have m1:JU wr Lb=s1.lg.length:=by unfold JU;rw[d5]
    have m3:JU w3 Lb=(ZX s1 ⟨c.toArray⟩).lg.length:=by unfold JU;rw[d6]
    rw[m1,m3];refine⟨⟨Z3,ZX s1 ⟨c.toArray⟩,f-1,C,(y.trans (Kn.below (hD.trans k))).trans q,d3,by omega,?_⟩,by omega⟩;rw[<-N];obtain⟨H,rfl⟩:∃H,f=H+1:=⟨f-1,by omega⟩
    symm
    show(if s1.lg.length<l.length then _ else _)=_;rw[xh (by omega),u];exact xg d8
   obtain⟨q0,x0⟩:=q.keep w.heap.size (zc R) z0;obtain⟨q1,x1⟩:=q.keep (w.heap.size+1) (zc e1) z1;have E:d=ZX s1 ⟨c.toArray⟩:=by
    rw[<-N];obtain⟨H,rfl⟩:∃H,f=H+1:=⟨f-1,by omega⟩
    show(if s1.lg.length<l.length then _ else _)=_;rw[xh (by omega),u];exact xh d4
   subst E;refine⟨rfl,rfl,⟨tp,vp,rfl⟩,⟨Z3,C,z.trans q,x1⟩,?_,q1.trans e1,by omega⟩;rw[za (q0.trans R)];rfl
 have E:d=s1:=by
  rw[<-N]
  cases f with
  |zero=>rfl
  |succ H=>
   show(if s1.lg.length<l.length then _ else _)=_;rw[xg (by omega)]
 subst E;go_wp2_with fail;have m:=ym wr ⟨w.heap.size+1,0,none⟩ (Value.int .i64 d.lg.length) b8
 have hk:=Pn x z1 (xj h.size (by omega)) 0 (Value.int .i64 d.lg.length);have hn:=Pm (P y) (b:=w.heap.size+1) (by omega) 0 (Value.int .i64 d.lg.length);refine xbX (f:=84) (args:=#[.pointer (some ⟨w.heap.size,0,none⟩),.pointer (some ⟨w.heap.size+1,0,none⟩)]) (by simp) (by simp[go_sem]) ?_
 refine(DE ⟨w.heap.size,0,none⟩ ⟨w.heap.size+1,0,none⟩ _).mono ?_
 rintro e u' e2 ⟨rfl,rfl,rfl⟩;have a:∃Z',Kv B w0 (wr.setCell ⟨w.heap.size+1,0,none⟩ (Value.int .i64 d.lg.length)) Z' Lb d/\Kn Z w Z' (wr.setCell ⟨w.heap.size+1,0,none⟩ (Value.int .i64 d.lg.length)):=⟨Z1,hk,hn⟩
 clear hk hn;generalize (wr.setCell ⟨w.heap.size+1,0,none⟩ (Value.int .i64 d.lg.length))=W at m a ⊢;simp[Leaves,settle,results,Tryz.results57,go_sem,m,a]
def Ko(w:World)(l:Gl w)(m:GmU w.heap.size w)(log:ByteArray)(f:log.size<=35184372088832)(I:Sv->Prop)(c:I Ml)(i:Ud log.data.toList I):Calls prog 41 #[.string log] w λe w'=>∃g Z,e=.returned (.tuple #[.pointer (some ⟨g,0,none⟩),.int .i64 (((WI log.size log.data.toList Ml).lg.length:Nat):Int)])/\Kv w.heap.size w w' Z g (WI log.size log.data.toList Ml):=by
 have a:=zb (QQ w l);go_enter func41,ntmps41;go_wp2_with (go_at_call 36;refine(a.o).mono ?_;rintro e w1 ⟨g,Z,rfl,h⟩;clear a);have b:=zb (DO h m log f I c i);clear i c;refine(b.o).mono ?_
 rintro e w2 ⟨rfl,k,d,j⟩;clear b;go_wp2_with fail;go_ret2;exact⟨g,k,rfl,d⟩
