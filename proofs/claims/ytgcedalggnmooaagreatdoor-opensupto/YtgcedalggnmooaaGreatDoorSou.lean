import Derived.Test.YtgcedalggnmooaaGreatDoorDd3X
import Derived.Test.YtgcedalggnmooaaGreatDoorFyX
set_option linter.all false
set_option maxRecDepth 100000
set_option maxHeartbeats 6400000
namespace Go.Proofs.YtgcedalggnmooaaGreatDoor
open Go.RowKit
theorem EE{xs:List (L×Value)}{ls:List L}(h:xs.map Prod.fst=ls):PM xs↔UG ls:=by
 subst h;unfold PM UG UI;simp only[Xl,Xa];have e:∀q,((xs.map Prod.fst).filter (λx=>x.place==q+1)).length=(xs.filter (λx=>x.1.place==q+1)).length:=λq=>by
  rw[xbM,Xl];rfl
 constructor
 ·intro h q a;rw[e];exact h q a
 intro h q a;rw[<-e];exact h q a
variable {ns:List Nat}
theorem MM{xs:List (L×Value)}(h:xs.map Prod.fst=(Vo ns).ls):(rP xs xs.length).map Prod.fst=ZJ ns:=by
 rw[ML];unfold ZJ UH;rw[<-h,Xl]
section
variable {w0 W:World}{S td:Nat}{v:Value}{xs:List (L×Value)}{ov:Value}{os:List O}{lvs:List Value}{rv:Value}{rcs:List (Nat×Nat)}
theorem RW.toV(h:RW w0 W S td v xs ov os lvs rv rcs)(m:∀l∈xs.map Prod.fst,L.Ok l)(j:(xs.map Prod.fst).length<=30)(f:Fam (xs.map Prod.fst))(n:Rc rcs)(p:td<=2147483647)(k:∀l∈xs.map Prod.fst,zY l.par=l.par):∃ro,RV os rcs ro W S v td ⟨#[]⟩ (xs.map Prod.snd) (xs.map Prod.fst)/\∀g,OB ro g->w0.heap.size<=g:=by
 refine⟨⟨ov,lvs,rv,xs.map Prod.snd,(xs.map Prod.fst).map (λl=>zY l.par)⟩,⟨h.box,?_,by simp,⟨rfl,rfl⟩,⟨zI h.orow (Nat.zero_le _),h.llen,λi b=>zI (h.lin i b) (Nat.zero_le _),⟨zI h.rrow (Nat.zero_le _),by simp,λi b=>?_,λg c=>⟨?_,?_⟩⟩⟩,p,m,j,f,n⟩,λg c=>?_⟩
 ·have:=zI h.row (Nat.zero_le w0.heap.size)
  rw[Xl];exact zI h.row (Nat.zero_le _)
 ·simp only[Xl]at b;have d:(xs.map Prod.snd).getD i default=(xs[i]).2:=by simp[Ul,b]
  have q:((xs.map Prod.fst).map (λl=>zY l.par)).getD i []=(xs[i]).1.par:=by
   simp only[Ul,xaf,xh b,XJ,Xw];exact k _ (Xd (yb b))
  show Prs _ _ ((xs.map Prod.snd).getD i default) (((xs.map Prod.fst).map (λl=>zY l.par)).getD i []);rw[d,q];exact qQ (h.frm _ (yb b))
 ·rintro⟨i,b,e⟩;have a:i<lvs.length:=b;have d:lvs.getD i default=lvs[i]:=by simp[Ul,a]
  change (lvs.getD i default).ownBlock=some g at e
  rw[d]at e;exact(h.apt g c).1 _ (yb a) e
 ·rintro⟨i,b,e⟩;have a:i<(xs.map Prod.snd).length:=b;have d:(xs.map Prod.snd).getD i default=(xs.map Prod.snd)[i]:=by simp[Ul,xh a]
  change ((xs.map Prod.snd).getD i default).ownBlock=some g at e
  rw[d]at e;exact(h.apt g c).2 _ (yb a) e
 rcases c with c|⟨i,b,c⟩|c|⟨i,b,c⟩
 ·exact(h.orow.lt g c).1
 ·have a:i<lvs.length:=b;exact((h.lin i (by rw[<-h.llen];exact a)).lt g c).1
 ·exact(h.rrow.lt g c).1
 have a:i<xs.length:=by simpa using b
 change ((xs.map Prod.snd).getD i default).ownBlock=some g at c
 have d:(xs.map Prod.snd).getD i default=(xs[i]).2:=by simp[Ul,a]
 rw[d]at c;exact((h.frm _ (yb a)).lt g c).1
end
theorem Qx{xs a:List (L×Value)}(K:∀x∈xs,Wl x)(h:a.map Prod.snd=xs.map Prod.snd)(H:(a.map Prod.fst).map bare=(xs.map Prod.fst).map bare)(J:∀l∈a.map Prod.fst,l.gv<9223372036854775808/\l.got<9223372036854775808):∀y∈a,Wl y:=by
 intro y M;obtain⟨i,d,rfl⟩:=xt M;have P:a.length=xs.length:=by simpa using YA List.length h
 have f:i<xs.length:=by omega
 have e:=K _ (yb f);have E:a[i].2=xs[i].2:=by
  have:=YA (λl=>l.getD i default) h
  simpa [Ul,d,f] using this
 have g:=vB H i;have F:(a.map Prod.fst).getD i L0=a[i].1:=by simp[Ul,d]
 have G:(xs.map Prod.fst).getD i L0=xs[i].1:=by simp[Ul,f]
 rw[F,G]at g;obtain⟨j,k,m,n,p,q,r,s,_⟩:=kK g;have b:=J _ (Xd (yb d));obtain⟨⟨t,v,w,z,N,A,B,C,D,u⟩,c⟩:=e;refine⟨⟨?_,?_,?_,?_,b.2,?_,?_,?_,?_,b.1⟩,?_⟩
 ·rw[j];exact t
 ·rw[k];exact v
 ·rw[m];exact w
 ·rw[n];exact z
 ·rw[p];exact A
 ·rw[q];exact B
 ·rw[r];exact C
 ·rw[s];exact D
 rw[E];exact c
def TK(w:World)(b:ByteArray)(e:Ending)(w':World):Prop:=Below w.heap.size w w'/\match zH b.data.toList with
 |some (td,ls,os,rcs)=>∃S,e=.returned (.tuple #[.pointer (some ⟨S,0,none⟩),.bool true])/\RI os rcs (λk=>w.heap.size<=k) w' S td ⟨#[]⟩ ls
 |none=>∃p,e=.returned (.tuple #[p,.bool false])
variable {b:ByteArray}
theorem cM{w w':World}{e:Ending}{p:Value}(a:Below w.heap.size w w')(d:zH b.data.toList=none)(c:e=.returned (.tuple #[p,.bool false])):TK w b e w':=by
 unfold TK;rw[d];exact⟨a,p,c⟩
theorem Iq(b:ByteArray)(d:0<b.size):b.data.toList=b[0]::b.data.toList.drop 1:=by
 have a:b.data.toList.length=b.size:=by simp
 cases h:b.data.toList with
 |nil=>rw[h]at a;simp at a;omega
 |cons c t=>
  have:b[0]=c:=by
   have e:b[0]=b.data.toList[0]'(by omega):=rfl;rw[e];simp[h]
  rw[this];rfl
theorem uH{l:List UInt8}(h:l.getD 0 0≠13):zH l=none:=by
 cases e:zH l with
 |none=>rfl
 |some s=>
  obtain⟨td,ls,os,rcs⟩:=s;have:=(rD e).1.num;rw[this]at h;simp at h
theorem Bo(b:ByteArray)(h:b.size=0\/∃a:0<b.size,b[0]≠13)(w:World):Calls Tryz.prog 59 #[.string b] w (TK w b):=by
 rcases h with h|⟨a,h⟩
 ·have e:b=⟨#[]⟩:=by
   cases b with|mk d=>have:d.size=0:=h;rw[Array.size_eq_zero_iff]at this;rw[this]
  subst e;go_enter Tryz.func59,Tryz.ntmps59;go_wp2_with fail;go_ret2;exact cM (xg _ _) (uH (by decide)) rfl
 have c:=fP b a;have f:zH b.data.toList=none:=uH (by rw[Iq b a];exact h);have g:((b[0].toNat:Int) != 13)=true:=by rw[ym];intro e;exact h (XI.1 (by have:=Int.ofNat.inj e;exact this))
 go_enter Tryz.func59,Tryz.ntmps59;go_wp2_with fail;go_ret2;exact cM (xg _ _) f rfl
variable {t:List UInt8}
theorem Bb(h:Pl.nums t=none):zH (13::t)=none:=by
 cases e:zH (13::t) with
 |none=>rfl
 |some s=>
  obtain⟨td,ls,os,rcs⟩:=s;obtain⟨a,f,g,i,_⟩:=rD e;have d:=(gA ⟨a.pl,a.bad,a.td,a.len,a.nm,a.fam,a.bal,a.ord⟩).1.small;rw[f,g,i]at d;have c:=Pl.nums_told (UU td os rcs ls) (λn b=>YX (d n b) (by omega));rw[<-(xaS a.num).2,h]at c
  cases c
theorem PP(a:b.data.toList=13::t)(m:Pl.nums t=some ns)(h:∀ls,TD ns ls->(Vo ns).left.1=[]->(Vo ns).com=(Vo ns).k->US (Vo ns).td (Vo ns).os (Vo ns).rcs ls=b.data.toList->False):zH b.data.toList=none:=by
 cases e:zH b.data.toList with
 |none=>rfl
 |some s=>
  obtain⟨td,ls,os,rcs⟩:=s;rw[a]at e;obtain⟨c,d,f,g,i,j,l,_⟩:=EP m e;exact(h ls c d f (by rw[i,j,l,g,a])).elim
theorem PT{ls:List L}(f:b.data.toList=13::t)(j:Pl.nums t=some ns)(i:∀n∈ns,n<9223372036854775808)(h:TD ns ls)(r:(Vo ns).left.1=[])(d:US (Vo ns).td (Vo ns).os (Vo ns).rcs ls=b.data.toList):zH b.data.toList=some ((Vo ns).td,ls,(Vo ns).os,(Vo ns).rcs):=by
 obtain⟨q,hd⟩:=gA h;have a:b.data.toList=13::Pl.toldB ns:=by
  have l:=Pl.nums_told (UU (Vo ns).td (Vo ns).os (Vo ns).rcs ls) (λn g=>YX (q.small n g) (by omega));have m:13::Pl.toldB (UU (Vo ns).td (Vo ns).os (Vo ns).rcs ls)=13::t:=by rw[<-f];exact d
  rw[(xaS m).2,j]at l;have e:=xq l;rw[f,<-(xaS m).2,<-e]
 have k:=hd i r _ a d;have c:=k;rw[f]at c;obtain⟨_,_,_,_,_,p,_,_⟩:=EP j c;rw[k,<-p]
theorem Mv{w:World}{B:Nat}{a:Option Addr}{cap:Nat}(h:w.ownsRow B 3 1 (.slice a ns.length cap) ns.length (I ns))(l:0<w.heap.size):∃D b,D<w.heap.size/\ns.length<=cap/\(0<ns.length->a=some ⟨D,b,none⟩/\∀j,j<ns.length->w.cell? ⟨D,b+j,none⟩=some (.int .i64 (ns.getD j 0:Nat))):=by
 rcases h.2 with ⟨d,n⟩|⟨g,c,e,d,m,i,f,_⟩
 ·exact⟨0,0,l,by omega,λp=>by omega⟩
 injection d with e1 e2 e3
 subst e1 e3;refine⟨g,0,zc i,f,λ_=>⟨rfl,λj k=>?_⟩⟩;have:=h.cellAt j (by simp[I];omega);rw[Yu,this];simp[I,xh k,Ul]
theorem JW(b:ByteArray)(hs:b.size<=4194304)(h0:0<b.size)(d9:b[0]=13)(w:World)(i2:0<w.heap.size):Calls Tryz.prog 59 #[.string b] w (TK w b):=by
 have i7:=fP b h0;have hc:((b[0].toNat:Int) != 13)=false:=by rw[d9];rfl
 have P:b.data.toList=13::b.data.toList.drop 1:=(Iq b h0).trans (by rw[d9])
 cases B:Pl.nums (b.data.toList.drop 1) with
 |none=>
  have HR:Hid (zH b.data.toList=none):=by unfold Hid;rw[P];exact Bb B
  have H2:=zb (mD (b.extract 1 b.size) (by rw[aQ];omega) (by rw[ZF];exact B));clear B P;go_enter Tryz.func59,Tryz.ntmps59;go_wp2_with fail;refine(H2.out _).mono ?_
  rintro e w2 ⟨M,rfl⟩;go_wp2_with fail;go_ret2;exact cM M HR.out rfl
 |some ns=>
  have f2:ns.length<=4194304:=xj (Pl.nums_len _ _ _ (xc _) B) (by rw[Xt];simp;omega);have a8:=zb (Pl.nums_lt _ _ _ (xc _) B);have d:=zb (Sd a8.out f2);have E:=zb (PP P B);have g7:=zb (λls=>PT (ls:=ls) P B a8.out);have H2:=zb (fQ (b.extract 1 b.size) (by rw[aQ];omega) ns (by rw[ZF];exact B));clear B P;go_enter Tryz.func59,Tryz.ntmps59;go_wp2_with fail;refine(H2.out _).mono ?_
  rintro e w2 ⟨M,a,cap,rfl,ho⟩;obtain⟨D,i3,hD,a4,e9⟩:=Mv ho (xn i2 M.size);have HT:=zb (Ks w2 D i3 cap a ns a4 hD e9 a8.out f2);have G:=zb M;clear ho e9 a4 hD M H2;generalize i0:ns.length=n1 at *;clear i0;go_wp2_with fail;refine(HT.out).mono ?_
  rintro e w3 ⟨S,x,xs,rfl,e0,W,f8,c,f⟩;have HX:=zb c;have b1:Hid (Below w.heap.size w w3):=G.out.trans (e0.mono G.out.size)
  cases x with
  |false=>
   have HR:Hid (zH b.data.toList=none):=E.out (λls h1 h2 h3 _=>by
    have:=c.2 ⟨(EE W).2 h1.pl,h1.bad,h2,h3⟩
    cases this)
   clear f c HX HT;go_wp2_with fail;go_ret2;exact cM b1.out HR.out rfl
  |true=>
   obtain⟨f4,f5,f6,i1⟩:=c.1 rfl;obtain⟨v,ov,lvs,rv,h⟩:=f rfl;have k:Hid ((rP xs xs.length).map Prod.fst=ZJ ns):=MM W;have b2:Hid (∀y∈rP xs xs.length,Wl y):=λy hy=>f8 y (wY y hy)
   have X:Hid (∀l∈ZJ ns,(l.par.length<=4194304/\∀p∈l.par,p.1<9223372036854775808/\p.2<9223372036854775808)/\l.gv=0):=λl hl=>by
    have:l∈(Vo ns).ls:=by
     rw[<-k.out]at hl;obtain⟨y,hy,rfl⟩:=Xg.1 hl;rw[<-W];exact Xd (wY y hy)
    exact⟨d.out.ls l this,d.out.gz l this⟩
   have d3:=zb ((EE W).1 f4);have g5:=zb f5;have g6:=zb f6;have d0:Hid ((ZJ ns).length=(Vo ns).ls.length):=(CY d3.out _ (xc _)).1;clear W f8 c f HX HT f4 f5 f6 i1 e0;generalize rP xs xs.length=xs0 at *;obtain⟨td,s⟩:=UC ((Vo ns).td);rw[<-s.out]at h;obtain⟨l0,r⟩:=UC (ZJ ns);rw[<-r.out]at k X d0;obtain⟨N,HN⟩:=UC xs0.length;have a2:N=l0.length:=by rw[HN.out,<-k.out,Xl]
   have h5:N<=4194304:=by rw[a2,d0.out];exact d.out.ll
   obtain⟨va,vc,hv⟩:=zm h.row;rw[<-HN.out]at hv;subst hv;have i5:td<9223372036854775808:=by rw[s.out];exact d.out.td
   have c0:w3.cell? ⟨S,0,none⟩=some (.int .i64 td):=by rw[za h.box];rfl
   have c1:w3.cell? ⟨S,1,none⟩=some (.slice va N vc):=by rw[za h.box];rfl
   have h6:=zc h.box;have d5:=zb h;have d1:=zb (AJ h b2.out (by rw[<-HN.out];exact h5));clear h;by_cases h1:td<=2147483647
   ·have t1:decide ((2147483647:Int)<(td:Int))=false:=xu (by omega);by_cases h2:N<=30
    ·have t2:decide ((30:Int)<(N:Int))=false:=xu (by omega);go_wp2_with fail;refine(d1.out).mono ?_
     rintro e w4 ⟨⟨y,rfl,hy⟩,e5⟩;rw[k.out]at hy;have HY:=zb hy;have d4:=zb (d5.out.below e5);obtain⟨R,HR⟩:=UC (Ug l0.length 0 l0);clear c0 c1 t1 t2 d1 e5 d5 h6 hy;go_wp2_with fail;go_loopw [5,7] (λi4 ii wr=>∃(i:Nat) (z:Bool) (A:List (L×Value)),i<=N/\ii=.int .i64 i/\i4=.bool z/\RW w2 wr S td (.slice va N vc) A ov (Vo ns).os lvs rv (Vo ns).rcs/\A.map Prod.snd=xs0.map Prod.snd/\(z=true->NumP l0/\FmI l0 R i (A.map Prod.fst))/\(z=false->¬NumP l0\/R=none)) (λ_ ii _=>N-(intOf ii).toNat)
     case atStart=>
      refine⟨0,y,xs0,by omega,rfl,rfl,d4.out,rfl,λe=>⟨HY.out.1 e,⟨Nat.zero_le _,by rw[xbd,k.out];exact HR.out.symm,by rw[k.out],λx c=>by rw[k.out]at c;have:=(X.out x c).2;omega,λx c=>?_⟩⟩,λe=>Or.inl (λB=>by have:=HY.out.2 B;rw[e]at this;cases this)⟩;obtain⟨q,hq,rfl⟩:=Xg.1 c;exact(b2.out q hq).1.2.2.2.2.1
     clear d4 HY;obtain⟨i,z,A,hi,rfl,rfl,f,b7,g1,g2⟩:=hrel;have c1:wr.cell? ⟨S,1,none⟩=some (.slice va N vc):=by rw[za f.box];rfl
     have i6:=zc f.box;have i8:A.length=N:=by
      have:=YA List.length b7
      simp only[Xl]at this;rw[this,HN.out]
     have F:=zb f;have b0:=zb b7;have d8:=zb g1;have a7:Hid (Below w.heap.size w wr):=G.out.trans (f.bel.mono G.out.size);have g3:Hid (z=false->zH b.data.toList=none):=λez=>E.out (λls q1 _ _ _=>by
      rcases g2 ez with q|q
      ·exact q (by rw[r.out];exact q1.nm)
      have:=q1.fam
      rw[<-r.out,<-HR.out,q]at this
      cases this)
     clear f b7 g1 g2
     cases z with
     |false=>
      by_cases h9:i<N
      all_goals
       have f1:decide ((i:Int)<(N:Int))=decide (i<N):=by simp
       have hr:=g3.out rfl
       first
       |(have b5:(i:Int)<(N:Int):=by omega)
       |(have b5:¬(i:Int)<(N:Int):=by omega)
       clear f1;have Z:=zb hr;clear hr;go_wp2_with fail;go_ret2;exact cM a7.out Z.out rfl
     |true=>
      obtain⟨a5,u⟩:=d8.out rfl;have f0:i*4294967294<=30*4294967294:=xaj _ (by omega);have b3:Hid (∀y∈A,Wl y):=Qx b2.out b0.out (by rw[u.bare,k.out]) (λl hl=>⟨by have:=u.gvn l hl;omega,u.got l hl⟩);have a1:Hid (∀x∈A,∃m∈l0,bare x.1=bare m):=λx c=>Ln u.bare (Xd c)
      have c9:Hid (∀x∈A,x.1.gv<=30*4294967294):=λx c=>xj (u.gvn _ (Xd c)) f0
      have C:=zb u;have J:=zb a5;clear u a5 d8 f0;by_cases h9:i<N
      ·have b5:(i:Int)<(N:Int):=by omega
       have HF:=zb (Fv F.out b3.out (by omega) (λx c=>by
        obtain⟨m,hm,e⟩:=a1.out x c;rw[(kK e).2.2.2.2.2.2.2.2];exact(X.out m hm).1) (λx c=>xj (c9.out x c) (by decide)) (λx c=>by
        obtain⟨m,hm,e⟩:=a1.out x c;rw[(kK e).2.2.1];exact(J.out.mem hm).1) i (by omega))
       obtain⟨Q,HQ⟩:=UC (Ui (A.map Prod.fst) i);rw[<-HQ.out]at HF;go_wp2_with fail;refine(HF.out).mono ?_
       intro e w5 hP;unfold Og at hP
       cases Q with
       |some ls' =>
        obtain⟨rfl,c5,h8,b4,T⟩:=hP;have a9:=zb T;clear T HF c1;go_wp2_with fail;go_roundw
        case rel=>exact⟨i+1,true,c5,by omega,by go_num,rfl,a9.out,b4.trans b0.out,λ_=>⟨J.out,by rw[h8];exact C.out.step (by omega) HQ.out.symm⟩,λe=>by cases e⟩
        simp[intOf];omega
       |none=>
        obtain⟨rfl,c5,b4,T⟩:=hP;have a9:=zb T;clear T HF c1;go_wp2_with fail;go_roundw
        case rel=>exact⟨i+1,false,c5,by omega,by go_num,rfl,a9.out,b4.trans b0.out,(λe=>by cases e),λ_=>Or.inr (C.out.none (by omega) HQ.out.symm)⟩
        simp[intOf];omega
      obtain rfl:i=N:=by omega
      have b5:¬(i:Int)<(i:Int):=by omega
      have c7:=zb (yP F.out b3.out (by omega) (λx c=>by
       obtain⟨m,hm,e⟩:=a1.out x c;have q:=J.out.mem hm;have g:=c9.out x c;obtain⟨_,_,_,_,e1,e2,e3,e4,_⟩:=kK e;rw[e1,e2,e3,e4];exact⟨q.2.1,q.2.2.1,q.2.2.2.1,q.2.2.2.2,by omega⟩))
      have d2:=zb (λ(wx:World) (c:Below wr.heap.size wr wx)=>CU (F.out.below c) b3.out (by omega) (λj hj=>by
       rw[Lm C.out.bare,(kK (vB C.out.bare j)).1];exact(J.out j (by rw[<-nE C.out.bare];exact hj)).2.2.2.2.2.2.2.2) d.out.ol d.out.os d.out.rc.1 d.out.rc.2)
      have c8:Hid (R=some (A.map Prod.fst)):=by
       have:=C.out
       rw[a2]at this;exact this.done
      have Z:Hid (∀ls,TD ns ls->ls=A.map Prod.fst):=λls q=>by
       have:=q.fam
       rw[<-r.out,<-HR.out,c8.out]at this;exact(xq this).symm
      go_wp2_with fail;refine(c7.out).mono ?_
      rintro e w5 ⟨⟨x1,rfl,f9⟩,e6⟩;have a6:=zb e6;clear c7 e6;go_wp2_with fail;refine(d2.out w5 a6.out).mono ?_
      rintro e w6 ⟨⟨x2,rfl,g0⟩,e7⟩;have c6:Hid (Below wr.heap.size wr w6):=a6.out.trans (e7.mono a6.out.size);have H:Hid (Below w.heap.size w w6):=a7.out.trans (c6.out.mono a7.out.size);have d7:=zb f9;have a0:=zb g0;clear d2 e7 f9 g0;by_cases b9:x1=true/\x2=true
      ·obtain⟨rfl,rfl⟩:=b9;have HC:Hid (TD ns (A.map Prod.fst)):=⟨d3.out,g5.out,by rw[<-s.out];exact h1,by rw[<-r.out,<-a2];exact h2,by rw[<-r.out];exact J.out,by rw[<-r.out,<-HR.out];exact c8.out,d7.out.1 rfl,a0.out.1 rfl⟩
       have t:=zb (gA HC.out).1;obtain⟨ro,b6,f3⟩:=(F.out.below c6.out).toV t.out.ok t.out.len t.out.fam t.out.rc h1 t.out.ris;have g8:=zb b6;have g4:=zb f3;have d6:Hid (w2.heap.size<=S/\∀g,(Value.slice va i vc).ownBlock=some g->w2.heap.size<=g):=⟨F.out.slo,λg hg=>(F.out.row.lt g hg).1⟩
       have g9:=zb (Ka b6 ⟨λo ho=>(a0.out.1 rfl).ord o ho |>.id.2,(a0.out.1 rfl).olen,t.out.li⟩ (λn B=>by rw[s.out]at B;exact YX (t.out.small n B) (by omega)) (λl hl p hp=>by
        obtain⟨q,hq,rfl⟩:=Xg.1 hl;obtain⟨m,hm,e⟩:=a1.out q hq;rw[(kK e).2.2.2.2.2.2.2.2]at hp;exact((X.out m hm).1.2 p hp).2) (λo ho=>(d.out.os o ho).2.2.2) d.out.rc.2)
       clear b6 f3;go_wp2_with fail;refine(g9.out).mono ?_
       rintro e w7 ⟨e8,rfl⟩;go_wp2_with fail;go_ret2;have f7:Below w.heap.size w w7:=H.out.trans (e8.mono H.out.size);have b8:w.heap.size<=w2.heap.size:=G.out.size;show TK w b (.returned (.tuple #[.pointer (some ⟨S,0,none⟩),.bool (US td (Vo ns).os (Vo ns).rcs (A.map Prod.fst)==b.toList)])) w7;rw[XL];by_cases a3:US td (Vo ns).os (Vo ns).rcs (A.map Prod.fst)=b.data.toList
       ·rw[XZ.2 a3];have hr:=g7.out (A.map Prod.fst) HC.out g6.out (by rw[<-s.out];exact a3);unfold TK;rw[hr,<-s.out];exact⟨f7,S,rfl,_,_,ro,g8.out.below e8,xj b8 d6.out.1,λg hg=>xj b8 (d6.out.2 g hg),λg hg=>xj b8 (g4.out g hg)⟩
       rw[xr.2 a3];exact cM f7 (E.out (λls q _ _ h4=>a3 (by rw[s.out,<-Z.out ls q];exact h4))) rfl
      have K:Hid (zH b.data.toList=none):=E.out (λls q _ _ _=>b9 (by
       have e:=Z.out ls q;subst e;exact⟨d7.out.2 q.bal,a0.out.2 q.ord⟩))
      have h7:x1=false\/(x1=true/\x2=false):=by
       cases x1<;>cases x2<;>simp_all
      clear b9;rcases h7 with rfl|⟨rfl,rfl⟩
      all_goals
       go_wp2_with fail;go_ret2
       exact cM H.out K.out rfl
    have t2:decide ((30:Int)<(N:Int))=true:=xy (by omega);have K:Hid (zH b.data.toList=none):=E.out (λls q _ _ _=>h2 (by rw[a2,r.out];exact q.len));go_wp2_with fail;go_ret2;exact cM b1.out K.out rfl
   have t1:decide ((2147483647:Int)<(td:Int))=true:=xy (by omega);have K:Hid (zH b.data.toList=none):=E.out (λls q _ _ _=>h1 (by rw[s.out];exact q.td));go_wp2_with fail;go_ret2;exact cM b1.out K.out rfl
