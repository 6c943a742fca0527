import Derived.Test.YtgcedalggnmooaaGreatDoorDd3X
import Derived.Test.YtgcedalggnmooaaGreatDoorFyX
set_option linter.all false
set_option maxRecDepth 100000
set_option maxHeartbeats 6400000
namespace Go.Proofs.YtgcedalggnmooaaGreatDoor
open Go.RowKit
open Tryz
theorem EB{xs:List (L×Value)}{ls:List L}(h:xs.map Prod.fst=ls):PY xs↔UQ ls:=by
 subst h;unfold PY UQ US;simp only[Xl,Xa];have e:∀q,((xs.map Prod.fst).filter (λx=>x.place==q+1)).length=(xs.filter (λx=>x.1.place==q+1)).length:=λq=>by
  rw[xbM,Xl];rfl
 constructor
 ·intro h q a;rw[e];exact h q a
 intro h q a;rw[<-e];exact h q a
variable {ns:List Nat}
theorem MR{xs:List (L×Value)}(h:xs.map Prod.fst=(Vy ns).ls):(rN xs xs.length).map Prod.fst=ZL ns:=by
 rw[MQ];unfold ZL UR;rw[<-h,Xl]
section
variable {w0 W:World}{S td:Nat}{v:Value}{xs:List (L×Value)}{ov:Value}{os:List O}{lvs:List Value}{rv:Value}{rj:List (Nat×Nat)}
theorem RW.toV(h:RW w0 W S td v xs ov os lvs rv rj)(m:∀l∈xs.map Prod.fst,L.Ok l)(j:(xs.map Prod.fst).length<=30)(f:Fam (xs.map Prod.fst))(n:Rc rj)(p:td<=2147483647)(k:∀l∈xs.map Prod.fst,zW l.par=l.par):∃ro,RV os rj ro W S v td ⟨#[]⟩ (xs.map Prod.snd) (xs.map Prod.fst)/\∀g,OB ro g->w0.heap.size<=g:=by
 refine⟨⟨ov,lvs,rv,xs.map Prod.snd,(xs.map Prod.fst).map (λl=>zW l.par)⟩,⟨h.box,?_,by simp,⟨rfl,rfl⟩,⟨zJ h.orow (Nat.zero_le _),h.llen,λi b=>zJ (h.lin i b) (Nat.zero_le _),⟨zJ h.rrow (Nat.zero_le _),by simp,λi b=>?_,λg c=>⟨?_,?_⟩⟩⟩,p,m,j,f,n⟩,λg c=>?_⟩
 ·have:=zJ h.row (Nat.zero_le w0.heap.size)
  rw[Xl];exact zJ h.row (Nat.zero_le _)
 ·simp only[Xl]at b;have d:(xs.map Prod.snd).getD i default=(xs[i]).2:=by simp[Uv,b]
  have q:((xs.map Prod.fst).map (λl=>zW l.par)).getD i []=(xs[i]).1.par:=by
   simp only[Uv,xaf,xi b,XK,Xw];exact k _ (Xe (yb b))
  show Prs _ _ ((xs.map Prod.snd).getD i default) (((xs.map Prod.fst).map (λl=>zW l.par)).getD i []);rw[d,q];exact qP (h.frm _ (yb b))
 ·rintro⟨i,b,e⟩;have a:i<lvs.length:=b;have d:lvs.getD i default=lvs[i]:=by simp[Uv,a]
  change (lvs.getD i default).ownBlock=some g at e
  rw[d]at e;exact(h.apt g c).1 _ (yb a) e
 ·rintro⟨i,b,e⟩;have a:i<(xs.map Prod.snd).length:=b;have d:(xs.map Prod.snd).getD i default=(xs.map Prod.snd)[i]:=by simp[Uv,xi a]
  change ((xs.map Prod.snd).getD i default).ownBlock=some g at e
  rw[d]at e;exact(h.apt g c).2 _ (yb a) e
 rcases c with c|⟨i,b,c⟩|c|⟨i,b,c⟩
 ·exact(h.orow.lt g c).1
 ·have a:i<lvs.length:=b;exact((h.lin i (by rw[<-h.llen];exact a)).lt g c).1
 ·exact(h.rrow.lt g c).1
 have a:i<xs.length:=by simpa using b
 change ((xs.map Prod.snd).getD i default).ownBlock=some g at c
 have d:(xs.map Prod.snd).getD i default=(xs[i]).2:=by simp[Uv,a]
 rw[d]at c;exact((h.frm _ (yb a)).lt g c).1
end
theorem QF{xs a:List (L×Value)}(K:∀x∈xs,Wl x)(h:a.map Prod.snd=xs.map Prod.snd)(H:(a.map Prod.fst).map bare=(xs.map Prod.fst).map bare)(J:∀l∈a.map Prod.fst,l.gv<9223372036854775808/\l.got<9223372036854775808):∀y∈a,Wl y:=by
 intro y M;obtain⟨i,d,rfl⟩:=xt M;have P:a.length=xs.length:=by simpa using YA List.length h
 have f:i<xs.length:=by omega
 have e:=K _ (yb f);have E:a[i].2=xs[i].2:=by
  have:=YA (λl=>l.getD i default) h
  simpa [Uv,d,f] using this
 have g:=uZ H i;have F:(a.map Prod.fst).getD i L0=a[i].1:=by simp[Uv,d]
 have G:(xs.map Prod.fst).getD i L0=xs[i].1:=by simp[Uv,f]
 rw[F,G]at g;obtain⟨j,k,m,n,p,q,r,s,_⟩:=kK g;have b:=J _ (Xe (yb d));obtain⟨⟨t,v,w,z,N,A,B,C,D,u⟩,c⟩:=e;refine⟨⟨?_,?_,?_,?_,b.2,?_,?_,?_,?_,b.1⟩,?_⟩
 ·rw[j];exact t
 ·rw[k];exact v
 ·rw[m];exact w
 ·rw[n];exact z
 ·rw[p];exact A
 ·rw[q];exact B
 ·rw[r];exact C
 ·rw[s];exact D
 rw[E];exact c
def TS(w:World)(b:ByteArray)(e:Ending)(w':World):Prop:=Below w.heap.size w w'/\match zI b.data.toList with
 |some (td,ls,os,rj)=>∃S,e=.returned (.tuple #[.pointer (some ⟨S,0,none⟩),.bool true])/\RI os rj (λk=>w.heap.size<=k) w' S td ⟨#[]⟩ ls
 |none=>∃p,e=.returned (.tuple #[p,.bool false])
variable {b:ByteArray}
theorem cO{w w':World}{e:Ending}{p:Value}(a:Below w.heap.size w w')(d:zI b.data.toList=none)(c:e=.returned (.tuple #[p,.bool false])):TS w b e w':=by
 unfold TS;rw[d];exact⟨a,p,c⟩
theorem Iu(b:ByteArray)(d:0<b.size):b.data.toList=b[0]::b.data.toList.drop 1:=by
 have a:b.data.toList.length=b.size:=by simp
 cases h:b.data.toList with
 |nil=>rw[h]at a;simp at a;omega
 |cons c t=>
  have:b[0]=c:=by
   have e:b[0]=b.data.toList[0]'(by omega):=rfl;rw[e];simp[h]
  rw[this];rfl
theorem uG{l:List UInt8}(h:l.getD 0 0≠13):zI l=none:=by
 cases e:zI l with
 |none=>rfl
 |some s=>
  obtain⟨td,ls,os,rj⟩:=s;have:=(rC e).1.num;rw[this]at h;simp at h
theorem Bo(b:ByteArray)(h:b.size=0\/∃a:0<b.size,b[0]≠13)(w:World):Calls prog 59 #[.string b] w (TS w b):=by
 rcases h with h|⟨a,h⟩
 ·have e:b=⟨#[]⟩:=by
   cases b with|mk d=>have:d.size=0:=h;rw[Array.size_eq_zero_iff]at this;rw[this]
  subst e;go_enter func59,ntmps59;go_wp2_with fail;go_ret2;exact cO (xh _ _) (uG (by decide)) rfl
 have c:=fQ b a;have f:zI b.data.toList=none:=uG (by rw[Iu b a];exact h);have g:((b[0].toNat:Int) != 13)=true:=by rw[yk];intro e;exact h (XI.1 (by have:=Int.ofNat.inj e;exact this))
 go_enter func59,ntmps59;go_wp2_with fail;go_ret2;exact cO (xh _ _) f rfl
variable {t:List UInt8}
theorem Ba(h:Pl.nums t=none):zI (13::t)=none:=by
 cases e:zI (13::t) with
 |none=>rfl
 |some s=>
  obtain⟨td,ls,os,rj⟩:=s;obtain⟨a,f,g,i,_⟩:=rC e;have d:=(gB ⟨a.pl,a.bad,a.td,a.len,a.nm,a.fam,a.bal,a.ord⟩).1.small;rw[f,g,i]at d;have c:=Pl.nums_told (Ve td os rj ls) (λn b=>YX (d n b) (by omega));rw[<-(xaS a.num).2,h]at c
  cases c
theorem Qb(a:b.data.toList=13::t)(m:Pl.nums t=some ns)(h:∀ls,TM ns ls->(Vy ns).left.1=[]->(Vy ns).com=(Vy ns).k->Vc (Vy ns).td (Vy ns).os (Vy ns).rj ls=b.data.toList->False):zI b.data.toList=none:=by
 cases e:zI b.data.toList with
 |none=>rfl
 |some s=>
  obtain⟨td,ls,os,rj⟩:=s;rw[a]at e;obtain⟨c,d,f,g,i,j,l,_⟩:=EN m e;exact(h ls c d f (by rw[i,j,l,g,a])).elim
theorem Qc{ls:List L}(f:b.data.toList=13::t)(j:Pl.nums t=some ns)(i:∀n∈ns,n<9223372036854775808)(h:TM ns ls)(r:(Vy ns).left.1=[])(d:Vc (Vy ns).td (Vy ns).os (Vy ns).rj ls=b.data.toList):zI b.data.toList=some ((Vy ns).td,ls,(Vy ns).os,(Vy ns).rj):=by
 obtain⟨q,hd⟩:=gB h;have a:b.data.toList=13::Pl.toldB ns:=by
  have l:=Pl.nums_told (Ve (Vy ns).td (Vy ns).os (Vy ns).rj ls) (λn g=>YX (q.small n g) (by omega));have m:13::Pl.toldB (Ve (Vy ns).td (Vy ns).os (Vy ns).rj ls)=13::t:=by rw[<-f];exact d
  rw[(xaS m).2,j]at l;have e:=xr l;rw[f,<-(xaS m).2,<-e]
 have k:=hd i r _ a d;have c:=k;rw[f]at c;obtain⟨_,_,_,_,_,p,_,_⟩:=EN j c;rw[k,<-p]
theorem MA{w:World}{B:Nat}{a:Option Addr}{cap:Nat}(h:w.ownsRow B 3 1 (.slice a ns.length cap) ns.length (I ns))(l:0<w.heap.size):∃D b,D<w.heap.size/\ns.length<=cap/\(0<ns.length->a=some ⟨D,b,none⟩/\∀j,j<ns.length->w.cell? ⟨D,b+j,none⟩=some (.int .i64 (ns.getD j 0:Nat))):=by
 rcases h.2 with ⟨d,n⟩|⟨g,c,e,d,m,i,f,_⟩
 ·exact⟨0,0,l,by omega,λp=>by omega⟩
 injection d with e1 e2 e3
 subst e1 e3;refine⟨g,0,zc i,f,λ_=>⟨rfl,λj k=>?_⟩⟩;have:=h.cellAt j (by simp[I];omega);rw[Yu,this];simp[I,xi k,Uv]
theorem JZ(b:ByteArray)(hs:b.size<=4194304)(h0:0<b.size)(d9:b[0]=13)(w:World)(i2:0<w.heap.size):Calls prog 59 #[.string b] w (TS w b):=by
 have i7:=fQ b h0;have hc:((b[0].toNat:Int) != 13)=false:=by rw[d9];rfl
 have P:b.data.toList=13::b.data.toList.drop 1:=(Iu b h0).trans (by rw[d9])
 cases B:Pl.nums (b.data.toList.drop 1) with
 |none=>
  have HR:Ha (zI b.data.toList=none):=by unfold Ha;rw[P];exact Ba B
  have H2:=zb (mD (b.extract 1 b.size) (by rw[aT];omega) (by rw[ZH];exact B));clear B P;go_enter func59,ntmps59;go_wp2_with fail;refine(H2.o _).mono ?_
  rintro e w2 ⟨M,rfl⟩;go_wp2_with fail;go_ret2;exact cO M HR.o rfl
 |some ns=>
  have f2:ns.length<=4194304:=xj (Pl.nums_len _ _ _ (xc _) B) (by rw[Xs];simp;omega);have a8:=zb (Pl.nums_lt _ _ _ (xc _) B);have d:=zb (Sm a8.o f2);have E:=zb (Qb P B);have g7:=zb (λls=>Qc (ls:=ls) P B a8.o);have H2:=zb (fR (b.extract 1 b.size) (by rw[aT];omega) ns (by rw[ZH];exact B));clear B P;go_enter func59,ntmps59;go_wp2_with fail;refine(H2.o _).mono ?_
  rintro e w2 ⟨M,a,cap,rfl,ho⟩;obtain⟨D,i3,hD,a4,e9⟩:=MA ho (xn i2 M.size);have HT:=zb (Ky w2 D i3 cap a ns a4 hD e9 a8.o f2);have G:=zb M;clear ho e9 a4 hD M H2;generalize i0:ns.length=n1 at *;clear i0;go_wp2_with fail;refine(HT.o).mono ?_
  rintro e w3 ⟨S,x,xs,rfl,e0,W,f8,c,f⟩;have HX:=zb c;have b1:Ha (Below w.heap.size w w3):=G.o.trans (e0.mono G.o.size)
  cases x with
  |false=>
   have HR:Ha (zI b.data.toList=none):=E.o (λls h1 h2 h3 _=>by
    have:=c.2 ⟨(EB W).2 h1.pl,h1.bad,h2,h3⟩
    cases this)
   clear f c HX HT;go_wp2_with fail;go_ret2;exact cO b1.o HR.o rfl
  |true=>
   obtain⟨f4,f5,f6,i1⟩:=c.1 rfl;obtain⟨v,ov,lvs,rv,h⟩:=f rfl;have k:Ha ((rN xs xs.length).map Prod.fst=ZL ns):=MR W;have b2:Ha (∀y∈rN xs xs.length,Wl y):=λy hy=>f8 y (wW y hy)
   have X:Ha (∀l∈ZL ns,(l.par.length<=4194304/\∀p∈l.par,p.1<9223372036854775808/\p.2<9223372036854775808)/\l.gv=0):=λl hl=>by
    have:l∈(Vy ns).ls:=by
     rw[<-k.o]at hl;obtain⟨y,hy,rfl⟩:=Xg.1 hl;rw[<-W];exact Xe (wW y hy)
    exact⟨d.o.ls l this,d.o.gz l this⟩
   have d3:=zb ((EB W).1 f4);have g5:=zb f5;have g6:=zb f6;have d0:Ha ((ZL ns).length=(Vy ns).ls.length):=(CW d3.o _ (xc _)).1;clear W f8 c f HX HT f4 f5 f6 i1 e0;generalize rN xs xs.length=xs0 at *;obtain⟨td,s⟩:=UM ((Vy ns).td);rw[<-s.o]at h;obtain⟨l0,r⟩:=UM (ZL ns);rw[<-r.o]at k X d0;obtain⟨N,HN⟩:=UM xs0.length;have a2:N=l0.length:=by rw[HN.o,<-k.o,Xl]
   have h5:N<=4194304:=by rw[a2,d0.o];exact d.o.ll
   obtain⟨va,vc,hv⟩:=zm h.row;rw[<-HN.o]at hv;subst hv;have i5:td<9223372036854775808:=by rw[s.o];exact d.o.td
   have c0:w3.cell? ⟨S,0,none⟩=some (.int .i64 td):=by rw[za h.box];rfl
   have c1:w3.cell? ⟨S,1,none⟩=some (.slice va N vc):=by rw[za h.box];rfl
   have h6:=zc h.box;have d5:=zb h;have d1:=zb (AI h b2.o (by rw[<-HN.o];exact h5));clear h;by_cases h1:td<=2147483647
   ·have t1:decide ((2147483647:Int)<(td:Int))=false:=xu (by omega);by_cases h2:N<=30
    ·have t2:decide ((30:Int)<(N:Int))=false:=xu (by omega);go_wp2_with fail;refine(d1.o).mono ?_
     rintro e w4 ⟨⟨y,rfl,hy⟩,e5⟩;rw[k.o]at hy;have HY:=zb hy;have d4:=zb (d5.o.below e5);obtain⟨R,HR⟩:=UM (Uq l0.length 0 l0);clear c0 c1 t1 t2 d1 e5 d5 h6 hy;go_wp2_with fail;go_loopw [5,7] (λi4 ii wr=>∃(i:Nat) (z:Bool) (A:List (L×Value)),i<=N/\ii=.int .i64 i/\i4=.bool z/\RW w2 wr S td (.slice va N vc) A ov (Vy ns).os lvs rv (Vy ns).rj/\A.map Prod.snd=xs0.map Prod.snd/\(z=true->NumP l0/\FmI l0 R i (A.map Prod.fst))/\(z=false->¬NumP l0\/R=none)) (λ_ ii _=>N-(intOf ii).toNat)
     case atStart=>
      refine⟨0,y,xs0,by omega,rfl,rfl,d4.o,rfl,λe=>⟨HY.o.1 e,⟨Nat.zero_le _,by rw[xbd,k.o];exact HR.o.symm,by rw[k.o],λx c=>by rw[k.o]at c;have:=(X.o x c).2;omega,λx c=>?_⟩⟩,λe=>Or.inl (λB=>by have:=HY.o.2 B;rw[e]at this;cases this)⟩;obtain⟨q,hq,rfl⟩:=Xg.1 c;exact(b2.o q hq).1.2.2.2.2.1
     clear d4 HY;obtain⟨i,z,A,hi,rfl,rfl,f,b7,g1,g2⟩:=hrel;have c1:wr.cell? ⟨S,1,none⟩=some (.slice va N vc):=by rw[za f.box];rfl
     have i6:=zc f.box;have i8:A.length=N:=by
      have:=YA List.length b7
      simp only[Xl]at this;rw[this,HN.o]
     have F:=zb f;have b0:=zb b7;have d8:=zb g1;have a7:Ha (Below w.heap.size w wr):=G.o.trans (f.bel.mono G.o.size);have g3:Ha (z=false->zI b.data.toList=none):=λez=>E.o (λls q1 _ _ _=>by
      rcases g2 ez with q|q
      ·exact q (by rw[r.o];exact q1.nm)
      have:=q1.fam
      rw[<-r.o,<-HR.o,q]at this
      cases this)
     clear f b7 g1 g2
     cases z with
     |false=>
      by_cases h9:i<N
      all_goals
       have f1:decide ((i:Int)<(N:Int))=decide (i<N):=by simp
       have hr:=g3.o rfl
       first
       |(have b5:(i:Int)<(N:Int):=by omega)
       |(have b5:¬(i:Int)<(N:Int):=by omega)
       clear f1;have Z:=zb hr;clear hr;go_wp2_with fail;go_ret2;exact cO a7.o Z.o rfl
     |true=>
      obtain⟨a5,u⟩:=d8.o rfl;have f0:i*4294967294<=30*4294967294:=xaj _ (by omega);have b3:Ha (∀y∈A,Wl y):=QF b2.o b0.o (by rw[u.bare,k.o]) (λl hl=>⟨by have:=u.gvn l hl;omega,u.got l hl⟩);have a1:Ha (∀x∈A,∃m∈l0,bare x.1=bare m):=λx c=>Lr u.bare (Xe c)
      have c9:Ha (∀x∈A,x.1.gv<=30*4294967294):=λx c=>xj (u.gvn _ (Xe c)) f0
      have C:=zb u;have J:=zb a5;clear u a5 d8 f0;by_cases h9:i<N
      ·have b5:(i:Int)<(N:Int):=by omega
       have HF:=zb (Ft F.o b3.o (by omega) (λx c=>by
        obtain⟨m,hm,e⟩:=a1.o x c;rw[(kK e).2.2.2.2.2.2.2.2];exact(X.o m hm).1) (λx c=>xj (c9.o x c) (by decide)) (λx c=>by
        obtain⟨m,hm,e⟩:=a1.o x c;rw[(kK e).2.2.1];exact(J.o.mem hm).1) i (by omega))
       obtain⟨Q,HQ⟩:=UM (Us (A.map Prod.fst) i);rw[<-HQ.o]at HF;go_wp2_with fail;refine(HF.o).mono ?_
       intro e w5 hP;unfold On at hP
       cases Q with
       |some ls' =>
        obtain⟨rfl,c5,h8,b4,T⟩:=hP;have a9:=zb T;clear T HF c1;go_wp2_with fail;go_roundw
        case rel=>exact⟨i+1,true,c5,by omega,by go_num,rfl,a9.o,b4.trans b0.o,λ_=>⟨J.o,by rw[h8];exact C.o.step (by omega) HQ.o.symm⟩,λe=>by cases e⟩
        simp[intOf];omega
       |none=>
        obtain⟨rfl,c5,b4,T⟩:=hP;have a9:=zb T;clear T HF c1;go_wp2_with fail;go_roundw
        case rel=>exact⟨i+1,false,c5,by omega,by go_num,rfl,a9.o,b4.trans b0.o,(λe=>by cases e),λ_=>Or.inr (C.o.none (by omega) HQ.o.symm)⟩
        simp[intOf];omega
      obtain rfl:i=N:=by omega
      have b5:¬(i:Int)<(i:Int):=by omega
      have c7:=zb (yN F.o b3.o (by omega) (λx c=>by
       obtain⟨m,hm,e⟩:=a1.o x c;have q:=J.o.mem hm;have g:=c9.o x c;obtain⟨_,_,_,_,e1,e2,e3,e4,_⟩:=kK e;rw[e1,e2,e3,e4];exact⟨q.2.1,q.2.2.1,q.2.2.2.1,q.2.2.2.2,by omega⟩))
      have d2:=zb (λ(wx:World) (c:Below wr.heap.size wr wx)=>CS (F.o.below c) b3.o (by omega) (λj hj=>by
       rw[Lp C.o.bare,(kK (uZ C.o.bare j)).1];exact(J.o j (by rw[<-nF C.o.bare];exact hj)).2.2.2.2.2.2.2.2) d.o.ol d.o.os d.o.rc.1 d.o.rc.2)
      have c8:Ha (R=some (A.map Prod.fst)):=by
       have:=C.o
       rw[a2]at this;exact this.done
      have Z:Ha (∀ls,TM ns ls->ls=A.map Prod.fst):=λls q=>by
       have:=q.fam
       rw[<-r.o,<-HR.o,c8.o]at this;exact(xr this).symm
      go_wp2_with fail;refine(c7.o).mono ?_
      rintro e w5 ⟨⟨x1,rfl,f9⟩,e6⟩;have a6:=zb e6;clear c7 e6;go_wp2_with fail;refine(d2.o w5 a6.o).mono ?_
      rintro e w6 ⟨⟨x2,rfl,g0⟩,e7⟩;have c6:Ha (Below wr.heap.size wr w6):=a6.o.trans (e7.mono a6.o.size);have H:Ha (Below w.heap.size w w6):=a7.o.trans (c6.o.mono a7.o.size);have d7:=zb f9;have a0:=zb g0;clear d2 e7 f9 g0;by_cases b9:x1=true/\x2=true
      ·obtain⟨rfl,rfl⟩:=b9;have HC:Ha (TM ns (A.map Prod.fst)):=⟨d3.o,g5.o,by rw[<-s.o];exact h1,by rw[<-r.o,<-a2];exact h2,by rw[<-r.o];exact J.o,by rw[<-r.o,<-HR.o];exact c8.o,d7.o.1 rfl,a0.o.1 rfl⟩
       have t:=zb (gB HC.o).1;obtain⟨ro,b6,f3⟩:=(F.o.below c6.o).toV t.o.ok t.o.len t.o.fam t.o.rc h1 t.o.ris;have g8:=zb b6;have g4:=zb f3;have d6:Ha (w2.heap.size<=S/\∀g,(Value.slice va i vc).ownBlock=some g->w2.heap.size<=g):=⟨F.o.slo,λg hg=>(F.o.row.lt g hg).1⟩
       have g9:=zb (Kd b6 ⟨λo ho=>(a0.o.1 rfl).ord o ho |>.id.2,(a0.o.1 rfl).olen,t.o.li⟩ (λn B=>by rw[s.o]at B;exact YX (t.o.small n B) (by omega)) (λl hl p hp=>by
        obtain⟨q,hq,rfl⟩:=Xg.1 hl;obtain⟨m,hm,e⟩:=a1.o q hq;rw[(kK e).2.2.2.2.2.2.2.2]at hp;exact((X.o m hm).1.2 p hp).2) (λo ho=>(d.o.os o ho).2.2.2) d.o.rc.2)
       clear b6 f3;go_wp2_with fail;refine(g9.o).mono ?_
       rintro e w7 ⟨e8,rfl⟩;go_wp2_with fail;go_ret2;have f7:Below w.heap.size w w7:=H.o.trans (e8.mono H.o.size);have b8:w.heap.size<=w2.heap.size:=G.o.size;show TS w b (.returned (.tuple #[.pointer (some ⟨S,0,none⟩),.bool (Vc td (Vy ns).os (Vy ns).rj (A.map Prod.fst)==b.toList)])) w7;rw[XM];by_cases a3:Vc td (Vy ns).os (Vy ns).rj (A.map Prod.fst)=b.data.toList
       ·rw[yl.2 a3];have hr:=g7.o (A.map Prod.fst) HC.o g6.o (by rw[<-s.o];exact a3);unfold TS;rw[hr,<-s.o];exact⟨f7,S,rfl,_,_,ro,g8.o.below e8,xj b8 d6.o.1,λg hg=>xj b8 (d6.o.2 g hg),λg hg=>xj b8 (g4.o g hg)⟩
       rw[xp.2 a3];exact cO f7 (E.o (λls q _ _ h4=>a3 (by rw[s.o,<-Z.o ls q];exact h4))) rfl
      have K:Ha (zI b.data.toList=none):=E.o (λls q _ _ _=>b9 (by
       have e:=Z.o ls q;subst e;exact⟨d7.o.2 q.bal,a0.o.2 q.ord⟩))
      have h7:x1=false\/(x1=true/\x2=false):=by
       cases x1<;>cases x2<;>simp_all
      clear b9;rcases h7 with rfl|⟨rfl,rfl⟩
      all_goals
       go_wp2_with fail;go_ret2
       exact cO H.o K.o rfl
    have t2:decide ((30:Int)<(N:Int))=true:=xy (by omega);have K:Ha (zI b.data.toList=none):=E.o (λls q _ _ _=>h2 (by rw[a2,r.o];exact q.len));go_wp2_with fail;go_ret2;exact cO b1.o K.o rfl
   have t1:decide ((2147483647:Int)<(td:Int))=true:=xy (by omega);have K:Ha (zI b.data.toList=none):=E.o (λls q _ _ _=>h1 (by rw[s.o];exact q.td));go_wp2_with fail;go_ret2;exact cO b1.o K.o rfl
