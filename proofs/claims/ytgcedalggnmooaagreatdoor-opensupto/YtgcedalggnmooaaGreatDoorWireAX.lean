import Derived.Test.YtgcedalggnmooaaGreatDoorRefAX
set_option linter.all false
set_option maxRecDepth 100000
set_option maxHeartbeats 800000
namespace Go.Proofs.YtgcedalggnmooaaGreatDoor
open Go.RowKit
open Tryz
def Gl(w:World):Prop:=(∃t v,w.cell? ⟨2,0,none⟩=some (.iface t v))/\(∃t v,w.cell? ⟨3,0,none⟩=some (.iface t v))/\4<=w.heap.size
theorem OJ(b:Nat)(s:ByteArray)(d:0<s.size)(w:World)(f:w.cell? ⟨b,0,none⟩=some (.string s))(g:w.frozen? ⟨b,0,none⟩=false):Calls prog 145 #[.pointer (some ⟨b,0,none⟩)] w λe w'=>e=.returned (.int .u8 (s[0].toNat:Int))/\w'=w.setCell ⟨b,0,none⟩ (.string (s.extract 1 s.size)):=by
 have c:s.toList.isEmpty=false:=by
  rw[XM]
  cases h:s.data.toList with
  |nil=>
   have a:s.data.toList.length=s.size:=by simp
   rw[h]at a;have:s.size=0:=a.symm;omega
  |cons=>rfl
 go_enter func145,ntmps145;go_wp2_with fail;go_ret;exact⟨rfl,rfl⟩
theorem OI(b:Nat)(w:World)(a:w.cell? ⟨b,0,none⟩=some (.string ⟨#[]⟩))(t:TypeId)(v:Value)(c:w.cell? ⟨3,0,none⟩=some (.iface t v)):Calls prog 145 #[.pointer (some ⟨b,0,none⟩)] w λe w'=>e=.panicked [{ v:=.iface t v,recovered:=false }]/\w'=w:=by
 go_enter func145,ntmps145;go_wp2_with fail;exact⟨rfl,rfl,rfl⟩
structure Rd(b:Nat)(w w':World)(s:ByteArray):Prop where
 os:w'.os=w.os
 tape:w'.tape=w.tape
 output:w'.output=w.output
 size:w'.heap.size=w.heap.size
 block:∀k,k≠b->w'.heap[k]?=w.heap[k]?
 here:w'.heap[b]?=some (.cells #[.string s] 225 (0,0))
theorem Rd.cell{b:Nat}{w w':World}{s:ByteArray}(h:Rd b w w' s):w'.cell? ⟨b,0,none⟩=some (.string s):=by
 simp[World.cell?,h.here]
theorem Rd.frozen{b:Nat}{w w':World}{s:ByteArray}(h:Rd b w w' s):w'.frozen? ⟨b,0,none⟩=false:=by
 simp[World.frozen?,h.here]
variable {b:Nat}{s:ByteArray}{w w':World}
theorem Rd.other(h:Rd b w w' s)(a:Addr)(c:a.block≠b):w'.cell? a=w.cell? a:=xm (w:=w) (h.block a.block c)
theorem Rd.trans{b:Nat}{w w' a:World}{s t:ByteArray}(h:Rd b w w' s)(k:Rd b w' a t):Rd b w a t :=
 ⟨k.os.trans h.os,k.tape.trans h.tape,k.output.trans h.output,k.size.trans h.size,λi c=>(k.block i c).trans (h.block i c),k.here⟩
theorem Rd.refl(h:w.heap[b]?=some (.cells #[.string s] 225 (0,0))):Rd b w w s:=⟨rfl,rfl,rfl,rfl,λ_ _=>rfl,h⟩
theorem Rd.set(h:Rd b w w' s)(t:ByteArray):Rd b w (w'.setCell ⟨b,0,none⟩ (.string t)) t :=
 h.trans ⟨rfl,rfl,rfl,by simp[World.setCell],λk a=>xa _ _ _ _ a,by
  have:=xq w' b 0 #[.string s] 225 (.string t) h.here
  simpa using this⟩
theorem Rd.below{B:Nat}(h:Rd b w w' s)(a:B<=b):Below B w w' :=
 ⟨h.os,h.tape,h.output,by rw[h.size];exact xc _,λk c=>h.block k (by omega)⟩
theorem Gl.rd(h:Gl w)(k:Rd b w w' s)(j:4<=b):Gl w':=by
 obtain⟨⟨e,g,a⟩,⟨f,i,c⟩,d⟩:=h;exact⟨⟨e,g,by rw[k.other _ (by simp;omega)];exact a⟩,⟨f,i,by rw[k.other _ (by simp;omega)];exact c⟩,by rw[k.size];exact d⟩
def iB(b:Nat)(w:World)(e:Ending)(w':World):Prop:=(∃t v,e=.panicked [{ v:=.iface t v,recovered:=false }])/\∃s,Rd b w w' s
theorem Ub(s:ByteArray)(k:Nat)(a:k<s.size):(s.extract k s.size)[0]'(by rw[XC];omega)=s[k]:=by
 simp[ByteArray.getElem_extract]
theorem Uc(s:ByteArray)(k:Nat)(a:k<s.size):(s.extract k s.size).extract 1 (s.extract k s.size).size=s.extract (k+1) s.size:=by
 apply YN
 simp[Yg,XC];congr 1;omega
theorem vC(b:Nat)(s:ByteArray)(d:0<s.size)(w w':World)(a:Rd b w w' s):Calls prog 145 #[.pointer (some ⟨b,0,none⟩)] w' λe c=>e=.returned (.int .u8 (s[0].toNat:Int))/\Rd b w c (s.extract 1 s.size) :=
 (OJ b s d w' a.cell a.frozen).mono λ_ _ ⟨h1,h2⟩=>⟨h1,h2 ▸ a.set _⟩
theorem kM(b:Nat)(g:4<=b)(s:ByteArray)(f:s.size=0)(w w':World)(i:Gl w)(c:Rd b w w' s):Calls prog 145 #[.pointer (some ⟨b,0,none⟩)] w' (iB b w):=by
 have h:s=⟨#[]⟩:=by
  apply YN
  apply xaO
  exact f
 subst h;obtain⟨d,e,a⟩:=(i.rd c g).2.1;exact(OI b w' c.cell d e a).mono λ_ _ ⟨a,h2⟩=>⟨⟨d,e,a⟩,⟨#[]⟩,h2 ▸ c⟩
theorem jM(a:Nat)(b:a<9223372036854775808):(BitVec.ofInt 64 (a:Int)).toNat=a:=by
 rw[BitVec.ofInt_natCast,BitVec.toNat_ofNat];exact xaL (by omega)
theorem FA(a b:Nat)(c:a<9223372036854775808)(d:b<9223372036854775808):bits .or .i64 (a:Int) (b:Int)=((a ||| b:Nat):Int):=by
 have e:a ||| b<2^63:=Nat.or_lt_two_pow (by omega) (by omega)
 show IntKind.i64.wrap ((BitVec.ofInt 64 (a:Int) ||| BitVec.ofInt 64 (b:Int)).toNat:Int)=_;rw[BitVec.toNat_or,jM a c,jM b d,xbC,bU _ ⟨by omega,by omega⟩]
theorem Qp(s:ByteArray)(k:Nat)(h:k<s.size)(n:k<9):bits .or .i64 (Pl.val (List.take k s.data.toList):Int) (wrap64 (wrap64 (bits .and .u8 (s[k].toNat:Int) 127)*2^(7*k)))=(Pl.val (s.data.toList.take (k+1)):Int):=by
 have j:s[k].toNat<256:=XX _;have f:bits .and .u8 (s[k].toNat:Int) 127=((s[k].toNat%128:Nat):Int):=by
  have:=u8_and_nat s[k].toNat 127 j (by omega)
  rw[show((127:Nat):Int)=127 from rfl]at this;rw[this,show(127:Nat)=2^7-1 from rfl,xaP]
 rw[f,bU ((s[k].toNat%128:Nat):Int) ⟨by omega,by omega⟩];have g:(2:Int)^(7*k)=((128^k:Nat):Int):=by
  rw[Int.pow_mul];norm_cast
 have m:=Pl.val_take_lt s.data.toList (k+1) (by omega);have c:=Pl.take_snoc s.data.toList k (by simpa using h);have a:(s.data.toList.take k).length=k:=by rw[Xt,show s.data.toList.length=s.size from by simp];omega
 have d:=Pl.val_snoc (s.data.toList.getD k 0) (s.data.toList.take k);have b:=Pl.val_lt (s.data.toList.take k);rw[<-c,cW s k h,a]at d;rw[a]at b;rw[g,<-Int.natCast_mul];have l:s[k].toNat%128*128^k<=Pl.val (s.data.toList.take (k+1)):=by rw[d];omega
 rw[bU ((s[k].toNat%128*128^k:Nat):Int) ⟨by omega,by omega⟩,FA _ _ (by omega) (by omega)];have e:(128:Nat)^k=2^(7*k):=by rw[Nat.pow_mul]
 have i:Pl.val (s.data.toList.take k) ||| s[k].toNat%128*128^k=Pl.val (s.data.toList.take (k+1)):=by
  rw[d,Nat.or_comm,e,xaz (s[k].toNat%128) (2^(7*k)),<-Nat.two_pow_add_eq_or_of_lt (by rw[<-e];exact b),Nat.add_comm]
 rw[i]
theorem JM{k:IntKind}{a b:Int}(h:a=b):Ending.returned (.int k a)=.returned (.int k b):=by rw[h]
theorem LR(s:ByteArray)(k:Nat)(l:k<9)(h:k<s.size)(b:∀j,j<k->128<=(s.data.toList.getD j 0).toNat)(g:s[k].toNat<128):(¬(0<k/\s[k].toNat=0)->Pl.fst s.data.toList=Pl.val (s.data.toList.take (k+1))/\Pl.snd s.data.toList=k+1)/\(0<k/\s[k].toNat=0->Pl.snd s.data.toList=0):=by
 have i:k<s.data.toList.length:=by simpa using h
 have a:(s.data.toList.getD k 0).toNat<128:=by rw[cW s k h];exact g
 have e:=Pl.first_stop s.data.toList k l i b a;have d:=Pl.num_val (s.data.toList.getD k 0) a (s.data.toList.take k) (Pl.all_lead _ k (by omega) b);rw[<-Pl.take_snoc _ k i,cW s k h]at d;have c:(s.data.toList.take k).length=k:=by rw[Xt];omega
 rw[c]at d;have n:s[k]=0↔s[k].toNat=0:=by rw[<-XI];rfl
 rw[n]at d;exact⟨λf=>e.1 (d.2 f),λf=>(e.2 (λm=>d.1 m f)).2⟩
theorem kZ(b:Nat)(A:4<=b)(s:ByteArray)(S:s.size<=70368744177664)(w J:World)(C:Gl w)(F:Rd b w J s):Calls prog 136 #[.pointer (some ⟨b,0,none⟩)] J λe w' =>
   (Pl.snd s.data.toList≠0/\e=.returned (.int .i64 (Pl.fst s.data.toList:Nat))/\Rd b w w' (s.extract (Pl.snd s.data.toList) s.size))\/(Pl.snd s.data.toList=0/\iB b w e w'):=by
 go_enter func136,ntmps136;go_wp2_with fail;go_loopw [3,4,5,6] (λv _ _ i wr=>∃k:Nat,k<=9/\k<=s.size/\i=.int .i64 k/\v=.int .i64 (Pl.val (s.data.toList.take k))/\(∀j,j<k->128<=(s.data.toList.getD j 0).toNat)/\Rd b w wr (s.extract k s.size)) (λ_ _ _ i _=>9-(intOf i).toNat)
 case atStart=>exact⟨0,by omega,by omega,rfl,rfl,λj h=>absurd h (by omega),by simpa using F⟩
 obtain⟨k,K,P,rfl,rfl,f,r⟩:=hrel;have G:Ha (k=9\/k=s.size->Pl.fst s.data.toList=0/\Pl.snd s.data.toList=0):=λh=>Pl.first_out _ k K (by simpa using P) f (by simpa using h)
 have Q:=Pl.val_lt (s.data.toList.take k);by_cases H:k<9
 ·by_cases l:k<s.size
  ·have B:0<(s.extract k s.size).size:=by rw[XC];omega
   have q:=zb (vC b (s.extract k s.size) B w wr r);rw[Ub s k l,Uc s k l]at q;have M:s[k].toNat<256:=XX _;clear Q;have t:=zb (Qp s k l H);have u:Ha (s[k].toNat<128->((¬(0<k/\s[k].toNat=0)->Pl.fst s.data.toList=Pl.val (s.data.toList.take (k+1))/\Pl.snd s.data.toList=k+1)/\(0<k/\s[k].toNat=0->Pl.snd s.data.toList=0))):=λm=>LR s k H l f m
   go_wp2_with (go_at_call 145;refine q.mono ?_;rintro e w1 ⟨rfl,a⟩;obtain⟨n,p,D⟩:=(C.rd a A).2.1)
   ·rw[t.o];go_roundw
    case rel=>
     refine⟨k+1,by omega,by omega,by go_num,rfl,?_,a⟩;have N:128<=(s[k].toNat:Int):=by assumption
     intro j R;by_cases E:j=k
     ·subst E;rw[cW s j l];omega
     exact f j (by omega)
    simp[intOf];omega
   ·have c:s[k].toNat=0:=by assumption
    have d:0<k:=by assumption
    refine⟨rfl,Or.inr ⟨(u (by omega)).2 ⟨d,c⟩,⟨n,p,rfl⟩,_,a⟩⟩
   ·have c:s[k].toNat=0:=by assumption
    have d:¬0<k:=by assumption
    obtain⟨y,z⟩:=(u (by omega)).1 (λh=>d h.1);have g:=t.o;rw[c,show((0:Nat):Int)=0 from rfl]at g;rw[g];go_ret;exact Or.inl ⟨by omega,JM (by rw[y]),by rw[z];exact a⟩
   have c:¬s[k].toNat=0:=by assumption
   have m:(s[k].toNat:Int)<128:=by assumption
   obtain⟨y,z⟩:=(u (by omega)).1 (λh=>c h.2);rw[t.o];go_ret;exact Or.inl ⟨by omega,JM (by rw[y]),by rw[z];exact a⟩
  have q:=zb (kM b A (s.extract k s.size) (by rw[XC];omega) w wr C r);have c:=G.o (Or.inr (by omega));have x:=zb c.2;clear c;go_wp2_with (go_at_call 145;refine q.mono ?_;rintro e w1 ⟨⟨n,p,rfl⟩,s1,a⟩);exact⟨rfl,Or.inr ⟨x,⟨n,p,rfl⟩,s1,a⟩⟩
 have x:=zb (G (Or.inl (by omega))).2;obtain⟨n,p,D⟩:=(C.rd r A).2.1;go_wp2_with fail;exact⟨rfl,Or.inr ⟨x,⟨n,p,rfl⟩,_,r⟩⟩
def TG(b:Nat)(w w':World)(l:List UInt8):Prop:=∃t:ByteArray,t.data.toList=l/\t.size<=4194304/\Rd b w w' t
theorem zY(b:Nat)(d:4<=b)(l:List UInt8)(w c:World)(f:Gl w)(a:TG b w c l):Calls prog 136 #[.pointer (some ⟨b,0,none⟩)] c λe w' =>
   (Pl.snd l≠0/\e=.returned (.int .i64 (Pl.fst l:Nat))/\TG b w w' (l.drop (Pl.snd l)))\/(Pl.snd l=0/\iB b w e w'):=by
 obtain⟨t,rfl,i,g⟩:=a;refine(kZ b d t (by omega) w c f g).mono ?_
 rintro e w' (⟨h1,h2,h3⟩|h)
 ·exact Or.inl ⟨h1,h2,_,ZH t _,by rw[XC];omega,h3⟩
 exact Or.inr h
theorem ZB(b:Nat)(c:UInt8)(r:List UInt8)(w g:World)(d:TG b w g (c::r)):Calls prog 145 #[.pointer (some ⟨b,0,none⟩)] g λe w'=>e=.returned (.int .u8 (c.toNat:Int))/\TG b w w' r:=by
 obtain⟨t,f,l,k⟩:=d;have a:0<t.size:=by
  have:t.data.toList.length=t.size:=by simp
  rw[f]at this;simp at this;omega
 have i:t[0]=c:=by
  have:=cW t 0 a
  rw[f]at this;simpa using this.symm
 refine(vC b t a w g k).mono ?_
 rintro e w' ⟨h,j⟩;rw[i]at h;refine⟨h,_,?_,?_,j⟩
 ·rw[ZH,f];rfl
 rw[XC];omega
def zj(b:Nat)(w:World)(T n:Nat)(r:List UInt8)(e:Ending)(w':World):Prop :=
 match Pl.readN n r with
 |none=>iB b w e w'
 |some (ns,rest)=>e=.returned (.iface T (.agg (I ns).toArray))/\TG b w w' rest
theorem zC{n:Nat}{l:List UInt8}(h:Pl.snd l=0):Pl.readN (n+1) l=none:=by simp[Pl.readN,h]
theorem zk{n:Nat}{l:List UInt8}(h:Pl.snd l≠0):Pl.readN (n+1) l=(Pl.readN n (l.drop (Pl.snd l))).map λp=>(Pl.fst l::p.1,p.2):=by
 simp only[Pl.readN,h,Yc]
 cases Pl.readN n (l.drop (Pl.snd l))<;>rfl
theorem Np(b:Nat)(l:4<=b)(r:List UInt8)(w j:World)(m:Gl w)(f:TG b w j (1::r)):Calls prog 95 #[.pointer (some ⟨b,0,none⟩)] j (zj b w 143 1 r):=by
 have k:=zb (ZB b 1 r w j f);rw[show((1:UInt8).toNat:Int)=1 from rfl]at k;clear f;go_enter func95,ntmps95;go_wp2_with fail;refine k.mono ?_
 rintro e w1 ⟨rfl,g⟩;obtain⟨i,a⟩:=UM r;have d:TG b w w1 i:=by rw[a.o];exact g
 clear g;obtain⟨n,c⟩:=UM (Pl.fst i);go_wp2_with fail;refine(zY b l i w _ m d).mono ?_
 rintro e w2 (⟨hs0,rfl,hr2⟩|⟨hs0,⟨t0,v0,rfl⟩,hr2⟩);rotate_left
 ·refine⟨rfl,?_⟩;show zj b w 143 1 r _ _;unfold zj;rw[<-a.o,zC hs0];exact⟨⟨t0,v0,rfl⟩,hr2⟩
 rw[<-c.o];have h:=zb hs0;clear hs0 d;go_wp2_with fail;go_ret;unfold zj;rw[<-a.o,zk h.o];simp only[Pl.readN,XK,<-c.o];exact⟨rfl,hr2⟩
theorem BA(b:Nat)(z:4<=b)(r:List UInt8)(w D:World)(A:Gl w)(t:TG b w D (2::r)):Calls prog 95 #[.pointer (some ⟨b,0,none⟩)] D (zj b w 146 4 r):=by
 have E:=zb (ZB b 2 r w D t);rw[show((2:UInt8).toNat:Int)=2 from rfl]at E;clear t;go_enter func95,ntmps95;go_wp2_with fail;refine E.mono ?_
 rintro e w1 ⟨rfl,u⟩;obtain⟨v,a⟩:=UM r;have n:TG b w w1 v:=by rw[a.o];exact u
 clear u;obtain⟨H,i⟩:=UM (Pl.fst v);go_wp2_with fail;refine(zY b z v w _ A n).mono ?_
 rintro e w2 (⟨hs0,rfl,hr2⟩|⟨hs0,⟨t0,v0,rfl⟩,hr2⟩);rotate_left
 ·refine⟨rfl,?_⟩;show zj b w 146 4 r _ _;unfold zj;rw[<-a.o,zC hs0];exact⟨⟨t0,v0,rfl⟩,hr2⟩
 rw[<-i.o];have f:=zb hs0;clear hs0 n;obtain⟨x,c⟩:=UM (v.drop (Pl.snd v));have p:TG b w w2 x:=by rw[c.o];exact hr2
 clear hr2;obtain⟨J,j⟩:=UM (Pl.fst x);go_wp2_with fail;refine(zY b z x w _ A p).mono ?_
 rintro e F (⟨hs1,rfl,hr3⟩|⟨hs1,⟨t1,v1,rfl⟩,hr3⟩);rotate_left
 ·refine⟨rfl,?_⟩;show zj b w 146 4 r _ _;unfold zj;rw[<-a.o,zk f.o,<-c.o,zC hs1];exact⟨⟨t1,v1,rfl⟩,hr3⟩
 rw[<-j.o];have h:=zb hs1;clear hs1 p;obtain⟨y,d⟩:=UM (x.drop (Pl.snd x));have q:TG b w F y:=by rw[d.o];exact hr3
 clear hr3;obtain⟨K,k⟩:=UM (Pl.fst y);go_wp2_with fail;refine(zY b z y w _ A q).mono ?_
 rintro e G (⟨hs2,rfl,hr4⟩|⟨hs2,⟨t2,v2,rfl⟩,hr4⟩);rotate_left
 ·refine⟨rfl,?_⟩;show zj b w 146 4 r _ _;unfold zj;rw[<-a.o,zk f.o,<-c.o,zk h.o,<-d.o,zC hs2];exact⟨⟨t2,v2,rfl⟩,hr4⟩
 rw[<-k.o];have m:=zb hs2;clear hs2 q;obtain⟨C,g⟩:=UM (y.drop (Pl.snd y));have s:TG b w G C:=by rw[g.o];exact hr4
 clear hr4;obtain⟨M,l⟩:=UM (Pl.fst C);go_wp2_with fail;refine(zY b z C w _ A s).mono ?_
 rintro e w5 (⟨hs3,rfl,hr5⟩|⟨hs3,⟨t3,v3,rfl⟩,hr5⟩);rotate_left
 ·refine⟨rfl,?_⟩;show zj b w 146 4 r _ _;unfold zj;rw[<-a.o,zk f.o,<-c.o,zk h.o,<-d.o,zk m.o,<-g.o,zC hs3];exact⟨⟨t3,v3,rfl⟩,hr5⟩
 rw[<-l.o];have B:=zb hs3;clear hs3 s;go_wp2_with fail;go_ret;unfold zj;rw[<-a.o,zk f.o,<-c.o,zk h.o,<-d.o,zk m.o,<-g.o,zk B.o];simp only[Pl.readN,XK,<-i.o,<-j.o,<-k.o,<-l.o];exact⟨rfl,hr5⟩
theorem GG(b:Nat)(u:4<=b)(r:List UInt8)(w y:World)(v:Gl w)(n:TG b w y (3::r)):Calls prog 95 #[.pointer (some ⟨b,0,none⟩)] y (zj b w 149 3 r):=by
 have z:=zb (ZB b 3 r w y n);rw[show((3:UInt8).toNat:Int)=3 from rfl]at z;clear n;go_enter func95,ntmps95;go_wp2_with fail;refine z.mono ?_
 rintro e w1 ⟨rfl,p⟩;obtain⟨q,a⟩:=UM r;have k:TG b w w1 q:=by rw[a.o];exact p
 clear p;obtain⟨B,g⟩:=UM (Pl.fst q);go_wp2_with fail;refine(zY b u q w _ v k).mono ?_
 rintro e w2 (⟨hs0,rfl,hr2⟩|⟨hs0,⟨t0,v0,rfl⟩,hr2⟩);rotate_left
 ·refine⟨rfl,?_⟩;show zj b w 149 3 r _ _;unfold zj;rw[<-a.o,zC hs0];exact⟨⟨t0,v0,rfl⟩,hr2⟩
 rw[<-g.o];have f:=zb hs0;clear hs0 k;obtain⟨s,c⟩:=UM (q.drop (Pl.snd q));have l:TG b w w2 s:=by rw[c.o];exact hr2
 clear hr2;obtain⟨C,h⟩:=UM (Pl.fst s);go_wp2_with fail;refine(zY b u s w _ v l).mono ?_
 rintro e A (⟨hs1,rfl,hr3⟩|⟨hs1,⟨t1,v1,rfl⟩,hr3⟩);rotate_left
 ·refine⟨rfl,?_⟩;show zj b w 149 3 r _ _;unfold zj;rw[<-a.o,zk f.o,<-c.o,zC hs1];exact⟨⟨t1,v1,rfl⟩,hr3⟩
 rw[<-h.o];have j:=zb hs1;clear hs1 l;obtain⟨x,d⟩:=UM (s.drop (Pl.snd s));have m:TG b w A x:=by rw[d.o];exact hr3
 clear hr3;obtain⟨D,i⟩:=UM (Pl.fst x);go_wp2_with fail;refine(zY b u x w _ v m).mono ?_
 rintro e E (⟨hs2,rfl,hr4⟩|⟨hs2,⟨t2,v2,rfl⟩,hr4⟩);rotate_left
 ·refine⟨rfl,?_⟩;show zj b w 149 3 r _ _;unfold zj;rw[<-a.o,zk f.o,<-c.o,zk j.o,<-d.o,zC hs2];exact⟨⟨t2,v2,rfl⟩,hr4⟩
 rw[<-i.o];have t:=zb hs2;clear hs2 m;go_wp2_with fail;go_ret;unfold zj;rw[<-a.o,zk f.o,<-c.o,zk j.o,<-d.o,zk t.o];simp only[Pl.readN,XK,<-g.o,<-h.o,<-i.o];exact⟨rfl,hr4⟩
theorem GC(b:Nat)(u:4<=b)(r:List UInt8)(w y:World)(v:Gl w)(n:TG b w y (4::r)):Calls prog 95 #[.pointer (some ⟨b,0,none⟩)] y (zj b w 152 3 r):=by
 have z:=zb (ZB b 4 r w y n);rw[show((4:UInt8).toNat:Int)=4 from rfl]at z;clear n;go_enter func95,ntmps95;go_wp2_with fail;refine z.mono ?_
 rintro e w1 ⟨rfl,p⟩;obtain⟨q,a⟩:=UM r;have k:TG b w w1 q:=by rw[a.o];exact p
 clear p;obtain⟨B,g⟩:=UM (Pl.fst q);go_wp2_with fail;refine(zY b u q w _ v k).mono ?_
 rintro e w2 (⟨hs0,rfl,hr2⟩|⟨hs0,⟨t0,v0,rfl⟩,hr2⟩);rotate_left
 ·refine⟨rfl,?_⟩;show zj b w 152 3 r _ _;unfold zj;rw[<-a.o,zC hs0];exact⟨⟨t0,v0,rfl⟩,hr2⟩
 rw[<-g.o];have f:=zb hs0;clear hs0 k;obtain⟨s,c⟩:=UM (q.drop (Pl.snd q));have l:TG b w w2 s:=by rw[c.o];exact hr2
 clear hr2;obtain⟨C,h⟩:=UM (Pl.fst s);go_wp2_with fail;refine(zY b u s w _ v l).mono ?_
 rintro e A (⟨hs1,rfl,hr3⟩|⟨hs1,⟨t1,v1,rfl⟩,hr3⟩);rotate_left
 ·refine⟨rfl,?_⟩;show zj b w 152 3 r _ _;unfold zj;rw[<-a.o,zk f.o,<-c.o,zC hs1];exact⟨⟨t1,v1,rfl⟩,hr3⟩
 rw[<-h.o];have j:=zb hs1;clear hs1 l;obtain⟨x,d⟩:=UM (s.drop (Pl.snd s));have m:TG b w A x:=by rw[d.o];exact hr3
 clear hr3;obtain⟨D,i⟩:=UM (Pl.fst x);go_wp2_with fail;refine(zY b u x w _ v m).mono ?_
 rintro e E (⟨hs2,rfl,hr4⟩|⟨hs2,⟨t2,v2,rfl⟩,hr4⟩);rotate_left
 ·refine⟨rfl,?_⟩;show zj b w 152 3 r _ _;unfold zj;rw[<-a.o,zk f.o,<-c.o,zk j.o,<-d.o,zC hs2];exact⟨⟨t2,v2,rfl⟩,hr4⟩
 rw[<-i.o];have t:=zb hs2;clear hs2 m;go_wp2_with fail;go_ret;unfold zj;rw[<-a.o,zk f.o,<-c.o,zk j.o,<-d.o,zk t.o];simp only[Pl.readN,XK,<-g.o,<-h.o,<-i.o];exact⟨rfl,hr4⟩
theorem GD(b:Nat)(s:4<=b)(r:List UInt8)(w J:World)(t:Gl w)(A:TG b w J (5::r)):Calls prog 95 #[.pointer (some ⟨b,0,none⟩)] J (zj b w 155 5 r):=by
 have K:=zb (ZB b 5 r w J A);rw[show((5:UInt8).toNat:Int)=5 from rfl]at K;clear A;go_enter func95,ntmps95;go_wp2_with fail;refine K.mono ?_
 rintro e w1 ⟨rfl,B⟩;obtain⟨C,a⟩:=UM r;have u:TG b w w1 C:=by rw[a.o];exact B
 clear B;obtain⟨P,k⟩:=UM (Pl.fst C);go_wp2_with fail;refine(zY b s C w _ t u).mono ?_
 rintro e w2 (⟨hs0,rfl,hr2⟩|⟨hs0,⟨t0,v0,rfl⟩,hr2⟩);rotate_left
 ·refine⟨rfl,?_⟩;show zj b w 155 5 r _ _;unfold zj;rw[<-a.o,zC hs0];exact⟨⟨t0,v0,rfl⟩,hr2⟩
 rw[<-k.o];have f:=zb hs0;clear hs0 u;obtain⟨D,c⟩:=UM (C.drop (Pl.snd C));have v:TG b w w2 D:=by rw[c.o];exact hr2
 clear hr2;obtain⟨Q,l⟩:=UM (Pl.fst D);go_wp2_with fail;refine(zY b s D w _ t v).mono ?_
 rintro e M (⟨hs1,rfl,hr3⟩|⟨hs1,⟨t1,v1,rfl⟩,hr3⟩);rotate_left
 ·refine⟨rfl,?_⟩;show zj b w 155 5 r _ _;unfold zj;rw[<-a.o,zk f.o,<-c.o,zC hs1];exact⟨⟨t1,v1,rfl⟩,hr3⟩
 rw[<-l.o];have h:=zb hs1;clear hs1 v;obtain⟨E,d⟩:=UM (D.drop (Pl.snd D));have x:TG b w M E:=by rw[d.o];exact hr3
 clear hr3;obtain⟨R,m⟩:=UM (Pl.fst E);go_wp2_with fail;refine(zY b s E w _ t x).mono ?_
 rintro e N (⟨hs2,rfl,hr4⟩|⟨hs2,⟨t2,v2,rfl⟩,hr4⟩);rotate_left
 ·refine⟨rfl,?_⟩;show zj b w 155 5 r _ _;unfold zj;rw[<-a.o,zk f.o,<-c.o,zk h.o,<-d.o,zC hs2];exact⟨⟨t2,v2,rfl⟩,hr4⟩
 rw[<-m.o];have j:=zb hs2;clear hs2 x;obtain⟨F,g⟩:=UM (E.drop (Pl.snd E));have y:TG b w N F:=by rw[g.o];exact hr4
 clear hr4;obtain⟨S,n⟩:=UM (Pl.fst F);go_wp2_with fail;refine(zY b s F w _ t y).mono ?_
 rintro e w5 (⟨hs3,rfl,hr5⟩|⟨hs3,⟨t3,v3,rfl⟩,hr5⟩);rotate_left
 ·refine⟨rfl,?_⟩;show zj b w 155 5 r _ _;unfold zj;rw[<-a.o,zk f.o,<-c.o,zk h.o,<-d.o,zk j.o,<-g.o,zC hs3];exact⟨⟨t3,v3,rfl⟩,hr5⟩
 rw[<-n.o];have q:=zb hs3;clear hs3 y;obtain⟨H,i⟩:=UM (F.drop (Pl.snd F));have z:TG b w w5 H:=by rw[i.o];exact hr5
 clear hr5;obtain⟨T,p⟩:=UM (Pl.fst H);go_wp2_with fail;refine(zY b s H w _ t z).mono ?_
 rintro e W (⟨hs4,rfl,hr6⟩|⟨hs4,⟨t4,v4,rfl⟩,hr6⟩);rotate_left
 ·refine⟨rfl,?_⟩;show zj b w 155 5 r _ _;unfold zj;rw[<-a.o,zk f.o,<-c.o,zk h.o,<-d.o,zk j.o,<-g.o,zk q.o,<-i.o,zC hs4];exact⟨⟨t4,v4,rfl⟩,hr6⟩
 rw[<-p.o];have G:=zb hs4;clear hs4 z;go_wp2_with fail;go_ret;unfold zj;rw[<-a.o,zk f.o,<-c.o,zk h.o,<-d.o,zk j.o,<-g.o,zk q.o,<-i.o,zk G.o];simp only[Pl.readN,XK,<-k.o,<-l.o,<-m.o,<-n.o,<-p.o];exact⟨rfl,hr6⟩
theorem Dv(b:Nat)(l:4<=b)(r:List UInt8)(w j:World)(m:Gl w)(f:TG b w j (6::r)):Calls prog 95 #[.pointer (some ⟨b,0,none⟩)] j (zj b w 158 1 r):=by
 have k:=zb (ZB b 6 r w j f);rw[show((6:UInt8).toNat:Int)=6 from rfl]at k;clear f;go_enter func95,ntmps95;go_wp2_with fail;refine k.mono ?_
 rintro e w1 ⟨rfl,g⟩;obtain⟨i,a⟩:=UM r;have d:TG b w w1 i:=by rw[a.o];exact g
 clear g;obtain⟨n,c⟩:=UM (Pl.fst i);go_wp2_with fail;refine(zY b l i w _ m d).mono ?_
 rintro e w2 (⟨hs0,rfl,hr2⟩|⟨hs0,⟨t0,v0,rfl⟩,hr2⟩);rotate_left
 ·refine⟨rfl,?_⟩;show zj b w 158 1 r _ _;unfold zj;rw[<-a.o,zC hs0];exact⟨⟨t0,v0,rfl⟩,hr2⟩
 rw[<-c.o];have h:=zb hs0;clear hs0 d;go_wp2_with fail;go_ret;unfold zj;rw[<-a.o,zk h.o];simp only[Pl.readN,XK,<-c.o];exact⟨rfl,hr2⟩
theorem Ku(b:Nat)(l:4<=b)(r:List UInt8)(w j:World)(m:Gl w)(f:TG b w j (7::r)):Calls prog 95 #[.pointer (some ⟨b,0,none⟩)] j (zj b w 160 1 r):=by
 have k:=zb (ZB b 7 r w j f);rw[show((7:UInt8).toNat:Int)=7 from rfl]at k;clear f;go_enter func95,ntmps95;go_wp2_with fail;refine k.mono ?_
 rintro e w1 ⟨rfl,g⟩;obtain⟨i,a⟩:=UM r;have d:TG b w w1 i:=by rw[a.o];exact g
 clear g;obtain⟨n,c⟩:=UM (Pl.fst i);go_wp2_with fail;refine(zY b l i w _ m d).mono ?_
 rintro e w2 (⟨hs0,rfl,hr2⟩|⟨hs0,⟨t0,v0,rfl⟩,hr2⟩);rotate_left
 ·refine⟨rfl,?_⟩;show zj b w 160 1 r _ _;unfold zj;rw[<-a.o,zC hs0];exact⟨⟨t0,v0,rfl⟩,hr2⟩
 rw[<-c.o];have h:=zb hs0;clear hs0 d;go_wp2_with fail;go_ret;unfold zj;rw[<-a.o,zk h.o];simp only[Pl.readN,XK,<-c.o];exact⟨rfl,hr2⟩
theorem Dw(b:Nat)(s:4<=b)(r:List UInt8)(w p:World)(t:Gl w)(j:TG b w p (8::r)):Calls prog 95 #[.pointer (some ⟨b,0,none⟩)] p (zj b w 163 2 r):=by
 have q:=zb (ZB b 8 r w p j);rw[show((8:UInt8).toNat:Int)=8 from rfl]at q;clear j;go_enter func95,ntmps95;go_wp2_with fail;refine q.mono ?_
 rintro e w1 ⟨rfl,k⟩;obtain⟨l,a⟩:=UM r;have h:TG b w w1 l:=by rw[a.o];exact k
 clear k;obtain⟨u,d⟩:=UM (Pl.fst l);go_wp2_with fail;refine(zY b s l w _ t h).mono ?_
 rintro e w2 (⟨hs0,rfl,hr2⟩|⟨hs0,⟨t0,v0,rfl⟩,hr2⟩);rotate_left
 ·refine⟨rfl,?_⟩;show zj b w 163 2 r _ _;unfold zj;rw[<-a.o,zC hs0];exact⟨⟨t0,v0,rfl⟩,hr2⟩
 rw[<-d.o];have g:=zb hs0;clear hs0 h;obtain⟨n,c⟩:=UM (l.drop (Pl.snd l));have i:TG b w w2 n:=by rw[c.o];exact hr2
 clear hr2;obtain⟨v,f⟩:=UM (Pl.fst n);go_wp2_with fail;refine(zY b s n w _ t i).mono ?_
 rintro e x (⟨hs1,rfl,hr3⟩|⟨hs1,⟨t1,v1,rfl⟩,hr3⟩);rotate_left
 ·refine⟨rfl,?_⟩;show zj b w 163 2 r _ _;unfold zj;rw[<-a.o,zk g.o,<-c.o,zC hs1];exact⟨⟨t1,v1,rfl⟩,hr3⟩
 rw[<-f.o];have m:=zb hs1;clear hs1 i;go_wp2_with fail;go_ret;unfold zj;rw[<-a.o,zk g.o,<-c.o,zk m.o];simp only[Pl.readN,XK,<-d.o,<-f.o];exact⟨rfl,hr3⟩
theorem BB(b:Nat)(s:4<=b)(r:List UInt8)(w p:World)(t:Gl w)(j:TG b w p (9::r)):Calls prog 95 #[.pointer (some ⟨b,0,none⟩)] p (zj b w 165 2 r):=by
 have q:=zb (ZB b 9 r w p j);rw[show((9:UInt8).toNat:Int)=9 from rfl]at q;clear j;go_enter func95,ntmps95;go_wp2_with fail;refine q.mono ?_
 rintro e w1 ⟨rfl,k⟩;obtain⟨l,a⟩:=UM r;have h:TG b w w1 l:=by rw[a.o];exact k
 clear k;obtain⟨u,d⟩:=UM (Pl.fst l);go_wp2_with fail;refine(zY b s l w _ t h).mono ?_
 rintro e w2 (⟨hs0,rfl,hr2⟩|⟨hs0,⟨t0,v0,rfl⟩,hr2⟩);rotate_left
 ·refine⟨rfl,?_⟩;show zj b w 165 2 r _ _;unfold zj;rw[<-a.o,zC hs0];exact⟨⟨t0,v0,rfl⟩,hr2⟩
 rw[<-d.o];have g:=zb hs0;clear hs0 h;obtain⟨n,c⟩:=UM (l.drop (Pl.snd l));have i:TG b w w2 n:=by rw[c.o];exact hr2
 clear hr2;obtain⟨v,f⟩:=UM (Pl.fst n);go_wp2_with fail;refine(zY b s n w _ t i).mono ?_
 rintro e x (⟨hs1,rfl,hr3⟩|⟨hs1,⟨t1,v1,rfl⟩,hr3⟩);rotate_left
 ·refine⟨rfl,?_⟩;show zj b w 165 2 r _ _;unfold zj;rw[<-a.o,zk g.o,<-c.o,zC hs1];exact⟨⟨t1,v1,rfl⟩,hr3⟩
 rw[<-f.o];have m:=zb hs1;clear hs1 i;go_wp2_with fail;go_ret;unfold zj;rw[<-a.o,zk g.o,<-c.o,zk m.o];simp only[Pl.readN,XK,<-d.o,<-f.o];exact⟨rfl,hr3⟩
theorem GF(b:Nat)(s:4<=b)(r:List UInt8)(w p:World)(t:Gl w)(j:TG b w p (10::r)):Calls prog 95 #[.pointer (some ⟨b,0,none⟩)] p (zj b w 168 2 r):=by
 have q:=zb (ZB b 10 r w p j);rw[show((10:UInt8).toNat:Int)=10 from rfl]at q;clear j;go_enter func95,ntmps95;go_wp2_with fail;refine q.mono ?_
 rintro e w1 ⟨rfl,k⟩;obtain⟨l,a⟩:=UM r;have h:TG b w w1 l:=by rw[a.o];exact k
 clear k;obtain⟨u,d⟩:=UM (Pl.fst l);go_wp2_with fail;refine(zY b s l w _ t h).mono ?_
 rintro e w2 (⟨hs0,rfl,hr2⟩|⟨hs0,⟨t0,v0,rfl⟩,hr2⟩);rotate_left
 ·refine⟨rfl,?_⟩;show zj b w 168 2 r _ _;unfold zj;rw[<-a.o,zC hs0];exact⟨⟨t0,v0,rfl⟩,hr2⟩
 rw[<-d.o];have g:=zb hs0;clear hs0 h;obtain⟨n,c⟩:=UM (l.drop (Pl.snd l));have i:TG b w w2 n:=by rw[c.o];exact hr2
 clear hr2;obtain⟨v,f⟩:=UM (Pl.fst n);go_wp2_with fail;refine(zY b s n w _ t i).mono ?_
 rintro e x (⟨hs1,rfl,hr3⟩|⟨hs1,⟨t1,v1,rfl⟩,hr3⟩);rotate_left
 ·refine⟨rfl,?_⟩;show zj b w 168 2 r _ _;unfold zj;rw[<-a.o,zk g.o,<-c.o,zC hs1];exact⟨⟨t1,v1,rfl⟩,hr3⟩
 rw[<-f.o];have m:=zb hs1;clear hs1 i;go_wp2_with fail;go_ret;unfold zj;rw[<-a.o,zk g.o,<-c.o,zk m.o];simp only[Pl.readN,XK,<-d.o,<-f.o];exact⟨rfl,hr3⟩
theorem Ks(b:Nat)(l:4<=b)(r:List UInt8)(w j:World)(m:Gl w)(f:TG b w j (11::r)):Calls prog 95 #[.pointer (some ⟨b,0,none⟩)] j (zj b w 171 1 r):=by
 have k:=zb (ZB b 11 r w j f);rw[show((11:UInt8).toNat:Int)=11 from rfl]at k;clear f;go_enter func95,ntmps95;go_wp2_with fail;refine k.mono ?_
 rintro e w1 ⟨rfl,g⟩;obtain⟨i,a⟩:=UM r;have d:TG b w w1 i:=by rw[a.o];exact g
 clear g;obtain⟨n,c⟩:=UM (Pl.fst i);go_wp2_with fail;refine(zY b l i w _ m d).mono ?_
 rintro e w2 (⟨hs0,rfl,hr2⟩|⟨hs0,⟨t0,v0,rfl⟩,hr2⟩);rotate_left
 ·refine⟨rfl,?_⟩;show zj b w 171 1 r _ _;unfold zj;rw[<-a.o,zC hs0];exact⟨⟨t0,v0,rfl⟩,hr2⟩
 rw[<-c.o];have h:=zb hs0;clear hs0 d;go_wp2_with fail;go_ret;unfold zj;rw[<-a.o,zk h.o];simp only[Pl.readN,XK,<-c.o];exact⟨rfl,hr2⟩
theorem Dx(b:Nat)(s:4<=b)(r:List UInt8)(w p:World)(t:Gl w)(j:TG b w p (12::r)):Calls prog 95 #[.pointer (some ⟨b,0,none⟩)] p (zj b w 174 2 r):=by
 have q:=zb (ZB b 12 r w p j);rw[show((12:UInt8).toNat:Int)=12 from rfl]at q;clear j;go_enter func95,ntmps95;go_wp2_with fail;refine q.mono ?_
 rintro e w1 ⟨rfl,k⟩;obtain⟨l,a⟩:=UM r;have h:TG b w w1 l:=by rw[a.o];exact k
 clear k;obtain⟨u,d⟩:=UM (Pl.fst l);go_wp2_with fail;refine(zY b s l w _ t h).mono ?_
 rintro e w2 (⟨hs0,rfl,hr2⟩|⟨hs0,⟨t0,v0,rfl⟩,hr2⟩);rotate_left
 ·refine⟨rfl,?_⟩;show zj b w 174 2 r _ _;unfold zj;rw[<-a.o,zC hs0];exact⟨⟨t0,v0,rfl⟩,hr2⟩
 rw[<-d.o];have g:=zb hs0;clear hs0 h;obtain⟨n,c⟩:=UM (l.drop (Pl.snd l));have i:TG b w w2 n:=by rw[c.o];exact hr2
 clear hr2;obtain⟨v,f⟩:=UM (Pl.fst n);go_wp2_with fail;refine(zY b s n w _ t i).mono ?_
 rintro e x (⟨hs1,rfl,hr3⟩|⟨hs1,⟨t1,v1,rfl⟩,hr3⟩);rotate_left
 ·refine⟨rfl,?_⟩;show zj b w 174 2 r _ _;unfold zj;rw[<-a.o,zk g.o,<-c.o,zC hs1];exact⟨⟨t1,v1,rfl⟩,hr3⟩
 rw[<-f.o];have m:=zb hs1;clear hs1 i;go_wp2_with fail;go_ret;unfold zj;rw[<-a.o,zk g.o,<-c.o,zk m.o];simp only[Pl.readN,XK,<-d.o,<-f.o];exact⟨rfl,hr3⟩
theorem GH(b:Nat)(h:4<=b)(w f:World)(i:Gl w)(a:TG b w f []):Calls prog 95 #[.pointer (some ⟨b,0,none⟩)] f (iB b w):=by
 obtain⟨t,k,_,j⟩:=a;have d:t.size=0:=by
  have:t.data.toList.length=t.size:=by simp
  rw[k]at this;exact this.symm
 have g:=zb (kM b h t d w f i j);go_enter func95,ntmps95;go_wp2_with fail;refine g.mono ?_
 rintro e w1 ⟨⟨l,m,rfl⟩,c⟩;exact⟨rfl,⟨l,m,rfl⟩,c⟩
theorem GI(b:Nat)(A:4<=b)(c:UInt8)(K:c.toNat=0\/13<=c.toNat)(r:List UInt8)(w j:World)(C:Gl w)(d:TG b w j (c::r)):Calls prog 95 #[.pointer (some ⟨b,0,none⟩)] j (iB b w):=by
 have m:=zb (ZB b c r w j d);clear d;have a:∀k:Nat,1<=k->k<=12->((c.toNat:Int)==(k:Int))=false:=by
  intro k H J;rw[xp];omega
 have n:=a 1 (by omega) (by omega);have p:=a 2 (by omega) (by omega);have q:=a 3 (by omega) (by omega);have s:=a 4 (by omega) (by omega);have u:=a 5 (by omega) (by omega);have v:=a 6 (by omega) (by omega);have x:=a 7 (by omega) (by omega);have y:=a 8 (by omega) (by omega);have z:=a 9 (by omega) (by omega);have f:=a 10 (by omega) (by omega);have g:=a 11 (by omega) (by omega);have h:=a 12 (by omega) (by omega);simp only[Int.cast_ofNat_Int]at n p q s u v x y z f g h;clear a;go_enter func95,ntmps95;go_wp2_with fail;refine m.mono ?_
 rintro e w1 ⟨rfl,i⟩;obtain⟨t,M,E,l⟩:=i;obtain⟨F,G,D⟩:=(C.rd l A).1;have B:(c.toNat:Int)<256:=by have:=XX c;omega
 go_wp2_with fail;exact⟨rfl,⟨F,G,rfl⟩,t,l⟩
theorem NJ(b:Nat)(w:World)(a:w.cell? ⟨b,0,none⟩=some (.string ⟨#[]⟩)):Calls prog 96 #[.pointer (some ⟨b,0,none⟩)] w λe w'=>e=.returned (.tuple #[])/\w'=w:=by
 go_enter func96,ntmps96;go_wp2_with fail;go_end0;exact⟨rfl,rfl⟩
theorem NI(b:Nat)(s:ByteArray)(d:s.toList.isEmpty=false)(w:World)(a:w.cell? ⟨b,0,none⟩=some (.string s))(t:TypeId)(v:Value)(c:w.cell? ⟨3,0,none⟩=some (.iface t v)):Calls prog 96 #[.pointer (some ⟨b,0,none⟩)] w λe w'=>e=.panicked [{ v:=.iface t v,recovered:=false }]/\w'=w:=by
 go_enter func96,ntmps96;go_wp2_with fail;exact⟨rfl,rfl,rfl⟩
theorem fF(p q:Addr)(x:Value)(y:Bool)(u:TypeId)(pv:Value)(a:List PanicEntry)(w:World)(d:w.cell? p=some x)(g:w.frozen? p=false)(b:(w.setCell p .nilIface).cell? q=some (.bool y))(c:w.frozen? q=false):CallsD prog 93 #[.pointer (some p),.pointer (some q)] (.panicking ({ v:=.iface u pv,recovered:=false }::a)) w λe h w' =>
   e=.returned (.tuple #[])/\h=.panicking ({ v:=.iface u pv,recovered:=true }::a)/\w'=(w.setCell p .nilIface).setCell q (.bool false):=by
 refine xbr func93 rfl λj i f=>?_
 apply wpS_seq
 apply xbj
 simp[wpOpsS,go_sem,recoverD,f,ntmps93,Exit.thenS];refine wpS_cond (t:=true) (by simp[Act.eval,Array.replicate]) ?_
 simp only[YC];apply xbj;simp[wpOpsS,go_sem,d,g,b,c,bodyPostS,results,Tryz.results93]
theorem Fh(p q:Addr)(w:World):CallsD prog 93 #[.pointer (some p),.pointer (some q)] .returning w λe c w'=>e=.returned (.tuple #[])/\c=.returning/\w'=w:=by
 refine xbr func93 rfl λa d b=>?_
 apply wpS_seq
 apply xbj
 simp[wpOpsS,go_sem,recoverD,b,ntmps93,Exit.thenS];refine wpS_cond (t:=false) (by simp[Act.eval,Array.replicate]) ?_
 simp only[XA,Yc];refine wpS_of_wp (wp_skip ?_)
 cases a;simp_all [bodyPostS,results,Tryz.results93]
theorem Gl.below(h:Gl w)(k:Below w.heap.size w w'):Gl w':=by
 obtain⟨⟨d,f,a⟩,⟨e,g,b⟩,c⟩:=h;exact⟨⟨d,f,by rw[k.cell (by simp;omega)];exact a⟩,⟨e,g,by rw[k.cell (by simp;omega)];exact b⟩,xj c k.size⟩
abbrev dJ(w:World)(s:ByteArray):World:=((w.alloc (.cells #[.nilIface] 105)).alloc (.cells #[.bool false] 4)).alloc (.cells #[.string s] 225)
theorem eK(w:World)(s:ByteArray):Below w.heap.size w (dJ w s) :=
 (((xh _ _).alloc (xc _) _).alloc (by simp) _).alloc (by simp;omega) _
theorem Mr(w:World)(s:ByteArray):Rd (w.heap.size+1+1) (dJ w s) (dJ w s) s:=Rd.refl (by
 show(((w.heap.push _).push _).push _)[w.heap.size+1+1]?=_;rw[yo,xe (by simp)])
theorem Rd.frozen_other(h:Rd b w w' s)(a:Addr)(c:a.block≠b):w'.frozen? a=w.frozen? a:=World.frozen?_of_block (w:=w) (h.block a.block c)
theorem Eg(w:World)(s:ByteArray):(dJ w s).heap[w.heap.size]?=some (.cells #[.nilIface] 105 (0,0)):=by
 show(((w.heap.push _).push _).push _)[w.heap.size]?=_;rw[yo,xg (by simp;omega),yo,xg (by simp),yo,xe rfl]
theorem Eh(w:World)(s:ByteArray):(dJ w s).heap[w.heap.size+1]?=some (.cells #[.bool false] 4 (0,0)):=by
 show(((w.heap.push _).push _).push _)[w.heap.size+1]?=_;rw[yo,xg (by simp),yo,xe (by simp)]
theorem wK(w:World)(s:ByteArray):(dJ w s).cell? ⟨w.heap.size,0,none⟩=some .nilIface:=by unfold World.cell?;rw[Eg];rfl
theorem wM(w:World)(s:ByteArray):(dJ w s).frozen? ⟨w.heap.size,0,none⟩=false:=by unfold World.frozen?;rw[Eg];rfl
theorem wL(w:World)(s:ByteArray):(dJ w s).cell? ⟨w.heap.size+1,0,none⟩=some (.bool false):=by unfold World.cell?;rw[Eh];rfl
theorem wN(w:World)(s:ByteArray):(dJ w s).frozen? ⟨w.heap.size+1,0,none⟩=false:=by unfold World.frozen?;rw[Eh];rfl
theorem lG(s:ByteArray)(w:World)(n:Gl w)
  (i:Ha (Calls prog 95 #[.pointer (some ⟨w.heap.size+1+1,0,none⟩)] (dJ w s) (iB (w.heap.size+1+1) (dJ w s)))) :
  Calls prog 61 #[.string s] w λe w'=>e=.returned (.tuple #[.nilIface,.bool false])/\Below w.heap.size w w':=by
 have l:∀(h:Fn) (first cap:Array Value) (w:World),(Instr.makeFunc h first cap).run prog w=.ok (.func h first cap) w:=λ_ _ _ _=>rfl
 go_enter_defers func61,ntmps61
 go_wp2_with (first|(go_at_call 94;go_in)|fail)
 refine i.mono ?_
 rintro e w1 ⟨⟨t,v,rfl⟩,s1,a⟩;refine xbo (f:=93) (args:=#[.pointer (some ⟨w.heap.size,0,none⟩),.pointer (some ⟨w.heap.size+1,0,none⟩)]) (by simp) (by simp[go_sem]) ?_
 have c0:w1.cell? ⟨w.heap.size,0,none⟩=some .nilIface:=by rw[a.other _ (by simp;omega)];exact wK w s
 have c1:w1.cell? ⟨w.heap.size+1,0,none⟩=some (.bool false):=by rw[a.other _ (by simp)];exact wL w s
 have j:w1.frozen? ⟨w.heap.size,0,none⟩=false:=by rw[a.frozen_other _ (by simp;omega)];exact wM w s
 have k:w1.frozen? ⟨w.heap.size+1,0,none⟩=false:=by rw[a.frozen_other _ (by simp)];exact wN w s
 have d:(w1.setCell ⟨w.heap.size,0,none⟩ .nilIface).cell? ⟨w.heap.size+1,0,none⟩=some (.bool false):=by
  rw[xm (w:=w1) (xa _ _ _ _ (by simp))];exact c1
 refine(fF ⟨w.heap.size,0,none⟩ ⟨w.heap.size+1,0,none⟩ .nilIface false t v [] w1 c0 j d k).mono ?_
 rintro e p m ⟨rfl,rfl,rfl⟩;have b:((w1.setCell ⟨w.heap.size,0,none⟩ .nilIface).setCell ⟨w.heap.size+1,0,none⟩ (.bool false)).cell? ⟨w.heap.size,0,none⟩=some .nilIface:=by
  rw[xm (w:=(w1.setCell ⟨w.heap.size,0,none⟩ .nilIface)) (xa _ _ _ _ (by simp)),XQ _ _ _ c0]
 have c:((w1.setCell ⟨w.heap.size,0,none⟩ .nilIface).setCell ⟨w.heap.size+1,0,none⟩ (.bool false)).cell? ⟨w.heap.size+1,0,none⟩=some (.bool false):=XQ _ _ _ d
 have g:Below w.heap.size w ((w1.setCell ⟨w.heap.size,0,none⟩ .nilIface).setCell ⟨w.heap.size+1,0,none⟩ (.bool false)) :=
  (((eK w s).trans (a.below (by omega))).setCell (by simp) _).setCell (by simp) _
 generalize ((w1.setCell ⟨w.heap.size,0,none⟩ .nilIface).setCell ⟨w.heap.size+1,0,none⟩ (.bool false))=W at *;simp[Leaves,settle,results,Tryz.results61,go_sem,b,c,g]
theorem Qd(s:ByteArray)(w:World)(T:TypeId)(v:Value)
  (p:Ha (Calls prog 95 #[.pointer (some ⟨w.heap.size+1+1,0,none⟩)] (dJ w s) λe w'=>e=.returned (.iface T v)/\TG (w.heap.size+1+1) (dJ w s) w' [])) :
  Calls prog 61 #[.string s] w λe w'=>e=.returned (.tuple #[.iface T v,.bool true])/\Below w.heap.size w w':=by
 have A:∀(t:Fn) (first cap:Array Value) (w:World),(Instr.makeFunc t first cap).run prog w=.ok (.func t first cap) w:=λ_ _ _ _=>rfl
 go_enter_defers func61,ntmps61
 go_wp2_with (first|(go_at_call 94;go_in)|fail)
 refine p.mono ?_
 rintro e w1 ⟨rfl,s1,k,_,c⟩;have z:s1=⟨#[]⟩:=by
  apply YN
  apply xbs.1
  rw[k]
 subst z;have c0:w1.cell? ⟨w.heap.size,0,none⟩=some .nilIface:=by rw[c.other _ (by simp;omega)];exact wK w s
 have c1:w1.cell? ⟨w.heap.size+1,0,none⟩=some (.bool false):=by rw[c.other _ (by simp)];exact wL w s
 have q:w1.frozen? ⟨w.heap.size,0,none⟩=false:=by rw[c.frozen_other _ (by simp;omega)];exact wM w s
 have r:w1.frozen? ⟨w.heap.size+1,0,none⟩=false:=by rw[c.frozen_other _ (by simp)];exact wN w s
 have j:=c.cell;have d:Below w.heap.size w w1:=(eK w s).trans (c.below (by omega));obtain⟨b,a⟩:∃b,b=w1.setCell ⟨w.heap.size,0,none⟩ (.iface T v):=⟨_,rfl⟩
 have u:b.cell? ⟨w.heap.size,0,none⟩=some (.iface T v):=by rw[a];exact XQ _ _ _ c0
 have x:b.cell? ⟨w.heap.size+1,0,none⟩=some (.bool false):=by rw[a,xm (w:=w1) (xa _ _ _ _ (by simp))];exact c1
 have y:b.cell? ⟨w.heap.size+1+1,0,none⟩=some (.string ⟨#[]⟩):=by rw[a,xm (w:=w1) (xa _ _ _ _ (by simp;omega))];exact j
 have C:b.frozen? ⟨w.heap.size,0,none⟩=false:=by rw[a];simpa using q
 have D:b.frozen? ⟨w.heap.size+1,0,none⟩=false:=by rw[a];simpa using r
 have n:Below w.heap.size w b:=by rw[a];exact d.setCell (by simp) _
 have l:=zb (NJ (w.heap.size+1+1) b y);rw[a]at l;go_wp2_with fail;refine l.mono ?_
 rintro e w2 ⟨rfl,rfl⟩;rw[<-a];clear a c0 c1 q r j d l p k c;go_wp2_with fail;refine xbo (f:=93) (args:=#[.pointer (some ⟨w.heap.size,0,none⟩),.pointer (some ⟨w.heap.size+1,0,none⟩)]) (by simp) (by simp[go_sem]) ?_
 refine(Fh ⟨w.heap.size,0,none⟩ ⟨w.heap.size+1,0,none⟩ _).mono ?_
 rintro e E B ⟨rfl,rfl,rfl⟩;have m:(b.setCell ⟨w.heap.size,0,none⟩ (.iface T v)).cell? ⟨w.heap.size+1,0,none⟩=some (.bool false):=by
  rw[xm (w:=b) (xa _ _ _ _ (by simp))];exact x
 have g:((b.setCell ⟨w.heap.size,0,none⟩ (.iface T v)).setCell ⟨w.heap.size+1,0,none⟩ (.bool true)).cell? ⟨w.heap.size,0,none⟩=some (.iface T v):=by
  rw[xm (w:=(b.setCell ⟨w.heap.size,0,none⟩ (.iface T v))) (xa _ _ _ _ (by simp)),XQ _ _ _ u]
 have h:((b.setCell ⟨w.heap.size,0,none⟩ (.iface T v)).setCell ⟨w.heap.size+1,0,none⟩ (.bool true)).cell? ⟨w.heap.size+1,0,none⟩=some (.bool true):=XQ _ _ _ m
 have i:Below w.heap.size w ((b.setCell ⟨w.heap.size,0,none⟩ (.iface T v)).setCell ⟨w.heap.size+1,0,none⟩ (.bool true)) :=
  (n.setCell (by simp) _).setCell (by simp) _
 generalize ((b.setCell ⟨w.heap.size,0,none⟩ (.iface T v)).setCell ⟨w.heap.size+1,0,none⟩ (.bool true))=W at *;simp[Leaves,settle,results,Tryz.results61,go_sem,g,h,i]
theorem JE(s:ByteArray)(w:World)(H:Gl w)(d:List UInt8)(j:d≠[])(T:TypeId)(v:Value)
  (u:Ha (Calls prog 95 #[.pointer (some ⟨w.heap.size+1+1,0,none⟩)] (dJ w s) λe w'=>e=.returned (.iface T v)/\TG (w.heap.size+1+1) (dJ w s) w' d)) :
  Calls prog 61 #[.string s] w λe w'=>e=.returned (.tuple #[.nilIface,.bool false])/\Below w.heap.size w w':=by
 have J:∀(A:Fn) (first cap:Array Value) (w:World),(Instr.makeFunc A first cap).run prog w=.ok (.func A first cap) w:=λ_ _ _ _=>rfl
 go_enter_defers func61,ntmps61
 go_wp2_with (first|(go_at_call 94;go_in)|fail)
 refine u.mono ?_
 rintro e w1 ⟨rfl,s1,p,_,c⟩;have t:s1.toList.isEmpty=false:=by
  rw[XM,p];cases d with
  |nil=>exact absurd rfl j
  |cons=>rfl
 have c0:w1.cell? ⟨w.heap.size,0,none⟩=some .nilIface:=by rw[c.other _ (by simp;omega)];exact wK w s
 have c1:w1.cell? ⟨w.heap.size+1,0,none⟩=some (.bool false):=by rw[c.other _ (by simp)];exact wL w s
 have y:w1.frozen? ⟨w.heap.size,0,none⟩=false:=by rw[c.frozen_other _ (by simp;omega)];exact wM w s
 have z:w1.frozen? ⟨w.heap.size+1,0,none⟩=false:=by rw[c.frozen_other _ (by simp)];exact wN w s
 have n:=c.cell;have g:Below w.heap.size w w1:=(eK w s).trans (c.below (by omega));obtain⟨b,a⟩:∃b,b=w1.setCell ⟨w.heap.size,0,none⟩ (.iface T v):=⟨_,rfl⟩
 have x:b.cell? ⟨w.heap.size,0,none⟩=some (.iface T v):=by rw[a];exact XQ _ _ _ c0
 have D:b.cell? ⟨w.heap.size+1,0,none⟩=some (.bool false):=by rw[a,xm (w:=w1) (xa _ _ _ _ (by simp))];exact c1
 have E:b.cell? ⟨w.heap.size+1+1,0,none⟩=some (.string s1):=by rw[a,xm (w:=w1) (xa _ _ _ _ (by simp;omega))];exact n
 have F:b.frozen? ⟨w.heap.size,0,none⟩=false:=by rw[a];simpa using y
 have G:b.frozen? ⟨w.heap.size+1,0,none⟩=false:=by rw[a];simpa using z
 have m:Below w.heap.size w b:=by rw[a];exact g.setCell (by simp) _
 obtain⟨B,C,r⟩:=(H.below m).2.1;have q:=zb (NI (w.heap.size+1+1) s1 t b E B C r);rw[a]at q;go_wp2_with fail;refine q.mono ?_
 rintro e w2 ⟨rfl,rfl⟩;rw[<-a];clear a c0 c1 y z n g q u p c;refine xbo (f:=93) (args:=#[.pointer (some ⟨w.heap.size,0,none⟩),.pointer (some ⟨w.heap.size+1,0,none⟩)]) (by simp) (by simp[go_sem]) ?_
 have k:(b.setCell ⟨w.heap.size,0,none⟩ .nilIface).cell? ⟨w.heap.size+1,0,none⟩=some (.bool false):=by
  rw[xm (w:=b) (xa _ _ _ _ (by simp))];exact D
 refine(fF ⟨w.heap.size,0,none⟩ ⟨w.heap.size+1,0,none⟩ (.iface T v) false B C [] b x F k G).mono ?_
 rintro e M K ⟨rfl,rfl,rfl⟩;have h:((b.setCell ⟨w.heap.size,0,none⟩ .nilIface).setCell ⟨w.heap.size+1,0,none⟩ (.bool false)).cell? ⟨w.heap.size,0,none⟩=some .nilIface:=by
  rw[xm (w:=(b.setCell ⟨w.heap.size,0,none⟩ .nilIface)) (xa _ _ _ _ (by simp)),XQ _ _ _ x]
 have i:((b.setCell ⟨w.heap.size,0,none⟩ .nilIface).setCell ⟨w.heap.size+1,0,none⟩ (.bool false)).cell? ⟨w.heap.size+1,0,none⟩=some (.bool false):=XQ _ _ _ k
 have l:Below w.heap.size w ((b.setCell ⟨w.heap.size,0,none⟩ .nilIface).setCell ⟨w.heap.size+1,0,none⟩ (.bool false)) :=
  (m.setCell (by simp) _).setCell (by simp) _
 generalize ((b.setCell ⟨w.heap.size,0,none⟩ .nilIface).setCell ⟨w.heap.size+1,0,none⟩ (.bool false))=W at *;simp[Leaves,settle,results,Tryz.results61,go_sem,h,i,l]
def Lg:Nat->TypeId
 |1=>143|2=>146|3=>149|4=>152|5=>155|6=>158|7=>160|8=>163|9=>165|10=>168|11=>171|_=>174
def ZR(l:List UInt8):Option (Nat×List Nat) :=
 match l with
 |[]=>none
 |c::r=>if Pl.kindsL c.toNat=[] then none else
  match Pl.nums r with
  |none=>none
  |some ns=>if ns.length=(Pl.kindsL c.toNat).length then some (c.toNat,ns) else none
def DE(w:World)(l:List UInt8)(e:Ending)(w':World):Prop :=
 Below w.heap.size w w' /\
 match ZR l with
 |none=>e=.returned (.tuple #[.nilIface,.bool false])
 |some (c,ns)=>e=.returned (.tuple #[.iface (Lg c) (.agg (I ns).toArray),.bool true])
theorem ZM(s:ByteArray)(A:s.size<=4194304)(w:World)(x:Gl w)(c:UInt8)(r:List UInt8)(y:s.data.toList=c::r)(n:Nat)(z:(Pl.kindsL c.toNat).length=n)(u:Pl.kindsL c.toNat≠[])
  (v:Calls prog 95 #[.pointer (some ⟨w.heap.size+1+1,0,none⟩)] (dJ w s) (zj (w.heap.size+1+1) (dJ w s) (Lg c.toNat) n r)) :
  Calls prog 61 #[.string s] w (DE w s.data.toList):=by
 have a:ZR s.data.toList=match Pl.nums r with
   |none=>none
   |some g=>if g.length=(Pl.kindsL c.toNat).length then some (c.toNat,g) else none:=by
  rw[y];simp only[ZR];rw[xg u]
 cases t:Pl.readN n r with
 |none=>
  have b:ZR s.data.toList=none:=by
   rw[a]
   cases k:Pl.nums r with
   |none=>rfl
   |some g=>
    by_cases d:g.length=(Pl.kindsL c.toNat).length
    ·have:=(Pl.readN_nums n r g).2 ⟨k,by omega⟩
     rw[t]at this;cases this
    simp[d]
  refine(lG s w x (v.mono λe w' h=>by unfold zj at h;rw[t]at h;exact h)).mono ?_
  rintro e w' ⟨m,q⟩;refine⟨q,?_⟩;rw[b];exact m
 |some p=>
  obtain⟨g,f⟩:=p;have l:Ha (Calls prog 95 #[.pointer (some ⟨w.heap.size+1+1,0,none⟩)] (dJ w s) λe w'=>e=.returned (.iface (Lg c.toNat) (.agg (I g).toArray))/\TG (w.heap.size+1+1) (dJ w s) w' f) :=
   v.mono λe w' h=>by unfold zj at h;rw[t]at h;exact h
  by_cases i:f=[]
  ·subst i;have k:=(Pl.readN_nums n r g).1 t;have j:ZR s.data.toList=some (c.toNat,g):=by
    rw[a,k.1];simp[k.2,z]
   refine(Qd s w _ _ l).mono ?_
   rintro e w' ⟨m,q⟩;refine⟨q,?_⟩;rw[j];exact m
  have b:ZR s.data.toList=none:=by
   rw[a]
   cases k:Pl.nums r with
   |none=>rfl
   |some ms=>
    by_cases d:ms.length=(Pl.kindsL c.toNat).length
    ·have:=(Pl.readN_nums n r ms).2 ⟨k,by omega⟩
     rw[t]at this;simp only[Xj,XD]at this;exact absurd this.2 i
    simp[d]
  refine(JE s w x f i _ _ l).mono ?_
  rintro e w' ⟨m,q⟩;refine⟨q,?_⟩;rw[b];exact m
theorem xG(s:ByteArray)(i:s.size<=4194304)(w:World)(d:Gl w):Calls prog 61 #[.string s] w (DE w s.data.toList):=by
 have a:4<=w.heap.size+1+1:=by have:=d.2.2;omega
 have b:Gl (dJ w s):=d.below (eK w s);have f:TG (w.heap.size+1+1) (dJ w s) (dJ w s) s.data.toList:=⟨s,rfl,i,Mr w s⟩
 cases g:s.data.toList with
 |nil=>
  rw[g]at f;refine(lG s w d (GH _ a _ _ b f)).mono ?_
  rintro e w' ⟨j,k⟩;exact⟨k,j⟩
 |cons c r=>
  rw[g]at f;by_cases m:c.toNat=0\/13<=c.toNat
  ·have n:Pl.kindsL c.toNat=[]:=by
    rcases m with h|h
    ·rw[h];rfl
    unfold Pl.kindsL;split<;>first|rfl|omega
   refine(lG s w d (GI _ a c m r _ _ b f)).mono ?_
   rintro e w' ⟨j,k⟩;refine⟨k,?_⟩;have:ZR (c::r)=none:=by simp[ZR,n]
   rw[this];exact j
  rw[<-g];have l:c.toNat=1\/c.toNat=2\/c.toNat=3\/c.toNat=4\/c.toNat=5\/c.toNat=6\/c.toNat=7\/c.toNat=8\/c.toNat=9\/c.toNat=10\/c.toNat=11\/c.toNat=12:=by omega
  rcases l with h|h|h|h|h|h|h|h|h|h|h|h
  ·obtain rfl:c=1:=XI.1 (by rw[h];rfl);exact ZM s i w d _ r g 1 rfl (by decide) (Np _ a r _ _ b f)
  ·obtain rfl:c=2:=XI.1 (by rw[h];rfl);exact ZM s i w d _ r g 4 rfl (by decide) (BA _ a r _ _ b f)
  ·obtain rfl:c=3:=XI.1 (by rw[h];rfl);exact ZM s i w d _ r g 3 rfl (by decide) (GG _ a r _ _ b f)
  ·obtain rfl:c=4:=XI.1 (by rw[h];rfl);exact ZM s i w d _ r g 3 rfl (by decide) (GC _ a r _ _ b f)
  ·obtain rfl:c=5:=XI.1 (by rw[h];rfl);exact ZM s i w d _ r g 5 rfl (by decide) (GD _ a r _ _ b f)
  ·obtain rfl:c=6:=XI.1 (by rw[h];rfl);exact ZM s i w d _ r g 1 rfl (by decide) (Dv _ a r _ _ b f)
  ·obtain rfl:c=7:=XI.1 (by rw[h];rfl);exact ZM s i w d _ r g 1 rfl (by decide) (Ku _ a r _ _ b f)
  ·obtain rfl:c=8:=XI.1 (by rw[h];rfl);exact ZM s i w d _ r g 2 rfl (by decide) (Dw _ a r _ _ b f)
  ·obtain rfl:c=9:=XI.1 (by rw[h];rfl);exact ZM s i w d _ r g 2 rfl (by decide) (BB _ a r _ _ b f)
  ·obtain rfl:c=10:=XI.1 (by rw[h];rfl);exact ZM s i w d _ r g 2 rfl (by decide) (GF _ a r _ _ b f)
  ·obtain rfl:c=11:=XI.1 (by rw[h];rfl);exact ZM s i w d _ r g 1 rfl (by decide) (Ks _ a r _ _ b f)
  obtain rfl:c=12:=XI.1 (by rw[h];rfl);exact ZM s i w d _ r g 2 rfl (by decide) (Dx _ a r _ _ b f)
