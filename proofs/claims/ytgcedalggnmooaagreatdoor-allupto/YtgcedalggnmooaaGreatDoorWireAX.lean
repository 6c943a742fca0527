import Derived.Test.YtgcedalggnmooaaGreatDoorRefAX
set_option linter.all false
set_option maxRecDepth 100000
set_option maxHeartbeats 1600000
namespace Go.Proofs.YtgcedalggnmooaaGreatDoor
open Go.RowKit
open Tryz
def Gl(w:World):Prop:=(∃t v,w.cell? ⟨2,0,none⟩=some (.iface t v))/\(∃t v,w.cell? ⟨3,0,none⟩=some (.iface t v))/\4<=w.heap.size
def PZ(b:Nat)(s:ByteArray)(d:0<s.size)(w:World)(f:w.cell? ⟨b,0,none⟩=some (.string s))(g:w.frozen? ⟨b,0,none⟩=false):Calls prog 145 #[.pointer (some ⟨b,0,none⟩)] w λe w'=>e=.returned (.int .u8 (s[0].toNat:Int))/\w'=w.setCell ⟨b,0,none⟩ (.string (s.extract 1 s.size)):=by
 have c:s.toList.isEmpty=false:=by
  rw[yd]
  cases h:s.data.toList with
  |nil=>
   have a:s.data.toList.length=s.size:=by simp
   rw[h]at a;have:s.size=0:=a.symm;omega
  |cons=>rfl
 go_enter func145,ntmps145;go_wp2_with fail;go_ret;exact⟨rfl,rfl⟩
def PY(b:Nat)(w:World)(a:w.cell? ⟨b,0,none⟩=some (.string ⟨#[]⟩))(t:TypeId)(v:Value)(c:w.cell? ⟨3,0,none⟩=some (.iface t v)):Calls prog 145 #[.pointer (some ⟨b,0,none⟩)] w λe w'=>e=.panicked [{ v:=.iface t v,recovered:=false }]/\w'=w:=by
 go_enter func145,ntmps145;go_wp2_with fail;exact⟨rfl,rfl,rfl⟩
structure Rd(b:Nat)(w w':World)(s:ByteArray):Prop where
 os:w'.os=w.os
 tape:w'.tape=w.tape
 output:w'.output=w.output
 size:w'.heap.size=w.heap.size
 block:∀k,k≠b->w'.heap[k]?=w.heap[k]?
 here:w'.heap[b]?=some (.cells #[.string s] 225 (0,0))
def Rd.cell{b:Nat}{w w':World}{s:ByteArray}(h:Rd b w w' s):w'.cell? ⟨b,0,none⟩=some (.string s):=by
 simp[World.cell?,h.here]
def Rd.frozen{b:Nat}{w w':World}{s:ByteArray}(h:Rd b w w' s):w'.frozen? ⟨b,0,none⟩=false:=by
 simp[World.frozen?,h.here]
variable {b n:Nat}{s:ByteArray}{w w':World}
def Rd.other(h:Rd b w w' s)(a:Addr)(c:a.block≠b):w'.cell? a=w.cell? a:=xo (w:=w) (h.block a.block c)
def Rd.trans{b:Nat}{w w' a:World}{s t:ByteArray}(h:Rd b w w' s)(k:Rd b w' a t):Rd b w a t :=
 ⟨k.os.trans h.os,k.tape.trans h.tape,k.output.trans h.output,k.size.trans h.size,λi c=>(k.block i c).trans (h.block i c),k.here⟩
def Rd.refl(h:w.heap[b]?=some (.cells #[.string s] 225 (0,0))):Rd b w w s:=⟨rfl,rfl,rfl,rfl,λ_ _=>rfl,h⟩
def Rd.set(h:Rd b w w' s)(t:ByteArray):Rd b w (w'.setCell ⟨b,0,none⟩ (.string t)) t :=
 h.trans ⟨rfl,rfl,rfl,by simp[World.setCell],λk a=>xd _ _ _ _ a,by
  have:=xu w' b 0 #[.string s] 225 (.string t) h.here
  simpa using this⟩
def Rd.below{B:Nat}(h:Rd b w w' s)(a:B<=b):Below B w w' :=
 ⟨h.os,h.tape,h.output,by rw[h.size];exact xe _,λk c=>h.block k (by omega)⟩
def Gl.rd(h:Gl w)(k:Rd b w w' s)(j:4<=b):Gl w':=by
 obtain⟨⟨e,g,a⟩,⟨f,i,c⟩,d⟩:=h;exact⟨⟨e,g,by rw[k.other _ (by simp;omega)];exact a⟩,⟨f,i,by rw[k.other _ (by simp;omega)];exact c⟩,by rw[k.size];exact d⟩
def iL(b:Nat)(w:World)(e:Ending)(w':World):Prop:=(∃t v,e=.panicked [{ v:=.iface t v,recovered:=false }])/\∃s,Rd b w w' s
def VG(s:ByteArray)(k:Nat)(a:k<s.size):(s.extract k s.size)[0]'(by rw[XR];omega)=s[k]:=by
 simp[ByteArray.getElem_extract]
def VH(s:ByteArray)(k:Nat)(a:k<s.size):(s.extract k s.size).extract 1 (s.extract k s.size).size=s.extract (k+1) s.size:=by
 apply xau
 simp[YL,XR];congr 1;omega
def vV(b:Nat)(s:ByteArray)(d:0<s.size)(w w':World)(a:Rd b w w' s):Calls prog 145 #[.pointer (some ⟨b,0,none⟩)] w' λe c=>e=.returned (.int .u8 (s[0].toNat:Int))/\Rd b w c (s.extract 1 s.size) :=
 (PZ b s d w' a.cell a.frozen).mono λ_ _ ⟨h1,h2⟩=>⟨h1,h2 ▸ a.set _⟩
def kY(b:Nat)(g:4<=b)(s:ByteArray)(f:s.size=0)(w w':World)(i:Gl w)(c:Rd b w w' s):Calls prog 145 #[.pointer (some ⟨b,0,none⟩)] w' (iL b w):=by
 have h:s=⟨#[]⟩:=by
  apply xau
  apply xbw
  exact f
 subst h;obtain⟨d,e,a⟩:=(i.rd c g).2.1;exact(PY b w' c.cell d e a).mono λ_ _ ⟨a,h2⟩=>⟨⟨d,e,a⟩,⟨#[]⟩,h2 ▸ c⟩
def jX(a:Nat)(b:a<9223372036854775808):(BitVec.ofInt 64 (a:Int)).toNat=a:=by
 rw[BitVec.ofInt_natCast,BitVec.toNat_ofNat];exact xaO (by omega)
def Gn(a b:Nat)(c:a<9223372036854775808)(d:b<9223372036854775808):bits .or .i64 (a:Int) (b:Int)=((a ||| b:Nat):Int):=by
 have e:a ||| b<2^63:=Nat.or_lt_two_pow (by omega) (by omega)
 show IntKind.i64.wrap ((BitVec.ofInt 64 (a:Int) ||| BitVec.ofInt 64 (b:Int)).toNat:Int)=_;rw[BitVec.toNat_or,jX a c,jX b d,xbv,bG _ ⟨by omega,by omega⟩]
def RH(s:ByteArray)(k:Nat)(h:k<s.size)(n:k<9):bits .or .i64 (Pl.val (List.take k s.data.toList):Int) (wrap64 (wrap64 (bits .and .u8 (s[k].toNat:Int) 127)*2^(7*k)))=(Pl.val (s.data.toList.take (k+1)):Int):=by
 have j:s[k].toNat<256:=yz _;have f:bits .and .u8 (s[k].toNat:Int) 127=((s[k].toNat%128:Nat):Int):=by
  have:=u8_and_nat s[k].toNat 127 j (by omega)
  rw[show((127:Nat):Int)=127 from rfl]at this;rw[this,show(127:Nat)=2^7-1 from rfl,xbx]
 rw[f,bG ((s[k].toNat%128:Nat):Int) ⟨by omega,by omega⟩];have g:(2:Int)^(7*k)=((128^k:Nat):Int):=by
  rw[Int.pow_mul];norm_cast
 have m:=Pl.val_take_lt s.data.toList (k+1) (by omega);have c:=Pl.take_snoc s.data.toList k (by simpa using h);have a:(s.data.toList.take k).length=k:=by rw[XL,show s.data.toList.length=s.size from by simp];omega
 have d:=Pl.val_snoc (s.data.toList.getD k 0) (s.data.toList.take k);have b:=Pl.val_lt (s.data.toList.take k);rw[<-c,cZ s k h,a]at d;rw[a]at b;rw[g,<-Int.natCast_mul];have l:s[k].toNat%128*128^k<=Pl.val (s.data.toList.take (k+1)):=by rw[d];omega
 rw[bG ((s[k].toNat%128*128^k:Nat):Int) ⟨by omega,by omega⟩,Gn _ _ (by omega) (by omega)];have e:(128:Nat)^k=2^(7*k):=by rw[Nat.pow_mul]
 have i:Pl.val (s.data.toList.take k) ||| s[k].toNat%128*128^k=Pl.val (s.data.toList.take (k+1)):=by
  rw[d,Nat.or_comm,e,xbg (s[k].toNat%128) (2^(7*k)),<-Nat.two_pow_add_eq_or_of_lt (by rw[<-e];exact b),Nat.add_comm]
 rw[i]
def Ld{k:IntKind}{a b:Int}(h:a=b):Ending.returned (.int k a)=.returned (.int k b):=by rw[h]
def MZ(s:ByteArray)(k:Nat)(l:k<9)(h:k<s.size)(b:∀j,j<k->128<=(s.data.toList.getD j 0).toNat)(g:s[k].toNat<128):(¬(0<k/\s[k].toNat=0)->Pl.fst s.data.toList=Pl.val (s.data.toList.take (k+1))/\Pl.snd s.data.toList=k+1)/\(0<k/\s[k].toNat=0->Pl.snd s.data.toList=0):=by
 have i:k<s.data.toList.length:=by simpa using h
 have a:(s.data.toList.getD k 0).toNat<128:=by rw[cZ s k h];exact g
 have e:=Pl.first_stop s.data.toList k l i b a;have d:=Pl.num_val (s.data.toList.getD k 0) a (s.data.toList.take k) (Pl.all_lead _ k (by omega) b);rw[<-Pl.take_snoc _ k i,cZ s k h]at d;have c:(s.data.toList.take k).length=k:=by rw[XL];omega
 rw[c]at d;have n:s[k]=0↔s[k].toNat=0:=by rw[<-ya];rfl
 rw[n]at d;exact⟨λf=>e.1 (d.2 f),λf=>(e.2 (λm=>d.1 m f)).2⟩
def lO(b:Nat)(A:4<=b)(s:ByteArray)(S:s.size<=70368744177664)(w J:World)(C:Gl w)(F:Rd b w J s):Calls prog 136 #[.pointer (some ⟨b,0,none⟩)] J λe w' =>
   (Pl.snd s.data.toList≠0/\e=.returned (.int .i64 (Pl.fst s.data.toList:Nat))/\Rd b w w' (s.extract (Pl.snd s.data.toList) s.size))\/(Pl.snd s.data.toList=0/\iL b w e w'):=by
 go_enter func136,ntmps136;go_wp2_with fail;go_loopw [3,4,5,6] (λv _ _ i wr=>∃k:Nat,k<=9/\k<=s.size/\i=.int .i64 k/\v=.int .i64 (Pl.val (s.data.toList.take k))/\(∀j,j<k->128<=(s.data.toList.getD j 0).toNat)/\Rd b w wr (s.extract k s.size)) (λ_ _ _ i _=>9-(intOf i).toNat)
 case atStart=>exact⟨0,by omega,by omega,rfl,rfl,λj h=>absurd h (by omega),by simpa using F⟩
 obtain⟨k,K,P,rfl,rfl,f,r⟩:=hrel;have G:Ha (k=9\/k=s.size->Pl.fst s.data.toList=0/\Pl.snd s.data.toList=0):=λh=>Pl.first_out _ k K (by simpa using P) f (by simpa using h)
 have Q:=Pl.val_lt (s.data.toList.take k);by_cases H:k<9
 ·by_cases l:k<s.size
  ·have B:0<(s.extract k s.size).size:=by rw[XR];omega
   have q:=zb (vV b (s.extract k s.size) B w wr r);rw[VG s k l,VH s k l]at q;have M:s[k].toNat<256:=yz _;clear Q;have t:=zb (RH s k l H);have u:Ha (s[k].toNat<128->((¬(0<k/\s[k].toNat=0)->Pl.fst s.data.toList=Pl.val (s.data.toList.take (k+1))/\Pl.snd s.data.toList=k+1)/\(0<k/\s[k].toNat=0->Pl.snd s.data.toList=0))):=λm=>MZ s k H l f m
   go_wp2_with (go_at_call 145;refine q.mono ?_;rintro e w1 ⟨rfl,a⟩;obtain⟨n,p,D⟩:=(C.rd a A).2.1)
   ·rw[t.o];go_roundw
    case rel=>
     refine⟨k+1,by omega,by omega,by go_num,rfl,?_,a⟩;have N:128<=(s[k].toNat:Int):=by assumption
     intro j R;by_cases E:j=k
     ·subst E;rw[cZ s j l];omega
     exact f j (by omega)
    simp[intOf];omega
   ·have c:s[k].toNat=0:=by assumption
    have d:0<k:=by assumption
    refine⟨rfl,Or.inr ⟨(u (by omega)).2 ⟨d,c⟩,⟨n,p,rfl⟩,_,a⟩⟩
   ·have c:s[k].toNat=0:=by assumption
    have d:¬0<k:=by assumption
    obtain⟨y,z⟩:=(u (by omega)).1 (λh=>d h.1);have g:=t.o;rw[c,show((0:Nat):Int)=0 from rfl]at g;rw[g];go_ret;exact Or.inl ⟨by omega,Ld (by rw[y]),by rw[z];exact a⟩
   have c:¬s[k].toNat=0:=by assumption
   have m:(s[k].toNat:Int)<128:=by assumption
   obtain⟨y,z⟩:=(u (by omega)).1 (λh=>c h.2);rw[t.o];go_ret;exact Or.inl ⟨by omega,Ld (by rw[y]),by rw[z];exact a⟩
  have q:=zb (kY b A (s.extract k s.size) (by rw[XR];omega) w wr C r);have c:=G.o (Or.inr (by omega));have x:=zb c.2;clear c;go_wp2_with (go_at_call 145;refine q.mono ?_;rintro e w1 ⟨⟨n,p,rfl⟩,s1,a⟩);exact⟨rfl,Or.inr ⟨x,⟨n,p,rfl⟩,s1,a⟩⟩
 have x:=zb (G (Or.inl (by omega))).2;obtain⟨n,p,D⟩:=(C.rd r A).2.1;go_wp2_with fail;exact⟨rfl,Or.inr ⟨x,⟨n,p,rfl⟩,_,r⟩⟩
def Vk(b:Nat)(w w':World)(l:List UInt8):Prop:=∃t:ByteArray,t.data.toList=l/\t.size<=4194304/\Rd b w w' t
def QS(b:Nat)(d:4<=b)(l:List UInt8)(w c:World)(f:Gl w)(a:Vk b w c l):Calls prog 136 #[.pointer (some ⟨b,0,none⟩)] c λe w' =>
   (Pl.snd l≠0/\e=.returned (.int .i64 (Pl.fst l:Nat))/\Vk b w w' (l.drop (Pl.snd l)))\/(Pl.snd l=0/\iL b w e w'):=by
 obtain⟨t,rfl,i,g⟩:=a;refine(lO b d t (by omega) w c f g).mono ?_
 rintro e w' (⟨h1,h2,h3⟩|h)
 ·exact Or.inl ⟨h1,h2,_,ZA t _,by rw[XR];omega,h3⟩
 exact Or.inr h
def Ag(b:Nat)(c:UInt8)(r:List UInt8)(w g:World)(d:Vk b w g (c::r)):Calls prog 145 #[.pointer (some ⟨b,0,none⟩)] g λe w'=>e=.returned (.int .u8 (c.toNat:Int))/\Vk b w w' r:=by
 obtain⟨t,f,l,k⟩:=d;have a:0<t.size:=by
  have:t.data.toList.length=t.size:=by simp
  rw[f]at this;simp at this;omega
 have i:t[0]=c:=by
  have:=cZ t 0 a
  rw[f]at this;simpa using this.symm
 refine(vV b t a w g k).mono ?_
 rintro e w' ⟨h,j⟩;rw[i]at h;refine⟨h,_,?_,?_,j⟩
 ·rw[ZA,f];rfl
 rw[XR];omega
def eG(b:Nat)(w:World)(T n:Nat)(r:List UInt8)(e:Ending)(w':World):Prop :=
 match Pl.readN n r with
 |none=>iL b w e w'
 |some (ns,rest)=>e=.returned (.iface T (.agg (I ns).toArray))/\Vk b w w' rest
variable {l r:List UInt8}
def He(h:Pl.snd l=0):Pl.readN (n+1) l=none:=by simp[Pl.readN,h]
def Hc(h:Pl.snd l≠0):Pl.readN (n+1) l=(Pl.readN n (l.drop (Pl.snd l))).map λp=>(Pl.fst l::p.1,p.2):=by
 simp only[Pl.readN,h,YF]
 cases Pl.readN n (l.drop (Pl.snd l))<;>rfl
def aL(h:l=r):Ha (Pl.readN n r=(Pl.readN n l).map λp=>p):=by
 subst h;unfold Ha
 cases Pl.readN n l<;>rfl
variable {F:List Nat×List UInt8->List Nat×List UInt8}
def Rr{k:Nat}(h:Pl.readN n r=(Pl.readN (k+1) l).map F)(a:Pl.snd l=0):Pl.readN n r=none:=by rw[h,He a];rfl
def Rn{k:Nat}(h:Pl.readN n r=(Pl.readN (k+1) l).map F)(c:Pl.snd l≠0){f:Nat}{l':List UInt8}(a:f=Pl.fst l)(b:l'=l.drop (Pl.snd l)):Ha (Pl.readN n r=(Pl.readN k l').map λp=>F (f::p.1,p.2)):=by
 unfold Ha;rw[h,Hc c,a,b,Option.map_map];rfl
def Rm(h:Pl.readN n r=(Pl.readN 0 l).map F):Pl.readN n r=some (F ([],l)):=h
def VA(c:UInt8)(T n:Nat):Prop:=∀(b:Nat) (_:4<=b) (r:List UInt8) (w w0:World) (_:Gl w) (_:Vk b w w0 (c::r)),
  Calls prog 95 #[.pointer (some ⟨b,0,none⟩)] w0 (eG b w T n r)
def OL{P:Program}{F:FuncId}{A:Array Value}{a:World}{T:Nat}(h:∀l,Ha (l=r)->Ha (Pl.readN n r=(Pl.readN n l).map λp=>p)->Calls P F A a (eG b w T n r)):Calls P F A a (eG b w T n r):=h r rfl (aL rfl)
def Ce:VA 1 143 1/\VA 2 146 4/\VA 3 149 3/\VA 4 152 3/\VA 5 155 5/\VA 6 158 1/\VA 7 160 1/\VA 8 163 2/\VA 9 165 2/\VA 10 168 2/\VA 11 171 1/\VA 12 174 2:=by
 refine⟨?_,?_,?_,?_,?_,?_,?_,?_,?_,?_,?_,?_⟩
 all_goals
  unfold VA;intro b k r w n m h;have a:=zb (Ag _ _ _ _ _ h)
  first
   |rw[show((1:UInt8).toNat:Int)=1 from rfl]at a
   |rw[show((2:UInt8).toNat:Int)=2 from rfl]at a
   |rw[show((3:UInt8).toNat:Int)=3 from rfl]at a
   |rw[show((4:UInt8).toNat:Int)=4 from rfl]at a
   |rw[show((5:UInt8).toNat:Int)=5 from rfl]at a
   |rw[show((6:UInt8).toNat:Int)=6 from rfl]at a
   |rw[show((7:UInt8).toNat:Int)=7 from rfl]at a
   |rw[show((8:UInt8).toNat:Int)=8 from rfl]at a
   |rw[show((9:UInt8).toNat:Int)=9 from rfl]at a
   |rw[show((10:UInt8).toNat:Int)=10 from rfl]at a
   |rw[show((11:UInt8).toNat:Int)=11 from rfl]at a
   |rw[show((12:UInt8).toNat:Int)=12 from rfl]at a
  refine OL λl g d=>?_
  clear h;go_enter func95,ntmps95;go_wp2_with fail;refine a.mono ?_
  rintro e x ⟨rfl,c⟩;have i:Vk b w x l:=by rw[g.o];exact c
  clear c g a;repeat
   obtain⟨f,j⟩:=Ww (Pl.fst l);go_wp2_with fail;refine(QS b k l w _ m i).mono ?_
   rintro e x (⟨hs,rfl,c⟩|⟨hs,⟨t,v,rfl⟩,c⟩);rotate_left
   ·refine⟨rfl,?_⟩;show eG b w _ _ r _ _;unfold eG;rw[Rr d.o hs];exact⟨⟨t,v,rfl⟩,c⟩
   rw[<-j.o];have d:=Rn d hs j rfl;clear hs i;obtain⟨l,g⟩:=Ww (l.drop (Pl.snd l));rw[<-g.o]at d c;have i:=c;clear c j g
  have hd:=Rm d;have HD:=zb hd;clear d hd;go_wp2_with fail;go_ret;unfold eG;rw[HD.o];exact⟨rfl,i⟩
def Hx(b:Nat)(h:4<=b)(w f:World)(i:Gl w)(a:Vk b w f []):Calls prog 95 #[.pointer (some ⟨b,0,none⟩)] f (iL b w):=by
 obtain⟨t,k,_,j⟩:=a;have d:t.size=0:=by
  have:t.data.toList.length=t.size:=by simp
  rw[k]at this;exact this.symm
 have g:=zb (kY b h t d w f i j);go_enter func95,ntmps95;go_wp2_with fail;refine g.mono ?_
 rintro e w1 ⟨⟨l,m,rfl⟩,c⟩;exact⟨rfl,⟨l,m,rfl⟩,c⟩
def Hy(b:Nat)(A:4<=b)(c:UInt8)(K:c.toNat=0\/13<=c.toNat)(r:List UInt8)(w j:World)(C:Gl w)(d:Vk b w j (c::r)):Calls prog 95 #[.pointer (some ⟨b,0,none⟩)] j (iL b w):=by
 have m:=zb (Ag b c r w j d);clear d;have a:∀k:Nat,1<=k->k<=12->((c.toNat:Int)==(k:Int))=false:=by
  intro k H J;rw[xr];omega
 have n:=a 1 (by omega) (by omega);have p:=a 2 (by omega) (by omega);have q:=a 3 (by omega) (by omega);have s:=a 4 (by omega) (by omega);have u:=a 5 (by omega) (by omega);have v:=a 6 (by omega) (by omega);have x:=a 7 (by omega) (by omega);have y:=a 8 (by omega) (by omega);have z:=a 9 (by omega) (by omega);have f:=a 10 (by omega) (by omega);have g:=a 11 (by omega) (by omega);have h:=a 12 (by omega) (by omega);simp only[Int.cast_ofNat_Int]at n p q s u v x y z f g h;clear a;go_enter func95,ntmps95;go_wp2_with fail;refine m.mono ?_
 rintro e w1 ⟨rfl,i⟩;obtain⟨t,M,E,l⟩:=i;obtain⟨F,G,D⟩:=(C.rd l A).1;have B:(c.toNat:Int)<256:=by have:=yz c;omega
 go_wp2_with fail;exact⟨rfl,⟨F,G,rfl⟩,t,l⟩
def Pa(b:Nat)(w:World)(a:w.cell? ⟨b,0,none⟩=some (.string ⟨#[]⟩)):Calls prog 96 #[.pointer (some ⟨b,0,none⟩)] w λe w'=>e=.returned (.tuple #[])/\w'=w:=by
 go_enter func96,ntmps96;go_wp2_with fail;go_end0;exact⟨rfl,rfl⟩
def OZ(b:Nat)(s:ByteArray)(d:s.toList.isEmpty=false)(w:World)(a:w.cell? ⟨b,0,none⟩=some (.string s))(t:TypeId)(v:Value)(c:w.cell? ⟨3,0,none⟩=some (.iface t v)):Calls prog 96 #[.pointer (some ⟨b,0,none⟩)] w λe w'=>e=.panicked [{ v:=.iface t v,recovered:=false }]/\w'=w:=by
 go_enter func96,ntmps96;go_wp2_with fail;exact⟨rfl,rfl,rfl⟩
def fM(p q:Addr)(x:Value)(y:Bool)(u:TypeId)(pv:Value)(a:List PanicEntry)(w:World)(d:w.cell? p=some x)(g:w.frozen? p=false)(b:(w.setCell p .nilIface).cell? q=some (.bool y))(c:w.frozen? q=false):CallsD prog 93 #[.pointer (some p),.pointer (some q)] (.panicking ({ v:=.iface u pv,recovered:=false }::a)) w λe h w' =>
   e=.returned (.tuple #[])/\h=.panicking ({ v:=.iface u pv,recovered:=true }::a)/\w'=(w.setCell p .nilIface).setCell q (.bool false):=by
 refine xbZ func93 rfl λj i f=>?_
 apply wpS_seq
 apply xbQ
 simp[wpOpsS,go_sem,recoverD,f,ntmps93,Exit.thenS];refine wpS_cond (t:=true) (by simp[Act.eval,Array.replicate]) ?_
 simp only[Yo];apply xbQ;simp[wpOpsS,go_sem,d,g,b,c,bodyPostS,results,Tryz.results93]
def FU(p q:Addr)(w:World):CallsD prog 93 #[.pointer (some p),.pointer (some q)] .returning w λe c w'=>e=.returned (.tuple #[])/\c=.returning/\w'=w:=by
 refine xbZ func93 rfl λa d b=>?_
 apply wpS_seq
 apply xbQ
 simp[wpOpsS,go_sem,recoverD,b,ntmps93,Exit.thenS];refine wpS_cond (t:=false) (by simp[Act.eval,Array.replicate]) ?_
 simp only[XV,YF];refine wpS_of_wp (wp_skip ?_)
 cases a;simp_all [bodyPostS,results,Tryz.results93]
def Gl.below(h:Gl w)(k:Below w.heap.size w w'):Gl w':=by
 obtain⟨⟨d,f,a⟩,⟨e,g,b⟩,c⟩:=h;exact⟨⟨d,f,by rw[k.cell (by simp;omega)];exact a⟩,⟨e,g,by rw[k.cell (by simp;omega)];exact b⟩,xj c k.size⟩
abbrev dJ(w:World)(s:ByteArray):World:=((w.alloc (.cells #[.nilIface] 105)).alloc (.cells #[.bool false] 4)).alloc (.cells #[.string s] 225)
def eP(w:World)(s:ByteArray):Below w.heap.size w (dJ w s) :=
 (((xm _ _).alloc (xe _) _).alloc (by simp) _).alloc (by simp;omega) _
def Nz(w:World)(s:ByteArray):Rd (w.heap.size+1+1) (dJ w s) (dJ w s) s:=Rd.refl (by
 show(((w.heap.push _).push _).push _)[w.heap.size+1+1]?=_;rw[Ym,xh (by simp)])
def Rd.frozen_other(h:Rd b w w' s)(a:Addr)(c:a.block≠b):w'.frozen? a=w.frozen? a:=World.frozen?_of_block (w:=w) (h.block a.block c)
def EO(w:World)(s:ByteArray):(dJ w s).heap[w.heap.size]?=some (.cells #[.nilIface] 105 (0,0)):=by
 show(((w.heap.push _).push _).push _)[w.heap.size]?=_;rw[Ym,xg (by simp;omega),Ym,xg (by simp),Ym,xh rfl]
def EP(w:World)(s:ByteArray):(dJ w s).heap[w.heap.size+1]?=some (.cells #[.bool false] 4 (0,0)):=by
 show(((w.heap.push _).push _).push _)[w.heap.size+1]?=_;rw[Ym,xg (by simp),Ym,xh (by simp)]
def wZ(w:World)(s:ByteArray):(dJ w s).cell? ⟨w.heap.size,0,none⟩=some .nilIface:=by unfold World.cell?;rw[EO];rfl
def xB(w:World)(s:ByteArray):(dJ w s).frozen? ⟨w.heap.size,0,none⟩=false:=by unfold World.frozen?;rw[EO];rfl
def xA(w:World)(s:ByteArray):(dJ w s).cell? ⟨w.heap.size+1,0,none⟩=some (.bool false):=by unfold World.cell?;rw[EP];rfl
def xC(w:World)(s:ByteArray):(dJ w s).frozen? ⟨w.heap.size+1,0,none⟩=false:=by unfold World.frozen?;rw[EP];rfl
def lU(s:ByteArray)(w:World)(n:Gl w)
  (i:Ha (Calls prog 95 #[.pointer (some ⟨w.heap.size+1+1,0,none⟩)] (dJ w s) (iL (w.heap.size+1+1) (dJ w s)))) :
  Calls prog 61 #[.string s] w λe w'=>e=.returned (.tuple #[.nilIface,.bool false])/\Below w.heap.size w w':=by
 have l:∀(h:Fn) (first cap:Array Value) (w:World),(Instr.makeFunc h first cap).run prog w=.ok (.func h first cap) w:=λ_ _ _ _=>rfl
 go_enter_defers func61,ntmps61
 go_wp2_with (first|(go_at_call 94;go_in)|fail)
 refine i.mono ?_
 rintro e w1 ⟨⟨t,v,rfl⟩,s1,a⟩;refine xbX (f:=93) (args:=#[.pointer (some ⟨w.heap.size,0,none⟩),.pointer (some ⟨w.heap.size+1,0,none⟩)]) (by simp) (by simp[go_sem]) ?_
 have c0:w1.cell? ⟨w.heap.size,0,none⟩=some .nilIface:=by rw[a.other _ (by simp;omega)];exact wZ w s
 have c1:w1.cell? ⟨w.heap.size+1,0,none⟩=some (.bool false):=by rw[a.other _ (by simp)];exact xA w s
 have j:w1.frozen? ⟨w.heap.size,0,none⟩=false:=by rw[a.frozen_other _ (by simp;omega)];exact xB w s
 have k:w1.frozen? ⟨w.heap.size+1,0,none⟩=false:=by rw[a.frozen_other _ (by simp)];exact xC w s
 have d:(w1.setCell ⟨w.heap.size,0,none⟩ .nilIface).cell? ⟨w.heap.size+1,0,none⟩=some (.bool false):=by
  rw[xo (w:=w1) (xd _ _ _ _ (by simp))];exact c1
 refine(fM ⟨w.heap.size,0,none⟩ ⟨w.heap.size+1,0,none⟩ .nilIface false t v [] w1 c0 j d k).mono ?_
 rintro e p m ⟨rfl,rfl,rfl⟩;have b:((w1.setCell ⟨w.heap.size,0,none⟩ .nilIface).setCell ⟨w.heap.size+1,0,none⟩ (.bool false)).cell? ⟨w.heap.size,0,none⟩=some .nilIface:=by
  rw[xo (w:=(w1.setCell ⟨w.heap.size,0,none⟩ .nilIface)) (xd _ _ _ _ (by simp)),ym _ _ _ c0]
 have c:((w1.setCell ⟨w.heap.size,0,none⟩ .nilIface).setCell ⟨w.heap.size+1,0,none⟩ (.bool false)).cell? ⟨w.heap.size+1,0,none⟩=some (.bool false):=ym _ _ _ d
 have g:Below w.heap.size w ((w1.setCell ⟨w.heap.size,0,none⟩ .nilIface).setCell ⟨w.heap.size+1,0,none⟩ (.bool false)) :=
  (((eP w s).trans (a.below (by omega))).setCell (by simp) _).setCell (by simp) _
 generalize ((w1.setCell ⟨w.heap.size,0,none⟩ .nilIface).setCell ⟨w.heap.size+1,0,none⟩ (.bool false))=W at *;simp[Leaves,settle,results,Tryz.results61,go_sem,b,c,g]
def Rs(s:ByteArray)(w:World)(T:TypeId)(v:Value)
  (p:Ha (Calls prog 95 #[.pointer (some ⟨w.heap.size+1+1,0,none⟩)] (dJ w s) λe w'=>e=.returned (.iface T v)/\Vk (w.heap.size+1+1) (dJ w s) w' [])) :
  Calls prog 61 #[.string s] w λe w'=>e=.returned (.tuple #[.iface T v,.bool true])/\Below w.heap.size w w':=by
 have A:∀(t:Fn) (first cap:Array Value) (w:World),(Instr.makeFunc t first cap).run prog w=.ok (.func t first cap) w:=λ_ _ _ _=>rfl
 go_enter_defers func61,ntmps61
 go_wp2_with (first|(go_at_call 94;go_in)|fail)
 refine p.mono ?_
 rintro e w1 ⟨rfl,s1,k,_,c⟩;have z:s1=⟨#[]⟩:=by
  apply xau
  apply xcb.1
  rw[k]
 subst z;have c0:w1.cell? ⟨w.heap.size,0,none⟩=some .nilIface:=by rw[c.other _ (by simp;omega)];exact wZ w s
 have c1:w1.cell? ⟨w.heap.size+1,0,none⟩=some (.bool false):=by rw[c.other _ (by simp)];exact xA w s
 have q:w1.frozen? ⟨w.heap.size,0,none⟩=false:=by rw[c.frozen_other _ (by simp;omega)];exact xB w s
 have r:w1.frozen? ⟨w.heap.size+1,0,none⟩=false:=by rw[c.frozen_other _ (by simp)];exact xC w s
 have j:=c.cell;have d:Below w.heap.size w w1:=(eP w s).trans (c.below (by omega));obtain⟨b,a⟩:∃b,b=w1.setCell ⟨w.heap.size,0,none⟩ (.iface T v):=⟨_,rfl⟩
 have u:b.cell? ⟨w.heap.size,0,none⟩=some (.iface T v):=by rw[a];exact ym _ _ _ c0
 have x:b.cell? ⟨w.heap.size+1,0,none⟩=some (.bool false):=by rw[a,xo (w:=w1) (xd _ _ _ _ (by simp))];exact c1
 have y:b.cell? ⟨w.heap.size+1+1,0,none⟩=some (.string ⟨#[]⟩):=by rw[a,xo (w:=w1) (xd _ _ _ _ (by simp;omega))];exact j
 have C:b.frozen? ⟨w.heap.size,0,none⟩=false:=by rw[a];simpa using q
 have D:b.frozen? ⟨w.heap.size+1,0,none⟩=false:=by rw[a];simpa using r
 have n:Below w.heap.size w b:=by rw[a];exact d.setCell (by simp) _
 have l:=zb (Pa (w.heap.size+1+1) b y);rw[a]at l;go_wp2_with fail;refine l.mono ?_
 rintro e w2 ⟨rfl,rfl⟩;rw[<-a];clear a c0 c1 q r j d l p k c;go_wp2_with fail;refine xbX (f:=93) (args:=#[.pointer (some ⟨w.heap.size,0,none⟩),.pointer (some ⟨w.heap.size+1,0,none⟩)]) (by simp) (by simp[go_sem]) ?_
 refine(FU ⟨w.heap.size,0,none⟩ ⟨w.heap.size+1,0,none⟩ _).mono ?_
 rintro e E B ⟨rfl,rfl,rfl⟩;have m:(b.setCell ⟨w.heap.size,0,none⟩ (.iface T v)).cell? ⟨w.heap.size+1,0,none⟩=some (.bool false):=by
  rw[xo (w:=b) (xd _ _ _ _ (by simp))];exact x
 have g:((b.setCell ⟨w.heap.size,0,none⟩ (.iface T v)).setCell ⟨w.heap.size+1,0,none⟩ (.bool true)).cell? ⟨w.heap.size,0,none⟩=some (.iface T v):=by
  rw[xo (w:=(b.setCell ⟨w.heap.size,0,none⟩ (.iface T v))) (xd _ _ _ _ (by simp)),ym _ _ _ u]
 have h:((b.setCell ⟨w.heap.size,0,none⟩ (.iface T v)).setCell ⟨w.heap.size+1,0,none⟩ (.bool true)).cell? ⟨w.heap.size+1,0,none⟩=some (.bool true):=ym _ _ _ m
 have i:Below w.heap.size w ((b.setCell ⟨w.heap.size,0,none⟩ (.iface T v)).setCell ⟨w.heap.size+1,0,none⟩ (.bool true)) :=
  (n.setCell (by simp) _).setCell (by simp) _
 generalize ((b.setCell ⟨w.heap.size,0,none⟩ (.iface T v)).setCell ⟨w.heap.size+1,0,none⟩ (.bool true))=W at *;simp[Leaves,settle,results,Tryz.results61,go_sem,g,h,i]
def KS(s:ByteArray)(w:World)(H:Gl w)(d:List UInt8)(j:d≠[])(T:TypeId)(v:Value)
  (u:Ha (Calls prog 95 #[.pointer (some ⟨w.heap.size+1+1,0,none⟩)] (dJ w s) λe w'=>e=.returned (.iface T v)/\Vk (w.heap.size+1+1) (dJ w s) w' d)) :
  Calls prog 61 #[.string s] w λe w'=>e=.returned (.tuple #[.nilIface,.bool false])/\Below w.heap.size w w':=by
 have J:∀(A:Fn) (first cap:Array Value) (w:World),(Instr.makeFunc A first cap).run prog w=.ok (.func A first cap) w:=λ_ _ _ _=>rfl
 go_enter_defers func61,ntmps61
 go_wp2_with (first|(go_at_call 94;go_in)|fail)
 refine u.mono ?_
 rintro e w1 ⟨rfl,s1,p,_,c⟩;have t:s1.toList.isEmpty=false:=by
  rw[yd,p];cases d with
  |nil=>exact absurd rfl j
  |cons=>rfl
 have c0:w1.cell? ⟨w.heap.size,0,none⟩=some .nilIface:=by rw[c.other _ (by simp;omega)];exact wZ w s
 have c1:w1.cell? ⟨w.heap.size+1,0,none⟩=some (.bool false):=by rw[c.other _ (by simp)];exact xA w s
 have y:w1.frozen? ⟨w.heap.size,0,none⟩=false:=by rw[c.frozen_other _ (by simp;omega)];exact xB w s
 have z:w1.frozen? ⟨w.heap.size+1,0,none⟩=false:=by rw[c.frozen_other _ (by simp)];exact xC w s
 have n:=c.cell;have g:Below w.heap.size w w1:=(eP w s).trans (c.below (by omega));obtain⟨b,a⟩:∃b,b=w1.setCell ⟨w.heap.size,0,none⟩ (.iface T v):=⟨_,rfl⟩
 have x:b.cell? ⟨w.heap.size,0,none⟩=some (.iface T v):=by rw[a];exact ym _ _ _ c0
 have D:b.cell? ⟨w.heap.size+1,0,none⟩=some (.bool false):=by rw[a,xo (w:=w1) (xd _ _ _ _ (by simp))];exact c1
 have E:b.cell? ⟨w.heap.size+1+1,0,none⟩=some (.string s1):=by rw[a,xo (w:=w1) (xd _ _ _ _ (by simp;omega))];exact n
 have F:b.frozen? ⟨w.heap.size,0,none⟩=false:=by rw[a];simpa using y
 have G:b.frozen? ⟨w.heap.size+1,0,none⟩=false:=by rw[a];simpa using z
 have m:Below w.heap.size w b:=by rw[a];exact g.setCell (by simp) _
 obtain⟨B,C,r⟩:=(H.below m).2.1;have q:=zb (OZ (w.heap.size+1+1) s1 t b E B C r);rw[a]at q;go_wp2_with fail;refine q.mono ?_
 rintro e w2 ⟨rfl,rfl⟩;rw[<-a];clear a c0 c1 y z n g q u p c;refine xbX (f:=93) (args:=#[.pointer (some ⟨w.heap.size,0,none⟩),.pointer (some ⟨w.heap.size+1,0,none⟩)]) (by simp) (by simp[go_sem]) ?_
 have k:(b.setCell ⟨w.heap.size,0,none⟩ .nilIface).cell? ⟨w.heap.size+1,0,none⟩=some (.bool false):=by
  rw[xo (w:=b) (xd _ _ _ _ (by simp))];exact D
 refine(fM ⟨w.heap.size,0,none⟩ ⟨w.heap.size+1,0,none⟩ (.iface T v) false B C [] b x F k G).mono ?_
 rintro e M K ⟨rfl,rfl,rfl⟩;have h:((b.setCell ⟨w.heap.size,0,none⟩ .nilIface).setCell ⟨w.heap.size+1,0,none⟩ (.bool false)).cell? ⟨w.heap.size,0,none⟩=some .nilIface:=by
  rw[xo (w:=(b.setCell ⟨w.heap.size,0,none⟩ .nilIface)) (xd _ _ _ _ (by simp)),ym _ _ _ x]
 have i:((b.setCell ⟨w.heap.size,0,none⟩ .nilIface).setCell ⟨w.heap.size+1,0,none⟩ (.bool false)).cell? ⟨w.heap.size+1,0,none⟩=some (.bool false):=ym _ _ _ k
 have l:Below w.heap.size w ((b.setCell ⟨w.heap.size,0,none⟩ .nilIface).setCell ⟨w.heap.size+1,0,none⟩ (.bool false)) :=
  (m.setCell (by simp) _).setCell (by simp) _
 generalize ((b.setCell ⟨w.heap.size,0,none⟩ .nilIface).setCell ⟨w.heap.size+1,0,none⟩ (.bool false))=W at *;simp[Leaves,settle,results,Tryz.results61,go_sem,h,i,l]
def Mo:Nat->TypeId
 |1=>143|2=>146|3=>149|4=>152|5=>155|6=>158|7=>160|8=>163|9=>165|10=>168|11=>171|_=>174
def ZO(l:List UInt8):Option (Nat×List Nat) :=
 match l with
 |[]=>none
 |c::r=>if Pl.kindsL c.toNat=[] then none else
  match Pl.nums r with
  |none=>none
  |some ns=>if ns.length=(Pl.kindsL c.toNat).length then some (c.toNat,ns) else none
def Ei(w:World)(l:List UInt8)(e:Ending)(w':World):Prop :=
 Below w.heap.size w w' /\
 match ZO l with
 |none=>e=.returned (.tuple #[.nilIface,.bool false])
 |some (c,ns)=>e=.returned (.tuple #[.iface (Mo c) (.agg (I ns).toArray),.bool true])
def ZG(s:ByteArray)(A:s.size<=4194304)(w:World)(x:Gl w)(c:UInt8)(r:List UInt8)(y:s.data.toList=c::r)(n:Nat)(z:(Pl.kindsL c.toNat).length=n)(u:Pl.kindsL c.toNat≠[])
  (v:Calls prog 95 #[.pointer (some ⟨w.heap.size+1+1,0,none⟩)] (dJ w s) (eG (w.heap.size+1+1) (dJ w s) (Mo c.toNat) n r)) :
  Calls prog 61 #[.string s] w (Ei w s.data.toList):=by
 have a:ZO s.data.toList=match Pl.nums r with
   |none=>none
   |some g=>if g.length=(Pl.kindsL c.toNat).length then some (c.toNat,g) else none:=by
  rw[y];simp only[ZO];rw[xg u]
 cases t:Pl.readN n r with
 |none=>
  have b:ZO s.data.toList=none:=by
   rw[a]
   cases k:Pl.nums r with
   |none=>rfl
   |some g=>
    by_cases d:g.length=(Pl.kindsL c.toNat).length
    ·have:=(Pl.readN_nums n r g).2 ⟨k,by omega⟩
     rw[t]at this;cases this
    simp[d]
  refine(lU s w x (v.mono λe w' h=>by unfold eG at h;rw[t]at h;exact h)).mono ?_
  rintro e w' ⟨m,q⟩;refine⟨q,?_⟩;rw[b];exact m
 |some p=>
  obtain⟨g,f⟩:=p;have l:Ha (Calls prog 95 #[.pointer (some ⟨w.heap.size+1+1,0,none⟩)] (dJ w s) λe w'=>e=.returned (.iface (Mo c.toNat) (.agg (I g).toArray))/\Vk (w.heap.size+1+1) (dJ w s) w' f) :=
   v.mono λe w' h=>by unfold eG at h;rw[t]at h;exact h
  by_cases i:f=[]
  ·subst i;have k:=(Pl.readN_nums n r g).1 t;have j:ZO s.data.toList=some (c.toNat,g):=by
    rw[a,k.1];simp[k.2,z]
   refine(Rs s w _ _ l).mono ?_
   rintro e w' ⟨m,q⟩;refine⟨q,?_⟩;rw[j];exact m
  have b:ZO s.data.toList=none:=by
   rw[a]
   cases k:Pl.nums r with
   |none=>rfl
   |some ms=>
    by_cases d:ms.length=(Pl.kindsL c.toNat).length
    ·have:=(Pl.readN_nums n r ms).2 ⟨k,by omega⟩
     rw[t]at this;simp only[XC,XY]at this;exact absurd this.2 i
    simp[d]
  refine(KS s w x f i _ _ l).mono ?_
  rintro e w' ⟨m,q⟩;refine⟨q,?_⟩;rw[b];exact m
def xX(s:ByteArray)(i:s.size<=4194304)(w:World)(d:Gl w):Calls prog 61 #[.string s] w (Ei w s.data.toList):=by
 have a:4<=w.heap.size+1+1:=by have:=d.2.2;omega
 have b:Gl (dJ w s):=d.below (eP w s);have f:Vk (w.heap.size+1+1) (dJ w s) (dJ w s) s.data.toList:=⟨s,rfl,i,Nz w s⟩
 cases g:s.data.toList with
 |nil=>
  rw[g]at f;refine(lU s w d (Hx _ a _ _ b f)).mono ?_
  rintro e w' ⟨j,k⟩;exact⟨k,j⟩
 |cons c r=>
  rw[g]at f;by_cases m:c.toNat=0\/13<=c.toNat
  ·have n:Pl.kindsL c.toNat=[]:=by
    rcases m with h|h
    ·rw[h];rfl
    unfold Pl.kindsL;split<;>first|rfl|omega
   refine(lU s w d (Hy _ a c m r _ _ b f)).mono ?_
   rintro e w' ⟨j,k⟩;refine⟨k,?_⟩;have:ZO (c::r)=none:=by simp[ZO,n]
   rw[this];exact j
  rw[<-g];have l:c.toNat=1\/c.toNat=2\/c.toNat=3\/c.toNat=4\/c.toNat=5\/c.toNat=6\/c.toNat=7\/c.toNat=8\/c.toNat=9\/c.toNat=10\/c.toNat=11\/c.toNat=12:=by omega
  rcases l with h|h|h|h|h|h|h|h|h|h|h|h
  ·obtain rfl:c=1:=ya.1 (by rw[h];rfl);exact ZG s i w d _ r g 1 rfl (by decide) (Ce.1 _ a r _ _ b f)
  ·obtain rfl:c=2:=ya.1 (by rw[h];rfl);exact ZG s i w d _ r g 4 rfl (by decide) (Ce.2.1 _ a r _ _ b f)
  ·obtain rfl:c=3:=ya.1 (by rw[h];rfl);exact ZG s i w d _ r g 3 rfl (by decide) (Ce.2.2.1 _ a r _ _ b f)
  ·obtain rfl:c=4:=ya.1 (by rw[h];rfl);exact ZG s i w d _ r g 3 rfl (by decide) (Ce.2.2.2.1 _ a r _ _ b f)
  ·obtain rfl:c=5:=ya.1 (by rw[h];rfl);exact ZG s i w d _ r g 5 rfl (by decide) (Ce.2.2.2.2.1 _ a r _ _ b f)
  ·obtain rfl:c=6:=ya.1 (by rw[h];rfl);exact ZG s i w d _ r g 1 rfl (by decide) (Ce.2.2.2.2.2.1 _ a r _ _ b f)
  ·obtain rfl:c=7:=ya.1 (by rw[h];rfl);exact ZG s i w d _ r g 1 rfl (by decide) (Ce.2.2.2.2.2.2.1 _ a r _ _ b f)
  ·obtain rfl:c=8:=ya.1 (by rw[h];rfl);exact ZG s i w d _ r g 2 rfl (by decide) (Ce.2.2.2.2.2.2.2.1 _ a r _ _ b f)
  ·obtain rfl:c=9:=ya.1 (by rw[h];rfl);exact ZG s i w d _ r g 2 rfl (by decide) (Ce.2.2.2.2.2.2.2.2.1 _ a r _ _ b f)
  ·obtain rfl:c=10:=ya.1 (by rw[h];rfl);exact ZG s i w d _ r g 2 rfl (by decide) (Ce.2.2.2.2.2.2.2.2.2.1 _ a r _ _ b f)
  ·obtain rfl:c=11:=ya.1 (by rw[h];rfl);exact ZG s i w d _ r g 1 rfl (by decide) (Ce.2.2.2.2.2.2.2.2.2.2.1 _ a r _ _ b f)
  obtain rfl:c=12:=ya.1 (by rw[h];rfl);exact ZG s i w d _ r g 2 rfl (by decide) (Ce.2.2.2.2.2.2.2.2.2.2.2 _ a r _ _ b f)
