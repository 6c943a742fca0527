import Derived.Test.YtgcedalggnmooaaGreatDoorRefAX
set_option linter.all false
set_option maxRecDepth 100000
set_option maxHeartbeats 800000
namespace Go.Proofs.YtgcedalggnmooaaGreatDoor
open Go.RowKit
open Option renaming none->Y,some->V
open Value renaming pointer->U,bool->vb,tuple->vd,string->ve
open Obj renaming cells->X
open Ending renaming returned->Z
open Tryz
def Gl(w:World):Prop:=(∃t v,w.cell? ⟨2,0,Y⟩=V (.iface t v))/\(∃t v,w.cell? ⟨3,0,Y⟩=V (.iface t v))/\4<=w.heap.size
def QE(b:Nat)(s:ByteArray)(d:0<s.size)(w:World)(f:w.cell? ⟨b,0,Y⟩=V (ve s))(g:w.frozen? ⟨b,0,Y⟩=false):Calls prog 145 #[U (V ⟨b,0,Y⟩)] w λe w'=>e=Z (.int .u8 (s[0].toNat:Int))/\w'=w.setCell ⟨b,0,Y⟩ (ve (s.extract 1 s.size)):=by
 have c:s.toList.isEmpty=false:=by
  rw[Yo]
  cases h:s.data.toList with
  |nil=>
   have a:s.data.toList.length=s.size:=by simp
   rw[h]at a;have:s.size=0:=a.symm;omega
  |cons=>rfl
 go_enter func145,ntmps145;go_wp2_with fail;go_ret;exact⟨rfl,rfl⟩
def QD(b:Nat)(w:World)(a:w.cell? ⟨b,0,Y⟩=V (ve ⟨#[]⟩))(t:TypeId)(v:Value)(c:w.cell? ⟨3,0,Y⟩=V (.iface t v)):Calls prog 145 #[U (V ⟨b,0,Y⟩)] w λe w'=>e=.panicked [{ v:=.iface t v,recovered:=false }]/\w'=w:=by
 go_enter func145,ntmps145;go_wp2_with fail;exact⟨rfl,rfl,rfl⟩
structure Rd(b:Nat)(w w':World)(s:ByteArray):Prop where
 os:w'.os=w.os
 tape:w'.tape=w.tape
 output:w'.output=w.output
 size:w'.heap.size=w.heap.size
 block:∀k,k≠b->w'.heap[k]?=w.heap[k]?
 here:w'.heap[b]?=V (X #[ve s] 225 (0,0))
def Rd.cell{b:Nat}{w w':World}{s:ByteArray}(h:Rd b w w' s):w'.cell? ⟨b,0,Y⟩=V (ve s):=by
 simp[World.cell?,h.here]
def Rd.frozen{b:Nat}{w w':World}{s:ByteArray}(h:Rd b w w' s):w'.frozen? ⟨b,0,Y⟩=false:=by
 simp[World.frozen?,h.here]
variable {b n:Nat}{s:ByteArray}{w w':World}
def Rd.other(h:Rd b w w' s)(a:Addr)(c:a.block≠b):w'.cell? a=w.cell? a:=xo (w:=w) (h.block a.block c)
def Rd.trans{b:Nat}{w w' a:World}{s t:ByteArray}(h:Rd b w w' s)(k:Rd b w' a t):Rd b w a t :=
 ⟨k.os.trans h.os,k.tape.trans h.tape,k.output.trans h.output,k.size.trans h.size,λi c=>(k.block i c).trans (h.block i c),k.here⟩
def Rd.refl(h:w.heap[b]?=V (X #[ve s] 225 (0,0))):Rd b w w s:=⟨rfl,rfl,rfl,rfl,λ_ _=>rfl,h⟩
def Rd.set(h:Rd b w w' s)(t:ByteArray):Rd b w (w'.setCell ⟨b,0,Y⟩ (ve t)) t :=
 h.trans ⟨rfl,rfl,rfl,by simp[World.setCell],λk a=>xd _ _ _ _ a,by
  have:=xu w' b 0 #[ve s] 225 (ve t) h.here
  simpa using this⟩
def Rd.below{B:Nat}(h:Rd b w w' s)(a:B<=b):Below B w w' :=
 ⟨h.os,h.tape,h.output,by rw[h.size];exact xe _,λk c=>h.block k (by omega)⟩
def Gl.rd(h:Gl w)(k:Rd b w w' s)(j:4<=b):Gl w':=by
 obtain⟨⟨e,g,a⟩,⟨f,i,c⟩,d⟩:=h;exact⟨⟨e,g,by rw[k.other _ (by simp;omega)];exact a⟩,⟨f,i,by rw[k.other _ (by simp;omega)];exact c⟩,by rw[k.size];exact d⟩
def iO(b:Nat)(w:World)(e:Ending)(w':World):Prop:=(∃t v,e=.panicked [{ v:=.iface t v,recovered:=false }])/\∃s,Rd b w w' s
def Wo(s:ByteArray)(k:Nat)(a:k<s.size):(s.extract k s.size)[0]'(by rw[Ya];omega)=s[k]:=by
 simp[ByteArray.getElem_extract]
def Wp(s:ByteArray)(k:Nat)(a:k<s.size):(s.extract k s.size).extract 1 (s.extract k s.size).size=s.extract (k+1) s.size:=by
 apply xaY
 simp[xat,Ya];congr 1;omega
def wD(b:Nat)(s:ByteArray)(d:0<s.size)(w w':World)(a:Rd b w w' s):Calls prog 145 #[U (V ⟨b,0,Y⟩)] w' λe c=>e=Z (.int .u8 (s[0].toNat:Int))/\Rd b w c (s.extract 1 s.size) :=
 (QE b s d w' a.cell a.frozen).mono λ_ _ ⟨h1,h2⟩=>⟨h1,h2 ▸ a.set _⟩
def lB(b:Nat)(g:4<=b)(s:ByteArray)(f:s.size=0)(w w':World)(i:Gl w)(c:Rd b w w' s):Calls prog 145 #[U (V ⟨b,0,Y⟩)] w' (iO b w):=by
 have h:s=⟨#[]⟩:=by
  apply xaY
  apply xcb
  exact f
 subst h;obtain⟨d,e,a⟩:=(i.rd c g).2.1;exact(QD b w' c.cell d e a).mono λ_ _ ⟨a,h2⟩=>⟨⟨d,e,a⟩,⟨#[]⟩,h2 ▸ c⟩
def jZ(a:Nat)(b:a<9223372036854775808):(BitVec.ofInt 64 (a:Int)).toNat=a:=by
 rw[BitVec.ofInt_natCast,BitVec.toNat_ofNat];exact xbs (by omega)
def GK(a b:Nat)(c:a<9223372036854775808)(d:b<9223372036854775808):bits .or .i64 (a:Int) (b:Int)=((a ||| b:Nat):Int):=by
 have e:a ||| b<2^63:=Nat.or_lt_two_pow (by omega) (by omega)
 show IntKind.i64.wrap ((BitVec.ofInt 64 (a:Int) ||| BitVec.ofInt 64 (b:Int)).toNat:Int)=_;rw[BitVec.toNat_or,jZ a c,jZ b d,xbY,bI _ ⟨by omega,by omega⟩]
def Su(s:ByteArray)(k:Nat)(h:k<s.size)(n:k<9):bits .or .i64 (Pl.val (List.take k s.data.toList):Int) (wrap64 (wrap64 (bits .and .u8 (s[k].toNat:Int) 127)*2^(7*k)))=(Pl.val (s.data.toList.take (k+1)):Int):=by
 have j:s[k].toNat<256:=YF _;have f:bits .and .u8 (s[k].toNat:Int) 127=((s[k].toNat%128:Nat):Int):=by
  have:=u8_and_nat s[k].toNat 127 j (by omega)
  rw[show((127:Nat):Int)=127 from rfl]at this;rw[this,show(127:Nat)=2^7-1 from rfl,xcc]
 rw[f,bI ((s[k].toNat%128:Nat):Int) ⟨by omega,by omega⟩];have g:(2:Int)^(7*k)=((128^k:Nat):Int):=by
  rw[Int.pow_mul];norm_cast
 have m:=Pl.val_take_lt s.data.toList (k+1) (by omega);have c:=Pl.take_snoc s.data.toList k (by simpa using h);have a:(s.data.toList.take k).length=k:=by rw[yu,show s.data.toList.length=s.size from by simp];omega
 have d:=Pl.val_snoc (s.data.toList.getD k 0) (s.data.toList.take k);have b:=Pl.val_lt (s.data.toList.take k);rw[<-c,dB s k h,a]at d;rw[a]at b;rw[g,<-Int.natCast_mul];have l:s[k].toNat%128*128^k<=Pl.val (s.data.toList.take (k+1)):=by rw[d];omega
 rw[bI ((s[k].toNat%128*128^k:Nat):Int) ⟨by omega,by omega⟩,GK _ _ (by omega) (by omega)];have e:(128:Nat)^k=2^(7*k):=by rw[Nat.pow_mul]
 have i:Pl.val (s.data.toList.take k) ||| s[k].toNat%128*128^k=Pl.val (s.data.toList.take (k+1)):=by
  rw[d,Nat.or_comm,e,xbK (s[k].toNat%128) (2^(7*k)),<-Nat.two_pow_add_eq_or_of_lt (by rw[<-e];exact b),Nat.add_comm]
 rw[i]
def LF{k:IntKind}{a b:Int}(h:a=b):Ending.returned (.int k a)=Z (.int k b):=by rw[h]
def NC(s:ByteArray)(k:Nat)(l:k<9)(h:k<s.size)(b:∀j,j<k->128<=(s.data.toList.getD j 0).toNat)(g:s[k].toNat<128):(¬(0<k/\s[k].toNat=0)->Pl.fst s.data.toList=Pl.val (s.data.toList.take (k+1))/\Pl.snd s.data.toList=k+1)/\(0<k/\s[k].toNat=0->Pl.snd s.data.toList=0):=by
 have i:k<s.data.toList.length:=by simpa using h
 have a:(s.data.toList.getD k 0).toNat<128:=by rw[dB s k h];exact g
 have e:=Pl.first_stop s.data.toList k l i b a;have d:=Pl.num_val (s.data.toList.getD k 0) a (s.data.toList.take k) (Pl.all_lead _ k (by omega) b);rw[<-Pl.take_snoc _ k i,dB s k h]at d;have c:(s.data.toList.take k).length=k:=by rw[yu];omega
 rw[c]at d;have n:s[k]=0↔s[k].toNat=0:=by rw[<-Yk];rfl
 rw[n]at d;exact⟨λf=>e.1 (d.2 f),λf=>(e.2 (λm=>d.1 m f)).2⟩
def lQ(b:Nat)(A:4<=b)(s:ByteArray)(S:s.size<=70368744177664)(w J:World)(C:Gl w)(F:Rd b w J s):Calls prog 136 #[U (V ⟨b,0,Y⟩)] J λe w' =>
   (Pl.snd s.data.toList≠0/\e=Z (.int .i64 (Pl.fst s.data.toList:Nat))/\Rd b w w' (s.extract (Pl.snd s.data.toList) s.size))\/(Pl.snd s.data.toList=0/\iO b w e w'):=by
 go_enter func136,ntmps136;go_wp2_with fail;go_loopw [3,4,5,6] (λv _ _ i wr=>∃k:Nat,k<=9/\k<=s.size/\i=.int .i64 k/\v=.int .i64 (Pl.val (s.data.toList.take k))/\(∀j,j<k->128<=(s.data.toList.getD j 0).toNat)/\Rd b w wr (s.extract k s.size)) (λ_ _ _ i _=>9-(intOf i).toNat)
 case atStart=>exact⟨0,by omega,by omega,rfl,rfl,λj h=>absurd h (by omega),by simpa using F⟩
 obtain⟨k,K,P,rfl,rfl,f,r⟩:=hrel;have G:Ha (k=9\/k=s.size->Pl.fst s.data.toList=0/\Pl.snd s.data.toList=0):=λh=>Pl.first_out _ k K (by simpa using P) f (by simpa using h)
 have Q:=Pl.val_lt (s.data.toList.take k);by_cases H:k<9
 ·by_cases l:k<s.size
  ·have B:0<(s.extract k s.size).size:=by rw[Ya];omega
   have q:=zb (wD b (s.extract k s.size) B w wr r);rw[Wo s k l,Wp s k l]at q;have M:s[k].toNat<256:=YF _;clear Q;have t:=zb (Su s k l H);have u:Ha (s[k].toNat<128->((¬(0<k/\s[k].toNat=0)->Pl.fst s.data.toList=Pl.val (s.data.toList.take (k+1))/\Pl.snd s.data.toList=k+1)/\(0<k/\s[k].toNat=0->Pl.snd s.data.toList=0))):=λm=>NC s k H l f m
   go_wp2_with (go_at_call 145;refine q.mono ?_;rintro e w1 ⟨rfl,a⟩;obtain⟨n,p,D⟩:=(C.rd a A).2.1)
   ·rw[t.o];go_roundw
    case rel=>
     refine⟨k+1,by omega,by omega,by go_num,rfl,?_,a⟩;have N:128<=(s[k].toNat:Int):=by assumption
     intro j R;by_cases E:j=k
     ·subst E;rw[dB s j l];omega
     exact f j (by omega)
    simp[intOf];omega
   ·have c:s[k].toNat=0:=by assumption
    have d:0<k:=by assumption
    refine⟨rfl,Or.inr ⟨(u (by omega)).2 ⟨d,c⟩,⟨n,p,rfl⟩,_,a⟩⟩
   ·have c:s[k].toNat=0:=by assumption
    have d:¬0<k:=by assumption
    obtain⟨y,z⟩:=(u (by omega)).1 (λh=>d h.1);have g:=t.o;rw[c,show((0:Nat):Int)=0 from rfl]at g;rw[g];go_ret;exact Or.inl ⟨by omega,LF (by rw[y]),by rw[z];exact a⟩
   have c:¬s[k].toNat=0:=by assumption
   have m:(s[k].toNat:Int)<128:=by assumption
   obtain⟨y,z⟩:=(u (by omega)).1 (λh=>c h.2);rw[t.o];go_ret;exact Or.inl ⟨by omega,LF (by rw[y]),by rw[z];exact a⟩
  have q:=zb (lB b A (s.extract k s.size) (by rw[Ya];omega) w wr C r);have c:=G.o (Or.inr (by omega));have x:=zb c.2;clear c;go_wp2_with (go_at_call 145;refine q.mono ?_;rintro e w1 ⟨⟨n,p,rfl⟩,s1,a⟩);exact⟨rfl,Or.inr ⟨x,⟨n,p,rfl⟩,s1,a⟩⟩
 have x:=zb (G (Or.inl (by omega))).2;obtain⟨n,p,D⟩:=(C.rd r A).2.1;go_wp2_with fail;exact⟨rfl,Or.inr ⟨x,⟨n,p,rfl⟩,_,r⟩⟩
def VR(b:Nat)(w w':World)(l:List UInt8):Prop:=∃t:ByteArray,t.data.toList=l/\t.size<=4194304/\Rd b w w' t
def RJ(b:Nat)(d:4<=b)(l:List UInt8)(w c:World)(f:Gl w)(a:VR b w c l):Calls prog 136 #[U (V ⟨b,0,Y⟩)] c λe w' =>
   (Pl.snd l≠0/\e=Z (.int .i64 (Pl.fst l:Nat))/\VR b w w' (l.drop (Pl.snd l)))\/(Pl.snd l=0/\iO b w e w'):=by
 obtain⟨t,rfl,i,g⟩:=a;refine(lQ b d t (by omega) w c f g).mono ?_
 rintro e w' (⟨h1,h2,h3⟩|h)
 ·exact Or.inl ⟨h1,h2,_,ZF t _,by rw[Ya];omega,h3⟩
 exact Or.inr h
def Av(b:Nat)(c:UInt8)(r:List UInt8)(w g:World)(d:VR b w g (c::r)):Calls prog 145 #[U (V ⟨b,0,Y⟩)] g λe w'=>e=Z (.int .u8 (c.toNat:Int))/\VR b w w' r:=by
 obtain⟨t,f,l,k⟩:=d;have a:0<t.size:=by
  have:t.data.toList.length=t.size:=by simp
  rw[f]at this;simp at this;omega
 have i:t[0]=c:=by
  have:=dB t 0 a
  rw[f]at this;simpa using this.symm
 refine(wD b t a w g k).mono ?_
 rintro e w' ⟨h,j⟩;rw[i]at h;refine⟨h,_,?_,?_,j⟩
 ·rw[ZF,f];rfl
 rw[Ya];omega
def eI(b:Nat)(w:World)(T n:Nat)(r:List UInt8)(e:Ending)(w':World):Prop :=
 match Pl.readN n r with
 |none=>iO b w e w'
 |some (ns,rest)=>e=Z (.iface T (.agg (I ns).toArray))/\VR b w w' rest
variable {l r:List UInt8}
def Hz(h:Pl.snd l=0):Pl.readN (n+1) l=Y:=by simp[Pl.readN,h]
def Hy(h:Pl.snd l≠0):Pl.readN (n+1) l=(Pl.readN n (l.drop (Pl.snd l))).map λp=>(Pl.fst l::p.1,p.2):=by
 simp only[Pl.readN,h,xam]
 cases Pl.readN n (l.drop (Pl.snd l))<;>rfl
def aQ(h:l=r):Ha (Pl.readN n r=(Pl.readN n l).map λp=>p):=by
 subst h;unfold Ha
 cases Pl.readN n l<;>rfl
variable {F:List Nat×List UInt8->List Nat×List UInt8}
def Sj{k:Nat}(h:Pl.readN n r=(Pl.readN (k+1) l).map F)(a:Pl.snd l=0):Pl.readN n r=Y:=by rw[h,Hz a];rfl
def Sg{k:Nat}(h:Pl.readN n r=(Pl.readN (k+1) l).map F)(c:Pl.snd l≠0){f:Nat}{l':List UInt8}(a:f=Pl.fst l)(b:l'=l.drop (Pl.snd l)):Ha (Pl.readN n r=(Pl.readN k l').map λp=>F (f::p.1,p.2)):=by
 unfold Ha;rw[h,Hy c,a,b,Option.map_map];rfl
def Sf(h:Pl.readN n r=(Pl.readN 0 l).map F):Pl.readN n r=V (F ([],l)):=h
def Wh(c:UInt8)(T n:Nat):Prop:=∀(b:Nat) (_:4<=b) (r:List UInt8) (w w0:World) (_:Gl w) (_:VR b w w0 (c::r)),
  Calls prog 95 #[U (V ⟨b,0,Y⟩)] w0 (eI b w T n r)
def viU{G:Prop}(h:G:=by
 obtain⟨f,m⟩:=Xc (Pl.fst l);go_wp2_with fail;refine(RJ b p l w _ q n).mono ?_
 rintro e x (⟨hs,rfl,d⟩|⟨hs,⟨t,v,rfl⟩,d⟩);rotate_left
 ·refine⟨rfl,?_⟩;show eI b w _ _ r _ _;unfold eI;rw[Sj g.o hs];exact⟨⟨t,v,rfl⟩,d⟩
 rw[<-m.o];have g:=Sg g hs m rfl;clear hs n
 first
  |have hd:=Sf g
   clear g;have HD:=zb hd;clear hd;go_wp2_with fail;go_ret;unfold eI;rw[HD.o];exact⟨rfl,d⟩
  |obtain⟨l,i⟩:=Xc (l.drop (Pl.snd l))
   rw[<-i.o]at g d;have n:=d;clear d m i;exact viU):G:=h
def viS{G:Prop}(h:G:=by
 unfold Wh;intro b p r w s q j;have k:=zb (Av _ _ _ _ _ j);rw[c]at k;clear j c;go_enter func95,ntmps95;go_wp2_with fail;refine k.mono ?_
 rintro e x ⟨rfl,d⟩;obtain⟨l,i⟩:=Xc r;have g:=a i;have n:VR b w x l:=by rw[i.o];exact d
 clear d i a k;exact viU):G:=h
def Ph:Wh 1 143 1:=by
 have c:((1:UInt8).toNat:Int)=1:=rfl;have a:=@aQ 1;exact viS
def Ct:Wh 2 146 4:=by
 have c:((2:UInt8).toNat:Int)=2:=rfl;have a:=@aQ 4;exact viS
def Iv:Wh 3 149 3:=by
 have c:((3:UInt8).toNat:Int)=3:=rfl;have a:=@aQ 3;exact viS
def Ir:Wh 4 152 3:=by
 have c:((4:UInt8).toNat:Int)=4:=rfl;have a:=@aQ 3;exact viS
def It:Wh 5 155 5:=by
 have c:((5:UInt8).toNat:Int)=5:=rfl;have a:=@aQ 5;exact viS
def Ep:Wh 6 158 1:=by
 have c:((6:UInt8).toNat:Int)=6:=rfl;have a:=@aQ 1;exact viS
def Mn:Wh 7 160 1:=by
 have c:((7:UInt8).toNat:Int)=7:=rfl;have a:=@aQ 1;exact viS
def Er:Wh 8 163 2:=by
 have c:((8:UInt8).toNat:Int)=8:=rfl;have a:=@aQ 2;exact viS
def Cu:Wh 9 165 2:=by
 have c:((9:UInt8).toNat:Int)=9:=rfl;have a:=@aQ 2;exact viS
def Iu:Wh 10 168 2:=by
 have c:((10:UInt8).toNat:Int)=10:=rfl;have a:=@aQ 2;exact viS
def Mm:Wh 11 171 1:=by
 have c:((11:UInt8).toNat:Int)=11:=rfl;have a:=@aQ 1;exact viS
def Es:Wh 12 174 2:=by
 have c:((12:UInt8).toNat:Int)=12:=rfl;have a:=@aQ 2;exact viS
def Iw(b:Nat)(h:4<=b)(w f:World)(i:Gl w)(a:VR b w f []):Calls prog 95 #[U (V ⟨b,0,Y⟩)] f (iO b w):=by
 obtain⟨t,k,_,j⟩:=a;have d:t.size=0:=by
  have:t.data.toList.length=t.size:=by simp
  rw[k]at this;exact this.symm
 have g:=zb (lB b h t d w f i j);go_enter func95,ntmps95;go_wp2_with fail;refine g.mono ?_
 rintro e w1 ⟨⟨l,m,rfl⟩,c⟩;exact⟨rfl,⟨l,m,rfl⟩,c⟩
def Ix(b:Nat)(A:4<=b)(c:UInt8)(K:c.toNat=0\/13<=c.toNat)(r:List UInt8)(w j:World)(C:Gl w)(d:VR b w j (c::r)):Calls prog 95 #[U (V ⟨b,0,Y⟩)] j (iO b w):=by
 have m:=zb (Av b c r w j d);clear d;have a:∀k:Nat,1<=k->k<=12->((c.toNat:Int)==(k:Int))=false:=by
  intro k H J;rw[xr];omega
 have n:=a 1 (by omega) (by omega);have p:=a 2 (by omega) (by omega);have q:=a 3 (by omega) (by omega);have s:=a 4 (by omega) (by omega);have u:=a 5 (by omega) (by omega);have v:=a 6 (by omega) (by omega);have x:=a 7 (by omega) (by omega);have y:=a 8 (by omega) (by omega);have z:=a 9 (by omega) (by omega);have f:=a 10 (by omega) (by omega);have g:=a 11 (by omega) (by omega);have h:=a 12 (by omega) (by omega);simp only[Int.cast_ofNat_Int]at n p q s u v x y z f g h;clear a;go_enter func95,ntmps95;go_wp2_with fail;refine m.mono ?_
 rintro e w1 ⟨rfl,i⟩;obtain⟨t,M,E,l⟩:=i;obtain⟨F,G,D⟩:=(C.rd l A).1;have B:(c.toNat:Int)<256:=by have:=YF c;omega
 go_wp2_with fail;exact⟨rfl,⟨F,G,rfl⟩,t,l⟩
def PD(b:Nat)(w:World)(a:w.cell? ⟨b,0,Y⟩=V (ve ⟨#[]⟩)):Calls prog 96 #[U (V ⟨b,0,Y⟩)] w λe w'=>e=Z (vd #[])/\w'=w:=by
 go_enter func96,ntmps96;go_wp2_with fail;go_end0;exact⟨rfl,rfl⟩
def PC(b:Nat)(s:ByteArray)(d:s.toList.isEmpty=false)(w:World)(a:w.cell? ⟨b,0,Y⟩=V (ve s))(t:TypeId)(v:Value)(c:w.cell? ⟨3,0,Y⟩=V (.iface t v)):Calls prog 96 #[U (V ⟨b,0,Y⟩)] w λe w'=>e=.panicked [{ v:=.iface t v,recovered:=false }]/\w'=w:=by
 go_enter func96,ntmps96;go_wp2_with fail;exact⟨rfl,rfl,rfl⟩
def fP(p q:Addr)(x:Value)(y:Bool)(u:TypeId)(pv:Value)(a:List PanicEntry)(w:World)(d:w.cell? p=V x)(g:w.frozen? p=false)(b:(w.setCell p .nilIface).cell? q=V (vb y))(c:w.frozen? q=false):CallsD prog 93 #[U (V p),U (V q)] (.panicking ({ v:=.iface u pv,recovered:=false }::a)) w λe h w' =>
   e=Z (vd #[])/\h=.panicking ({ v:=.iface u pv,recovered:=true }::a)/\w'=(w.setCell p .nilIface).setCell q (vb false):=by
 refine xcD func93 rfl λj i f=>?_
 apply wpS_seq
 apply xcw
 simp[wpOpsS,go_sem,recoverD,f,ntmps93,Exit.thenS];refine wpS_cond (t:=true) (by simp[Act.eval,Array.replicate]) ?_
 simp only[YX];apply xcw;simp[wpOpsS,go_sem,d,g,b,c,bodyPostS,results,Tryz.results93]
def Gp(p q:Addr)(w:World):CallsD prog 93 #[U (V p),U (V q)] .returning w λe c w'=>e=Z (vd #[])/\c=.returning/\w'=w:=by
 refine xcD func93 rfl λa d b=>?_
 apply wpS_seq
 apply xcw
 simp[wpOpsS,go_sem,recoverD,b,ntmps93,Exit.thenS];refine wpS_cond (t:=false) (by simp[Act.eval,Array.replicate]) ?_
 simp only[Yg,xam];refine wpS_of_wp (wp_skip ?_)
 cases a;simp_all [bodyPostS,results,Tryz.results93]
def Gl.below(h:Gl w)(k:Below w.heap.size w w'):Gl w':=by
 obtain⟨⟨d,f,a⟩,⟨e,g,b⟩,c⟩:=h;exact⟨⟨d,f,by rw[k.cell (by simp;omega)];exact a⟩,⟨e,g,by rw[k.cell (by simp;omega)];exact b⟩,xi c k.size⟩
abbrev dL(w:World)(s:ByteArray):World:=((w.alloc (X #[.nilIface] 105)).alloc (X #[vb false] 4)).alloc (X #[ve s] 225)
def eS(w:World)(s:ByteArray):Below w.heap.size w (dL w s) :=
 (((xm _ _).alloc (xe _) _).alloc (by simp) _).alloc (by simp;omega) _
def Oe(w:World)(s:ByteArray):Rd (w.heap.size+1+1) (dL w s) (dL w s) s:=Rd.refl (by
 show(((w.heap.push _).push _).push _)[w.heap.size+1+1]?=_;rw[YU,xh (by simp)])
def Rd.frozen_other(h:Rd b w w' s)(a:Addr)(c:a.block≠b):w'.frozen? a=w.frozen? a:=World.frozen?_of_block (w:=w) (h.block a.block c)
def Ff(w:World)(s:ByteArray):(dL w s).heap[w.heap.size]?=V (X #[.nilIface] 105 (0,0)):=by
 show(((w.heap.push _).push _).push _)[w.heap.size]?=_;rw[YU,xg (by simp;omega),YU,xg (by simp),YU,xh rfl]
def Fg(w:World)(s:ByteArray):(dL w s).heap[w.heap.size+1]?=V (X #[vb false] 4 (0,0)):=by
 show(((w.heap.push _).push _).push _)[w.heap.size+1]?=_;rw[YU,xg (by simp),YU,xh (by simp)]
def xL(w:World)(s:ByteArray):(dL w s).cell? ⟨w.heap.size,0,Y⟩=V .nilIface:=by unfold World.cell?;rw[Ff];rfl
def xN(w:World)(s:ByteArray):(dL w s).frozen? ⟨w.heap.size,0,Y⟩=false:=by unfold World.frozen?;rw[Ff];rfl
def xM(w:World)(s:ByteArray):(dL w s).cell? ⟨w.heap.size+1,0,Y⟩=V (vb false):=by unfold World.cell?;rw[Fg];rfl
def xO(w:World)(s:ByteArray):(dL w s).frozen? ⟨w.heap.size+1,0,Y⟩=false:=by unfold World.frozen?;rw[Fg];rfl
def lX(s:ByteArray)(w:World)(n:Gl w)
  (i:Ha (Calls prog 95 #[U (V ⟨w.heap.size+1+1,0,Y⟩)] (dL w s) (iO (w.heap.size+1+1) (dL w s)))) :
  Calls prog 61 #[ve s] w λe w'=>e=Z (vd #[.nilIface,vb false])/\Below w.heap.size w w':=by
 have l:∀(h:Fn) (first cap:Array Value) (w:World),(Instr.makeFunc h first cap).run prog w=.ok (.func h first cap) w:=λ_ _ _ _=>rfl
 go_enter_defers func61,ntmps61
 go_wp2_with (first|(go_at_call 94;go_in)|fail)
 refine i.mono ?_
 rintro e w1 ⟨⟨t,v,rfl⟩,s1,a⟩;refine xcB (f:=93) (args:=#[U (V ⟨w.heap.size,0,Y⟩),U (V ⟨w.heap.size+1,0,Y⟩)]) (by simp) (by simp[go_sem]) ?_
 have c0:w1.cell? ⟨w.heap.size,0,Y⟩=V .nilIface:=by rw[a.other _ (by simp;omega)];exact xL w s
 have c1:w1.cell? ⟨w.heap.size+1,0,Y⟩=V (vb false):=by rw[a.other _ (by simp)];exact xM w s
 have j:w1.frozen? ⟨w.heap.size,0,Y⟩=false:=by rw[a.frozen_other _ (by simp;omega)];exact xN w s
 have k:w1.frozen? ⟨w.heap.size+1,0,Y⟩=false:=by rw[a.frozen_other _ (by simp)];exact xO w s
 have d:(w1.setCell ⟨w.heap.size,0,Y⟩ .nilIface).cell? ⟨w.heap.size+1,0,Y⟩=V (vb false):=by
  rw[xo (w:=w1) (xd _ _ _ _ (by simp))];exact c1
 refine(fP ⟨w.heap.size,0,Y⟩ ⟨w.heap.size+1,0,Y⟩ .nilIface false t v [] w1 c0 j d k).mono ?_
 rintro e p m ⟨rfl,rfl,rfl⟩;have b:((w1.setCell ⟨w.heap.size,0,Y⟩ .nilIface).setCell ⟨w.heap.size+1,0,Y⟩ (vb false)).cell? ⟨w.heap.size,0,Y⟩=V .nilIface:=by
  rw[xo (w:=(w1.setCell ⟨w.heap.size,0,Y⟩ .nilIface)) (xd _ _ _ _ (by simp)),Yt _ _ _ c0]
 have c:((w1.setCell ⟨w.heap.size,0,Y⟩ .nilIface).setCell ⟨w.heap.size+1,0,Y⟩ (vb false)).cell? ⟨w.heap.size+1,0,Y⟩=V (vb false):=Yt _ _ _ d
 have g:Below w.heap.size w ((w1.setCell ⟨w.heap.size,0,Y⟩ .nilIface).setCell ⟨w.heap.size+1,0,Y⟩ (vb false)) :=
  (((eS w s).trans (a.below (by omega))).setCell (by simp) _).setCell (by simp) _
 generalize ((w1.setCell ⟨w.heap.size,0,Y⟩ .nilIface).setCell ⟨w.heap.size+1,0,Y⟩ (vb false))=W at *;simp[Leaves,settle,results,Tryz.results61,go_sem,b,c,g]
def Sk(s:ByteArray)(w:World)(T:TypeId)(v:Value)
  (p:Ha (Calls prog 95 #[U (V ⟨w.heap.size+1+1,0,Y⟩)] (dL w s) λe w'=>e=Z (.iface T v)/\VR (w.heap.size+1+1) (dL w s) w' [])) :
  Calls prog 61 #[ve s] w λe w'=>e=Z (vd #[.iface T v,vb true])/\Below w.heap.size w w':=by
 have A:∀(t:Fn) (first cap:Array Value) (w:World),(Instr.makeFunc t first cap).run prog w=.ok (.func t first cap) w:=λ_ _ _ _=>rfl
 go_enter_defers func61,ntmps61
 go_wp2_with (first|(go_at_call 94;go_in)|fail)
 refine p.mono ?_
 rintro e w1 ⟨rfl,s1,k,_,c⟩;have z:s1=⟨#[]⟩:=by
  apply xaY
  apply xcG.1
  rw[k]
 subst z;have c0:w1.cell? ⟨w.heap.size,0,Y⟩=V .nilIface:=by rw[c.other _ (by simp;omega)];exact xL w s
 have c1:w1.cell? ⟨w.heap.size+1,0,Y⟩=V (vb false):=by rw[c.other _ (by simp)];exact xM w s
 have q:w1.frozen? ⟨w.heap.size,0,Y⟩=false:=by rw[c.frozen_other _ (by simp;omega)];exact xN w s
 have r:w1.frozen? ⟨w.heap.size+1,0,Y⟩=false:=by rw[c.frozen_other _ (by simp)];exact xO w s
 have j:=c.cell;have d:Below w.heap.size w w1:=(eS w s).trans (c.below (by omega));obtain⟨b,a⟩:∃b,b=w1.setCell ⟨w.heap.size,0,Y⟩ (.iface T v):=⟨_,rfl⟩
 have u:b.cell? ⟨w.heap.size,0,Y⟩=V (.iface T v):=by rw[a];exact Yt _ _ _ c0
 have x:b.cell? ⟨w.heap.size+1,0,Y⟩=V (vb false):=by rw[a,xo (w:=w1) (xd _ _ _ _ (by simp))];exact c1
 have y:b.cell? ⟨w.heap.size+1+1,0,Y⟩=V (ve ⟨#[]⟩):=by rw[a,xo (w:=w1) (xd _ _ _ _ (by simp;omega))];exact j
 have C:b.frozen? ⟨w.heap.size,0,Y⟩=false:=by rw[a];simpa using q
 have D:b.frozen? ⟨w.heap.size+1,0,Y⟩=false:=by rw[a];simpa using r
 have n:Below w.heap.size w b:=by rw[a];exact d.setCell (by simp) _
 have l:=zb (PD (w.heap.size+1+1) b y);rw[a]at l;go_wp2_with fail;refine l.mono ?_
 rintro e w2 ⟨rfl,rfl⟩;rw[<-a];clear a c0 c1 q r j d l p k c;go_wp2_with fail;refine xcB (f:=93) (args:=#[U (V ⟨w.heap.size,0,Y⟩),U (V ⟨w.heap.size+1,0,Y⟩)]) (by simp) (by simp[go_sem]) ?_
 refine(Gp ⟨w.heap.size,0,Y⟩ ⟨w.heap.size+1,0,Y⟩ _).mono ?_
 rintro e E B ⟨rfl,rfl,rfl⟩;have m:(b.setCell ⟨w.heap.size,0,Y⟩ (.iface T v)).cell? ⟨w.heap.size+1,0,Y⟩=V (vb false):=by
  rw[xo (w:=b) (xd _ _ _ _ (by simp))];exact x
 have g:((b.setCell ⟨w.heap.size,0,Y⟩ (.iface T v)).setCell ⟨w.heap.size+1,0,Y⟩ (vb true)).cell? ⟨w.heap.size,0,Y⟩=V (.iface T v):=by
  rw[xo (w:=(b.setCell ⟨w.heap.size,0,Y⟩ (.iface T v))) (xd _ _ _ _ (by simp)),Yt _ _ _ u]
 have h:((b.setCell ⟨w.heap.size,0,Y⟩ (.iface T v)).setCell ⟨w.heap.size+1,0,Y⟩ (vb true)).cell? ⟨w.heap.size+1,0,Y⟩=V (vb true):=Yt _ _ _ m
 have i:Below w.heap.size w ((b.setCell ⟨w.heap.size,0,Y⟩ (.iface T v)).setCell ⟨w.heap.size+1,0,Y⟩ (vb true)) :=
  (n.setCell (by simp) _).setCell (by simp) _
 generalize ((b.setCell ⟨w.heap.size,0,Y⟩ (.iface T v)).setCell ⟨w.heap.size+1,0,Y⟩ (vb true))=W at *;simp[Leaves,settle,results,Tryz.results61,go_sem,g,h,i]
def Lt(s:ByteArray)(w:World)(H:Gl w)(d:List UInt8)(j:d≠[])(T:TypeId)(v:Value)
  (u:Ha (Calls prog 95 #[U (V ⟨w.heap.size+1+1,0,Y⟩)] (dL w s) λe w'=>e=Z (.iface T v)/\VR (w.heap.size+1+1) (dL w s) w' d)) :
  Calls prog 61 #[ve s] w λe w'=>e=Z (vd #[.nilIface,vb false])/\Below w.heap.size w w':=by
 have J:∀(A:Fn) (first cap:Array Value) (w:World),(Instr.makeFunc A first cap).run prog w=.ok (.func A first cap) w:=λ_ _ _ _=>rfl
 go_enter_defers func61,ntmps61
 go_wp2_with (first|(go_at_call 94;go_in)|fail)
 refine u.mono ?_
 rintro e w1 ⟨rfl,s1,p,_,c⟩;have t:s1.toList.isEmpty=false:=by
  rw[Yo,p];cases d with
  |nil=>exact absurd rfl j
  |cons=>rfl
 have c0:w1.cell? ⟨w.heap.size,0,Y⟩=V .nilIface:=by rw[c.other _ (by simp;omega)];exact xL w s
 have c1:w1.cell? ⟨w.heap.size+1,0,Y⟩=V (vb false):=by rw[c.other _ (by simp)];exact xM w s
 have y:w1.frozen? ⟨w.heap.size,0,Y⟩=false:=by rw[c.frozen_other _ (by simp;omega)];exact xN w s
 have z:w1.frozen? ⟨w.heap.size+1,0,Y⟩=false:=by rw[c.frozen_other _ (by simp)];exact xO w s
 have n:=c.cell;have g:Below w.heap.size w w1:=(eS w s).trans (c.below (by omega));obtain⟨b,a⟩:∃b,b=w1.setCell ⟨w.heap.size,0,Y⟩ (.iface T v):=⟨_,rfl⟩
 have x:b.cell? ⟨w.heap.size,0,Y⟩=V (.iface T v):=by rw[a];exact Yt _ _ _ c0
 have D:b.cell? ⟨w.heap.size+1,0,Y⟩=V (vb false):=by rw[a,xo (w:=w1) (xd _ _ _ _ (by simp))];exact c1
 have E:b.cell? ⟨w.heap.size+1+1,0,Y⟩=V (ve s1):=by rw[a,xo (w:=w1) (xd _ _ _ _ (by simp;omega))];exact n
 have F:b.frozen? ⟨w.heap.size,0,Y⟩=false:=by rw[a];simpa using y
 have G:b.frozen? ⟨w.heap.size+1,0,Y⟩=false:=by rw[a];simpa using z
 have m:Below w.heap.size w b:=by rw[a];exact g.setCell (by simp) _
 obtain⟨B,C,r⟩:=(H.below m).2.1;have q:=zb (PC (w.heap.size+1+1) s1 t b E B C r);rw[a]at q;go_wp2_with fail;refine q.mono ?_
 rintro e w2 ⟨rfl,rfl⟩;rw[<-a];clear a c0 c1 y z n g q u p c;refine xcB (f:=93) (args:=#[U (V ⟨w.heap.size,0,Y⟩),U (V ⟨w.heap.size+1,0,Y⟩)]) (by simp) (by simp[go_sem]) ?_
 have k:(b.setCell ⟨w.heap.size,0,Y⟩ .nilIface).cell? ⟨w.heap.size+1,0,Y⟩=V (vb false):=by
  rw[xo (w:=b) (xd _ _ _ _ (by simp))];exact D
 refine(fP ⟨w.heap.size,0,Y⟩ ⟨w.heap.size+1,0,Y⟩ (.iface T v) false B C [] b x F k G).mono ?_
 rintro e M K ⟨rfl,rfl,rfl⟩;have h:((b.setCell ⟨w.heap.size,0,Y⟩ .nilIface).setCell ⟨w.heap.size+1,0,Y⟩ (vb false)).cell? ⟨w.heap.size,0,Y⟩=V .nilIface:=by
  rw[xo (w:=(b.setCell ⟨w.heap.size,0,Y⟩ .nilIface)) (xd _ _ _ _ (by simp)),Yt _ _ _ x]
 have i:((b.setCell ⟨w.heap.size,0,Y⟩ .nilIface).setCell ⟨w.heap.size+1,0,Y⟩ (vb false)).cell? ⟨w.heap.size+1,0,Y⟩=V (vb false):=Yt _ _ _ k
 have l:Below w.heap.size w ((b.setCell ⟨w.heap.size,0,Y⟩ .nilIface).setCell ⟨w.heap.size+1,0,Y⟩ (vb false)) :=
  (m.setCell (by simp) _).setCell (by simp) _
 generalize ((b.setCell ⟨w.heap.size,0,Y⟩ .nilIface).setCell ⟨w.heap.size+1,0,Y⟩ (vb false))=W at *;simp[Leaves,settle,results,Tryz.results61,go_sem,h,i,l]
def MQ:Nat->TypeId
 |1=>143|2=>146|3=>149|4=>152|5=>155|6=>158|7=>160|8=>163|9=>165|10=>168|11=>171|_=>174
def ZT(l:List UInt8):Option (Nat×List Nat) :=
 match l with
 |[]=>Y
 |c::r=>if Pl.kindsL c.toNat=[] then Y else
  match Pl.nums r with
  |none=>Y
  |some ns=>if ns.length=(Pl.kindsL c.toNat).length then V (c.toNat,ns) else Y
def EA(w:World)(l:List UInt8)(e:Ending)(w':World):Prop :=
 Below w.heap.size w w' /\
 match ZT l with
 |none=>e=Z (vd #[.nilIface,vb false])
 |some (c,ns)=>e=Z (vd #[.iface (MQ c) (.agg (I ns).toArray),vb true])
def ZM(s:ByteArray)(A:s.size<=4194304)(w:World)(x:Gl w)(c:UInt8)(r:List UInt8)(y:s.data.toList=c::r)(n:Nat)(z:(Pl.kindsL c.toNat).length=n)(u:Pl.kindsL c.toNat≠[])
  (v:Calls prog 95 #[U (V ⟨w.heap.size+1+1,0,Y⟩)] (dL w s) (eI (w.heap.size+1+1) (dL w s) (MQ c.toNat) n r)) :
  Calls prog 61 #[ve s] w (EA w s.data.toList):=by
 have a:ZT s.data.toList=match Pl.nums r with
   |none=>Y
   |some g=>if g.length=(Pl.kindsL c.toNat).length then V (c.toNat,g) else Y:=by
  rw[y];simp only[ZT];rw[xg u]
 cases t:Pl.readN n r with
 |none=>
  have b:ZT s.data.toList=Y:=by
   rw[a]
   cases k:Pl.nums r with
   |none=>rfl
   |some g=>
    by_cases d:g.length=(Pl.kindsL c.toNat).length
    ·have:=(Pl.readN_nums n r g).2 ⟨k,by omega⟩
     rw[t]at this;cases this
    simp[d]
  refine(lX s w x (v.mono λe w' h=>by unfold eI at h;rw[t]at h;exact h)).mono ?_
  rintro e w' ⟨m,q⟩;refine⟨q,?_⟩;rw[b];exact m
 |some p=>
  obtain⟨g,f⟩:=p;have l:Ha (Calls prog 95 #[U (V ⟨w.heap.size+1+1,0,Y⟩)] (dL w s) λe w'=>e=Z (.iface (MQ c.toNat) (.agg (I g).toArray))/\VR (w.heap.size+1+1) (dL w s) w' f) :=
   v.mono λe w' h=>by unfold eI at h;rw[t]at h;exact h
  by_cases i:f=[]
  ·subst i;have k:=(Pl.readN_nums n r g).1 t;have j:ZT s.data.toList=V (c.toNat,g):=by
    rw[a,k.1];simp[k.2,z]
   refine(Sk s w _ _ l).mono ?_
   rintro e w' ⟨m,q⟩;refine⟨q,?_⟩;rw[j];exact m
  have b:ZT s.data.toList=Y:=by
   rw[a]
   cases k:Pl.nums r with
   |none=>rfl
   |some ms=>
    by_cases d:ms.length=(Pl.kindsL c.toNat).length
    ·have:=(Pl.readN_nums n r ms).2 ⟨k,by omega⟩
     rw[t]at this;simp only[yk,Yi]at this;exact absurd this.2 i
    simp[d]
  refine(Lt s w x f i _ _ l).mono ?_
  rintro e w' ⟨m,q⟩;refine⟨q,?_⟩;rw[b];exact m
def yJ(s:ByteArray)(i:s.size<=4194304)(w:World)(d:Gl w):Calls prog 61 #[ve s] w (EA w s.data.toList):=by
 have a:4<=w.heap.size+1+1:=by have:=d.2.2;omega
 have b:Gl (dL w s):=d.below (eS w s);have f:VR (w.heap.size+1+1) (dL w s) (dL w s) s.data.toList:=⟨s,rfl,i,Oe w s⟩
 cases g:s.data.toList with
 |nil=>
  rw[g]at f;refine(lX s w d (Iw _ a _ _ b f)).mono ?_
  rintro e w' ⟨j,k⟩;exact⟨k,j⟩
 |cons c r=>
  rw[g]at f;by_cases m:c.toNat=0\/13<=c.toNat
  ·have n:Pl.kindsL c.toNat=[]:=by
    rcases m with h|h
    ·rw[h];rfl
    unfold Pl.kindsL;split<;>first|rfl|omega
   refine(lX s w d (Ix _ a c m r _ _ b f)).mono ?_
   rintro e w' ⟨j,k⟩;refine⟨k,?_⟩;have:ZT (c::r)=Y:=by simp[ZT,n]
   rw[this];exact j
  rw[<-g];have l:c.toNat=1\/c.toNat=2\/c.toNat=3\/c.toNat=4\/c.toNat=5\/c.toNat=6\/c.toNat=7\/c.toNat=8\/c.toNat=9\/c.toNat=10\/c.toNat=11\/c.toNat=12:=by omega
  rcases l with h|h|h|h|h|h|h|h|h|h|h|h
  ·obtain rfl:c=1:=Yk.1 (by rw[h];rfl);exact ZM s i w d _ r g 1 rfl (by decide) (Ph _ a r _ _ b f)
  ·obtain rfl:c=2:=Yk.1 (by rw[h];rfl);exact ZM s i w d _ r g 4 rfl (by decide) (Ct _ a r _ _ b f)
  ·obtain rfl:c=3:=Yk.1 (by rw[h];rfl);exact ZM s i w d _ r g 3 rfl (by decide) (Iv _ a r _ _ b f)
  ·obtain rfl:c=4:=Yk.1 (by rw[h];rfl);exact ZM s i w d _ r g 3 rfl (by decide) (Ir _ a r _ _ b f)
  ·obtain rfl:c=5:=Yk.1 (by rw[h];rfl);exact ZM s i w d _ r g 5 rfl (by decide) (It _ a r _ _ b f)
  ·obtain rfl:c=6:=Yk.1 (by rw[h];rfl);exact ZM s i w d _ r g 1 rfl (by decide) (Ep _ a r _ _ b f)
  ·obtain rfl:c=7:=Yk.1 (by rw[h];rfl);exact ZM s i w d _ r g 1 rfl (by decide) (Mn _ a r _ _ b f)
  ·obtain rfl:c=8:=Yk.1 (by rw[h];rfl);exact ZM s i w d _ r g 2 rfl (by decide) (Er _ a r _ _ b f)
  ·obtain rfl:c=9:=Yk.1 (by rw[h];rfl);exact ZM s i w d _ r g 2 rfl (by decide) (Cu _ a r _ _ b f)
  ·obtain rfl:c=10:=Yk.1 (by rw[h];rfl);exact ZM s i w d _ r g 2 rfl (by decide) (Iu _ a r _ _ b f)
  ·obtain rfl:c=11:=Yk.1 (by rw[h];rfl);exact ZM s i w d _ r g 1 rfl (by decide) (Mm _ a r _ _ b f)
  obtain rfl:c=12:=Yk.1 (by rw[h];rfl);exact ZM s i w d _ r g 2 rfl (by decide) (Es _ a r _ _ b f)
