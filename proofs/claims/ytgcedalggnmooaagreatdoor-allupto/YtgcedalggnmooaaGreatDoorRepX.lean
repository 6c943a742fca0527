import Derived.Test.YtgcedalggnmooaaGreatDoorWireAX
import Derived.Test.YtgcedalggnmooaaGreatDoorChkAX
import Derived.OrdersHeld
set_option linter.all false
set_option maxRecDepth 100000
set_option maxHeartbeats 1600000
namespace Go.Proofs.YtgcedalggnmooaaGreatDoor
open Go.RowKit
open Tryz
variable {i n:Nat}{w w1:World}
def UG{a:Nat}{l:List UInt8}{x:Int}{b:Value}(c:UInt8)(f:x=(c.toNat:Int))(d:l.length=n)
  (h:w1.ownsRow a 5 1 b (n+1) (U8 l++[.int .u8 x])):w1.ownsRow a 5 1 b (l++[c]).length (U8 (l++[c])):=by
 have e:U8 (l++[c])=U8 l++[.int .u8 x]:=by simp[U8,f]
 rw[e,xc,d];exact h
def CU(a b:Nat)(c:a<9223372036854775808)(d:b<9223372036854775808):bits .and .i64 (a:Int) (b:Int)=((a &&& b:Nat):Int):=by
 have e:a &&& b<2^63:=Nat.and_lt_two_pow _ (by omega);show IntKind.i64.wrap ((BitVec.ofInt 64 (a:Int) &&& BitVec.ofInt 64 (b:Int)).toNat:Int)=_;rw[BitVec.toNat_and,jX a c,jX b d,xbv,bG _ ⟨by omega,by omega⟩]
def PX(m:Nat)(h:m<9223372036854775808):bits .or .u8 (bits .and .i64 (m:Int) 127%256) 128=((m%128+128:Nat):Int):=by
 have e:=CU m 127 h (by omega);rw[show((127:Nat):Int)=127 from rfl,show(127:Nat)=2^7-1 from rfl,xbx]at e;rw[e,show((m%2^7:Nat):Int)%256=((m%128:Nat):Int) from by omega,u8_or128_right _ (by omega) (by omega)];omega
def kN(B:Nat)(v:Value)(l:List UInt8)(n:Nat)(J:n<9223372036854775808)(K:l.length<=1000000)(w:World)(G:B<=w.heap.size)(c:w.ownsRow B 5 1 v l.length (U8 l)):Calls prog 64 #[v,.int .i64 n] w λe w'=>∃v',e=.returned v'/\w'.ownsRow B 5 1 v' (l++Pl.num n).length (U8 (l++Pl.num n))/\Below B w w':=by
 obtain⟨F,D,s,x,y⟩:=XT QB;have E:=Pl.num_len n J;go_enter func64,ntmps64;go_wp2_with fail;go_loopw [0,1] (λt m wr=>∃(C:Nat) (l':List UInt8),m=.int .i64 C/\C<=n/\wr.ownsRow B 5 1 t l'.length (U8 l')/\Ha (l'++Pl.num C=l++Pl.num n)/\B<=wr.heap.size/\Below B w wr) (λ_ m _=>(intOf m).toNat)
 case atStart=>exact⟨n,l,rfl,xe _,c,rfl,G,xm _ _⟩
 clear c;obtain⟨m,l',rfl,M,c,j,p,z⟩:=hrel;have H:l'.length<=1000009:=by
  have:=YK List.length j
  simp at this;omega
 by_cases d:m<128
 ·go_wp2_with (at_builtin;refine Xr _ rfl _ _ 89 rfl B 5 F (.int .u8 0) 1 1 Pu D s x y rfl (by decide) _ _ _ rfl (c.alloc _) ⟨wr.heap.size,0,none⟩ 1 1 [.int .u8 ?bb] rfl rfl ?c1 ?c2 ?c3 ?c4 ?c5 ?_)
  case c1=>exact Zy _ _ _
  case c2=>intro u r;simp at r;subst r;rfl
  case c3=>unfold maxLen;omega
  case c4=>omega
  case c5=>simp;omega
  intro v' w2 b a h;have g:Below B w w2:=(z.alloc p _).grown a (by simp;omega) (λk A=>(c.lt k A).1);have i:=UG (UInt8.ofNat m) (by rw[yp];omega) rfl b;have f:Ha (l'++[UInt8.ofNat m]=l++Pl.num n):=by rw[<-j.o,Pl.num_lt d];rfl
  clear b a c h z j;go_wp2_with fail;go_ret;refine⟨_,rfl,?_,g⟩;rw[<-f.o];exact i
 go_wp2_with (at_builtin;refine Xr _ rfl _ _ 89 rfl B 5 F (.int .u8 0) 1 1 Pu D s x y rfl (by decide) _ _ _ rfl (c.alloc _) ⟨wr.heap.size,0,none⟩ 1 1 [.int .u8 ?b2] rfl rfl ?c1 ?c2 ?c3 ?c4 ?c5 ?_)
 case c1=>exact Zy _ _ _
 case c2=>intro u r;simp at r;subst r;rfl
 case c3=>unfold maxLen;omega
 case c4=>omega
 case c5=>simp;omega
 intro v' w2 b a h;have g:Below B w w2:=(z.alloc p _).grown a (by simp;omega) (λk A=>(c.lt k A).1);have i:=UG (UInt8.ofNat (m%128+128)) (by rw[PX m (by omega),yp];omega) rfl b;have f:Ha ((l'++[UInt8.ofNat (m%128+128)])++Pl.num (m / 128)=l++Pl.num n):=by rw[<-j.o,Pl.num_ge d];simp[Ha]
 have q:B<=w2.heap.size:=by have:=a.size;simp at this;omega
 clear b a c h z j;go_wp2_with fail;go_roundw
 case rel=>exact⟨m / 128,_,by go_num,by omega,i,f,q,g⟩
 simp[intOf];omega
def gI(w:World)(B g n cap:Nat)(l:List UInt8)(b:l.length=n)(h:w.ownsRow B 5 1 (.slice (some ⟨g,0,none⟩) n cap) n (U8 l)):(convert 89 9 (.slice (some ⟨g,0,none⟩) n cap)).run prog w=.ok (.string ⟨l.toArray⟩) w:=by
 have a:=xbe (P:=prog) w 89 9 5 ⟨g,0,none⟩ cap l Pu WW WX (λj d=>by
  have c:(Addr.add ⟨g,0,none⟩ j)=⟨g,j,none⟩:=by
   unfold Addr.add;split<;>simp_all
  rw[c,rP h b j (by omega)];simp[Wc,d])
 rw[b]at a;exact a
def Nw(c:Nat)(b:c<256)(w:World):Calls prog 47 #[.int .u8 (c:Int),.slice none 0 0] w λe w'=>e=.returned (.string ⟨[UInt8.ofNat c].toArray⟩)/\Below w.heap.size w w':=by
 have a:(w.alloc (.cells #[.int .u8 (c:Int)] 5)).ownsRow w.heap.size 5 1 (.slice (some ⟨w.heap.size,0,none⟩) 1 1) 1 (U8 [UInt8.ofNat c]):=by
  have h:=Yb (e:=5) (size:=1) w #[.int .u8 (c:Int)] 1 (xe _) (by unfold maxLen;simp) rfl;have e:U8 [UInt8.ofNat c]=[Value.int .u8 (c:Int)]:=by simp[U8,xaO b]
  rw[e];exact h
 have d:=gI (w.alloc (.cells #[.int .u8 (c:Int)] 5)) w.heap.size w.heap.size 1 1 [UInt8.ofNat c] rfl a;clear a;go_enter func47,ntmps47;go_wp2_with fail;refine YM 1 ?_;rw[xar]
 go_wp2_with fail;go_ret
 exact⟨rfl,(xm _ _).alloc (xe _) _⟩
def JI(c:Nat)(K:c<256)(b cap:Nat)(a:List Nat)(B:∀n∈a,n<9223372036854775808)(W:a.length<=1000)(H:0<a.length)(w:World)(A:b<w.heap.size)
  (r:∀j,j<a.length->w.cell? ⟨b,j,none⟩=some (.int .i64 (a.getD j 0:Nat))) :
  Calls prog 47 #[.int .u8 (c:Int),.slice (some ⟨b,0,none⟩) a.length cap] w λe w'=>e=.returned (.string ⟨(UInt8.ofNat c::Pl.toldB a).toArray⟩)/\Below w.heap.size w w':=by
 have v:(w.alloc (.cells #[.int .u8 (c:Int)] 5)).ownsRow w.heap.size 5 1 (.slice (some ⟨w.heap.size,0,none⟩) 1 1) 1 (U8 [UInt8.ofNat c]):=by
  have h:=Yb (e:=5) (size:=1) w #[.int .u8 (c:Int)] 1 (xe _) (by unfold maxLen;simp) rfl;have e:U8 [UInt8.ofNat c]=[Value.int .u8 (c:Int)]:=by simp[U8,xaO K]
  rw[e];exact h
 have m:=zb v;clear v;generalize UInt8.ofNat c=u at *;go_enter func47,ntmps47;go_wp2_with fail;go_loopw [5,7,12] (λt _ i wr=>∃k:Nat,k<=a.length/\i=.int .i64 k/\wr.ownsRow w.heap.size 5 1 t (u::Pl.toldB (a.take k)).length (U8 (u::Pl.toldB (a.take k)))/\w.heap.size<=wr.heap.size/\Below w.heap.size w wr) (λ_ _ i _=>a.length-(intOf i).toNat)
 case atStart=>exact⟨0,by omega,rfl,m,by simp,(xm _ _).alloc (xe _) _⟩
 clear m;obtain⟨k,T,rfl,l,y,z⟩:=hrel;by_cases f:k<a.length
 ·obtain⟨n,d⟩:∃n,n=a.getD k 0:=⟨_,rfl⟩
  have N:wr.cell? ⟨b,k,none⟩=some (.int .i64 n):=(z.cell (by exact A)).trans (by rw[d];exact r k f);have C:n<9223372036854775808:=by rw[d];exact B _ (by simp[Wc,f])
  have E:(u::Pl.toldB (a.take k)).length<=1000000:=by
   have:=Pl.toldB_len (a.take k) (λx Q=>B x (Yg Q))
   have R:(a.take k).length<=k:=Yw _ _;simp;omega
  have J:Ha (u::Pl.toldB (a.take (k+1))=(u::Pl.toldB (a.take k))++Pl.num n):=by rw[Pl.toldB_take a k f,<-d];rfl
  have G:=zb (kN w.heap.size _ _ n C E wr y l);rw[<-J.o]at G;clear d r B l;go_wp2_with (go_at_call 64;refine G.mono ?_;rintro e w1 ⟨v',rfl,D,q⟩);go_roundw
  case rel=>exact⟨k+1,by omega,by go_num,D,xj y q.size,z.trans q⟩
  simp[intOf];omega
 have s:a.take k=a:=Xy (by omega);rw[s,List.length_cons]at l;obtain⟨g,p,F,S,P⟩:=zG l (by simp);rw[F]at l;rw[F];have M:=gI wr _ g _ p _ (by simp) l;clear l F s;go_wp2_with fail;go_ret;exact⟨rfl,z⟩
def Nums(w:World)(v:Value)(ns:List Nat):Prop :=
 (v=.slice none 0 0/\ns=[])\/∃b cap,v=.slice (some ⟨b,0,none⟩) ns.length cap/\b<w.heap.size/\0<ns.length/\ns.length<=1000/\(∀n∈ns,n<9223372036854775808)/\∀j,j<ns.length->w.cell? ⟨b,j,none⟩=some (.int .i64 (ns.getD j 0:Nat))
def Nums.nil(w:World):Nums w (.slice none 0 0) []:=Or.inl ⟨rfl,rfl⟩
variable {v:Value}
def Nv{a:List Nat}(h:Nums w v a)(c:Nat)(d:c<256):Calls prog 47 #[.int .u8 (c:Int),v] w λe w'=>e=.returned (.string ⟨(UInt8.ofNat c::Pl.toldB a).toArray⟩)/\Below w.heap.size w w':=by
 rcases h with ⟨rfl,rfl⟩|⟨b,cap,rfl,f,g,i,j,k⟩
 ·exact Nw c d w
 exact JI c d b cap a j i g w f k
def Bp(a:Nat)(b:a<4294967296):(BitVec.ofInt 32 (a:Int)).toNat=a:=by
 simp[BitVec.toNat_ofInt];omega
def iK(a b:Nat)(c:a<4294967296)(d:b<4294967296):bits .xor .u32 (a:Int) (b:Int)=((a ^^^ b:Nat):Int):=by
 have e:a ^^^ b<2^32:=xam (by omega) (by omega);show IntKind.u32.wrap ((BitVec.ofInt 32 (a:Int) ^^^ BitVec.ofInt 32 (b:Int)).toNat:Int)=_;rw[BitVec.toNat_xor,Bp a c,Bp b d];simp[IntKind.wrap,IntKind.bits,IntKind.signed];omega
def Qg{v:Nat}(h:v<4294967296):OW v<4294967296:=by
 unfold OW;have a:v*2%4294967296<2^32:=xcB _ (by omega);split
 ·exact xam a (by omega)
 exact a
def RU{v:Nat}(h:v<4294967296):v.testBit 31=(v / 2147483648==1):=by
 rw[xbh];have:v / 2^31<2:=by omega
 rw[show(2147483648:Nat)=2^31 from rfl];by_cases a:v / 2^31=1
 ·simp[a]
 have:v / 2^31=0:=by omega
 simp[this]
def Jh(v:Nat)(c:v<4294967296)(w:World):Calls prog 122 #[.int .u32 (v:Int)] w λe w'=>e=.returned (.int .u32 (OW v:Int))/\w'=w:=by
 have d:=iK (v*2%4294967296) 517762881 (xcB _ (by omega)) (by omega);have b:=RU c;have f:((v:Int) / 2147483648==1)=(v / 2147483648==1):=by
  by_cases h:v / 2147483648=1
  ·have:(v:Int) / 2147483648=1:=by omega
   simp[h,this]
  have:¬(v:Int) / 2147483648=1:=by omega
  rw[xr.2 this,xr.2 h]
 go_enter func122,ntmps122;go_wp2_with fail
 all_goals
  rename_i a;rw[<-b]at a;go_ret;refine⟨?_,rfl⟩;unfold OW
 ·rw[xh a,<-d];simp
 rw[xg (by rw[a];simp)];simp
def CB{v:Nat}(h:v<4294967296):∀j,Mh v j<4294967296
 |0=>h
 |j+1=>Qg (CB h j)
def Qf{v:Nat}(h:v<4294967296)(b:UInt8):Qe v b<4294967296:=CB (show v ^^^ (b.toNat*16777216)<2^32 from xam h (by have:=b.toNat_lt;omega)) 8
def CC:∀(l:List UInt8) (v:Nat),v<4294967296->l.foldl Qe v<4294967296
 |[],_,h=>h
 |b::l,_,h=>CC l _ (Qf h b)
def IG{l:List UInt8}{k:Nat}(a:k<l.length):Av (l.take (k+1))=Qe (Av (l.take k)) (l.getD k 0):=by
 unfold Av;rw[xn a,xbl];simp[Wc,a]
def tW(s:ByteArray)(S:s.size<=70368744177664)(w:World):Calls prog 78 #[.string s] w λe w'=>e=.returned (.string ⟨(nU s.data.toList).toArray⟩)/\Below w.heap.size w w':=by
 obtain⟨l,g⟩:=Ww s.data.toList;have D:s.size=l.length:=by rw[g.o];simp
 rw[<-g.o,MG];go_enter func78,ntmps78;go_wp2_with fail;go_loopw [3,4,7] (λv _ t wr=>w=wr/\∃k:Nat,k<=l.length/\t=.int .i64 k/\v=.int .u32 (Av (l.take k):Int)) (λ_ _ t _=>l.length-(intOf t).toNat)
 case atStart=>exact⟨rfl,0,by omega,rfl,rfl⟩
 obtain⟨rfl,k,R,rfl,rfl⟩:=hrel;by_cases r:k<l.length
 ·obtain⟨b,A⟩:∃b:UInt8,Ha (b=l.getD k 0):=⟨_,rfl⟩
  have m:=zb (IG r);rw[<-A.o]at m;have a:Av (l.take k)<4294967296:=CC _ _ (by omega);obtain⟨v,B⟩:=Ww (Av (l.take k));rw[<-B.o]at a m;rw[<-B.o];have q:k<s.size:=by omega
  have p:s[k].toNat=b.toNat:=by
   rw[A.o,g.o];simp[Wc,ByteArray.getElem_eq_getElem_data,q]
  have H:=b.toNat_lt;have M:bits .xor .u32 (v:Int) ((b.toNat:Int)*16777216)=((v ^^^ (b.toNat*16777216):Nat):Int):=by
   have:=iK v (b.toNat*16777216) a (by omega)
   simpa using this
  have d:Ha (v ^^^ (b.toNat*16777216)<4294967296):=show _<2^32 from xam a (by omega);have c:Ha (Qe v b=Mh (v ^^^ (b.toNat*16777216)) 8):=rfl;generalize v ^^^ (b.toNat*16777216)=x at M d c;go_wp2_with fail;go_loopw [3,17] (λu z wr=>w=wr/\∃j:Nat,j<=8/\z=.int .i64 j/\u=.int .u32 (Mh x j:Int)) (λ_ z _=>8-(intOf z).toNat)
  case atStart=>exact⟨rfl,0,by omega,rfl,rfl⟩
  obtain⟨rfl,j,Q,rfl,rfl⟩:=hrel;have C:=CB d j;have i:=zb (λw=>Jh (Mh x j) C w);have F:Ha (OW (Mh x j)=Mh x (j+1)):=rfl;rw[F.o]at i;obtain⟨y,n⟩:=Ww (Mh x j);rw[<-n.o]at C i;rw[<-n.o];by_cases P:j<8
  ·go_wp2_with (go_at_call 122;refine(i _).mono ?_;rintro e w1 ⟨rfl,rfl⟩)
   go_roundw
   case rel=>exact⟨trivial,j+1,by omega,by go_num,rfl⟩
   simp[intOf];omega
  obtain rfl:j=8:=by omega
  have G:Ha (y=Av (l.take (k+1))):=by unfold Ha;rw[m.o,c.o];exact n
  go_wp2_with fail;go_roundw
  case rel=>exact⟨trivial,k+1,by omega,by go_num,by rw[G.o]⟩
  simp[intOf];omega
 obtain rfl:k=l.length:=by omega
 have a:Av (l.take l.length)<4294967296:=CC _ _ (by omega);rw[Xs]at *;have K:bits .xor .u32 IntKind.u32.max ((Av l:Nat):Int)=((Av l ^^^ 4294967295:Nat):Int):=by
  have:=iK 4294967295 (Av l) (by omega) a
  rw[Nat.xor_comm]at this;exact this
 have N:Av l ^^^ 4294967295<4294967296:=show _<2^32 from xam a (by omega);obtain⟨y,f⟩:=Ww (Av l ^^^ 4294967295);rw[<-f.o]at K N;have E:(w.alloc (.cells #[.int .u8 ((y:Int) / 16777216%256),.int .u8 ((y:Int) / 65536%256),.int .u8 ((y:Int) / 256%256),.int .u8 ((y:Int)%256)] 5)).ownsRow w.heap.size 5 1 (.slice (some ⟨w.heap.size,0,none⟩) 4 4) 4 (U8 (VI y)):=by
  have h:=Yb (e:=5) (size:=1) w #[.int .u8 ((y:Int) / 16777216%256),.int .u8 ((y:Int) / 65536%256),.int .u8 ((y:Int) / 256%256),.int .u8 ((y:Int)%256)] 4 (xe _) (by unfold maxLen;simp) rfl;have e:U8 (VI y)=[Value.int .u8 ((y:Int) / 16777216%256),.int .u8 ((y:Int) / 65536%256),.int .u8 ((y:Int) / 256%256),.int .u8 ((y:Int)%256)]:=by simp[U8,VI]
  rw[e];exact h
 have J:=gI _ w.heap.size w.heap.size 4 4 (VI y) rfl E;clear E;go_wp2_with fail;go_ret;exact⟨by rw[<-f.o];rfl,(xm _ _).alloc (xe _) _⟩
def UI(s:ByteArray):Lib.strCells s=U8 s.data.toList:=rfl
def Lies(w:World)(v v':Value):Prop:=∀k,v'.ownBlock=some k->v.ownBlock=some k\/w.heap.size<=k
def lY{P:Program}(w:World)(c:Nat)(t u ty e:TypeId)(i:TypeInfo)(C:P.underlying t=some (.slice e))(D:P.underlying u=some .string)(z:P.info? e=some i)(H:i.zero=some (.int .u8 0))
  (a:i.size=1) (m:i.bytes=1) (v:Value) (n:Nat) (xs:List Value) (f:w.ownsRow c e 1 v n xs) (s:ByteArray)
  (h:n+s.size<=maxLen) (d:n+s.size<=140737488355328) (l:c<=w.heap.size) :
  ∃v' w',(Builtin.append_ #[t,u] ty #[v,.string s]).run P w=.ok v' w'/\w'.ownsRow c e 1 v' (n+s.size) (xs++Lib.strCells s)/\w.grownBy w' v.ownBlock/\Lies w v v':=by
 obtain⟨v',w',A,K,M,Z⟩:=Lib.run_append_own_string (P:=P) w c t u ty e i C D z H a m v n xs f s h d l;refine⟨v',w',A,K,M,?_⟩;have B:n+s.size<=9223372036854775807:=by simp only[maxLen]at h;omega
 have y:xs.length=n:=by simpa using f.1
 rcases f.2 with ⟨rfl,rfl⟩|⟨g,cap,r,rfl,N,R,S,Q,F,G⟩
 ·have T:xs=[]:=List.eq_nil_of_length_eq_zero y;subst T;obtain⟨W,X,b,E,_,_⟩:=Lib.run_append_own_string (P:=P) w w.heap.size t u ty e i C D z H a m (.slice none 0 0) 0 [] (Xx _ _ _ _) s h d (xe _);rw[A]at b
  cases b;intro k x
  exact Or.inr (E.lt k x).1
 by_cases q:n+s.size<=cap
 ·have J:r.size=cap:=by simpa using F
  have b:=Lib.run_append_room_string (P:=P) w t u ty e i C D z a g n cap r R s q (by omega);rw[A]at b
  cases b;intro k x
  exact Or.inl x
 have p:∀j u,xs[j]?=some u->w.cell? ((⟨g,0,none⟩:Addr).add j)=some u:=f.cells (g:=g) rfl
 have b:=Lib.run_append_grow_string (P:=P) w t u ty e i (.int .u8 0) C D z H ⟨g,0,none⟩ n cap xs (by rw[a];simpa using y) p s (by omega) (by omega) (by rw[m];exact growslice_fits (by omega) (by omega));rw[A]at b
 cases b;intro k x
 cases x;exact Or.inr (xe _)
def cM{P:Program}(w:World){k:Array Oper}{d:List Oper}{o:Oper}{a:Act}{Q:Exit->Act->World->Prop}(p:o.guard=none)(q x:Operand)(t u:TypeId)
  (C:o.op=.call { callee:=.builtin .append,args:=#[q,x],argTypes:=#[t,u] })
  (b:Nat) (e:TypeId) (i:TypeInfo) (F:P.underlying t=some (.slice e)) (G:P.underlying u=some .string) (B:P.info? e=some i) (J:i.zero=some (.int .u8 0))
  (g:i.size=1) (m:i.bytes=1)
  (v:Value) (n:Nat) (xs:List Value) (E:a.eval q=v) (j:w.ownsRow b e 1 v n xs) (s:ByteArray) (H:a.eval x=.string s)
  (l:n+s.size<=maxLen) (c:n+s.size<=140737488355328) (f:b<=w.heap.size)
  (h:∀v' w',w'.ownsRow b e 1 v' (n+s.size) (xs++Lib.strCells s)->w.grownBy w' v.ownBlock->Lies w v v'->wpList P k Q d (a.put o.dst v') w'):wpList P k Q (o::d) a w:=by
 refine wpList_plain p λK A=>?_
 obtain⟨v',w',D,r,y,z⟩:=lY (P:=P) w b t u o.type e i F G B J g m v n xs j s l c f;unfold Oper.wp execOp;simp only[C,resolve,invoke,builtin,Sem.run_bind,Sem.run_pure,Result.andThen_ok,List.map_toArray,Xv,xbd,E,H,D];exact A _ _ (h v' w' r y z)
def Lies.trans{w2:World}{c d:Value}(h:Lies w1 v c)(k:Lies w2 c d)(g:w.heap.size<=w1.heap.size)(f:w1.heap.size<=w2.heap.size):Lies w v d:=λq e=>by
 rcases k q e with a|a
 ·rcases h q a with b|b
  ·exact Or.inl b
  exact Or.inr (by omega)
 exact Or.inr (by omega)
def Gk{w2 i j:World}{g:Value}(c:Below w.heap.size w w1)(d:w1.grownBy w2 v.ownBlock)(m:Lies w1 v g)(a:Below w2.heap.size w2 i)(b:i.grownBy j g.ownBlock):w.grownBy j v.ownBlock:=by
 have s1:=c.size;have s2:=d.size;have s:=a.size;have t:=b.size;refine⟨b.os.trans (a.os.trans (d.os.trans c.os)),b.tape.trans (a.tape.trans (d.tape.trans c.tape)),b.output.trans (a.output.trans (d.output.trans c.output)),by omega,λk l f=>?_⟩;have n:=c.block k l;have p:=d.block k (by omega) f;have q:=a.block k (by omega);have r:=b.block k (by omega) (λe=>by
  rcases m k e.symm with h|h
  ·exact f h.symm
  omega)
 exact r.trans (q.trans (p.trans n))
def iE(B:Nat)(v:Value)(l:List UInt8)(c:ByteArray)(hc:c.size<=8000000)(hl:l.length<=35184372088832)(w:World)(hB:B<=w.heap.size)(ho:w.ownsRow B 5 1 v l.length (U8 l)):Calls prog 54 #[v,.string c] w λe w'=>∃v',e=.returned v'/\w'.ownsRow B 5 1 v' (l++bM c.data.toList).length (U8 (l++bM c.data.toList))/\w.grownBy w' v.ownBlock/\Lies w v v':=by
 obtain⟨i0,Z,D,E,F⟩:=XT QB;have HN:=zb (kN w.heap.size (.slice none 0 0) [] c.size (by omega) (by simp) w (xe _) (Xx _ _ _ _));have a0:=Pl.num_len c.size (by omega);have p:0<(Pl.num c.size).length:=Pl.num_len_pos c.size;have r:Ha (bM c.data.toList=(Pl.num c.size++c.data.toList)++nU (Pl.num c.size++c.data.toList)):=by unfold Ha bM;simp
 go_enter func54,ntmps54;go_wp2_with (go_at_call 64;refine HN.mono ?_;rintro e w1 ⟨v1,rfl,b,d⟩);rw[xaX]at b;obtain⟨g,t,W,hg,R⟩:=zG b p;rw[W]at b;rw[W];have u:=gI w1 _ g _ t _ rfl b;have C:=zg ho d;have H:=zb d;have S:=d.size;clear b W hg R ho d;have f:Ha (((⟨(Pl.num c.size).toArray⟩:ByteArray)++c).data.toList=Pl.num c.size++c.data.toList):=by unfold Ha;simp
 have k:c.data.toList.length=c.size:=by rw[yq];rfl
 have j:Ha (((⟨(Pl.num c.size).toArray⟩:ByteArray)++c).size=(Pl.num c.size).length+c.size):=by
  have h1:((⟨(Pl.num c.size).toArray⟩:ByteArray)++c).size=((⟨(Pl.num c.size).toArray⟩:ByteArray)++c).data.toList.length:=by rw[yq];rfl
  unfold Ha;rw[h1,f.o,xc,k]
 have h:=zb (λw=>tW ((⟨(Pl.num c.size).toArray⟩:ByteArray)++c) (by rw[j.o];omega) w);rw[f.o]at h;have i:Ha ((nU (Pl.num c.size++c.data.toList)).length=4):=eI _;obtain⟨G,M⟩:=Ww (nU (Pl.num c.size++c.data.toList));rw[<-M.o]at h i r;rw[u];clear u;go_wp2_with (at_builtin;refine cM _ rfl _ _ 89 9 rfl B 5 i0 Pu WX Z D E F v l.length (U8 l) rfl C ((⟨(Pl.num c.size).toArray⟩:ByteArray)++c) rfl ?c3 ?c4 ?c5 ?_)
 case c3=>rw[j.o];unfold maxLen;omega
 case c4=>rw[j.o];omega
 case c5=>omega
 intro v2 w2 q m y;have P:Ha (w2.ownsRow B 5 1 v2 (l++(Pl.num c.size++c.data.toList)).length (U8 (l++(Pl.num c.size++c.data.toList)))):=by
  rw[UI,f.o]at q;unfold Ha;rw[xc,xc,k];have e:U8 (l++(Pl.num c.size++c.data.toList))=U8 l++U8 (Pl.num c.size++c.data.toList):=by simp[U8]
  rw[e];exact q
 have J:=zb m;have s:=zb y;have T:w1.heap.size<=w2.heap.size:=m.size;clear q m y C;have n:(l++(Pl.num c.size++c.data.toList)).length=l.length+((Pl.num c.size).length+c.size):=by rw[xc,xc,k]
 go_wp2_with (first
  |(go_at_call 78;refine(h _).mono ?_;rintro e w3 ⟨rfl,a⟩)
  |(at_builtin;refine cM _ rfl _ _ 89 9 rfl B 5 i0 Pu WX Z D E F v2 (l++(Pl.num c.size++c.data.toList)).length (U8 (l++(Pl.num c.size++c.data.toList))) rfl (zg P a) ⟨G.toArray⟩ rfl ?c3 ?c4 ?c5 ?_))
 case c3=>rw[n];show _+G.toArray.size<=_;rw[xbq,i.o];unfold maxLen;omega
 case c4=>rw[n];show _+G.toArray.size<=_;rw[xbq,i.o];omega
 case c5=>have:=a.size;omega
 intro X w4 A x z;have Q:Ha (w4.ownsRow B 5 1 X (l++bM c.data.toList).length (U8 (l++bM c.data.toList))):=by
  unfold Ha;rw[r.o,<-yc l,xc,n];have e:U8 (l++(Pl.num c.size++c.data.toList)++G)=U8 (l++(Pl.num c.size++c.data.toList))++U8 G:=by simp[U8]
  rw[e];have:=A;rw[UI]at this;exact this
 have K:Ha (w.grownBy w4 v.ownBlock):=Gk H J s a x;have N:Ha (Lies w v X):=s.trans z S (xj T a.size);clear A x z a;go_wp2_with fail;go_ret;exact⟨X,rfl,Q,K,N⟩
variable {listed:Array Bool}
section
variable {P:Program}{ops:Array Oper}{Q:Exit->Act->World->Prop}{S:World->Prop}{N:Nat}
def Xp(P:Program)(ops:Array Oper)(Q:Exit->Act->World->Prop)(S:World->Prop)(N:Nat):Nat->Array Bool->Act->World->Prop
 |0,listed,a,w=>Region.ready .any ops listed=[]/\Q .normal a w
 |fuel+1,listed,a,w=>(Region.ready .any ops listed=[]->Q .normal a w) /\
  ∀i∈Region.ready .any ops listed,wpOp P ops Q i (λa' w'=>(i=N\/S w')/\Xp P ops Q S N fuel (listed.setIfInBounds i true) a' w') a w
def mW:∀(fuel:Nat) (b:Array Bool) (a:Act) (w:World),Xp P ops Q S N fuel b a w->wpAny P .any ops Q fuel b a w
 |0,_,_,_,h=>h
 |fuel+1,_,_,_,h=>⟨h.1,λi e=>wpOp_mono (λc w' d=>mW fuel _ c w' d.2) (h.2 i e)⟩
def ShutB(ops:Array Oper)(listed:Array Bool):Prop:=∀j o,ops[j]?=some o->listed.getD j false=true->∀e∈o.after,Region.binds .any e=true->listed.getD e.on false=true
def ShutB.step(h:ShutB ops listed){i:Nat}(l:i∈Region.ready .any ops listed):ShutB ops (listed.setIfInBounds i true):=by
 intro j o g k e f d;by_cases b:i=j
 ·subst b;obtain⟨_,m,c,a⟩:=xcx.1 l;rw[g]at c
  cases c;exact getD_set_true (a e f d)
 rw[getD_set_ne false b]at k;exact getD_set_true (h j o g k e f d)
def sC(ops:Array Oper)(i:Nat):Nat->Nat->Bool
 |0,_=>false
 |n+1,x=>match ops[x]? with
  |some o=>o.after.any λe=>Region.binds .any e&&(e.on==i||sC ops i n e.on)
  |none=>false
def uZ{a:Array Bool}{i:Nat}(k:ShutB ops a)(l:a.getD i false=false):∀(n x:Nat),sC ops i n x=true->∃o,ops[x]?=some o/\∃e∈o.after,Region.binds .any e=true/\a.getD e.on false=false
 |0,_,h=>by simp[sC]at h
 |n+1,x,h=>by
  unfold sC at h
  cases m:ops[x]? with
  |none=>rw[m]at h;simp at h
  |some o=>
   rw[m]at h;simp only[Array.any_eq_true']at h;obtain⟨e,q,d⟩:=h;rw[XK,YB]at d;refine⟨o,rfl,e,q,d.1,?_⟩;rcases d.2 with c|c
   ·rw[Yi]at c;rw[c];exact l
   obtain⟨s,j,p,g,f,b⟩:=uZ k l n e.on c
   cases r:a.getD e.on false with
   |false=>rfl
   |true=>rw[k e.on s j r p g f]at b;cases b
def Mc{x:Nat}(j:ShutB ops listed)(l:listed.getD i true=false)(h:sC ops i n x=true):x ∉ Region.ready .any ops listed:=λp=>by
 have d:listed.getD i false=false:=by
  rcases xai i listed.size with c|c
  ·simpa [c] using l
  simp[xaB c]
 obtain⟨o,m,e,k,g,f⟩:=uZ j d n x h;obtain⟨_,q,b,a⟩:=xcx.1 p;rw[m]at b
 cases b;rw[a e k g]at f
 cases f
def Md{r:Oper}(K:ops[i]?=some r)(hs:Region.noSelect ops=true)(hw:sC ops i n N=true)(a0:i≠N)
  (hQ:∀c a w,Q (.panic c) (a.put r.dst v) w->Q (.panic c) a w):∀(fuel:Nat) (d:Array Bool) (a:Act) (w:World),ShutB ops d ->
   (∀j p,ops[j]?=some p->j≠i->d.getD j true=false->(∀e∈p.after,Region.binds .any e=true->e.on≠i)->r.apart ops p=true) ->
   i∈Region.ready .any ops d->YieldsIf P ops S r v a->S w->Xp P ops Q S N fuel (d.setIfInBounds i true) (a.put r.dst v) w->Xp P ops Q S N (fuel+1) d a w:=by
 intro fuel;induction fuel with
 |zero=>
  intro d a w G _ g C s H;refine⟨λh=>(by rw[h]at g;cases g),λj q=>?_⟩;by_cases f:j=i
  ·subst f;exact C.wpOp K s ⟨Or.inr s,H⟩
  have:=ready_mono q f
  rw[H.1]at this
  cases this
 |succ fuel ih=>
  intro d a w G X g C s H;refine⟨λh=>(by rw[h]at g;cases g),λj q=>?_⟩;by_cases f:j=i
  ·subst f;exact C.wpOp K s ⟨Or.inr s,H⟩
  have M:j≠N:=λe=>Mc G (xcx.1 g).1 hw (e ▸ q)
  have h1:=H.2 j (ready_mono q f);obtain⟨y,p,m,u⟩:=xcx.1 q;have T:∀e∈p.after,Region.binds .any e=true->e.on≠i:=λe he hb J=>by
   have B:=u e he hb;have W:=(xcx.1 g).1;rw[J]at B;rcases xai i d.size with E|E
   ·simp[E]at W B;rw[W]at B;cases B
   simp[xaB E]at B
  have l:=Region.noSelect_spec hs;have h2:=wpOp_putIf m (X j p m f y T) (λD b=>l i r D b K) (λD b=>l j p D b m) hQ C h1;refine wpOp_mono (λZ w' F=>?_) h2;have t:=F.2.1.resolve_left M;refine⟨Or.inr t,ih (d.setIfInBounds j true) Z w' (G.step q) (λk ok hk R A z=>X k ok hk R ?_ z) (ready_mono g (Yl f)) F.1 t ?_⟩
  ·by_cases x:j=k
   ·subst x;exact y
   rw[getD_set_ne true x]at A;exact A
  rw[Array.setIfInBounds_comm _ _ f];exact F.2.2
def uQ(o:Oper):Bool:=match o.op with
 | .move _|.load _ _|.fieldAddr _ _ _|.indexAddr _ _ _|.build _ _|.binOp _ _ _ _ _=>true
 | .nilCheck _|.pick _ _ _|.lookup _ _ _ _=>true
 |_=>false
def Tq(ops:Array Oper)(N n:Nat):Nat->Nat->Array Bool->Bool
 |0,_,_=>true
 |m+1,k,listed=>(Region.ready .any ops listed).contains k&&Region.free .any ops listed k&&sC ops k n N&&k != N&&Tq ops N n m (k+1) (listed.setIfInBounds k true)
def yV:Nat->Nat->Array Bool->Array Bool
 |0,_,listed=>listed
 |m+1,k,listed=>yV m (k+1) (listed.setIfInBounds k true)
end
structure Wd(S:World->Prop) where
 w:World
 h:S w
def YV(P:Program)(s:Sem Next):Prop:=∀w nx w',s.run P w=.ok nx w'->∃u,nx=.value u
def cE{P:Program}(u:Value):YV P (pure (.value u)):=λw a w' h=>by rw[Sem.run_pure]at h;cases h;exact⟨_,rfl⟩
def dU{P:Program}{A:Type}(s:Sem A)(f:A->Sem Next)(c:∀a,YV P (f a)):YV P (s >>= f):=λw d w' h=>by
 rw[Sem.run_bind]at h
 cases b:s.run P w with
 |ok a w1=>rw[b]at h;exact c a w1 d w' h
 |halt x w1=>rw[b]at h;simp[Result.andThen]at h
def oO{P:Program}:YV P (runtimePanic .nilDeref:Sem Next):=λw a w' h=>by
 simp[go_sem]at h
variable {o:Oper}
def DC{P:Program}{ρ:Operand->Value}(h:uQ o=true):YV P (execOp ρ o):=by
 unfold uQ at h;unfold execOp;split at h<;>rename_i a<;>simp only[a]
 ·exact cE _
 ·exact dU _ _ (λ_=>cE _)
 ·exact dU _ _ (λ_=>cE _)
 ·exact dU _ _ (λ_=>cE _)
 ·exact dU _ _ (λ_=>cE _)
 ·exact dU _ _ (λ_=>cE _)
 ·split
  ·exact oO
  ·exact oO
  ·exact oO
  ·split
   ·exact oO
   ·refine dU _ _ (λ_=>dU _ _ (λb=>?_));by_cases c:(b != some false)=true
    ·rw[xh c];exact dU _ _ (λ_=>cE _)
    rw[xg c];exact cE _
   exact cE _
  exact cE _
 ·exact dU _ _ (λ_=>cE _)
 ·exact dU _ _ (λ_=>cE _)
 cases h
variable {a:Act}
section
variable {P:Program}{ops:Array Oper}{Q:Exit->Act->World->Prop}{S:World->Prop}{N:Nat}
def sD(g:uQ o=true)(i:Region.wanted o (yielded ops a.tmps)=true)(h:∀w,S w->o.quietAt P a S w v):YieldsIf P ops S o v a:=by
 refine Or.inl ⟨i,λw f=>?_⟩;have b:=h w f;unfold Oper.quietAt at b
 cases c:(execOp a.eval o).run P w with
 |ok nx w' =>
  obtain⟨u,rfl⟩:=DC g w nx w' c;rw[c]at b;obtain⟨d,e⟩:=b;rw[d,e]
 |halt x w' =>
  rw[c]at b;exact b.elim
def Me(n:Nat)(t:Region.noSelect ops=true)(s:∀c (a:Act) d v w,Q (.panic c) (a.put d v) w->Q (.panic c) a w):∀(l:List Oper) (k fuel:Nat) (b:Array Bool) (a:Act) (w:World),(∀j o,l[j]?=some o->ops[k+j]?=some o)->(∀o∈l,uQ o=true)->Tq ops N n l.length k b=true->ShutB ops b->S w ->
   wpQuiet P ops S (λg=>Xp P ops Q S N fuel (yV l.length k b) g w) l a->Xp P ops Q S N (fuel+l.length) b a w
 |[],_,_,_,_,_,_,_,_,_,_,h=>h
 |o::l,k,fuel,b,a,w,hl,hp,hB,hc,hS,h=>by
  have r:ops[k]?=some o:=by simpa using hl 0 o (by simp)
  simp only[List.length_cons,Tq,XK]at hB;obtain⟨⟨⟨⟨A,u⟩,C⟩,y⟩,i⟩:=hB;have f:k∈Region.ready .any ops b:=by simpa using A
  have m:k≠N:=by simpa using y
  have p:∀j o,l[j]?=some o->ops[k+1+j]?=some o:=λj o x=>by
   have:=hl (j+1) o (by simpa using x)
   rw[show k+1+j=k+(j+1) by omega];exact this
  have step:∀v,YieldsIf P ops S o v a->wpQuiet P ops S (λg=>Xp P ops Q S N fuel (yV l.length (k+1) (b.setIfInBounds k true)) g w) l (a.put o.dst v)->Xp P ops Q S N (fuel+(l.length+1)) b a w:=λv D q=>
   Md r t C m (λc a w=>s c a _ _ w) (fuel+l.length) b a w hc (Region.free_spec r u) f D hS
    (Me n t s l (k+1) fuel _ _ w p (λo z=>hp o (xae _ z)) i (hc.step f) hS q)
  by_cases e:Region.wanted o (yielded ops a.tmps)=true
  ·rw[wpQuiet,xh e]at h;obtain⟨v,B,q⟩:=h;exact step v (sD (hp o (List.mem_cons_self)) e B) q
  rw[wpQuiet,xg e]at h;exact step undef (Or.inr ⟨by simpa using e,rfl⟩) h
def tM{id m:Nat}{l r:List Oper}(N:Nat)(S:World->Prop)(t:P.follows .mixedOrders=true)(y:Region.noSelect (l++r).toArray=true)(q:∀c (a:Act) d v w,Q (.panic c) (a.put d v) w->Q (.panic c) a w)
  (x:l.all uQ=true) (p:Tq (l++r).toArray N n l.length 0 (Array.replicate (l++r).length false)=true) (g:r.length=m) (s:S w.drew)
  (h:wpQuiet P (l++r).toArray S (λi=>Xp P (l++r).toArray Q S N m (yV l.length 0 (Array.replicate (l++r).length false)) i w.drew) l a):(Code.region id (l++r).toArray true).wp P Q a w:=by
 refine wp_region_any t (mW (S:=S) (N:=N) _ _ _ _ ?_);have e:(l++r).toArray.size=m+l.length:=by simp[g];omega
 rw[e];have k:Array.replicate (m+l.length) false=Array.replicate (l++r).length false:=by congr 1;simp[g];omega
 rw[k];refine Me n y q l 0 m _ a _ (λj o f=>?_) (λo u=>xak.1 x o u) p ?_ s h
 ·simp only[Yz,List.getElem?_toArray];rw[XH (xbS.1 f).1];exact f
 intro j o _ b;simp[Array.getElem?_replicate]at b;split at b<;>simp at b
def zw{id m:Nat}{L:List Oper}(k N:Nat)(S:World->Prop)(p:P.follows .mixedOrders=true)(t:Region.noSelect L.toArray=true)(i:∀c (a:Act) d v w,Q (.panic c) (a.put d v) w->Q (.panic c) a w)
  (q:(L.take k).all uQ=true) (g:Tq L.toArray N n k 0 (Array.replicate L.length false)=true) (b:(L.take k).length=k) (s:(L.drop k).length=m) (j:S w.drew)
  (h:wpQuiet P L.toArray S (λf=>Xp P L.toArray Q S N m (yV k 0 (Array.replicate L.length false)) f w.drew) (L.take k) a):(Code.region id L.toArray true).wp P Q a w:=by
 have e:=yu k L;have:=tM (P:=P) (id:=id) (n:=n) (m:=m) (l:=L.take k) (r:=L.drop k) (a:=a) (w:=w) (Q:=Q) N S p (by rw[e];exact t) i q (by rw[e,b];exact g) s j (by rw[e,b];exact h);rw[e]at this;exact this
def zR{fuel:Nat}(d:Region.ready .any ops listed=[i])(k:ops[i]?=some o)(g:o.guard=none)
  (h:∀K:Act->World->Prop,(∀a w,(i=N\/S w)->Xp P ops Q S N fuel (listed.setIfInBounds i true) a w->K a w)->o.wp P a w K Q):Xp P ops Q S N (fuel+1) listed a w:=by
 refine⟨λc=>(by rw[d]at c;cases c),λj b=>?_⟩;rw[d]at b;simp only[XN]at b;subst b;unfold wpOp;simp only[k];have l:Region.wanted o (yielded ops a.tmps)=true:=by simp[Region.wanted,g]
 rw[xh l];exact Or.inl (h _ (λa w e f=>⟨e,f⟩))
def bO(b:Region.ready .any ops listed=[])(h:Q .normal a w):Xp P ops Q S N 0 listed a w:=⟨b,h⟩
end
def Wi(n:Nat):Bool:=decide (1<=n)&&decide (n<=2147483647)
def Ig(n:Nat):Pl.mayB 105 n=Wi n:=by simp[Pl.mayB,Wi]
def Ic(n:Nat):Pl.mayB 99 n=Wi n:=by simp[Pl.mayB,Wi]
def Ie(n:Nat):Pl.mayB 100 n=decide (n<=2147483647):=by simp[Pl.mayB]
def Ih(n:Nat):Pl.mayB 119 n=decide (n<=3):=by simp[Pl.mayB]
def wX(b cap:Nat)(a:List Nat)(E:a.length<=3)(r:∀n∈a,n<9223372036854775808)(w:World)
  (p:∀j,j<a.length->w.cell? ⟨b,j,none⟩=some (.int .i64 (a.getD j 0:Nat))) :
  Calls prog 282 #[.slice (some ⟨b,0,none⟩) a.length cap] w λe w'=>e=.returned (.bool (a.all Wi))/\w'=w:=by
 go_enter func282,ntmps282;go_wp2_with fail;go_loop [4,7] (λ_ i=>∃k:Nat,k<=a.length/\i=.int .i64 k/\(∀j,j<k->Wi (a.getD j 0)=true)) (λ_ i=>a.length-(intOf i).toNat)
 case atStart=>exact⟨0,by omega,rfl,λj h=>absurd h (by omega)⟩
 obtain⟨k,D,rfl,d⟩:=hrel;by_cases l:k<a.length
 ·obtain⟨n,c⟩:∃n,n=a.getD k 0:=⟨_,rfl⟩
  have z:w.cell? ⟨b,k,none⟩=some (.int .i64 n):=by rw[c];exact p k l
  have A:n<9223372036854775808:=by rw[c];exact r _ (by simp[Wc,l])
  have f:n∈a:=by rw[c];simp[Wc,l]
  have t:=zb f;have u:=zb c;clear p c r f;by_cases g:1<=n/\n<=2147483647
  ·obtain⟨v,y⟩:=g;go_wp2_with fail;go_round
   case rel=>
    refine⟨k+1,by omega,by go_num,?_⟩;intro j s;by_cases q:j=k
    ·subst q;rw[<-u.o];simp[Wi,v,y]
    exact d j (by omega)
   simp[intOf];omega
  have m:Ha (a.all Wi=false):=by
   cases B:a.all Wi
   ·rfl
   have:=xak.1 B n t
   simp only[Wi,XK,XI]at this;exact absurd this g
  rcases(show n<1\/2147483647<n from by omega) with h|h
  all_goals
   clear g;go_wp2_with fail;go_ret;exact⟨by rw[m.o];rfl,rfl⟩
 have m:Ha (a.all Wi=true):=by
  apply xak.2
  intro x C;obtain⟨j,s,rfl⟩:=xw C;have:=d j (by omega);simpa [Wc,s] using this
 clear p r;go_wp2_with fail;go_ret;exact⟨by rw[m.o];rfl,rfl⟩
def Cw(w1:World)(a:List Nat)(t:TypeId)(b:Nat)(c:b=w1.heap.size):∀j,j<a.length->(w1.alloc (.cells (I a).toArray t)).cell? ⟨b,j,none⟩=some (.int .i64 (a.getD j 0:Nat)):=by
 intro j d;subst c;rw[xbp];simp[I,Wc,d]
def JF(w:World)(B:Nat)(b:B=w.heap.size){a:Nat}(c:a<9223372036854775808):Ha (Calls prog 282 #[.slice (some ⟨B,0,none⟩) 1 1] (w.alloc (.cells #[.int .i64 a] 2)) λe w'=>e=.returned (.bool ([a].all Wi))/\w'=w.alloc (.cells #[.int .i64 a] 2)):=by
 exact wX B 1 [a] (by simp) (by simp;omega) (w.alloc (.cells #[.int .i64 a] 2)) (by exact Cw w [a] 2 B b)
def JG(w:World)(B:Nat)(c:B=w.heap.size){a:Nat}{b:Nat}(d:a<9223372036854775808)(f:b<9223372036854775808):Ha (Calls prog 282 #[.slice (some ⟨B,0,none⟩) 2 2] (w.alloc (.cells #[.int .i64 a,.int .i64 b] 2)) λe w'=>e=.returned (.bool ([a,b].all Wi))/\w'=w.alloc (.cells #[.int .i64 a,.int .i64 b] 2)):=by
 exact wX B 2 [a,b] (by simp) (by simp;omega) (w.alloc (.cells #[.int .i64 a,.int .i64 b] 2)) (by exact Cw w [a,b] 2 B c)
def Uj(w:World)(B:Nat)(d:B=w.heap.size){a:Nat}{b:Nat}{c:Nat}(f:a<9223372036854775808)(g:b<9223372036854775808)(h:c<9223372036854775808):Ha (Calls prog 282 #[.slice (some ⟨B,0,none⟩) 3 3] (w.alloc (.cells #[.int .i64 a,.int .i64 b,.int .i64 c] 2)) λe w'=>e=.returned (.bool ([a,b,c].all Wi))/\w'=w.alloc (.cells #[.int .i64 a,.int .i64 b,.int .i64 c] 2)):=by
 exact wX B 3 [a,b,c] (by simp) (by simp;omega) (w.alloc (.cells #[.int .i64 a,.int .i64 b,.int .i64 c] 2)) (by exact Cw w [a,b,c] 2 B d)
def CV(a:Nat)(d:a<9223372036854775808)(w:World):Calls prog 279 #[.agg #[.int .i64 a]] w λe w'=>e=.returned (.bool (Pl.mays (Pl.kindsL 1) [a]))/\Below w.heap.size w w':=by
 have b:Ha (Pl.mays (Pl.kindsL 1) [a]=(true&&decide (a<=2147483647))):=by
  show Pl.mays [100] [a]=_;simp[Pl.mays,Ig,Ic,Ie,Ih,Yf]
 rcases(show a<=2147483647\/2147483647<a from by omega) with c|c
 all_goals
  go_enter func279,ntmps279;go_wp2_with (first|(go_at_call 283;go_in)|(go_at_call 280;go_in)|fail);go_ret;refine⟨aM (by simp only[b.o];try (rw[Ys];simp[Wi];try omega)),?_⟩;exact(xm _ _).alloc (xe _) _
def qP(a b c d:Nat)(j:a<9223372036854775808)(k:b<9223372036854775808)(r:c<9223372036854775808)(hd:d<9223372036854775808)(w:World):Calls prog 281 #[.agg #[.int .i64 a,.int .i64 b,.int .i64 c,.int .i64 d]] w λe w'=>e=.returned (.bool (Pl.mays (Pl.kindsL 2) [a,b,c,d]))/\Below w.heap.size w w':=by
 have f:=JG (w.alloc (.cells #[.int .i64 a,.int .i64 b,.int .i64 c,.int .i64 d] 146)) (w.heap.size+1) (by simp) j k;have h:Ha (Pl.mays (Pl.kindsL 2) [a,b,c,d]=(([a,b].all Wi)&&Wi c&&decide (d<=2147483647))):=by
  show Pl.mays [105,105,99,100] [a,b,c,d]=_;simp[Pl.mays,Ig,Ic,Ie,Ih,Yf]
 generalize g:[a,b].all Wi=q at f;have i:=zb g;clear g
 cases q;rotate_left
 rcases(show c<1\/(1<=c/\c<=2147483647)\/2147483647<c from by omega) with l|⟨m,n⟩|l
 rotate_left
 rcases(show d<=2147483647\/2147483647<d from by omega) with p|p
 all_goals
  go_enter func281,ntmps281;go_wp2_with (first|(go_at_call 282;refine f.mono ?_;rintro e w1 ⟨rfl,rfl⟩)|(go_at_call 283;go_in)|(go_at_call 280;go_in)|fail);go_ret;refine⟨aM (by simp only[h.o,i.o];try (rw[Ys];simp[Wi];try omega)),?_⟩;exact((xm _ _).alloc (xe _) _).alloc (by simp) _
def wT(a b c:Nat)(i:a<9223372036854775808)(j:b<9223372036854775808)(n:c<9223372036854775808)(w:World):Calls prog 284 #[.agg #[.int .i64 a,.int .i64 b,.int .i64 c]] w λe w'=>e=.returned (.bool (Pl.mays (Pl.kindsL 3) [a,b,c]))/\Below w.heap.size w w':=by
 have d:=JG (w.alloc (.cells #[.int .i64 a,.int .i64 b,.int .i64 c] 149)) (w.heap.size+1) (by simp) i j;have g:Ha (Pl.mays (Pl.kindsL 3) [a,b,c]=(([a,b].all Wi)&&Wi c)):=by
  show Pl.mays [105,105,99] [a,b,c]=_;simp[Pl.mays,Ig,Ic,Ie,Ih,Yf]
 generalize f:[a,b].all Wi=q at d;have h:=zb f;clear f
 cases q;rotate_left
 rcases(show c<1\/(1<=c/\c<=2147483647)\/2147483647<c from by omega) with k|⟨l,m⟩|k
 all_goals
  go_enter func284,ntmps284;go_wp2_with (first|(go_at_call 282;refine d.mono ?_;rintro e w1 ⟨rfl,rfl⟩)|(go_at_call 283;go_in)|(go_at_call 280;go_in)|fail);go_ret;refine⟨aM (by simp only[g.o,h.o];try (rw[Ys];simp[Wi];try omega)),?_⟩;exact((xm _ _).alloc (xe _) _).alloc (by simp) _
def wQ(a b c:Nat)(i:a<9223372036854775808)(j:b<9223372036854775808)(k:c<9223372036854775808)(w:World):Calls prog 285 #[.agg #[.int .i64 a,.int .i64 b,.int .i64 c]] w λe w'=>e=.returned (.bool (Pl.mays (Pl.kindsL 4) [a,b,c]))/\Below w.heap.size w w':=by
 have d:=Uj (w.alloc (.cells #[.int .i64 a,.int .i64 b,.int .i64 c] 152)) (w.heap.size+1) (by simp) i j k;have g:Ha (Pl.mays (Pl.kindsL 4) [a,b,c]=(([a,b,c].all Wi))):=by
  show Pl.mays [105,105,105] [a,b,c]=_;simp[Pl.mays,Ig,Ic,Ie,Ih,Yf]
 generalize f:[a,b,c].all Wi=q at d;have h:=zb f;clear f
 cases q
 all_goals
  go_enter func285,ntmps285;go_wp2_with (first|(go_at_call 282;refine d.mono ?_;rintro e w1 ⟨rfl,rfl⟩)|(go_at_call 283;go_in)|(go_at_call 280;go_in)|fail);go_ret;refine⟨aM (by simp only[g.o,h.o];try (rw[Ys];simp[Wi];try omega)),?_⟩;exact((xm _ _).alloc (xe _) _).alloc (by simp) _
def wR(a b c d f:Nat)(k:a<9223372036854775808)(l:b<9223372036854775808)(t:c<9223372036854775808)(hd:d<9223372036854775808)(u:f<9223372036854775808)(w:World):Calls prog 286 #[.agg #[.int .i64 a,.int .i64 b,.int .i64 c,.int .i64 d,.int .i64 f]] w λe w'=>e=.returned (.bool (Pl.mays (Pl.kindsL 5) [a,b,c,d,f]))/\Below w.heap.size w w':=by
 have g:=JG (w.alloc (.cells #[.int .i64 a,.int .i64 b,.int .i64 c,.int .i64 d,.int .i64 f] 155)) (w.heap.size+1) (by simp) k l;have i:Ha (Pl.mays (Pl.kindsL 5) [a,b,c,d,f]=(([a,b].all Wi)&&Wi c&&decide (d<=2147483647)&&decide (f<=3))):=by
  show Pl.mays [105,105,99,100,119] [a,b,c,d,f]=_;simp[Pl.mays,Ig,Ic,Ie,Ih,Yf]
 generalize h:[a,b].all Wi=q at g;have j:=zb h;clear h
 cases q;rotate_left
 rcases(show c<1\/(1<=c/\c<=2147483647)\/2147483647<c from by omega) with m|⟨n,p⟩|m
 rotate_left
 rcases(show d<=2147483647\/2147483647<d from by omega) with r|r
 rotate_right
 rotate_left
 rcases(show f<=3\/3<f from by omega) with s|s
 all_goals
  go_enter func286,ntmps286;go_wp2_with (first|(go_at_call 282;refine g.mono ?_;rintro e w1 ⟨rfl,rfl⟩)|(go_at_call 283;go_in)|(go_at_call 280;go_in)|fail);go_ret;refine⟨aM (by simp only[i.o,j.o];try (rw[Ys];simp[Wi];try omega)),?_⟩;exact((xm _ _).alloc (xe _) _).alloc (by simp) _
def tH(a:Nat)(g:a<9223372036854775808)(w:World):Calls prog 287 #[.agg #[.int .i64 a]] w λe w'=>e=.returned (.bool (Pl.mays (Pl.kindsL 6) [a]))/\Below w.heap.size w w':=by
 have b:=JF (w.alloc (.cells #[.int .i64 a] 158)) (w.heap.size+1) (by simp) g;have d:Ha (Pl.mays (Pl.kindsL 6) [a]=(([a].all Wi))):=by
  show Pl.mays [105] [a]=_;simp[Pl.mays,Ig,Ic,Ie,Ih,Yf]
 generalize c:[a].all Wi=q at b;have f:=zb c;clear c
 cases q
 all_goals
  go_enter func287,ntmps287;go_wp2_with (first|(go_at_call 282;refine b.mono ?_;rintro e w1 ⟨rfl,rfl⟩)|(go_at_call 283;go_in)|(go_at_call 280;go_in)|fail);go_ret;refine⟨aM (by simp only[d.o,f.o];try (rw[Ys];simp[Wi];try omega)),?_⟩;exact((xm _ _).alloc (xe _) _).alloc (by simp) _
def AQ(a:Nat)(g:a<9223372036854775808)(w:World):Calls prog 288 #[.agg #[.int .i64 a]] w λe w'=>e=.returned (.bool (Pl.mays (Pl.kindsL 7) [a]))/\Below w.heap.size w w':=by
 have b:=JF (w.alloc (.cells #[.int .i64 a] 160)) (w.heap.size+1) (by simp) g;have d:Ha (Pl.mays (Pl.kindsL 7) [a]=(([a].all Wi))):=by
  show Pl.mays [105] [a]=_;simp[Pl.mays,Ig,Ic,Ie,Ih,Yf]
 generalize c:[a].all Wi=q at b;have f:=zb c;clear c
 cases q
 all_goals
  go_enter func288,ntmps288;go_wp2_with (first|(go_at_call 282;refine b.mono ?_;rintro e w1 ⟨rfl,rfl⟩)|(go_at_call 283;go_in)|(go_at_call 280;go_in)|fail);go_ret;refine⟨aM (by simp only[d.o,f.o];try (rw[Ys];simp[Wi];try omega)),?_⟩;exact((xm _ _).alloc (xe _) _).alloc (by simp) _
def tI(a b:Nat)(h:a<9223372036854775808)(i:b<9223372036854775808)(w:World):Calls prog 289 #[.agg #[.int .i64 a,.int .i64 b]] w λe w'=>e=.returned (.bool (Pl.mays (Pl.kindsL 8) [a,b]))/\Below w.heap.size w w':=by
 have c:=JG (w.alloc (.cells #[.int .i64 a,.int .i64 b] 163)) (w.heap.size+1) (by simp) h i;have f:Ha (Pl.mays (Pl.kindsL 8) [a,b]=(([a,b].all Wi))):=by
  show Pl.mays [105,105] [a,b]=_;simp[Pl.mays,Ig,Ic,Ie,Ih,Yf]
 generalize d:[a,b].all Wi=q at c;have g:=zb d;clear d
 cases q
 all_goals
  go_enter func289,ntmps289;go_wp2_with (first|(go_at_call 282;refine c.mono ?_;rintro e w1 ⟨rfl,rfl⟩)|(go_at_call 283;go_in)|(go_at_call 280;go_in)|fail);go_ret;refine⟨aM (by simp only[f.o,g.o];try (rw[Ys];simp[Wi];try omega)),?_⟩;exact((xm _ _).alloc (xe _) _).alloc (by simp) _
def qQ(a b:Nat)(h:a<9223372036854775808)(i:b<9223372036854775808)(w:World):Calls prog 290 #[.agg #[.int .i64 a,.int .i64 b]] w λe w'=>e=.returned (.bool (Pl.mays (Pl.kindsL 9) [a,b]))/\Below w.heap.size w w':=by
 have c:=JG (w.alloc (.cells #[.int .i64 a,.int .i64 b] 165)) (w.heap.size+1) (by simp) h i;have f:Ha (Pl.mays (Pl.kindsL 9) [a,b]=(([a,b].all Wi))):=by
  show Pl.mays [105,105] [a,b]=_;simp[Pl.mays,Ig,Ic,Ie,Ih,Yf]
 generalize d:[a,b].all Wi=q at c;have g:=zb d;clear d
 cases q
 all_goals
  go_enter func290,ntmps290;go_wp2_with (first|(go_at_call 282;refine c.mono ?_;rintro e w1 ⟨rfl,rfl⟩)|(go_at_call 283;go_in)|(go_at_call 280;go_in)|fail);go_ret;refine⟨aM (by simp only[f.o,g.o];try (rw[Ys];simp[Wi];try omega)),?_⟩;exact((xm _ _).alloc (xe _) _).alloc (by simp) _
def wS(a b:Nat)(h:a<9223372036854775808)(l:b<9223372036854775808)(w:World):Calls prog 291 #[.agg #[.int .i64 a,.int .i64 b]] w λe w'=>e=.returned (.bool (Pl.mays (Pl.kindsL 10) [a,b]))/\Below w.heap.size w w':=by
 have c:=JF (w.alloc (.cells #[.int .i64 a,.int .i64 b] 168)) (w.heap.size+1) (by simp) h;have f:Ha (Pl.mays (Pl.kindsL 10) [a,b]=(([a].all Wi)&&Wi b)):=by
  show Pl.mays [105,99] [a,b]=_;simp[Pl.mays,Ig,Ic,Ie,Ih,Yf]
 generalize d:[a].all Wi=q at c;have g:=zb d;clear d
 cases q;rotate_left
 rcases(show b<1\/(1<=b/\b<=2147483647)\/2147483647<b from by omega) with i|⟨j,k⟩|i
 all_goals
  go_enter func291,ntmps291;go_wp2_with (first|(go_at_call 282;refine c.mono ?_;rintro e w1 ⟨rfl,rfl⟩)|(go_at_call 283;go_in)|(go_at_call 280;go_in)|fail);go_ret;refine⟨aM (by simp only[f.o,g.o];try (rw[Ys];simp[Wi];try omega)),?_⟩;exact((xm _ _).alloc (xe _) _).alloc (by simp) _
def AP(a:Nat)(g:a<9223372036854775808)(w:World):Calls prog 292 #[.agg #[.int .i64 a]] w λe w'=>e=.returned (.bool (Pl.mays (Pl.kindsL 11) [a]))/\Below w.heap.size w w':=by
 have b:=JF (w.alloc (.cells #[.int .i64 a] 171)) (w.heap.size+1) (by simp) g;have d:Ha (Pl.mays (Pl.kindsL 11) [a]=(([a].all Wi))):=by
  show Pl.mays [105] [a]=_;simp[Pl.mays,Ig,Ic,Ie,Ih,Yf]
 generalize c:[a].all Wi=q at b;have f:=zb c;clear c
 cases q
 all_goals
  go_enter func292,ntmps292;go_wp2_with (first|(go_at_call 282;refine b.mono ?_;rintro e w1 ⟨rfl,rfl⟩)|(go_at_call 283;go_in)|(go_at_call 280;go_in)|fail);go_ret;refine⟨aM (by simp only[d.o,f.o];try (rw[Ys];simp[Wi];try omega)),?_⟩;exact((xm _ _).alloc (xe _) _).alloc (by simp) _
def tJ(a b:Nat)(h:a<9223372036854775808)(j:b<9223372036854775808)(w:World):Calls prog 293 #[.agg #[.int .i64 a,.int .i64 b]] w λe w'=>e=.returned (.bool (Pl.mays (Pl.kindsL 12) [a,b]))/\Below w.heap.size w w':=by
 have c:=JF (w.alloc (.cells #[.int .i64 a,.int .i64 b] 174)) (w.heap.size+1) (by simp) h;have f:Ha (Pl.mays (Pl.kindsL 12) [a,b]=(([a].all Wi)&&decide (b<=2147483647))):=by
  show Pl.mays [105,100] [a,b]=_;simp[Pl.mays,Ig,Ic,Ie,Ih,Yf]
 generalize d:[a].all Wi=q at c;have g:=zb d;clear d
 cases q;rotate_left
 rcases(show b<=2147483647\/2147483647<b from by omega) with i|i
 all_goals
  go_enter func293,ntmps293;go_wp2_with (first|(go_at_call 282;refine c.mono ?_;rintro e w1 ⟨rfl,rfl⟩)|(go_at_call 283;go_in)|(go_at_call 280;go_in)|fail);go_ret;refine⟨aM (by simp only[f.o,g.o];try (rw[Ys];simp[Wi];try omega)),?_⟩;exact((xm _ _).alloc (xe _) _).alloc (by simp) _
