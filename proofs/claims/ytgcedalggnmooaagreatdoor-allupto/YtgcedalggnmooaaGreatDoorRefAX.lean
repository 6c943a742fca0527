import Derived.Test.YtgcedalggnmooaaGreatDoorProg
import Derived.Test.YtgcedalggnmooaaGreatDoorPlain
import Derived.WalkSpells
import Derived.WalkLawsBesides
import Derived.BigQuiet
set_option linter.all false
set_option maxRecDepth 100000
set_option maxHeartbeats 800000
namespace Go.Proofs.YtgcedalggnmooaaGreatDoor
open Go.RowKit
open Tryz
def xd:=@RowKit.Below.heap_setCell
def xm:=@RowKit.Below.refl
def xo:=@World.cell?_of_block
def xp:=@heap_alloc_new
def xu:=@heap_setCell_same
def Xr:=@wpList_append_own
def Xx:=@World.ownsRow_nil
def XA:=@below_drewN
def XG:=@World.ownsMap.lt
def XT:=@info_parts
def yd:=@ByteArray.toList_eq
def yi:=@wpQuiet_nil
def yl:=@RowKit.Below.heap_alloc
def ym:=@World.cell?_setCell_same
def Yb:=@World.ownsRow_lit
def Yj:=@World.ownsMap.tidy
def Yp:=@World.ownsMap.update
def Yt:=@cell_two_new
def YM:=@wp_loop_rounds
def YO:=@ByteArray.mk_append_mk
def YT:=@Calls.quiet_of_same
def YY:=@ByteArray.size_mk'
def xaf:=@World.ownsMap.len
def xao:=@Maps.has_put_other
def xar:=@rounds_succ
def xaD:=@Maps.has_del_other
def xaE:=@plainElem_int
def xaG:=@World.ownsMap.look_ok
def xaI:=@Maps.has_del_same
def xaU:=@World.ownsMap.lookup_int
def xaZ:=@unitElem_mk
def xbe:=@run_convert_bytes_back
def xbn:=@Maps.has_put_same
def xbp:=@World.cell?_alloc_mark
def xbv:=@IntWalk.i64_left
def xbH:=@World.ownsMap.isMap
def xbM:=@callsIn_wide
def xbO:=@World.ownsMap.drop
def xbQ:=@wpS_region
def xbT:=@RowKit.run_makeMap
def xbX:=@leaves_cons
def xbZ:=@callsD_of_wpS
def xcl:=@World.size_alloc
def xco:=@unitElem_inv
def xcs:=@Maps.sameKey_ne
def xcx:=@mem_ready
def zb{p:Prop}(h:p):Ha p:=h
def Ww{α:Sort _}(e:α):∃x,Ha (x=e):=⟨_,rfl⟩
variable {base cap g n:Nat}{v:Value}{w:World}{xs:List Value}
def zg{w1:World}{e:TypeId}{size:Nat}(h:w.ownsRow base e size v n xs)(a:Below w.heap.size w w1):w1.ownsRow base e size v n xs :=
 h.kept (row:=none) ⟨a.os,a.tape,a.output,a.size,λk b _=>a.block k b⟩ (by cases v.ownBlock<;>simp)
def Zy(w1:World)(x:Value)(t:TypeId):∀(j:Nat) (u:Value),[x][j]?=some u->(w1.alloc (.cells #[x] t)).cell? (Addr.add ⟨w1.heap.size,0,none⟩ j)=some u:=by
 intro j u a;match j,a with
 |0,a=>
  simp at a;subst a;have b:(Addr.add ⟨w1.heap.size,0,none⟩ 0)=⟨w1.heap.size,0,none⟩:=by simp[Addr.add]
  rw[b,xbp];rfl
def WW:prog.underlying 5=some (.int .u8):=by kernel_rfl
def WX:prog.underlying 9=some .string:=by kernel_rfl
def Pu:prog.underlying 89=some (.slice 5):=by kernel_rfl
def Le{a b:List UInt8}(h:a=b):Ending.returned (.string ⟨a.toArray⟩)=.returned (.string ⟨b.toArray⟩):=by rw[h]
def IF(a:World)(x:Int)(f:0<=x)(g:x<256)(b:Nat×Nat):(convert 89 9 (.slice (some ⟨a.heap.size,0,none⟩) 1 1)).run prog (a.alloc (.cells #[.int .u8 x] 5 b))=.ok (.string ⟨#[UInt8.ofNat x.toNat]⟩) (a.alloc (.cells #[.int .u8 x] 5 b)):=by
 have e:((UInt8.ofNat x.toNat).toNat:Int)=x:=by
  rw[yp];omega
 refine xbe (P:=prog) (a.alloc (.cells #[.int .u8 x] 5 b)) 89 9 5 ⟨a.heap.size,0,none⟩ 1 [UInt8.ofNat x.toNat] Pu WW WX ?_
 intro j d;have:j=0:=by simpa using d
 subst this;have c:(Addr.add ⟨a.heap.size,0,none⟩ 0)=⟨a.heap.size,0,none⟩:=by simp[Addr.add]
 rw[c,xbp,List.getElem_cons_zero,e];rfl
def mP(n:Int)(a:0<=n)(c:n<128)(w:World):Calls prog 76 #[.int .i64 n] w λe w'=>e=.returned (.string ⟨(Pl.num n.toNat).toArray⟩)/\Below w.heap.size w w':=by
 have b:=IF w n a (by omega) (0,0);go_enter func76,ntmps76;go_wp2;go_ret;refine⟨?_,?_⟩
 ·exact Le (by rw[Pl.num_lt (by omega)])
 exact(xm _ _).alloc (xe _) _
def lN:∀(k:Nat) (n:Int),n.toNat<=k->0<=n->n<=9223372036854775807->∀(w:World),
  Calls prog 76 #[.int .i64 n] w λe w'=>e=.returned (.string ⟨(Pl.num n.toNat).toArray⟩)/\Below w.heap.size w w':=by
 intro k;induction k with
 |zero=>intro n j a l w;exact mP n a (by omega) w
 |succ k ih=>
  intro n j a l w;by_cases h:n<128
  ·exact mP n a h w
  have H:=ih (n / 128) (by omega) (by omega) (by omega);have d:Ha (∀(w:World),Calls prog 76 #[.int .i64 (n / 128)] w λe w'=>e=.returned (.string ⟨(Pl.num (n / 128).toNat).toArray⟩)/\Below w.heap.size w w'):=H;clear ih H;have m:=Pl.num_len (n / 128).toNat (by omega);go_enter func76,ntmps76;go_wp2_with (go_at_call 76;refine(d _).mono ?_;rintro e w1 ⟨rfl,c⟩;have i:=IF w1 (n%128+128) (by omega) (by omega) (0,0));go_ret;refine⟨?_,?_⟩
  ·have f:(n%128+128).toNat=n.toNat%128+128:=by omega
   have g:(n / 128).toNat=n.toNat / 128:=by omega
   rw[Pl.num_ge (n:=n.toNat) (by omega),<-f,<-g];exact YK (λb=>Ending.returned (.string b)) (YO [UInt8.ofNat (n%128+128).toNat] (Pl.num (n / 128).toNat))
  exact c.alloc c.size _
def bG(n:Int)(h:-9223372036854775808<=n/\n<=9223372036854775807):wrap64 n=n:=by unfold wrap64;omega
def oJ{a b c d:Int}(e:a=c)(f:b=d):Ending.returned (.tuple #[.int .i64 a,.int .i64 b])=.returned (.tuple #[.int .i64 c,.int .i64 d]):=by rw[e,f]
def cZ(s:ByteArray)(k:Nat)(h:k<s.size):s.data.toList.getD k 0=s[k]:=by
 have a:k<s.data.toList.length:=by simpa using h
 rw[Wc,xi a];rfl
def mL(s:ByteArray)(n:Nat):(s.extract 0 n).toList=s.data.toList.take n:=by
 rw[yd,YL];simp
def RF(s:ByteArray)(k:Nat)(h:k<s.size)(i:k<9):wrap64 (↑(Pl.val (List.take k s.data.toList))+wrap64 ((wrap64 ↑s[k].toNat).tmod 128*2^(7*k)))=(Pl.val (s.data.toList.take (k+1)):Int):=by
 have j:s[k].toNat<256:=yz _;rw[bG (s[k].toNat:Int) ⟨by omega,by omega⟩];have d:(s[k].toNat:Int).tmod 128=((s[k].toNat%128:Nat):Int):=by
  rw[xaM (by omega)];omega
 have e:(2:Int)^(7*k)=((128^k:Nat):Int):=by
  rw[Int.pow_mul];norm_cast
 have g:=Pl.val_take_lt s.data.toList (k+1) (by omega);have b:=Pl.take_snoc s.data.toList k (by simpa using h);have a:(s.data.toList.take k).length=k:=by rw[XL,show s.data.toList.length=s.size from by simp];omega
 have c:=Pl.val_snoc (s.data.toList.getD k 0) (s.data.toList.take k);rw[<-b,cZ s k h,a]at c;rw[d,e,<-Int.natCast_mul];have f:s[k].toNat%128*128^k<=Pl.val (s.data.toList.take (k+1)):=by rw[c];omega
 rw[bG ((s[k].toNat%128*128^k:Nat):Int) ⟨by omega,by omega⟩,<-Int.natCast_add,<-c,bG _ ⟨by omega,by omega⟩]
def AF(s:ByteArray)(z:s.size<=4194304)(w:World):Calls prog 87 #[.string s] w λe w'=>e=.returned (.tuple #[.int .i64 (Pl.fst s.data.toList),.int .i64 (Pl.snd s.data.toList)])/\Below w.heap.size w w':=by
 go_enter func87,ntmps87;go_wp2_with fail;go_loopw [4,5] (λv i wr=>∃k:Nat,k<=9/\k<=s.size/\i=.int .i64 k/\v=.int .i64 (Pl.val (s.data.toList.take k))/\(∀j,j<k->128<=(s.data.toList.getD j 0).toNat)/\Below w.heap.size w wr) (λ_ i _=>9-(intOf i).toNat)
 case atStart=>exact⟨0,by omega,by omega,rfl,rfl,λj h=>absurd h (by omega),xm _ _⟩
 obtain⟨k,r,u,rfl,rfl,b,c⟩:=hrel;have A:=Pl.val_lt (s.data.toList.take k);have q:Ha (k=9\/k=s.size->Pl.fst s.data.toList=0/\Pl.snd s.data.toList=0):=λh=>Pl.first_out _ k r (by simpa using u) b (by simpa using h)
 by_cases d:k<s.size
 ·by_cases m:k<9
  ·have p:Ha (wrap64 (↑(Pl.val (List.take k s.data.toList))+wrap64 ((wrap64 ↑s[k].toNat).tmod 128*2^(7*k)))=(Pl.val (s.data.toList.take (k+1)):Int)):=RF s k d m;have x:=Pl.val_take_lt s.data.toList (k+1) (by omega);go_wp2_with fail
   ·rw[p.o];refine(lN _ _ (xe _) (by omega) (by omega) _).mono ?_
    rintro e w1 ⟨rfl,f⟩;rw[xbf];go_wp2_with fail
    ·have l:(Pl.num (Pl.val (List.take (k+1) s.data.toList))==(s.extract 0 (k+1)).toList)=true:=by assumption
     have g:(s[k].toNat:Int)<128:=by assumption
     have a:=(Pl.first_stop s.data.toList k m (by simpa using d) b (by rw[cZ s k d];omega)).1 (by rw[mL]at l;exact eq_of_beq l);go_ret2;exact⟨oJ (by rw[a.1]) (by rw[a.2];omega),c.trans (f.mono c.size)⟩
    have l:(Pl.num (Pl.val (List.take (k+1) s.data.toList))==(s.extract 0 (k+1)).toList)=false:=by assumption
    have g:(s[k].toNat:Int)<128:=by assumption
    have a:=(Pl.first_stop s.data.toList k m (by simpa using d) b (by rw[cZ s k d];omega)).2 (by rw[mL]at l;exact ne_of_beq_false l);go_ret2;exact⟨oJ (by rw[a.1];rfl) (by rw[a.2];rfl),c.trans (f.mono c.size)⟩
   rw[p.o];refine⟨⟨k+1,by omega,by omega,by go_num,rfl,?_,c⟩,by simp[intOf];omega⟩;have t:128<=(s[k].toNat:Int):=by assumption
   intro j y;by_cases n:j=k
   ·subst n;rw[cZ s j d];omega
   exact b j (by omega)
  go_wp2_with fail;go_ret2
  have:=q.o (Or.inl (by omega))
  exact⟨oJ (by rw[this.1];rfl) (by rw[this.2];rfl),c⟩
 go_wp2_with fail;go_ret2
 have:=q.o (Or.inr (by omega))
 exact⟨oJ (by rw[this.1];rfl) (by rw[this.2];rfl),c⟩
def yE:prog.underlying 55=some (.slice 3):=by kernel_rfl
def Gq:(prog.info? 3).map (λi=>(i.zero,i.size,i.bytes))=some (some (.int .i64 0),1,8):=by kernel_rfl
def TB:Value->ByteArray|.string s=>s|_=>ByteArray.empty
def I(ns:List Nat):List Value:=ns.map λ(n:Nat)=>Value.int .i64 n
def ZA(s:ByteArray)(n:Nat):(s.extract n s.size).data.toList=s.data.toList.drop n:=by
 rw[YL];simp[xbC];rw[Xy (by simp)]
def UQ{a:List Nat}{w1:World}{b:Value}
  (h:w1.ownsRow base 3 1 b (a.length+1) (I a++[.int .i64 n])):w1.ownsRow base 3 1 b (a++[n]).length (I (a++[n])):=by
 have e:I (a++[n])=I a++[.int .i64 n]:=by simp[I]
 rw[e,xc];exact h
def rA(s:ByteArray)(X:s.size<=4194304)(w:World):Calls prog 66 #[.string s] w λe w'=>Below w.heap.size w w' /\
   ((∃c v,Pl.nums s.data.toList=some c/\e=.returned (.tuple #[v,.bool true])/\w'.ownsRow w.heap.size 3 1 v c.length (I c)) \/
    (Pl.nums s.data.toList=none/\e=.returned (.tuple #[.slice none 0 0,.bool false]))):=by
 obtain⟨W,R,B,C,D⟩:=XT Gq;go_enter func66,ntmps66;go_wp2_with fail;go_loopw [0,4] (λt o wr=>∃(E:ByteArray) (c:List Nat),t=.string E/\wr.ownsRow w.heap.size 3 1 o c.length (I c)/\c.length+E.size<=s.size/\Ha (Pl.nums s.data.toList=(Pl.nums E.data.toList).map (c++·))/\Below w.heap.size w wr) (λt _ _=>(TB t).size)
 case atStart=>exact⟨s,[],rfl,Xx _ _ _ _,by simp,(by simp[Ha]),xm _ _⟩
 obtain⟨t,c,rfl,b,J,i,h⟩:=hrel;by_cases j:t.toList.isEmpty=true
 ·go_wp2_with fail;have q:t.data.toList=[]:=by rw[yd]at j;simpa using j
  go_ret2;refine⟨h,Or.inl ⟨c,_,?_,rfl,b⟩⟩
  rw[i.o,q,Pl.nums_nil];simp
 obtain⟨f,m⟩:∃f,f=Pl.fst t.data.toList:=⟨_,rfl⟩
 obtain⟨n,r⟩:∃n,n=Pl.snd t.data.toList:=⟨_,rfl⟩
 have y:=AF t (by omega) wr;rw[<-m,<-r]at y;have p:t.data.toList≠[]:=by rw[yd]at j;simpa using j
 have K:n<=t.size:=by rw[r];have:=Pl.snd_le t.data.toList;simpa using this
 have G:Ha (n=0->Pl.nums s.data.toList=none):=λl=>by
  rw[i.o,Pl.nums_none p (by omega)];rfl
 have H:Ha (n≠0->Pl.nums s.data.toList=(Pl.nums (t.data.toList.drop n)).map ((c++[f])++·)):=λl=>by
  rw[i.o,Pl.nums_cons p (by omega),<-m,<-r]
  cases Pl.nums (List.drop n t.data.toList)<;>simp
 have N:Ha (f=Pl.fst t.data.toList):=m;have Q:f<9223372036854775808:=by rw[m];exact Pl.fst_lt _
 have F:=zb y;clear m r y i;by_cases l:n=0
 ·subst l;go_wp2_with (go_at_call 87;refine F.mono ?_;rintro e w1 ⟨rfl,a⟩);go_ret2;exact⟨h.trans (a.mono h.size),Or.inr ⟨G (by trivial),rfl⟩⟩
 have P:((n:Int)==0)=false:=by simpa using l
 go_wp2_with (first
  |(go_at_call 87;refine F.mono ?_;rintro e w1 ⟨rfl,a⟩)
  |(at_builtin;refine Xr _ rfl _ _ 55 rfl (w.heap.size) 3 W (.int .i64 0) 1 8 yE R B C D rfl (by decide) _ _ _ rfl ((zg b a).alloc _) ⟨w1.heap.size,0,none⟩ 1 1 [.int .i64 f] rfl rfl ?c1 ?c2 ?c3 ?c4 ?c5 ?_))
 case c1=>exact Zy _ _ _
 case c2=>intro u M;simp at M;subst M;rfl
 case c3=>unfold maxLen;omega
 case c4=>omega
 case c5=>have:=h.size;have:=a.size;simp;omega
 intro v' w2 g d A;have z:Below w.heap.size w w2:=((h.trans (a.mono h.size)).alloc (by have:=h.size;have:=a.size;omega) _).grown d (by have:=h.size;have:=a.size;simp;omega) (λk S=>(b.lt k S).1);have T:=UQ g;have x:Ha (Pl.nums s.data.toList=(Pl.nums (t.extract n t.size).data.toList).map ((c++[f])++·)):=by rw[ZA];exact H l
 clear g d b A N G H h a;go_wp2_with fail;go_roundw
 case rel=>exact⟨_,c++[f],rfl,T,by simp;omega,x,z⟩
 simp[TB];omega
def OP(w:World):Calls prog 53 #[.slice none 0 0] w λe w'=>e=.returned (.string ⟨#[]⟩)/\w'=w:=by
 go_enter func53,ntmps53;go_wp2_with fail;refine YM 1 ?_;rw[xar]
 go_wp2_with fail;go_ret
 exact⟨rfl,rfl⟩
def kG(b cap:Nat)(a:List Nat)(l:∀n∈a,n<9223372036854775808)(B:a.length<=4194304)(w:World)(h:b<w.heap.size)
  (q:∀j,j<a.length->w.cell? ⟨b,j,none⟩=some (.int .i64 (a.getD j 0:Nat))) :
  Calls prog 53 #[.slice (some ⟨b,0,none⟩) a.length cap] w λe w'=>e=.returned (.string ⟨(Pl.toldB a).toArray⟩)/\Below w.heap.size w w':=by
 go_enter func53,ntmps53;go_wp2_with fail;go_loopw [3,4] (λt i wr=>∃k:Nat,k<=a.length/\i=.int .i64 k/\t=.string ⟨(Pl.toldB (a.take k)).toArray⟩/\Below w.heap.size w wr) (λ_ i _=>a.length-(intOf i).toNat)
 case atStart=>exact⟨0,by omega,rfl,rfl,xm _ _⟩
 obtain⟨k,A,rfl,rfl,f⟩:=hrel;by_cases d:k<a.length
 ·obtain⟨n,c⟩:∃n,n=a.getD k 0:=⟨_,rfl⟩
  have s:wr.cell? ⟨b,k,none⟩=some (.int .i64 n):=(f.cell (by exact h)).trans (by rw[c];exact q k d);have m:n<9223372036854775808:=by rw[c];exact l _ (by simp[Wc,d])
  have z:=Pl.num_len n m;have u:(Pl.toldB (a.take k)).length<=9*4194304:=by
   have:=Pl.toldB_len (a.take k) (λx v=>l x (Yg v))
   have y:(a.take k).length<=k:=Yw _ _;omega
  have r:Ha (Pl.toldB (a.take (k+1))=Pl.toldB (a.take k)++Pl.num n):=by rw[Pl.toldB_take a k d,<-c];rfl
  have p:=zb (lN _ (n:Int) (xe _) (by omega) (by omega) wr);rw[xbf]at p;clear c q l;go_wp2_with (go_at_call 76;refine p.mono ?_;rintro e w1 ⟨rfl,g⟩);go_roundw
  case rel=>exact⟨k+1,by omega,by go_num,by rw[r.o];exact YK Value.string (YO _ _),f.trans (g.mono f.size)⟩
  simp[intOf];omega
 go_wp2_with fail;go_ret
 exact⟨Le (by rw[Xy (by omega)]),f⟩
def aM{a b:Bool}(h:a=b):Ending.returned (.bool a)=.returned (.bool b):=by rw[h]
def RX{k c:UInt8}(h:¬k=c):((k.toNat:Int)==(c.toNat:Int))=false:=by
 rw[xr];intro e;exact h (ya.1 (by omega))
def qY(k:UInt8)(n:Nat)(j:n<9223372036854775808)(w:World):Calls prog 67 #[.int .u8 (k.toNat:Int),.int .i64 n] w λe w'=>e=.returned (.bool (Pl.mayB k n))/\w'=w:=by
 by_cases a:k=105
 ·subst a;rcases(show n=0\/(1<=n/\n<=2147483647)\/2147483647<n from by omega) with h|h|h
  all_goals
   go_enter func67,ntmps67;go_wp2_with fail;go_ret;exact⟨aM (by rw[Ys];simp[Pl.mayB];try omega),rfl⟩
 by_cases b:k=99
 ·subst b;rcases(show n=0\/(1<=n/\n<=2147483647)\/2147483647<n from by omega) with h|h|h
  all_goals
   go_enter func67,ntmps67;go_wp2_with fail;go_ret;exact⟨aM (by rw[Ys];simp[Pl.mayB];try omega),rfl⟩
 by_cases c:k=100
 ·subst c;rcases(show n<=2147483647\/2147483647<n from by omega) with h|h
  all_goals
   go_enter func67,ntmps67;go_wp2_with fail;go_ret;exact⟨aM (by rw[Ys];simp[Pl.mayB];try omega),rfl⟩
 have f:((k.toNat:Int)==105)=false:=RX a;have g:((k.toNat:Int)==99)=false:=RX b;have i:((k.toNat:Int)==100)=false:=RX c;have d:Ha (Pl.mayB k n=decide (n<=3)):=by simp[Ha,Pl.mayB,a,b,c]
 clear a b c;rcases(show n<=3\/3<n from by omega) with h|h
 all_goals
  go_enter func67,ntmps67;go_wp2_with fail;go_ret;exact⟨aM (by rw[d.o,Ys];simp;try omega),rfl⟩
def JO(c:Nat)(h:c=0\/13<=c)(b:c<256)(w:World):Calls prog 65 #[.int .i64 c] w λe w'=>e=.returned (.string ⟨(Pl.kindsL c).toArray⟩)/\Below w.heap.size w w':=by
 have a:Pl.kindsL c=[]:=by
  rcases h with rfl|h
  ·rfl
  unfold Pl.kindsL;split<;>first|rfl|omega
 rw[a];rcases h with rfl|h
 all_goals
  go_enter func65,ntmps65;go_wp2_with fail;go_ret;exact⟨rfl,(xm _ _).alloc (xe _) _⟩
def Ny(c:Nat)(a:1<=c)(b:c<=12)(w:World):Calls prog 65 #[.int .i64 c] w λe w'=>e=.returned (.string ⟨(Pl.kindsL c).toArray⟩)/\Below w.heap.size w w':=by
 rcases(show c=1\/c=2\/c=3\/c=4\/c=5\/c=6\/c=7\/c=8\/c=9\/c=10\/c=11\/c=12 from by omega) with rfl|rfl|rfl|rfl|rfl|rfl|rfl|rfl|rfl|rfl|rfl|rfl
 all_goals
  go_enter func65,ntmps65;go_wp2_with fail;go_ret;exact⟨rfl,(xm _ _).alloc (xe _) _⟩
def qT(c:Nat)(a:c<256)(w:World):Calls prog 65 #[.int .i64 c] w λe w'=>e=.returned (.string ⟨(Pl.kindsL c).toArray⟩)/\Below w.heap.size w w':=by
 by_cases h:1<=c/\c<=12
 ·exact Ny c h.1 h.2 w
 exact JO c (by omega) a w
def TD:prog.underlying 70=some (.slice 4):=by kernel_rfl
def SU:(prog.info? 4).map (λi=>(i.zero,i.size,i.bytes))=some (some (.bool false),1,1):=by kernel_rfl
def Bs(l:List Bool):List Value:=l.map Value.bool
def zK{e:Nat}(h:w.ownsRow base e 1 v n xs):∃a cap,v=.slice a n cap:=by
 rcases h.2 with ⟨b,d⟩|⟨g,cap,c,b,_⟩
 ·exact⟨none,0,by rw[b,d]⟩
 exact⟨_,cap,b⟩
def zG{e:Nat}(h:w.ownsRow base e 1 v n xs)(f:0<n):∃g cap,v=.slice (some ⟨g,0,none⟩) n cap/\base<=g/\g<w.heap.size:=by
 rcases h.2 with ⟨a,i⟩|⟨g,cap,b,a,c,d,_⟩
 ·omega
 exact⟨g,cap,a,c,(xan.1 d).1⟩
def kE{a:List Bool}(h:w.ownsRow base 4 1 (.slice (some ⟨g,0,none⟩) n cap) n (Bs a))(c:a.length=n)(k:Nat)(b:k<n):w.cell? ⟨g,k,none⟩=some (.bool (a.getD k false)):=by
 rw[h.cellAt k (by omega)];simp[Bs,Wc,xi (show k<a.length by omega)]
def xY{a:List Bool}(h:w.ownsRow base 4 1 (.slice (some ⟨g,0,none⟩) n cap) n (Bs a))(k:Nat)(b:Bool):(w.setCell ⟨g,k,none⟩ (.bool b)).ownsRow base 4 1 (.slice (some ⟨g,0,none⟩) n cap) n (Bs (a.set k b)):=by
 have:=(h.stored k (.bool b)).1
 rw[show Bs (a.set k b)=(Bs a).set k (.bool b) from by simp[Bs,Yu]];exact this
def QB:(prog.info? 5).map (λi=>(i.zero,i.size,i.bytes))=some (some (.int .u8 0),1,1):=by kernel_rfl
def U8(l:List UInt8):List Value:=l.map λb=>Value.int .u8 (b.toNat:Int)
def rP{l:List UInt8}(h:w.ownsRow base 5 1 (.slice (some ⟨g,0,none⟩) n cap) n (U8 l))(b:l.length=n)(k:Nat)(a:k<n):w.cell? ⟨g,k,none⟩=some (.int .u8 ((l.getD k 0).toNat:Int)):=by
 rw[h.cellAt k (by omega)];simp[U8,Wc,xi (show k<l.length by omega)]
def Om{l:List UInt8}(h:w.ownsRow base 5 1 (.slice (some ⟨g,0,none⟩) n cap) n (U8 l))(k:Nat)(x:Int)(b:0<=x/\x<256):(w.setCell ⟨g,k,none⟩ (.int .u8 x)).ownsRow base 5 1 (.slice (some ⟨g,0,none⟩) n cap) n (U8 (l.set k (UInt8.ofNat x.toNat)))/\w.grownBy (w.setCell ⟨g,k,none⟩ (.int .u8 x)) (some g):=by
 have:=h.stored k (.int .u8 x)
 have a:((UInt8.ofNat x.toNat).toNat:Int)=x:=by rw[yp];omega
 rw[show U8 (l.set k (UInt8.ofNat x.toNat))=(U8 l).set k (.int .u8 x) from by simp only[U8,Yu,a]];exact this
def vT(a:BinOp)(x y:Int):0<=bits a .u8 x y/\bits a .u8 x y<256:=by
 unfold bits;rw[IntKind.wrap_u8'];omega
def Un:(madeCells (Value.int .u8 0).cells (4*1)).toList=U8 [0,0,0,0]:=by kernel_rfl
def vY(w:World):Calls prog 50 #[.string ⟨#[]⟩] w λe w'=>e=.returned (.tuple #[.int .i64 0,.slice none 0 0,.int .i64 1])/\w'=w:=by
 go_enter func50,ntmps50;go_wp2_with fail;go_ret3;exact⟨rfl,rfl⟩
def aW(s:ByteArray):(s.extract 1 s.size).size=s.size-1:=by rw[XR];omega
def fY(s:ByteArray)(i:s.size<=4194304)(b:List Nat)(d:Pl.nums s.data.toList=some b)(w:World):Calls prog 66 #[.string s] w λe w'=>Below w.heap.size w w' /\
   ∃a cap,e=.returned (.tuple #[.slice a b.length cap,.bool true])/\w'.ownsRow w.heap.size 3 1 (.slice a b.length cap) b.length (I b):=by
 refine(rA s i w).mono ?_
 rintro e w' ⟨g,h|h⟩
 ·obtain⟨j,v,c,rfl,f⟩:=h;rw[d]at c
  cases c;obtain⟨a,cap,rfl⟩:=zK f
  exact⟨g,a,cap,rfl,f⟩
 rw[d]at h;cases h.1
def mQ(s:ByteArray)(d:s.size<=4194304)(c:Pl.nums s.data.toList=none)(w:World):Calls prog 66 #[.string s] w λe w'=>Below w.heap.size w w'/\e=.returned (.tuple #[.slice none 0 0,.bool false]):=by
 refine(rA s d w).mono ?_
 rintro e w' ⟨b,h|h⟩
 ·obtain⟨f,v,a,_⟩:=h;rw[c]at a
  cases a
 exact⟨b,h.2⟩
def fX(s:ByteArray)(b:0<s.size):s.toList.isEmpty=false:=by
 rw[yd]
 cases h:s.data.toList with
 |nil=>
  have a:s.data.toList.length=s.size:=by simp
  rw[h]at a;have:s.size=0:=a.symm;omega
 |cons=>rfl
def Ao(s:ByteArray)(k:s.size<=4194304)(g:0<s.size)(c:Pl.nums (s.data.toList.drop 1)=none)(w:World):Calls prog 50 #[.string s] w λe w'=>e=.returned (.tuple #[.int .i64 0,.slice none 0 0,.int .i64 1])/\Below w.heap.size w w':=by
 have i:=fX s g;have h:s[0].toNat<256:=yz _;have d:=zb (qT s[0].toNat h w);have f:=zb (mQ (s.extract 1 s.size) (by rw[aW];omega) (by rw[ZA];exact c));clear c;by_cases j:(Pl.kindsL s[0].toNat).isEmpty=true
 all_goals
  generalize Pl.kindsL s[0].toNat=ks at *;go_enter func50,ntmps50;go_wp2_with fail;refine d.mono ?_;rintro e w1 ⟨rfl,a⟩
  go_wp2_with fail;refine(f _).mono ?_;rintro e w2 ⟨b,rfl⟩
  go_wp2_with fail;go_ret3
  exact⟨rfl,a.trans (b.mono a.size)⟩
def Am(s:ByteArray)(r:s.size<=4194304)(k:0<s.size)(f:List Nat)(j:Pl.nums (s.data.toList.drop 1)=some f)
  (d:Pl.kindsL s[0].toNat=[]\/f.length≠(Pl.kindsL s[0].toNat).length) (w:World) :
  Calls prog 50 #[.string s] w λe w'=>e=.returned (.tuple #[.int .i64 0,.slice none 0 0,.int .i64 1])/\Below w.heap.size w w':=by
 have p:=fX s k;have l:s[0].toNat<256:=yz _;have g:=zb (qT s[0].toNat l w);have h:=zb (fY (s.extract 1 s.size) (by rw[aW];omega) f (by rw[ZA];exact j));clear j;generalize Pl.kindsL s[0].toNat=ks at *;by_cases m:ks.isEmpty=true
 ·clear d;go_enter func50,ntmps50;go_wp2_with fail;refine g.mono ?_;rintro e w1 ⟨rfl,b⟩
  go_wp2_with fail;refine(h _).mono ?_;rintro e w2 ⟨c,a,cap,rfl,q⟩
  go_wp2_with fail;go_ret3
  exact⟨rfl,b.trans (c.mono b.size)⟩
 have i:¬f.length=ks.length:=by
  rcases d with d|d
  ·subst d;simp at m
  exact d
 have n:((f.length:Int) != (ks.length:Int))=true:=by rw[Yh];omega
 clear d;go_enter func50,ntmps50;go_wp2_with fail;refine g.mono ?_;rintro e w1 ⟨rfl,b⟩
 go_wp2_with fail;refine(h _).mono ?_;rintro e w2 ⟨c,a,cap,rfl,q⟩
 go_wp2_with fail;go_ret3
 exact⟨rfl,b.trans (c.mono b.size)⟩
def EU:∀(b:List UInt8) (a:List Nat),b.length=a.length->(Pl.mays b a=true↔∀j,j<a.length->Pl.mayB (b.getD j 0) (a.getD j 0)=true)
 |[],[],_=>by simp[Pl.mays]
 |[],_::_,h=>by simp at h
 |_::_,[],h=>by simp at h
 |k::b,n::a,h=>by
  rw[Pl.mays,XK,EU b a (by simpa using h)];constructor
  ·rintro⟨c,e⟩ j d
   cases j with
   |zero=>exact c
   |succ j=>exact e j (by simpa using d)
  intro c;exact⟨c 0 (by simp),λj d=>c (j+1) (by simpa using d)⟩
def BQ{a:List Nat}(h:w.ownsRow base 3 1 (.slice (some ⟨g,0,none⟩) n cap) n (I a))(c:a.length=n)(k:Nat)(b:k<n):w.cell? ⟨g,k,none⟩=some (.int .i64 (a.getD k 0:Nat)):=by
 rw[h.cellAt k (by omega)];simp[I,Wc,xi (show k<a.length by omega)]
def An(s:ByteArray)(hs:s.size<=4194304)(h0:0<s.size)(b:List Nat)(G:Pl.nums (s.data.toList.drop 1)=some b)
  (f:Pl.kindsL s[0].toNat≠[]) (d:b.length=(Pl.kindsL s[0].toNat).length) (w:World) :
  Calls prog 50 #[.string s] w λe w'=>Below w.heap.size w w' /\
   ((Pl.mays (Pl.kindsL s[0].toNat) b=false/\e=.returned (.tuple #[.int .i64 0,.slice none 0 0,.int .i64 2])) \/
    (Pl.mays (Pl.kindsL s[0].toNat) b=true/\∃g cap,e=.returned (.tuple #[.int .i64 (s[0].toNat:Int),.slice (some ⟨g,0,none⟩) b.length cap,.int .i64 0])/\w'.ownsRow w.heap.size 3 1 (.slice (some ⟨g,0,none⟩) b.length cap) b.length (I b))):=by
 have a6:=fX s h0;have hb:s[0].toNat<256:=yz _;have X:=zb (qT s[0].toNat hb w);have Z:=zb (fY (s.extract 1 s.size) (by rw[aW];omega) b (by rw[ZA];exact G));have HB:=zb (Pl.nums_lt _ _ b (xe _) G);clear G;have a3:(Pl.kindsL s[0].toNat).length<=4194304:=by unfold Pl.kindsL;split<;>simp
 generalize Pl.kindsL s[0].toNat=ks at *;have Q:ks.isEmpty=false:=by cases ks<;>simp at f ⊢
 have W:0<ks.length:=by cases ks<;>simp at f ⊢
 have a5:((b.length:Int) != (ks.length:Int))=false:=by rw[xax];omega
 have M:=zb d;have R:b.length<=ks.length:=by omega
 have S:ks.length<=b.length:=by omega
 have y:=zb (EU ks b d.symm);clear d f;go_enter func50,ntmps50;go_wp2_with fail;refine X.mono ?_;rintro e w1 ⟨rfl,l⟩
 go_wp2_with fail;refine(Z _).mono ?_;rintro e w2 ⟨A,a,cap,rfl,D⟩
 obtain⟨g,t,J,hg,a2⟩:=zG D (by omega);rw[J]at D;rw[J];clear J;have B:=l.trans (A.mono l.size);have v:w2.ownsRow w.heap.size 3 1 (.slice (some ⟨g,0,none⟩) b.length t) b.length (I b):=⟨D.1,by
  rcases D.2 with h|⟨g1,c1,E,h1,h2,h3⟩
  ·exact Or.inl h
  exact Or.inr ⟨g1,c1,E,h1,xj l.size h2,h3⟩⟩
 have HO:=zb v;have c:=λk Q=>BQ v rfl k Q
 clear D v l A;go_wp2_with fail;go_loopw [9,10] (λi _ wr=>∃k:Nat,k<=b.length/\i=.int .i64 k/\(∀j,j<k->Pl.mayB (ks.getD j 0) (b.getD j 0)=true)/\∃nq,wr=w2.drewN nq) (λi _ _=>b.length-(intOf i).toNat)
 case atStart=>exact⟨0,by omega,rfl,λj h=>absurd h (by omega),0,rfl⟩
 obtain⟨k,a4,rfl,u,x,r⟩:=hrel;by_cases p:k<b.length
 ·obtain⟨n,q⟩:∃n,n=b.getD k 0:=⟨_,rfl⟩
  have a1:wr.cell? ⟨g,k,none⟩=some (.int .i64 n):=by rw[q,r];exact c k p
  have P:=zb r;clear r;have H:n<9223372036854775808:=by rw[q];exact HB _ (by simp[Wc,p])
  have C:k<ks.length:=by omega
  have HX:Ha (ks.getD k 0=ks[k]):=by simp[Ha,Wc,C]
  have z:=zb q;clear q c;go_wp2_with fail;go_quiet ((go_at_call 67;exact YT (qY _ n H _)));have K:(({ data:=ks.toArray }:ByteArray)[k]'(by simpa [YY] using C))=ks.getD k 0:=by
   rw[HX.o];rfl
  rw[K];have a0:=zb K;clear K;generalize T:Pl.mayB (ks.getD k 0) n=m;have N:=zb T;clear T
  cases m with
  |true=>
   go_wp2_with fail;go_roundw
   case rel=>
    refine⟨k+1,by omega,by go_num,?_,x+nq,?_⟩
    ·intro j hj;by_cases F:j=k
     ·subst F;rw[<-z.o];exact N
     exact u j (by omega)
    rw[P.o];simp
   simp[intOf];omega
  |false=>
   go_wp2_with fail;go_ret3
   refine⟨?_,Or.inl ⟨?_,rfl⟩⟩
   ·rw[P.o];exact XA (XA B x) nq
   cases hq:Pl.mays ks b
   ·rfl
   have:=y.1 hq k p
   rw[<-z.o,N.o]at this
   cases this
 obtain rfl:k=b.length:=by omega
 clear p;subst r;go_wp2_with fail;go_ret3;exact⟨XA B x,Or.inr ⟨y.2 u,g,t,rfl,HO⟩⟩
def Ik(w:World)(c:Pl.Cmd)(e:Ending)(w':World):Prop :=
 Below w.heap.size w w' /\
 match c with
 | .error b=>e=.returned (.tuple #[.int .i64 0,.slice none 0 0,.int .i64 b])
 | .ok (c,ns)=>∃g cap,e=.returned (.tuple #[.int .i64 c,.slice (some ⟨g,0,none⟩) ns.length cap,.int .i64 0])/\w'.ownsRow w.heap.size 3 1 (.slice (some ⟨g,0,none⟩) ns.length cap) ns.length (I ns)
def iD(s:ByteArray)(n:s.size<=4194304)(w:World):Calls prog 50 #[.string s] w (Ik w (Pl.cmd s.data.toList)):=by
 by_cases i:0<s.size
 ·have j:s.data.toList=s[0]::s.data.toList.drop 1:=by
   have b:0<s.data.toList.length:=by simpa using i
   have a:s.data.toList[0]::s.data.toList.drop (0+1)=s.data.toList.drop 0:=List.getElem_cons_drop b;rw[xaK]at a;exact a.symm
  cases d:Pl.nums (s.data.toList.drop 1) with
  |none=>
   have c:Pl.cmd s.data.toList=.error 1:=by rw[j];simp only[Pl.cmd,d]
   rw[c];exact(Ao s n i d w).mono λe w' ⟨b,a⟩=>⟨a,b⟩
  |some ns=>
   by_cases f:Pl.kindsL s[0].toNat=[]\/ns.length≠(Pl.kindsL s[0].toNat).length
   ·have c:Pl.cmd s.data.toList=.error 1:=by rw[j];simp only[Pl.cmd,d];rw[xh f]
    rw[c];exact(Am s n i ns d f w).mono λe w' ⟨b,a⟩=>⟨a,b⟩
   have k:Pl.kindsL s[0].toNat≠[]:=λh=>f (Or.inl h)
   have l:ns.length=(Pl.kindsL s[0].toNat).length:=yx λh=>f (Or.inr h)
   refine(An s n i ns d k l w).mono ?_
   rintro e w' ⟨p,⟨m,rfl⟩|⟨m,g,cap,rfl,r⟩⟩
   ·have c:Pl.cmd s.data.toList=.error 2:=by rw[j];simp only[Pl.cmd,d];rw[xg f];simp[m]
    rw[c];exact⟨p,rfl⟩
   have c:Pl.cmd s.data.toList=.ok (s[0].toNat,ns):=by rw[j];simp only[Pl.cmd,d];rw[xg f];simp[m]
   rw[c];exact⟨p,g,cap,rfl,r⟩
 have q:s=⟨#[]⟩:=by
  apply xau
  apply xbw
  have:s.data.size=s.size:=rfl
  omega
 subst q;exact(vY w).mono λe w' ⟨b,a⟩=>⟨a ▸ xm _ _,b⟩
