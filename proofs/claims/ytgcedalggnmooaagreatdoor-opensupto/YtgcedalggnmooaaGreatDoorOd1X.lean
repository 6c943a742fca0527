import Derived.Test.YtgcedalggnmooaaGreatDoorOrdX
import Derived.Deep.AppendLies
import Derived.Deep.RegionLaw
import Derived.Test.YtgcedalggnmooaaGreatDoorAsrtX
set_option linter.all false
set_option maxRecDepth 100000
set_option maxHeartbeats 1600000
namespace Go.Proofs.YtgcedalggnmooaaGreatDoor
open Go.RowKit
open Tryz
theorem Lf:prog.underlying 112=some (.map 2 2):=by kernel_rfl
theorem Sg:prog.underlying 113=some (.map 260 2):=by kernel_rfl
theorem SH:(prog.info? 2).map (λi=>i.zero)=some (some (.int .i64 0)):=by kernel_rfl
theorem NB(w:World):(zeroValue 2).run prog w=.ok (.int .i64 0) w:=by
 have h:=SH
 cases a:prog.info? 2 with
 |none=>rw[a]at h;cases h
 |some i=>
  rw[a]at h;simp at h;unfold zeroValue typeInfo;simp[program,Sem.run,a,h]
variable {S b cap g id n td:Nat}{v:Value}{w:World}
theorem zJ{d e size:Nat}{xs:List Value}(h:w.ownsRow b e size v n xs)(j:d<=b):w.ownsRow d e size v n xs:=by
 refine⟨h.1,?_⟩;rcases h.2 with c|⟨g,cap,a,c,f,i⟩
 ·exact Or.inl c
 exact Or.inr ⟨g,cap,a,c,xj j f,i⟩
variable {D:DataW Unit}{os:List O}
theorem RH(h:Oq w b n D)(hd:OD os D)(k:Nat)(a:k<=2147483647):∃c:Int,(Instr.lookup 112 (.map (some b)) (.int .i64 k) true).run prog w=.ok (.tuple #[.int .i64 c,.bool (os.any (λo=>o.id==k))]) w:=by
 obtain⟨v,ps,d,e⟩:=xab h BJ Lf (NB w) (YZ Vk (by decide)) (sS a);obtain⟨c,rfl,_,_⟩:=plainElem_int_inv Vk e;exact⟨c,by rw[d,hd.has k a]⟩
theorem RF(h:Lm w b n D)(hd:HD os D)(k l:Nat)(d:k<=2147483647)(e:l<=2147483647):(Instr.lookup 113 (.map (some b)) (.agg #[.int .i64 k,.int .i64 l]) true).run prog w=.ok (.tuple #[.int .i64 (((zr os k l).getD 0:Nat):Int),.bool (zr os k l).isSome]) w:=by
 obtain⟨v,ps,f,g⟩:=xab h wJ Sg (NB w) (YZ Vk (by decide)) (Cz d e);obtain⟨c,rfl,a,_⟩:=plainElem_int_inv Vk g;rw[hd.val k l d e]at a;simp at a;rw[f,hd.has k l d e,<-a.1]
variable {M:Mx}{bs:List Nat}{l rj:List (Nat×Nat)}{ls:List L}{pvs:List Value}
theorem bQ(h:PV os rj w S M v td bs pvs ls)(k:Nat)(b:k<=2147483647):Calls prog 150 #[.pointer (some ⟨S,0,none⟩),.int .i64 k] w λe w'=>e=.returned (.bool (os.any (λo=>o.id==k)))/\w'=w:=by
 obtain⟨D,a,hd⟩:=h.maps.o;obtain⟨c,d⟩:=RH a hd k b;have c2:=h.c2;generalize os.any (λo=>o.id==k)=bb at *;clear h a hd;go_enter func150,ntmps150;go_wp2_with fail;go_ret;exact⟨rfl,rfl⟩
def lR(way:Nat):Bool:=decide (2<=way)
def DC(way:Nat):Bool:=decide (way=1\/way=3)
theorem Tl{a:Nat}(h:a<=3):(bits .and .i64 (a:Int) 2 != 0)=lR a:=by
 rcases(show a=0\/a=1\/a=2\/a=3 by omega) with rfl|rfl|rfl|rfl<;>decide
theorem Tb{a:Nat}(h:a<=3):(bits .and .i64 (a:Int) 1 != 0)=DC a:=by
 rcases(show a=0\/a=1\/a=2\/a=3 by omega) with rfl|rfl|rfl|rfl<;>decide
def zo(rj:List (Nat×Nat))(td gd count gate way:Nat)(ls:List L):List (Nat×Nat):=aB ls (cM rj (lR way) td gd gate ls) count
theorem mB(h:PV os rj w S M v td bs pvs ls)(B:Good os ls)(id gd d b g:Nat)(R:gd<=2147483647)(P:d<=2147483647)(T:b<=2147483647)(W:g<=3):Calls prog 151 #[.pointer (some ⟨S,0,none⟩),.agg #[.int .i64 id,.int .i64 gd,.int .i64 d,.int .i64 b,.int .i64 g]] w λe w'=>Below w.heap.size w w'/\∃v',e=.returned v'/\w'.ownsRow w.heap.size 241 2 v' (zo rj td gd d b g ls).length (zl bs (zo rj td gd d b g ls)):=by
 have A:=TZ w (Obj.cells #[.int .i64 id,.int .i64 gd,.int .i64 d,.int .i64 b,.int .i64 g] 155);have p:=xo w (Obj.cells #[.int .i64 id,.int .i64 gd,.int .i64 d,.int .i64 b,.int .i64 g] 155);have H:=h.below A;have F:=zb (lV H gd b R T);have G:=zb H;have y:=zb B;have K:=h.room;clear H h B;go_enter func151,ntmps151;go_wp2_with fail;refine F.mono ?_
 rintro e w1 ⟨l,v',rfl,i⟩;have Z:w1.cell? ⟨w.heap.size,2,none⟩=some (.int .i64 d):=(l.cell (by simp)).trans (by rw[za p];rfl);have k4:w1.cell? ⟨w.heap.size,4,none⟩=some (.int .i64 g):=(l.cell (by simp)).trans (by rw[za p];rfl);obtain⟨a,cap,E⟩:=zT i;rw[E]at i;rw[E];rw[Zq]at i;rw[Zq];have m:=G.below l;have r:∀c∈dE rj td gd b ls ls.length,c<ls.length:=λc J=>rE J
 have q:∀c∈dE rj td gd b ls ls.length,0<(ls.getD c L0).free:=λc J=>by
  have:=(dB (f:=true)).1 ((dZ true td gd b ls).mem_iff.2 J)
  have Q:=this.2;unfold Vb at Q;simp only[Xu,Xv]at Q;omega
 have C:(dE rj td gd b ls ls.length).length<=30:=by have:=dM (rj:=rj) td gd b ls ls.length;omega
 have j:w1.ownsRow 0 191 1 (.slice a (dE rj td gd b ls ls.length).length cap) (dE rj td gd b ls ls.length).length (bZ (sb bs (dE rj td gd b ls ls.length))):=aK i;have z:=Tl W;generalize D:dE rj td gd b ls ls.length=is at *;have X:=zb D;have n:Ha (zo rj td gd d b g ls=aB ls (yD (bF (lR g) ls) is) d):=by unfold Ha zo cM;rw[D]
 cases s:lR g with
 |true=>
  rw[s]at z n;have t:=zb (Ou m.lots m.ok y is r q C a cap j d P);have k:=zb (A.trans (l.mono A.size));clear D s i j m r q E p l F G;go_wp2_with fail
  with_reducible refine(t.o).mono ?_
  rintro e w2 ⟨u,N,rfl,x⟩;go_wp2_with fail;go_ret;refine⟨k.trans (u.mono k.size),N,rfl,?_⟩;rw[n.o];exact zJ x k.size
 |false=>
  rw[s]at z n;have t:=zb (Ov m.lots m.ok y is r q C a cap j d P);have k:=zb (A.trans (l.mono A.size));clear D s i j m r q E p l F G;go_wp2_with fail
  with_reducible refine(t.o).mono ?_
  rintro e w2 ⟨u,N,rfl,x⟩;go_wp2_with fail;go_ret;refine⟨k.trans (u.mono k.size),N,rfl,?_⟩;rw[n.o];exact zJ x k.size
theorem fP(a:List Nat):∀(l:List (Nat×Nat)) (i:Nat),i<l.length->(zl a l)[i*2]?=some (.pointer (some ⟨a.getD (l.getD i (0,0)).1 0,0,none⟩))/\(zl a l)[i*2+1]?=some (.int .i64 ((l.getD i (0,0)).2:Int))
 |[],_,h=>by simp at h
 |p::r,0,_=>by simp[zl]
 |p::r,i+1,h=>by
  have:=fP a r i (by simpa using h)
  have b:(i+1)*2=i*2+1+1:=by omega
  have c:(i+1)*2+1=i*2+1+1+1:=by omega
  rw[b];simpa [zl] using this
variable {a:Option Addr}
theorem aM{b:Nat}(h:w.ownsRow b 241 2 (.slice a l.length cap) l.length (zl bs l))(k:Nat)(f:k<l.length):∃G,a=some ⟨G,0,none⟩/\G<w.heap.size/\w.cell? ⟨G,k*2,none⟩=some (.pointer (some ⟨bs.getD (l.getD k (0,0)).1 0,0,none⟩))/\w.cell? ⟨G,k*2+1,none⟩=some (.int .i64 ((l.getD k (0,0)).2:Int)):=by
 obtain⟨g,e,d,_,c⟩:=ZE h (by omega)
 cases d;refine⟨g,rfl,c,?_,?_⟩
 ·rw[h.cellAt (k*2) (by omega)];exact(fP bs l k f).1
 rw[h.cellAt (k*2+1) (by omega)];exact(fP bs l k f).2
theorem hJ(a b:List (Nat×Nat)):aR (a++b)=aR a+aR b:=by
 induction a with
 |nil=>simp[aR]
 |cons x a ih=>
  simp only[aR,XF,List.map_cons,List.sum_cons]at ih ⊢;omega
theorem Bw(l:List (Nat×Nat))(k:Nat)(h:k<l.length):aR (l.take (k+1))=aR (l.take k)+(l.getD k (0,0)).2:=by
 rw[xl h,hJ];simp[aR,Uv,h]
theorem mH(l:List (Nat×Nat))(k:Nat):aR (l.take k)<=aR l:=by
 have:aR l=aR (l.take k)+aR (l.drop k):=by
  rw[<-hJ,XU]
 omega
theorem Nn(l:List (Nat×Nat))(k:Nat)(h:k<l.length):(l.getD k (0,0)).2<=aR l:=by
 have:=Bw l k h
 have:=mH l (k+1)
 omega
theorem pC(h:w.ownsRow 0 241 2 (.slice a l.length cap) l.length (zl bs l))(y:l.length<=30)(z:aR l<=2147483647):Calls prog 152 #[.slice a l.length cap] w λe w'=>e=.returned (.int .i64 (aR l:Int))/\Below w.heap.size w w':=by
 have q:=zb (λk m=>aM h k m);clear h;go_enter func152,ntmps152;go_wp2_with fail;go_loopw [3,5,8] (λt _ i wr=>∃k:Nat,i=.int .i64 k/\k<=l.length/\t=.int .i64 (aR (l.take k):Nat)/\Below w.heap.size w wr) (λ_ _ i _=>l.length-(intOf i).toNat)
 case atStart=>exact⟨0,rfl,by omega,rfl,xh _ _⟩
 obtain⟨k,rfl,m,rfl,d⟩:=hrel;by_cases c:k<l.length
 ·obtain⟨G,rfl,b,j,g2⟩:=q.o k c;have c1:=(d.cell (p:=⟨G,k*2,none⟩) (by exact b)).trans j;have c2:=(d.cell (p:=⟨G,k*2+1,none⟩) (by exact b)).trans g2;have n:=Bw l k c;have v:=mH l (k+1);have r:=zb n;obtain⟨x,g⟩:=UM ((l.getD k (0,0)).2);obtain⟨s,f⟩:=UM (aR (l.take k));rw[<-g.o]at c2;have u:s+x<=2147483647:=by rw[f.o,g.o];omega
  rw[show(aR (l.take k):Nat)=s from f.o.symm];generalize bs.getD (l.getD k (0,0)).1 0=bk at *;clear j g2 n v;go_wp2_with fail;go_roundw
  case rel=>exact⟨k+1,by go_num,by omega,by rw[r.o,<-g.o,<-f.o];go_num,d.alloc d.size _⟩
  simp[intOf];omega
 obtain rfl:k=l.length:=by omega
 rw[Xa];clear c;go_wp2_with fail;go_ret;exact⟨rfl,d⟩
def aN(ls:List L):List (Nat×Nat)->List Nat
 |p::r=>(ls.getD p.1 L0).id::p.2::aN ls r
 |[]=>[]
def zG(ls:List L)(l:List (Nat×Nat)):List Nat:=l.length::aN ls l
theorem lO(ls:List L)(p:Nat×Nat):∀l,aN ls (l++[p])=aN ls l++[(ls.getD p.1 L0).id,p.2]
 |[]=>rfl
 |q::r=>by simp only[XF,aN,lO ls p r]
theorem eC(ls:List L):∀l,(aN ls l).length=l.length*2
 |[]=>rfl
 |q::r=>by simp only[aN,List.length_cons,eC ls r];omega
theorem SG:(prog.info? 2).map (λi=>(i.zero,i.size,i.bytes))=some (some (.int .i64 0),1,8):=by kernel_rfl
theorem Tt:prog.underlying 81=some (.slice 2):=by kernel_rfl
def LineAt(w:World)(bs:List Nat)(a:Option Addr)(l:List (Nat×Nat)):Prop:=∀k,k<l.length->∃G,a=some ⟨G,0,none⟩/\G<w.heap.size/\w.cell? ⟨G,k*2,none⟩=some (.pointer (some ⟨bs.getD (l.getD k (0,0)).1 0,0,none⟩))/\w.cell? ⟨G,k*2+1,none⟩=some (.int .i64 ((l.getD k (0,0)).2:Int))
theorem BE(h:LineAt w bs a l)(hl:l.length<=30)(hs:∀k,k<l.length->(l.getD k (0,0)).2<=2147483647)(M:LotsOK w bs ls)(P:∀x∈ls,L.Ok x)(K:∀p∈l,p.1<ls.length):Calls prog 127 #[.slice a l.length cap] w λe w'=>Below w.heap.size w w'/\∃g c,e=.returned (.slice (some ⟨g,0,none⟩) (zG ls l).length c)/\w'.ownsRow w.heap.size 2 1 (.slice (some ⟨g,0,none⟩) (zG ls l).length c) (zG ls l).length (I (zG ls l)):=by
 obtain⟨i0,hi,a3,a4,a5⟩:=XH SG;have HC:=zb (λk hk=>h k hk);have X:=zb M;have a0:=zb P;have W:=zb K;have HS:=zb hs;have C:Ha ((w.alloc (.cells #[.int .i64 l.length] 2)).ownsRow w.heap.size 2 1 (.slice (some ⟨w.heap.size,0,none⟩) 1 1) 1 (I (l.length::aN ls (l.take 0)))):=Yh w #[.int .i64 l.length] 1 (xc _) (by unfold maxLen;omega) rfl;clear h M P K hs;go_enter func127,ntmps127;go_wp2_with fail;go_loopw [3,5,11] (λnn _ ii wr=>∃(k g c:Nat),ii=.int .i64 k/\k<=l.length/\nn=.slice (some ⟨g,0,none⟩) (1+k*2) c/\wr.ownsRow w.heap.size 2 1 (.slice (some ⟨g,0,none⟩) (1+k*2) c) (1+k*2) (I (l.length::aN ls (l.take k)))/\Below w.heap.size w wr) (λ_ _ ii _=>l.length-(intOf ii).toNat)
 case atStart=>exact⟨0,_,_,rfl,by omega,rfl,C,TZ w _⟩
 clear C;obtain⟨k,g,c,rfl,hk,rfl,b,v⟩:=hrel;by_cases i:k<l.length
 ·obtain⟨G,rfl,n,g1,g2⟩:=HC.o k i;have c1:=(v.cell (p:=⟨G,k*2,none⟩) (by exact n)).trans g1;have c2:=(v.cell (p:=⟨G,k*2+1,none⟩) (by exact n)).trans g2;have Q:l.getD k (0,0)∈l:=by simp[Uv,i]
  have hc:=W.o _ Q;obtain⟨pv,A⟩:=(X.below v) _ hc;have s:=a0.o _ (zg hc);have HT:Ha (aN ls (l.take (k+1))=aN ls (l.take k)++[(ls.getD (l.getD k (0,0)).1 L0).id,(l.getD k (0,0)).2]):=by
   have e:l.take (k+1)=l.take k++[l.getD k (0,0)]:=by
    rw[xl i];simp[Uv,i]
   unfold Ha;rw[e,lO]
  have a8:(l.getD k (0,0)).2<=2147483647:=HS.o k i;have a7:=s.id;have J:wr.cell? ⟨bs.getD (l.getD k (0,0)).1 0,0,none⟩=some (.int .i64 ((ls.getD (l.getD k (0,0)).1 L0).id:Int)):=by rw[za A];rfl
  have F:=zc A;generalize (l.getD k (0,0)).2=x at *;generalize (ls.getD (l.getD k (0,0)).1 L0).id=id at *;generalize bs.getD (l.getD k (0,0)).1 0=bk at *;have R:=TZ wr (.cells #[.pointer (some ⟨bk,0,none⟩),.int .i64 x] 241);have j:=xo wr (.cells #[.pointer (some ⟨bk,0,none⟩),.int .i64 x] 241);clear g1 g2 A s Q hc;go_wp2_with fail;have d0:(wr.alloc (.cells #[.pointer (some ⟨bk,0,none⟩),.int .i64 x] 241)).cell? ⟨wr.heap.size,0,none⟩=some (.pointer (some ⟨bk,0,none⟩)):=by rw[za j];rfl
  have d1:(wr.alloc (.cells #[.pointer (some ⟨bk,0,none⟩),.int .i64 x] 241)).cell? ⟨wr.heap.size,1,none⟩=some (.int .i64 x):=by rw[za j];rfl
  have e0:(wr.alloc (.cells #[.pointer (some ⟨bk,0,none⟩),.int .i64 x] 241)).cell? ⟨bk,0,none⟩=some (.int .i64 id):=(R.cell (by exact F)).trans J;have d:=zh b R;have y:=v.trans (R.mono v.size);have a6:w.heap.size<=(wr.alloc (.cells #[.pointer (some ⟨bk,0,none⟩),.int .i64 x] 241)).heap.size:=y.size;generalize (wr.alloc (.cells #[.pointer (some ⟨bk,0,none⟩),.int .i64 x] 241))=wb at *;have z:Below wb.heap.size wb (wb.alloc (.cells #[.int .i64 id,.int .i64 x] 2)).drew:=(TZ wb _).drew;have E:(wb.alloc (.cells #[.int .i64 id,.int .i64 x] 2)).drew.heap[wb.heap.size]?=some (.cells #[.int .i64 id,.int .i64 x] 2 (0,0)):=xo wb _;have t:∀u∈([.int .i64 id,.int .i64 x]:List Value),u.oneCell'=true:=by
   intro u hu;simp at hu;rcases hu with rfl|rfl<;>rfl
  have B:=zb y;have a1:=zb d;have S:=zb z;clear J c1 c2 b v j R y;go_region_law (refine step_append_lies _ rfl _ _ 81 rfl w.heap.size 2 i0 (.int .i64 0) 1 8 Tt hi a3 a4 a5 rfl (by decide) (.slice (some ⟨g,0,none⟩) (1+k*2) c) (1+k*2) (I (l.length::aN ls (l.take k))) rfl (zh d z) ⟨wb.heap.size,0,none⟩ 2 2 [.int .i64 id,.int .i64 x] rfl rfl (World.news_of_block E) t (by decide) (by unfold maxLen;omega) (by omega) (by simp;omega) (wb.heap.size+1) (by simp) ?_;intro g2 cap2 w2 f m a2 N)
  all_goals
   have e1:I (l.length::aN ls (l.take k))++[.int .i64 id,.int .i64 x]=I (l.length::aN ls (l.take (k+1))):=by rw[HT.o];simp[I]
   rw[e1]at f;have H:Below w.heap.size w w2:=(B.trans (S.mono B.size)).grown m (by simp;omega) (λq hq=>(a1.lt q hq).1);have Z:=zb f;have T:=zb H;clear f m a2 N H e1 z E t d d0 d1 e0;go_wp2_with fail;go_roundw
   case rel=>exact⟨k+1,g2,cap2,by go_num,by omega,by rw[show 1+(k+1)*2=1+k*2+2 by omega],by rw[show 1+(k+1)*2=1+k*2+2 by omega];exact Z,T⟩
   simp[intOf];omega
 obtain rfl:k=l.length:=by omega
 rw[Xa]at b;have r:(zG ls l).length=1+l.length*2:=by simp[zG,eC];omega
 have HO:=zb b;have D:=zb r;clear i b r;go_wp2_with fail;go_ret;exact⟨v,g,c,by rw[D.o];rfl,by rw[D.o];exact HO⟩
theorem EW(h:w.ownsRow 0 241 2 (.slice a l.length cap) l.length (zl bs l))(j:l.length<=30)(m:aR l<=2147483647)(f:LotsOK w bs ls)(i:∀x∈ls,L.Ok x)(b:∀p∈l,p.1<ls.length):Calls prog 127 #[.slice a l.length cap] w λe w'=>Below w.heap.size w w'/\∃g c,e=.returned (.slice (some ⟨g,0,none⟩) (zG ls l).length c)/\w'.ownsRow w.heap.size 2 1 (.slice (some ⟨g,0,none⟩) (zG ls l).length c) (zG ls l).length (I (zG ls l)) :=
 BE (λk d=>aM h k d) j (λk d=>xj (Nn l k d) m) f i b
theorem cZ(b a n:Nat):∀l:List (Nat×Nat),(l++[(b,n)]).lookup a=(l.lookup a).or (if a=b then some n else none)
 |[]=>by by_cases h:a=b<;>simp[List.lookup,h,xp.2]
 |(x,y)::l=>by
  cases c:a==x with
  |true=>simp[List.lookup,c]
  |false=>simp only[XF,List.lookup,c];exact cZ b a n l
theorem jJ(b a:Nat):∀l:List (Nat×Nat),(l.filter (λp=>p.1 != b)).lookup a=if a=b then none else l.lookup a
 |[]=>by simp[List.lookup]
 |(x,y)::l=>by
  have d:=jJ b a l;by_cases c:x=b
  ·subst c;simp only[List.filter,xaF,d,List.lookup];by_cases h:a=x
   ·subst h;simp
   simp[h,xp.2 h]
  have e:(x != b)=true:=by simp[c]
  simp only[List.filter,e,List.lookup,d]
  cases f:a==x with
  |true=>
   have:a=x:=by simpa using f
   subst this;simp[c]
  |false=>rfl
theorem ZY{b n:Nat}:∀{l:List (Nat×Nat)},l.lookup b=some n->(b,n)∈l
 |[],h=>by simp[List.lookup]at h
 |(x,y)::l,h=>by
  simp only[List.lookup]at h
  cases a:b==x with
  |true=>
   rw[a]at h;have:b=x:=by simpa using a
   simp at h;simp[this,h]
  |false=>rw[a]at h;exact Yx _ (ZY h)
theorem Zd{b n:Nat}:∀{l:List (Nat×Nat)},(l.map Prod.fst).Nodup->(b,n)∈l->l.lookup b=some n
 |[],_,h=>by simp at h
 |(x,y)::l,hn,h=>by
  simp only[List.map_cons,XP]at hn;rcases xx.1 h with h|h
  ·cases h;simp[List.lookup]
  have a:b≠x:=λe=>hn.1 (by rw[<-e];exact Xe h)
  have c:(b==x)=false:=by simpa using a
  simp only[List.lookup,c];exact Zd hn.2 h
theorem ZD{b:Nat}:∀{l:List (Nat×Nat)},l.lookup b=none↔b ∉ l.map Prod.fst
 |[]=>by simp[List.lookup]
 |(x,y)::l=>by
  by_cases a:b=x
  ·subst a;simp[List.lookup]
  have c:(b==x)=false:=by simpa using a
  simp only[List.lookup,c,List.map_cons,xx,not_or];rw[ZD];exact⟨λh=>⟨a,h⟩,λh=>h.2⟩
theorem tI(b:Nat):∀l:List (Nat×Nat),(l.map Prod.fst).Nodup->(l.filter (λp=>p.1 != b)).length+(if (l.lookup b).isSome then 1 else 0)=l.length
 |[],_=>by simp[List.lookup]
 |(x,y)::l,hn=>by
  simp only[List.map_cons,XP]at hn;have f:=tI b l hn.2;by_cases c:x=b
  ·subst c;have a:l.lookup x=none:=ZD.2 hn.1;rw[a]at f;simp only[List.filter,xaF,List.lookup,xbx,Option.isSome_some,YC,List.length_cons];simp only[Option.isSome_none,XA,Yc,xal]at f;rw[f]
  have g:(x != b)=true:=by simp[c]
  have d:(b==x)=false:=by simp;exact λe=>c e.symm
  simp only[List.filter,g,List.lookup,d,List.length_cons];omega
def Ca(a b:Nat)(o:O):O:=if o.id=a then { o with li:=o.li.filter (λp=>p.1 != b) } else o
def Zf(os:List O)(a b:Nat):List O:=os.map (Ca a b)
theorem kN(a b:Nat)(o:O):(Ca a b o).id=o.id:=by unfold Ca;split<;>rfl
theorem DP(a b c:Nat):∀os:List O,(os.map (Ca a b)).find? (λo=>o.id==c)=(os.find? (λo=>o.id==c)).map (Ca a b)
 |[]=>rfl
 |o::os=>by
  simp only[List.map_cons,List.find?,kN]
  cases h:o.id==c with
  |true=>rfl
  |false=>exact DP a b c os
theorem kV(os:List O)(a b c e:Nat):zr (Zf os a b) c e=if c=a/\e=b then none else zr os c e:=by
 unfold zr Zf;rw[DP]
 cases h:os.find? (λo=>o.id==c) with
 |none=>simp
 |some o=>
  have i:o.id=c:=by simpa using xbH h
  simp only[XK,xk,Ca];by_cases f:o.id=a
  ·rw[xe f];simp only[jJ];have d:c=a:=by omega
   by_cases g:e=b<;>simp[d,g]
  rw[xg f];have d:¬c=a:=by omega
  simp[d]
theorem Ow(os:List O)(a b n:Nat):(Zf os a b).any (λo=>o.id==n)=os.any (λo=>o.id==n):=by
 unfold Zf;rw[List.any_map];congr 1;funext o;simp[kN]
theorem tZ(a b:Nat):∀os:List O,(os.map O.id).Nodup->(∀o∈os,(o.li.map Prod.fst).Nodup)->Zc (Zf os a b)+(if (zr os a b).isSome then 1 else 0)=Zc os
 |[],_,_=>by simp[Zc,Zf,zr]
 |o::os,hn,hk=>by
  simp only[List.map_cons,XP]at hn;have f:=tZ a b os hn.2 (λj h=>hk j (by simp[h]));have g:=hk o (by simp);by_cases e:o.id=a
  ·have d:os.find? (λo=>o.id==a)=none:=by
    rw[yj];intro j i l;have:j.id=a:=by simpa using l
    exact hn.1 (by rw[e,<-this];exact Xe i)
   have m:zr os a b=none:=by unfold zr;rw[d];rfl
   rw[m]at f;have c:zr (o::os) a b=o.li.lookup b:=by unfold zr;simp[List.find?,e]
   have n:=tI b o.li g;rw[c];simp only[Zc,Zf,List.map_cons,List.sum_cons,Ca,xe e]at f ⊢;simp only[Option.isSome_none,XA,Yc]at f;omega
  have c:zr (o::os) a b=zr os a b:=by
   have k:(o.id==a)=false:=by simpa using e
   unfold zr;simp[List.find?,k]
  rw[c];simp only[Zc,Zf,List.map_cons,List.sum_cons,Ca,xg e]at f ⊢;omega
theorem Rx(n:Nat):WideAt.IsKeyLit (dX n):=trivial
theorem Rv(a b:Nat):WideAt.IsKeyLit (eW a b):=trivial
theorem HD.del{os:List O}{D:DataW Unit}(h:HD os D)(r:Maps.Tidy D){a b:Nat}(m:a<=2147483647)(n:b<=2147483647)(q:(os.map O.id).Nodup)(p:∀o∈os,(o.li.map Prod.fst).Nodup):HD (Zf os a b) (D.del (eW a b)):=by
 have j:∀c d:Nat,c<=2147483647->d<=2147483647->¬(c=a/\d=b)->eW c d≠eW a b:=λc d f g l e=>l (jG f g m n e)
 refine⟨?_,λc d f g=>?_,λc d f g=>?_⟩
 ·have s:=Maps.size_del (k:=eW a b) r;have t:=tZ a b os q p;rw[h.has a b m n,h.size]at s;omega
 ·rw[kV];by_cases i:c=a/\d=b
  ·obtain⟨rfl,rfl⟩:=i;rw[xe ⟨rfl,rfl⟩,xae];rfl
  rw[xg i,YY (j c d f g i)];exact h.has c d f g
 rw[kV];by_cases i:c=a/\d=b
 ·obtain⟨rfl,rfl⟩:=i;rw[xe ⟨rfl,rfl⟩,Maps.atKey_del_same];rfl
 rw[xg i,Maps.atKey_del_other (j c d f g i)];exact h.val c d f g
theorem pJ(os:List O)(o:O)(h:∀b∈os,b.id≠o.id)(a:Nat):(os++[o]).find? (λo=>o.id==a)=if a=o.id then some o else os.find? (λo=>o.id==a):=by
 rw[xbn];by_cases c:a=o.id
 ·subst c;have:os.find? (λb=>b.id==o.id)=none:=by
   rw[yj];intro b d f;exact h b d (by simpa using f)
  rw[this];simp
 rw[xg c];have:(o.id==a)=false:=by simp;exact λe=>c e.symm
 simp[List.find?,this]
theorem HD.put{os:List O}{D:DataW Unit}{id g:Nat}{i:List (Nat×Nat)}(h:HD (os++[⟨id,g,i⟩]) D)(t:Maps.Tidy D)(q:id<=2147483647)(v:∀w∈os,w.id≠id){b n:Nat}(u:b<=2147483647)(f:i.lookup b=none):HD (os++[⟨id,g,i++[(b,n)]⟩]) (D.put (eW id b) (.lit (.int .i64 n))):=by
 have r:∀a c:Nat,a<=2147483647->c<=2147483647->¬(a=id/\c=b)->eW a c≠eW id b:=λa c j k s e=>s (jG j k q u e)
 have lo:∀(i:List (Nat×Nat)) (a c:Nat),zr (os++[⟨id,g,i⟩]) a c=if a=id then i.lookup c else zr os a c:=λi a c=>by
  unfold zr;rw[pJ os ⟨id,g,i⟩ v a];by_cases d:a=id
  ·simp[d]
  simp[d]
 have p:Maps.has D (eW id b)=false:=by rw[h.has id b q u,lo,xe rfl,f];rfl
 refine⟨?_,λa c j k=>?_,λa c j k=>?_⟩
 ·rw[Maps.size_put t,p,h.size];simp[Zc];omega
 ·rw[lo];by_cases m:a=id/\c=b
  ·obtain⟨rfl,rfl⟩:=m;rw[xe rfl,xaG t.isMap (Rv _ _),cZ,f];simp
  rw[YK (r a c j k m),h.has a c j k,lo];by_cases d:a=id
  ·have l:¬c=b:=λe=>m ⟨d,e⟩
   rw[xe d,xe d,cZ];simp[l]
  rw[xg d,xg d]
 rw[lo];by_cases m:a=id/\c=b
 ·obtain⟨rfl,rfl⟩:=m;rw[xe rfl,Maps.atKey_put_same t.isMap (Rv _ _),cZ,f];simp
 rw[Maps.atKey_put_other (r a c j k m),h.val a c j k,lo];by_cases d:a=id
 ·have l:¬c=b:=λe=>m ⟨d,e⟩
  rw[xe d,xe d,cZ];simp[l]
 rw[xg d,xg d]
theorem OD.put{os:List O}{D:DataW Unit}{id g:Nat}(h:OD os D)(f:Maps.Tidy D)(b:id<=2147483647)(j:os.any (λo=>o.id==id)=false):OD (os++[⟨id,g,[]⟩]) (D.put (dX id) (.lit (.int .i64 g))):=by
 have m:os.find? (λo=>o.id==id)=none:=yj.2 (λo a=>by simpa using yp.1 j o a)
 refine⟨?_,λn c=>?_,λn c=>?_,λk i=>?_⟩
 ·rw[Maps.size_put f,h.has id b,j,h.size];simp
 ·by_cases e:n=id
  ·subst e;rw[xaG f.isMap (Rx _)];simp
  rw[YK (λq=>e (gH q)),h.has n c];have:(id==n)=false:=by simp;exact λq=>e q.symm
  simp[this]
 ·by_cases e:n=id
  ·subst e;rw[Maps.atKey_put_same f.isMap (Rx _)];unfold aC;rw[xbn,m];simp
  rw[Maps.atKey_put_other (λq=>e (gH q)),h.val n c];have:(id==n)=false:=by simp;exact λq=>e q.symm
  unfold aC;rw[xbn];have l:[(⟨id,g,[]⟩:O)].find? (λo=>o.id==n)=none:=by simp[this]
  rw[l,Option.or_none]
 by_cases a:k=dX id
 ·exact⟨⟨id,g,[]⟩,by simp,a⟩
 rw[YK a]at i;obtain⟨o,d,e⟩:=h.keys k i;exact⟨o,by simp[d],e⟩
theorem OD.congr{os':List O}(h:OD os D)(e:os'.map (λo=>(o.id,o.gd))=os.map (λo=>(o.id,o.gd))):OD os' D:=by
 have a:∀(l:List O) (n:Nat),l.any (λo=>o.id==n)=(l.map (λo=>(o.id,o.gd))).any (λq=>q.1==n):=λl n=>by rw[List.any_map];rfl
 have b:∀(l:List O) (n:Nat),aC l n=(((l.map (λo=>(o.id,o.gd))).find? (λq=>q.1==n)).map Prod.snd).getD 0:=λl n=>by
  unfold aC;rw[List.find?_map];have:((λq:Nat×Nat=>q.1==n)∘λo:O=>(o.id,o.gd))=λo=>o.id==n:=rfl
  rw[this]
  cases l.find? (λo=>o.id==n)<;>rfl
 refine⟨?_,λn c=>?_,λn c=>?_,λm i=>?_⟩
 ·have:=YA List.length e
  simp at this;rw[h.size,this]
 ·rw[h.has n c,a,a,e]
 ·rw[h.val n c,b,b,e]
 obtain⟨o,k,f⟩:=h.keys m i;have j:(o.id,o.gd)∈os'.map (λo=>(o.id,o.gd)):=by rw[e];exact Xe k
 obtain⟨p,d,g⟩:=Xg.1 j;exact⟨p,d,by rw[f,<-(Prod.mk.inj g).1]⟩
theorem HD.snoc(h:HD os D)(n:os.any (λo=>o.id==id)=false):HD (os++[⟨id,g,[]⟩]) D:=by
 have c:∀d∈os,d.id≠id:=λd k e=>by
  have:=yp.1 n d k
  simp[e]at this
 have lo:∀a b:Nat,zr (os++[⟨id,g,[]⟩]) a b=zr os a b:=λa b=>by
  unfold zr;rw[pJ os ⟨id,g,[]⟩ c a];by_cases f:a=id
  ·have m:os.find? (λo=>o.id==a)=none:=by
    rw[yj];intro d k l;exact c d k (by rw[<-f];simpa using l)
   simp[f,List.lookup];rw[<-f,m];rfl
  simp[f]
 exact⟨by rw[h.size];simp[Zc],λa b i j=>by rw[lo];exact h.has a b i j,λa b i j=>by rw[lo];exact h.val a b i j⟩
def pW(l:L)(n:Nat):L:={ l with free:=l.free-n,hd:=l.hd+n }
def Zm(ls:List L):List (Nat×Nat)->List L
 |p::r=>Zm (ls.set p.1 (pW (ls.getD p.1 L0) p.2)) r
 |[]=>ls
def zt(ls:List L)(l:List (Nat×Nat)):List (Nat×Nat):=l.map λp=>((ls.getD p.1 L0).id,p.2)
theorem Ed{l:L}(h:L.Ok l){n:Nat}(a:n<=l.free):L.Ok (pW l n):=⟨h.id,h.gd,h.ex,h.place,(by have:=h.sum;show l.free-n+(l.hd+n)+l.sh+l.sc+l.gv<=2147483647;omega),h.got,h.par⟩
theorem kT(p:Nat×Nat):∀(l:List (Nat×Nat)) (ls:List L),Zm ls (l++[p])=(Zm ls l).set p.1 (pW ((Zm ls l).getD p.1 L0) p.2)
 |[],ls=>rfl
 |q::r,ls=>by simp only[XF,Zm];exact kT p r _
theorem bR:∀(l:List (Nat×Nat)) (ls:List L),(Zm ls l).length=ls.length
 |[],ls=>rfl
 |q::r,ls=>by simp only[Zm];rw[bR r];simp
theorem dU{i:Nat}:∀(l:List (Nat×Nat)) (ls:List L),i ∉ l.map Prod.fst->(Zm ls l).getD i L0=ls.getD i L0
 |[],ls,_=>rfl
 |q::r,ls,h=>by
  simp only[List.map_cons,xx,not_or]at h;simp only[Zm];rw[dU r _ h.2,zQ h.1]
theorem vZ{i n:Nat}:∀(l:List (Nat×Nat)) (ls:List L),(l.map Prod.fst).Nodup->(i,n)∈l->i<ls.length->(Zm ls l).getD i L0=pW (ls.getD i L0) n
 |[],ls,_,h,_=>by simp at h
 |q::r,ls,hn,h,hi=>by
  simp only[List.map_cons,XP]at hn;simp only[Zm];rcases xx.1 h with h|h
  ·subst h;rw[dU r _ hn.1,Za hi]
  have a:i≠q.1:=λe=>hn.1 (by rw[<-e];exact Xe h)
  rw[vZ r _ hn.2 h (by simpa using hi),zQ a]
theorem dP{ls:List L}(a:∀i j,i<ls.length->j<ls.length->(ls.getD i L0).id=(ls.getD j L0).id->i=j):∀(l:List (Nat×Nat)),(∀p∈l,p.1<ls.length)->∀i,i<ls.length->(zt ls l).lookup (ls.getD i L0).id=l.lookup i
 |[],_,i,_=>rfl
 |q::r,h,i,hi=>by
  have b:=dP a r (λp f=>h p (by simp[f])) i hi;have g:=h q (by simp);simp only[zt,List.map_cons,List.lookup]at b ⊢;by_cases e:i=q.1
  ·subst e;simp
  have c:(i==q.1)=false:=by simpa using e
  have d:((ls.getD i L0).id==(ls.getD q.1 L0).id)=false:=by
   rw[xp];exact λh=>e (a i q.1 hi g h)
  rw[c,d];exact b
theorem PV.mapsTo{w':World}{os':List O}(h:PV os rj w S M v td bs pvs ls)(n:∀k,k<w.heap.size->k≠M.o->k≠M.h->w'.heap[k]?=w.heap[k]?)(m:Mp os' rj w' M):PV os' rj w' S M v td bs pvs ls:=by
 obtain⟨_,_,mo⟩:=h.maps.mo;obtain⟨_,_,mh⟩:=h.maps.mh;have c:∀(k:Nat) (b:Array Value) (t:TypeId),w.heap[k]?=some (.cells b t (0,0))->w'.heap[k]?=w.heap[k]?:=λk b t e=>n k (zc e) (Zb e mo) (Zb e mh)
 exact {
  store:=(c _ _ _ h.store).trans h.store
  maps:=m
  row:=ze h.row (λg l=>by obtain⟨b,d⟩:=zi h.row l;exact c _ _ _ d)
  len:=h.len
  plen:=h.plen
  lot:=λi a=>(c _ _ _ (h.lot i a)).trans (h.lot i a)
  par:=λi a=>(h.par i a).congr (λq f=>by
   obtain⟨b,j⟩:=(h.par i a).blk f;exact c _ _ _ j)
  nodup:=h.nodup
  today:=h.today
  ok:=h.ok
  room:=h.room }
theorem jD{Z:Nat->Prop}{w':World}(h:w.grownBy w' (some b))(d:Z b):Kp Z w w':=⟨h.os,h.tape,h.output,h.size,λk a c=>h.block k a (λe=>c (by cases e;exact d))⟩
