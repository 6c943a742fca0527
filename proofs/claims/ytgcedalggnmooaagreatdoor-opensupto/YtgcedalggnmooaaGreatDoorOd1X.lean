import Derived.Test.YtgcedalggnmooaaGreatDoorHp1ZX
import Derived.Deep.AppendLies
import Derived.Deep.RegionLaw
import Derived.Test.YtgcedalggnmooaaGreatDoorSt9X
set_option linter.all false
set_option maxRecDepth 100000
set_option maxHeartbeats 1600000
namespace Go.Proofs.YtgcedalggnmooaaGreatDoor
open Go.RowKit
theorem Lc:Tryz.prog.underlying 112=some (.map 2 2):=by kernel_rfl
theorem RU:Tryz.prog.underlying 113=some (.map 260 2):=by kernel_rfl
theorem Sz:(Tryz.prog.info? 2).map (λi=>i.zero)=some (some (.int .i64 0)):=by kernel_rfl
theorem Nu(w:World):(zeroValue 2).run Tryz.prog w=.ok (.int .i64 0) w:=by
 have h:=Sz
 cases a:Tryz.prog.info? 2 with
 |none=>rw[a]at h;cases h
 |some i=>
  rw[a]at h;simp at h;unfold zeroValue typeInfo;simp[program,Sem.run,a,h]
variable {S b cap g id n td:Nat}{v:Value}{w:World}
theorem zI{d e size:Nat}{xs:List Value}(h:w.ownsRow b e size v n xs)(j:d<=b):w.ownsRow d e size v n xs:=by
 refine⟨h.1,?_⟩;rcases h.2 with c|⟨g,cap,a,c,f,i⟩
 ·exact Or.inl c
 exact Or.inr ⟨g,cap,a,c,xj j f,i⟩
variable {D:DataW Unit}{os:List O}
theorem Rv(h:Oi w b n D)(hd:OD os D)(k:Nat)(a:k<=2147483647):∃c:Int,(Instr.lookup 112 (.map (some b)) (.int .i64 k) true).run Tryz.prog w=.ok (.tuple #[.int .i64 c,.bool (os.any (λo=>o.id==k))]) w:=by
 obtain⟨v,ps,d,e⟩:=xab h BJ Lc (Nu w) (YZ Va (by decide)) (sU a);obtain⟨c,rfl,_,_⟩:=plainElem_int_inv Va e;exact⟨c,by rw[d,hd.has k a]⟩
theorem Ru(h:Li w b n D)(hd:HD os D)(k l:Nat)(d:k<=2147483647)(e:l<=2147483647):(Instr.lookup 113 (.map (some b)) (.agg #[.int .i64 k,.int .i64 l]) true).run Tryz.prog w=.ok (.tuple #[.int .i64 (((zr os k l).getD 0:Nat):Int),.bool (zr os k l).isSome]) w:=by
 obtain⟨v,ps,f,g⟩:=xab h wK RU (Nu w) (YZ Va (by decide)) (CB d e);obtain⟨c,rfl,a,_⟩:=plainElem_int_inv Va g;rw[hd.val k l d e]at a;simp at a;rw[f,hd.has k l d e,<-a.1]
variable {M:Mx}{bs:List Nat}{l rcs:List (Nat×Nat)}{ls:List L}{pvs:List Value}
theorem bQ(h:PV os rcs w S M v td bs pvs ls)(k:Nat)(b:k<=2147483647):Calls Tryz.prog 150 #[.pointer (some ⟨S,0,none⟩),.int .i64 k] w λe w'=>e=.returned (.bool (os.any (λo=>o.id==k)))/\w'=w:=by
 obtain⟨D,a,hd⟩:=h.maps.o;obtain⟨c,d⟩:=Rv a hd k b;have c2:=h.c2;generalize os.any (λo=>o.id==k)=bb at *;clear h a hd;go_enter Tryz.func150,Tryz.ntmps150;go_wp2_with fail;go_ret;exact⟨rfl,rfl⟩
def jZ(way:Nat):Bool:=decide (2<=way)
def DD(way:Nat):Bool:=decide (way=1\/way=3)
theorem Tc{a:Nat}(h:a<=3):(bits .and .i64 (a:Int) 2 != 0)=jZ a:=by
 rcases(show a=0\/a=1\/a=2\/a=3 by omega) with rfl|rfl|rfl|rfl<;>decide
theorem SS{a:Nat}(h:a<=3):(bits .and .i64 (a:Int) 1 != 0)=DD a:=by
 rcases(show a=0\/a=1\/a=2\/a=3 by omega) with rfl|rfl|rfl|rfl<;>decide
def zn(rcs:List (Nat×Nat))(td goods count gate way:Nat)(ls:List L):List (Nat×Nat):=ZT ls (bY rcs (jZ way) td goods gate ls) count
theorem mB(h:PV os rcs w S M v td bs pvs ls)(B:Good os ls)(id goods d b g:Nat)(R:goods<=2147483647)(P:d<=2147483647)(T:b<=2147483647)(W:g<=3):Calls Tryz.prog 151 #[.pointer (some ⟨S,0,none⟩),.agg #[.int .i64 id,.int .i64 goods,.int .i64 d,.int .i64 b,.int .i64 g]] w λe w'=>Below w.heap.size w w'/\∃v',e=.returned v'/\w'.ownsRow w.heap.size 241 2 v' (zn rcs td goods d b g ls).length (zl bs (zn rcs td goods d b g ls)):=by
 have A:=TQ w (Obj.cells #[.int .i64 id,.int .i64 goods,.int .i64 d,.int .i64 b,.int .i64 g] 155);have p:=xo w (Obj.cells #[.int .i64 id,.int .i64 goods,.int .i64 d,.int .i64 b,.int .i64 g] 155);have H:=h.below A;have F:=zb (lV H goods b R T);have G:=zb H;have y:=zb B;have K:=h.room;clear H h B;go_enter Tryz.func151,Tryz.ntmps151;go_wp2_with fail;refine F.mono ?_
 rintro e w1 ⟨l,v',rfl,i⟩;have Z:w1.cell? ⟨w.heap.size,2,none⟩=some (.int .i64 d):=(l.cell (by simp)).trans (by rw[za p];rfl);have k4:w1.cell? ⟨w.heap.size,4,none⟩=some (.int .i64 g):=(l.cell (by simp)).trans (by rw[za p];rfl);obtain⟨a,cap,E⟩:=zQ i;rw[E]at i;rw[E];rw[Zu]at i;rw[Zu];have m:=G.below l;have r:∀c∈dC rcs td goods b ls ls.length,c<ls.length:=λc J=>rF J
 have q:∀c∈dC rcs td goods b ls ls.length,0<(ls.getD c L0).free:=λc J=>by
  have:=(aX (f:=true)).1 ((dW true td goods b ls).mem_iff.2 J)
  have Q:=this.2;unfold UR at Q;simp only[Xs,Xu]at Q;omega
 have C:(dC rcs td goods b ls ls.length).length<=30:=by have:=dK (rcs:=rcs) td goods b ls ls.length;omega
 have j:w1.ownsRow 0 191 1 (.slice a (dC rcs td goods b ls ls.length).length cap) (dC rcs td goods b ls ls.length).length (bX (sb bs (dC rcs td goods b ls ls.length))):=aI i;have z:=Tc W;generalize D:dC rcs td goods b ls ls.length=is at *;have X:=zb D;have n:Hid (zn rcs td goods d b g ls=ZT ls (yF (bE (jZ g) ls) is) d):=by unfold Hid zn bY;rw[D]
 cases s:jZ g with
 |true=>
  rw[s]at z n;have t:=zb (Ol m.lots m.ok y is r q C a cap j d P);have k:=zb (A.trans (l.mono A.size));clear D s i j m r q E p l F G;go_wp2_with fail
  with_reducible refine(t.out).mono ?_
  rintro e w2 ⟨u,N,rfl,x⟩;go_wp2_with fail;go_ret;refine⟨k.trans (u.mono k.size),N,rfl,?_⟩;rw[n.out];exact zI x k.size
 |false=>
  rw[s]at z n;have t:=zb (Om m.lots m.ok y is r q C a cap j d P);have k:=zb (A.trans (l.mono A.size));clear D s i j m r q E p l F G;go_wp2_with fail
  with_reducible refine(t.out).mono ?_
  rintro e w2 ⟨u,N,rfl,x⟩;go_wp2_with fail;go_ret;refine⟨k.trans (u.mono k.size),N,rfl,?_⟩;rw[n.out];exact zI x k.size
theorem fO(a:List Nat):∀(l:List (Nat×Nat)) (i:Nat),i<l.length->(zl a l)[i*2]?=some (.pointer (some ⟨a.getD (l.getD i (0,0)).1 0,0,none⟩))/\(zl a l)[i*2+1]?=some (.int .i64 ((l.getD i (0,0)).2:Int))
 |[],_,h=>by simp at h
 |p::r,0,_=>by simp[zl]
 |p::r,i+1,h=>by
  have:=fO a r i (by simpa using h)
  have b:(i+1)*2=i*2+1+1:=by omega
  have c:(i+1)*2+1=i*2+1+1+1:=by omega
  rw[b];simpa [zl] using this
variable {a:Option Addr}
theorem aK{b:Nat}(h:w.ownsRow b 241 2 (.slice a l.length cap) l.length (zl bs l))(k:Nat)(f:k<l.length):∃G,a=some ⟨G,0,none⟩/\G<w.heap.size/\w.cell? ⟨G,k*2,none⟩=some (.pointer (some ⟨bs.getD (l.getD k (0,0)).1 0,0,none⟩))/\w.cell? ⟨G,k*2+1,none⟩=some (.int .i64 ((l.getD k (0,0)).2:Int)):=by
 obtain⟨g,e,d,_,c⟩:=ZD h (by omega)
 cases d;refine⟨g,rfl,c,?_,?_⟩
 ·rw[h.cellAt (k*2) (by omega)];exact(fO bs l k f).1
 rw[h.cellAt (k*2+1) (by omega)];exact(fO bs l k f).2
theorem gZ(a b:List (Nat×Nat)):aO (a++b)=aO a+aO b:=by
 induction a with
 |nil=>simp[aO]
 |cons x a ih=>
  simp only[aO,XF,List.map_cons,List.sum_cons]at ih ⊢;omega
theorem Bw(l:List (Nat×Nat))(k:Nat)(h:k<l.length):aO (l.take (k+1))=aO (l.take k)+(l.getD k (0,0)).2:=by
 rw[xk h,gZ];simp[aO,Ul,h]
theorem mG(l:List (Nat×Nat))(k:Nat):aO (l.take k)<=aO l:=by
 have:aO l=aO (l.take k)+aO (l.drop k):=by
  rw[<-gZ,XV]
 omega
theorem Nh(l:List (Nat×Nat))(k:Nat)(h:k<l.length):(l.getD k (0,0)).2<=aO l:=by
 have:=Bw l k h
 have:=mG l (k+1)
 omega
theorem pC(h:w.ownsRow 0 241 2 (.slice a l.length cap) l.length (zl bs l))(y:l.length<=30)(z:aO l<=2147483647):Calls Tryz.prog 152 #[.slice a l.length cap] w λe w'=>e=.returned (.int .i64 (aO l:Int))/\Below w.heap.size w w':=by
 have q:=zb (λk m=>aK h k m);clear h;go_enter Tryz.func152,Tryz.ntmps152;go_wp2_with fail;go_loopw [3,5,8] (λt _ i wr=>∃k:Nat,i=.int .i64 k/\k<=l.length/\t=.int .i64 (aO (l.take k):Nat)/\Below w.heap.size w wr) (λ_ _ i _=>l.length-(intOf i).toNat)
 case atStart=>exact⟨0,rfl,by omega,rfl,xg _ _⟩
 obtain⟨k,rfl,m,rfl,d⟩:=hrel;by_cases c:k<l.length
 ·obtain⟨G,rfl,b,j,g2⟩:=q.out k c;have c1:=(d.cell (p:=⟨G,k*2,none⟩) (by exact b)).trans j;have c2:=(d.cell (p:=⟨G,k*2+1,none⟩) (by exact b)).trans g2;have n:=Bw l k c;have v:=mG l (k+1);have r:=zb n;obtain⟨x,g⟩:=UC ((l.getD k (0,0)).2);obtain⟨s,f⟩:=UC (aO (l.take k));rw[<-g.out]at c2;have u:s+x<=2147483647:=by rw[f.out,g.out];omega
  rw[show(aO (l.take k):Nat)=s from f.out.symm];generalize bs.getD (l.getD k (0,0)).1 0=bk at *;clear j g2 n v;go_wp2_with fail;go_roundw
  case rel=>exact⟨k+1,by go_num,by omega,by rw[r.out,<-g.out,<-f.out];go_num,d.alloc d.size _⟩
  simp[intOf];omega
 obtain rfl:k=l.length:=by omega
 rw[Xa];clear c;go_wp2_with fail;go_ret;exact⟨rfl,d⟩
def aL(ls:List L):List (Nat×Nat)->List Nat
 |p::r=>(ls.getD p.1 L0).id::p.2::aL ls r
 |[]=>[]
def zF(ls:List L)(l:List (Nat×Nat)):List Nat:=l.length::aL ls l
theorem lP(ls:List L)(p:Nat×Nat):∀l,aL ls (l++[p])=aL ls l++[(ls.getD p.1 L0).id,p.2]
 |[]=>rfl
 |q::r=>by simp only[XF,aL,lP ls p r]
theorem dY(ls:List L):∀l,(aL ls l).length=l.length*2
 |[]=>rfl
 |q::r=>by simp only[aL,List.length_cons,dY ls r];omega
theorem Sy:(Tryz.prog.info? 2).map (λi=>(i.zero,i.size,i.bytes))=some (some (.int .i64 0),1,8):=by kernel_rfl
theorem Tj:Tryz.prog.underlying 81=some (.slice 2):=by kernel_rfl
def LineAt(w:World)(bs:List Nat)(a:Option Addr)(l:List (Nat×Nat)):Prop:=∀k,k<l.length->∃G,a=some ⟨G,0,none⟩/\G<w.heap.size/\w.cell? ⟨G,k*2,none⟩=some (.pointer (some ⟨bs.getD (l.getD k (0,0)).1 0,0,none⟩))/\w.cell? ⟨G,k*2+1,none⟩=some (.int .i64 ((l.getD k (0,0)).2:Int))
theorem BE(h:LineAt w bs a l)(hl:l.length<=30)(hs:∀k,k<l.length->(l.getD k (0,0)).2<=2147483647)(M:LotsOK w bs ls)(P:∀x∈ls,L.Ok x)(K:∀p∈l,p.1<ls.length):Calls Tryz.prog 127 #[.slice a l.length cap] w λe w'=>Below w.heap.size w w'/\∃g c,e=.returned (.slice (some ⟨g,0,none⟩) (zF ls l).length c)/\w'.ownsRow w.heap.size 2 1 (.slice (some ⟨g,0,none⟩) (zF ls l).length c) (zF ls l).length (I (zF ls l)):=by
 obtain⟨i0,hi,a3,a4,a5⟩:=XH Sy;have HC:=zb (λk hk=>h k hk);have X:=zb M;have a0:=zb P;have W:=zb K;have HS:=zb hs;have C:Hid ((w.alloc (.cells #[.int .i64 l.length] 2)).ownsRow w.heap.size 2 1 (.slice (some ⟨w.heap.size,0,none⟩) 1 1) 1 (I (l.length::aL ls (l.take 0)))):=Yh w #[.int .i64 l.length] 1 (xc _) (by unfold maxLen;omega) rfl;clear h M P K hs;go_enter Tryz.func127,Tryz.ntmps127;go_wp2_with fail;go_loopw [3,5,11] (λnn _ ii wr=>∃(k g c:Nat),ii=.int .i64 k/\k<=l.length/\nn=.slice (some ⟨g,0,none⟩) (1+k*2) c/\wr.ownsRow w.heap.size 2 1 (.slice (some ⟨g,0,none⟩) (1+k*2) c) (1+k*2) (I (l.length::aL ls (l.take k)))/\Below w.heap.size w wr) (λ_ _ ii _=>l.length-(intOf ii).toNat)
 case atStart=>exact⟨0,_,_,rfl,by omega,rfl,C,TQ w _⟩
 clear C;obtain⟨k,g,c,rfl,hk,rfl,b,v⟩:=hrel;by_cases i:k<l.length
 ·obtain⟨G,rfl,n,g1,g2⟩:=HC.out k i;have c1:=(v.cell (p:=⟨G,k*2,none⟩) (by exact n)).trans g1;have c2:=(v.cell (p:=⟨G,k*2+1,none⟩) (by exact n)).trans g2;have Q:l.getD k (0,0)∈l:=by simp[Ul,i]
  have hc:=W.out _ Q;obtain⟨pv,A⟩:=(X.below v) _ hc;have s:=a0.out _ (zg hc);have HT:Hid (aL ls (l.take (k+1))=aL ls (l.take k)++[(ls.getD (l.getD k (0,0)).1 L0).id,(l.getD k (0,0)).2]):=by
   have e:l.take (k+1)=l.take k++[l.getD k (0,0)]:=by
    rw[xk i];simp[Ul,i]
   unfold Hid;rw[e,lP]
  have a8:(l.getD k (0,0)).2<=2147483647:=HS.out k i;have a7:=s.id;have J:wr.cell? ⟨bs.getD (l.getD k (0,0)).1 0,0,none⟩=some (.int .i64 ((ls.getD (l.getD k (0,0)).1 L0).id:Int)):=by rw[za A];rfl
  have F:=zc A;generalize (l.getD k (0,0)).2=x at *;generalize (ls.getD (l.getD k (0,0)).1 L0).id=id at *;generalize bs.getD (l.getD k (0,0)).1 0=bk at *;have R:=TQ wr (.cells #[.pointer (some ⟨bk,0,none⟩),.int .i64 x] 241);have j:=xo wr (.cells #[.pointer (some ⟨bk,0,none⟩),.int .i64 x] 241);clear g1 g2 A s Q hc;go_wp2_with fail;have d0:(wr.alloc (.cells #[.pointer (some ⟨bk,0,none⟩),.int .i64 x] 241)).cell? ⟨wr.heap.size,0,none⟩=some (.pointer (some ⟨bk,0,none⟩)):=by rw[za j];rfl
  have d1:(wr.alloc (.cells #[.pointer (some ⟨bk,0,none⟩),.int .i64 x] 241)).cell? ⟨wr.heap.size,1,none⟩=some (.int .i64 x):=by rw[za j];rfl
  have e0:(wr.alloc (.cells #[.pointer (some ⟨bk,0,none⟩),.int .i64 x] 241)).cell? ⟨bk,0,none⟩=some (.int .i64 id):=(R.cell (by exact F)).trans J;have d:=zh b R;have y:=v.trans (R.mono v.size);have a6:w.heap.size<=(wr.alloc (.cells #[.pointer (some ⟨bk,0,none⟩),.int .i64 x] 241)).heap.size:=y.size;generalize (wr.alloc (.cells #[.pointer (some ⟨bk,0,none⟩),.int .i64 x] 241))=wb at *;have z:Below wb.heap.size wb (wb.alloc (.cells #[.int .i64 id,.int .i64 x] 2)).drew:=(TQ wb _).drew;have E:(wb.alloc (.cells #[.int .i64 id,.int .i64 x] 2)).drew.heap[wb.heap.size]?=some (.cells #[.int .i64 id,.int .i64 x] 2 (0,0)):=xo wb _;have t:∀u∈([.int .i64 id,.int .i64 x]:List Value),u.oneCell'=true:=by
   intro u hu;simp at hu;rcases hu with rfl|rfl<;>rfl
  have B:=zb y;have a1:=zb d;have S:=zb z;clear J c1 c2 b v j R y;go_region_law (refine step_append_lies _ rfl _ _ 81 rfl w.heap.size 2 i0 (.int .i64 0) 1 8 Tj hi a3 a4 a5 rfl (by decide) (.slice (some ⟨g,0,none⟩) (1+k*2) c) (1+k*2) (I (l.length::aL ls (l.take k))) rfl (zh d z) ⟨wb.heap.size,0,none⟩ 2 2 [.int .i64 id,.int .i64 x] rfl rfl (World.news_of_block E) t (by decide) (by unfold maxLen;omega) (by omega) (by simp;omega) (wb.heap.size+1) (by simp) ?_;intro g2 cap2 w2 f m a2 N)
  all_goals
   have e1:I (l.length::aL ls (l.take k))++[.int .i64 id,.int .i64 x]=I (l.length::aL ls (l.take (k+1))):=by rw[HT.out];simp[I]
   rw[e1]at f;have H:Below w.heap.size w w2:=(B.trans (S.mono B.size)).grown m (by simp;omega) (λq hq=>(a1.lt q hq).1);have Z:=zb f;have T:=zb H;clear f m a2 N H e1 z E t d d0 d1 e0;go_wp2_with fail;go_roundw
   case rel=>exact⟨k+1,g2,cap2,by go_num,by omega,by rw[show 1+(k+1)*2=1+k*2+2 by omega],by rw[show 1+(k+1)*2=1+k*2+2 by omega];exact Z,T⟩
   simp[intOf];omega
 obtain rfl:k=l.length:=by omega
 rw[Xa]at b;have r:(zF ls l).length=1+l.length*2:=by simp[zF,dY];omega
 have HO:=zb b;have D:=zb r;clear i b r;go_wp2_with fail;go_ret;exact⟨v,g,c,by rw[D.out];rfl,by rw[D.out];exact HO⟩
theorem EY(h:w.ownsRow 0 241 2 (.slice a l.length cap) l.length (zl bs l))(j:l.length<=30)(m:aO l<=2147483647)(f:LotsOK w bs ls)(i:∀x∈ls,L.Ok x)(b:∀p∈l,p.1<ls.length):Calls Tryz.prog 127 #[.slice a l.length cap] w λe w'=>Below w.heap.size w w'/\∃g c,e=.returned (.slice (some ⟨g,0,none⟩) (zF ls l).length c)/\w'.ownsRow w.heap.size 2 1 (.slice (some ⟨g,0,none⟩) (zF ls l).length c) (zF ls l).length (I (zF ls l)) :=
 BE (λk d=>aK h k d) j (λk d=>xj (Nh l k d) m) f i b
theorem cY(b a n:Nat):∀l:List (Nat×Nat),(l++[(b,n)]).lookup a=(l.lookup a).or (if a=b then some n else none)
 |[]=>by by_cases h:a=b<;>simp[List.lookup,h,xr.2]
 |(x,y)::l=>by
  cases c:a==x with
  |true=>simp[List.lookup,c]
  |false=>simp only[XF,List.lookup,c];exact cY b a n l
theorem jH(b a:Nat):∀l:List (Nat×Nat),(l.filter (λp=>p.1 != b)).lookup a=if a=b then none else l.lookup a
 |[]=>by simp[List.lookup]
 |(x,y)::l=>by
  have d:=jH b a l;by_cases c:x=b
  ·subst c;simp only[List.filter,xaF,d,List.lookup];by_cases h:a=x
   ·subst h;simp
   simp[h,xr.2 h]
  have e:(x != b)=true:=by simp[c]
  simp only[List.filter,e,List.lookup,d]
  cases f:a==x with
  |true=>
   have:a=x:=by simpa using f
   subst this;simp[c]
  |false=>rfl
theorem ZX{b n:Nat}:∀{l:List (Nat×Nat)},l.lookup b=some n->(b,n)∈l
 |[],h=>by simp[List.lookup]at h
 |(x,y)::l,h=>by
  simp only[List.lookup]at h
  cases a:b==x with
  |true=>
   rw[a]at h;have:b=x:=by simpa using a
   simp at h;simp[this,h]
  |false=>rw[a]at h;exact Yx _ (ZX h)
theorem Zd{b n:Nat}:∀{l:List (Nat×Nat)},(l.map Prod.fst).Nodup->(b,n)∈l->l.lookup b=some n
 |[],_,h=>by simp at h
 |(x,y)::l,hn,h=>by
  simp only[List.map_cons,XP]at hn;rcases xx.1 h with h|h
  ·cases h;simp[List.lookup]
  have a:b≠x:=λe=>hn.1 (by rw[<-e];exact Xd h)
  have c:(b==x)=false:=by simpa using a
  simp only[List.lookup,c];exact Zd hn.2 h
theorem ZC{b:Nat}:∀{l:List (Nat×Nat)},l.lookup b=none↔b ∉ l.map Prod.fst
 |[]=>by simp[List.lookup]
 |(x,y)::l=>by
  by_cases a:b=x
  ·subst a;simp[List.lookup]
  have c:(b==x)=false:=by simpa using a
  simp only[List.lookup,c,List.map_cons,xx,not_or];rw[ZC];exact⟨λh=>⟨a,h⟩,λh=>h.2⟩
theorem tJ(b:Nat):∀l:List (Nat×Nat),(l.map Prod.fst).Nodup->(l.filter (λp=>p.1 != b)).length+(if (l.lookup b).isSome then 1 else 0)=l.length
 |[],_=>by simp[List.lookup]
 |(x,y)::l,hn=>by
  simp only[List.map_cons,XP]at hn;have f:=tJ b l hn.2;by_cases c:x=b
  ·subst c;have a:l.lookup x=none:=ZC.2 hn.1;rw[a]at f;simp only[List.filter,xaF,List.lookup,xbx,Option.isSome_some,YC,List.length_cons];simp only[Option.isSome_none,XA,Yc,xal]at f;rw[f]
  have g:(x != b)=true:=by simp[c]
  have d:(b==x)=false:=by simp;exact λe=>c e.symm
  simp only[List.filter,g,List.lookup,d,List.length_cons];omega
def Ca(a b:Nat)(o:O):O:=if o.id=a then { o with li:=o.li.filter (λp=>p.1 != b) } else o
def Zf(os:List O)(a b:Nat):List O:=os.map (Ca a b)
theorem kN(a b:Nat)(o:O):(Ca a b o).id=o.id:=by unfold Ca;split<;>rfl
theorem DS(a b c:Nat):∀os:List O,(os.map (Ca a b)).find? (λo=>o.id==c)=(os.find? (λo=>o.id==c)).map (Ca a b)
 |[]=>rfl
 |o::os=>by
  simp only[List.map_cons,List.find?,kN]
  cases h:o.id==c with
  |true=>rfl
  |false=>exact DS a b c os
theorem kW(os:List O)(a b c e:Nat):zr (Zf os a b) c e=if c=a/\e=b then none else zr os c e:=by
 unfold zr Zf;rw[DS]
 cases h:os.find? (λo=>o.id==c) with
 |none=>simp
 |some o=>
  have i:o.id=c:=by simpa using xbH h
  simp only[XJ,xi,Ca];by_cases f:o.id=a
  ·rw[xd f];simp only[jH];have d:c=a:=by omega
   by_cases g:e=b<;>simp[d,g]
  rw[xe f];have d:¬c=a:=by omega
  simp[d]
theorem On(os:List O)(a b n:Nat):(Zf os a b).any (λo=>o.id==n)=os.any (λo=>o.id==n):=by
 unfold Zf;rw[List.any_map];congr 1;funext o;simp[kN]
theorem uA(a b:Nat):∀os:List O,(os.map O.id).Nodup->(∀o∈os,(o.li.map Prod.fst).Nodup)->Zc (Zf os a b)+(if (zr os a b).isSome then 1 else 0)=Zc os
 |[],_,_=>by simp[Zc,Zf,zr]
 |o::os,hn,hk=>by
  simp only[List.map_cons,XP]at hn;have f:=uA a b os hn.2 (λj h=>hk j (by simp[h]));have g:=hk o (by simp);by_cases e:o.id=a
  ·have d:os.find? (λo=>o.id==a)=none:=by
    rw[yj];intro j i l;have:j.id=a:=by simpa using l
    exact hn.1 (by rw[e,<-this];exact Xd i)
   have m:zr os a b=none:=by unfold zr;rw[d];rfl
   rw[m]at f;have c:zr (o::os) a b=o.li.lookup b:=by unfold zr;simp[List.find?,e]
   have n:=tJ b o.li g;rw[c];simp only[Zc,Zf,List.map_cons,List.sum_cons,Ca,xd e]at f ⊢;simp only[Option.isSome_none,XA,Yc]at f;omega
  have c:zr (o::os) a b=zr os a b:=by
   have k:(o.id==a)=false:=by simpa using e
   unfold zr;simp[List.find?,k]
  rw[c];simp only[Zc,Zf,List.map_cons,List.sum_cons,Ca,xe e]at f ⊢;omega
theorem Rn(n:Nat):WideAt.IsKeyLit (dU n):=trivial
theorem Rm(a b:Nat):WideAt.IsKeyLit (eT a b):=trivial
theorem HD.del{os:List O}{D:DataW Unit}(h:HD os D)(r:Maps.Tidy D){a b:Nat}(m:a<=2147483647)(n:b<=2147483647)(q:(os.map O.id).Nodup)(p:∀o∈os,(o.li.map Prod.fst).Nodup):HD (Zf os a b) (D.del (eT a b)):=by
 have j:∀c d:Nat,c<=2147483647->d<=2147483647->¬(c=a/\d=b)->eT c d≠eT a b:=λc d f g l e=>l (jE f g m n e)
 refine⟨?_,λc d f g=>?_,λc d f g=>?_⟩
 ·have s:=Maps.size_del (k:=eT a b) r;have t:=uA a b os q p;rw[h.has a b m n,h.size]at s;omega
 ·rw[kW];by_cases i:c=a/\d=b
  ·obtain⟨rfl,rfl⟩:=i;rw[xd ⟨rfl,rfl⟩,xae];rfl
  rw[xe i,YY (j c d f g i)];exact h.has c d f g
 rw[kW];by_cases i:c=a/\d=b
 ·obtain⟨rfl,rfl⟩:=i;rw[xd ⟨rfl,rfl⟩,Maps.atKey_del_same];rfl
 rw[xe i,Maps.atKey_del_other (j c d f g i)];exact h.val c d f g
theorem pJ(os:List O)(o:O)(h:∀b∈os,b.id≠o.id)(a:Nat):(os++[o]).find? (λo=>o.id==a)=if a=o.id then some o else os.find? (λo=>o.id==a):=by
 rw[xbn];by_cases c:a=o.id
 ·subst c;have:os.find? (λb=>b.id==o.id)=none:=by
   rw[yj];intro b d f;exact h b d (by simpa using f)
  rw[this];simp
 rw[xe c];have:(o.id==a)=false:=by simp;exact λe=>c e.symm
 simp[List.find?,this]
theorem HD.put{os:List O}{D:DataW Unit}{id g:Nat}{i:List (Nat×Nat)}(h:HD (os++[⟨id,g,i⟩]) D)(t:Maps.Tidy D)(q:id<=2147483647)(v:∀w∈os,w.id≠id){b n:Nat}(u:b<=2147483647)(f:i.lookup b=none):HD (os++[⟨id,g,i++[(b,n)]⟩]) (D.put (eT id b) (.lit (.int .i64 n))):=by
 have r:∀a c:Nat,a<=2147483647->c<=2147483647->¬(a=id/\c=b)->eT a c≠eT id b:=λa c j k s e=>s (jE j k q u e)
 have lo:∀(i:List (Nat×Nat)) (a c:Nat),zr (os++[⟨id,g,i⟩]) a c=if a=id then i.lookup c else zr os a c:=λi a c=>by
  unfold zr;rw[pJ os ⟨id,g,i⟩ v a];by_cases d:a=id
  ·simp[d]
  simp[d]
 have p:Maps.has D (eT id b)=false:=by rw[h.has id b q u,lo,xd rfl,f];rfl
 refine⟨?_,λa c j k=>?_,λa c j k=>?_⟩
 ·rw[Maps.size_put t,p,h.size];simp[Zc];omega
 ·rw[lo];by_cases m:a=id/\c=b
  ·obtain⟨rfl,rfl⟩:=m;rw[xd rfl,xaG t.isMap (Rm _ _),cY,f];simp
  rw[YJ (r a c j k m),h.has a c j k,lo];by_cases d:a=id
  ·have l:¬c=b:=λe=>m ⟨d,e⟩
   rw[xd d,xd d,cY];simp[l]
  rw[xe d,xe d]
 rw[lo];by_cases m:a=id/\c=b
 ·obtain⟨rfl,rfl⟩:=m;rw[xd rfl,Maps.atKey_put_same t.isMap (Rm _ _),cY,f];simp
 rw[Maps.atKey_put_other (r a c j k m),h.val a c j k,lo];by_cases d:a=id
 ·have l:¬c=b:=λe=>m ⟨d,e⟩
  rw[xd d,xd d,cY];simp[l]
 rw[xe d,xe d]
theorem OD.put{os:List O}{D:DataW Unit}{id g:Nat}(h:OD os D)(f:Maps.Tidy D)(b:id<=2147483647)(j:os.any (λo=>o.id==id)=false):OD (os++[⟨id,g,[]⟩]) (D.put (dU id) (.lit (.int .i64 g))):=by
 have m:os.find? (λo=>o.id==id)=none:=yj.2 (λo a=>by simpa using yp.1 j o a)
 refine⟨?_,λn c=>?_,λn c=>?_,λk i=>?_⟩
 ·rw[Maps.size_put f,h.has id b,j,h.size];simp
 ·by_cases e:n=id
  ·subst e;rw[xaG f.isMap (Rn _)];simp
  rw[YJ (λq=>e (gF q)),h.has n c];have:(id==n)=false:=by simp;exact λq=>e q.symm
  simp[this]
 ·by_cases e:n=id
  ·subst e;rw[Maps.atKey_put_same f.isMap (Rn _)];unfold Z8;rw[xbn,m];simp
  rw[Maps.atKey_put_other (λq=>e (gF q)),h.val n c];have:(id==n)=false:=by simp;exact λq=>e q.symm
  unfold Z8;rw[xbn];have l:[(⟨id,g,[]⟩:O)].find? (λo=>o.id==n)=none:=by simp[this]
  rw[l,Option.or_none]
 by_cases a:k=dU id
 ·exact⟨⟨id,g,[]⟩,by simp,a⟩
 rw[YJ a]at i;obtain⟨o,d,e⟩:=h.keys k i;exact⟨o,by simp[d],e⟩
theorem OD.congr{os':List O}(h:OD os D)(e:os'.map (λo=>(o.id,o.gd))=os.map (λo=>(o.id,o.gd))):OD os' D:=by
 have a:∀(l:List O) (n:Nat),l.any (λo=>o.id==n)=(l.map (λo=>(o.id,o.gd))).any (λq=>q.1==n):=λl n=>by rw[List.any_map];rfl
 have b:∀(l:List O) (n:Nat),Z8 l n=(((l.map (λo=>(o.id,o.gd))).find? (λq=>q.1==n)).map Prod.snd).getD 0:=λl n=>by
  unfold Z8;rw[List.find?_map];have:((λq:Nat×Nat=>q.1==n)∘λo:O=>(o.id,o.gd))=λo=>o.id==n:=rfl
  rw[this]
  cases l.find? (λo=>o.id==n)<;>rfl
 refine⟨?_,λn c=>?_,λn c=>?_,λm i=>?_⟩
 ·have:=YA List.length e
  simp at this;rw[h.size,this]
 ·rw[h.has n c,a,a,e]
 ·rw[h.val n c,b,b,e]
 obtain⟨o,k,f⟩:=h.keys m i;have j:(o.id,o.gd)∈os'.map (λo=>(o.id,o.gd)):=by rw[e];exact Xd k
 obtain⟨p,d,g⟩:=Xg.1 j;exact⟨p,d,by rw[f,<-(Prod.mk.inj g).1]⟩
theorem HD.snoc(h:HD os D)(n:os.any (λo=>o.id==id)=false):HD (os++[⟨id,g,[]⟩]) D:=by
 have c:∀d∈os,d.id≠id:=λd k e=>by
  have:=yp.1 n d k
  simp[e]at this
 have lo:∀a b:Nat,zr (os++[⟨id,g,[]⟩]) a b=zr os a b:=λa b=>by
  unfold zr;rw[pJ os ⟨id,g,[]⟩ c a];by_cases f:a=id
  ·have m:os.find? (λo=>o.id==a)=none:=by
    rw[yj];intro d k l;exact c d k (by rw[<-f];simpa using l)
   simp[f,List.lookup];rw[<-f,m];rfl
  simp[f]
 exact⟨by rw[h.size];simp[Zc],λa b i j=>by rw[lo];exact h.has a b i j,λa b i j=>by rw[lo];exact h.val a b i j⟩
def pX(l:L)(n:Nat):L:={ l with free:=l.free-n,hd:=l.hd+n }
def Za(ls:List L):List (Nat×Nat)->List L
 |p::r=>Za (ls.set p.1 (pX (ls.getD p.1 L0) p.2)) r
 |[]=>ls
def zq(ls:List L)(l:List (Nat×Nat)):List (Nat×Nat):=l.map λp=>((ls.getD p.1 L0).id,p.2)
theorem Eg{l:L}(h:L.Ok l){n:Nat}(a:n<=l.free):L.Ok (pX l n):=⟨h.id,h.gd,h.ex,h.place,(by have:=h.sum;show l.free-n+(l.hd+n)+l.sh+l.sc+l.gv<=2147483647;omega),h.got,h.par⟩
theorem kU(p:Nat×Nat):∀(l:List (Nat×Nat)) (ls:List L),Za ls (l++[p])=(Za ls l).set p.1 (pX ((Za ls l).getD p.1 L0) p.2)
 |[],ls=>rfl
 |q::r,ls=>by simp only[XF,Za];exact kU p r _
theorem aD:∀(l:List (Nat×Nat)) (ls:List L),(Za ls l).length=ls.length
 |[],ls=>rfl
 |q::r,ls=>by simp only[Za];rw[aD r];simp
theorem cX{i:Nat}:∀(l:List (Nat×Nat)) (ls:List L),i ∉ l.map Prod.fst->(Za ls l).getD i L0=ls.getD i L0
 |[],ls,_=>rfl
 |q::r,ls,h=>by
  simp only[List.map_cons,xx,not_or]at h;simp only[Za];rw[cX r _ h.2,zU h.1]
theorem nO{i n:Nat}:∀(l:List (Nat×Nat)) (ls:List L),(l.map Prod.fst).Nodup->(i,n)∈l->i<ls.length->(Za ls l).getD i L0=pX (ls.getD i L0) n
 |[],ls,_,h,_=>by simp at h
 |q::r,ls,hn,h,hi=>by
  simp only[List.map_cons,XP]at hn;simp only[Za];rcases xx.1 h with h|h
  ·subst h;rw[cX r _ hn.1,Zj hi]
  have a:i≠q.1:=λe=>hn.1 (by rw[<-e];exact Xd h)
  rw[nO r _ hn.2 h (by simpa using hi),zU a]
theorem dN{ls:List L}(a:∀i j,i<ls.length->j<ls.length->(ls.getD i L0).id=(ls.getD j L0).id->i=j):∀(l:List (Nat×Nat)),(∀p∈l,p.1<ls.length)->∀i,i<ls.length->(zq ls l).lookup (ls.getD i L0).id=l.lookup i
 |[],_,i,_=>rfl
 |q::r,h,i,hi=>by
  have b:=dN a r (λp f=>h p (by simp[f])) i hi;have g:=h q (by simp);simp only[zq,List.map_cons,List.lookup]at b ⊢;by_cases e:i=q.1
  ·subst e;simp
  have c:(i==q.1)=false:=by simpa using e
  have d:((ls.getD i L0).id==(ls.getD q.1 L0).id)=false:=by
   rw[xr];exact λh=>e (a i q.1 hi g h)
  rw[c,d];exact b
theorem PV.mapsTo{w':World}{os':List O}(h:PV os rcs w S M v td bs pvs ls)(n:∀k,k<w.heap.size->k≠M.o->k≠M.h->w'.heap[k]?=w.heap[k]?)(m:Mp os' rcs w' M):PV os' rcs w' S M v td bs pvs ls:=by
 obtain⟨_,_,mo⟩:=h.maps.mo;obtain⟨_,_,mh⟩:=h.maps.mh;have c:∀(k:Nat) (b:Array Value) (t:TypeId),w.heap[k]?=some (.cells b t (0,0))->w'.heap[k]?=w.heap[k]?:=λk b t e=>n k (zc e) (Zb e mo) (Zb e mh)
 exact {
  store:=(c _ _ _ h.store).trans h.store
  maps:=m
  row:=ze h.row (λg l=>by obtain⟨b,d⟩:=zi h.row l;exact c _ _ _ d)
  len:=h.len
  plen:=h.plen
  lot:=λi a=>(c _ _ _ (h.lot i a)).trans (h.lot i a)
  par:=λi a=>(h.par i a).congr (λq f=>by
   obtain⟨b,j⟩:=(h.par i a).blk f;exact c _ _ _ j)
  nodup:=h.nodup
  today:=h.today
  ok:=h.ok
  room:=h.room }
theorem jB{Z:Nat->Prop}{w':World}(h:w.grownBy w' (some b))(d:Z b):Kp Z w w':=⟨h.os,h.tape,h.output,h.size,λk a c=>h.block k a (λe=>c (by cases e;exact d))⟩
