import Derived.Test.YtgcedalggnmooaaGreatDoorDc1X
import Derived.RangeFuncNested
import Derived.Test.YtgcedalggnmooaaGreatDoorSp0X
import Derived.Shelf.SlIterI.Sorted
import Derived.Shelf.SlIterI.Stops
import Derived.Shelf.SortM.Plain
import Derived.Shelf.SortM.SortNone
set_option linter.all false
set_option maxRecDepth 100000
set_option maxHeartbeats 3200000
namespace Go.Proofs.YtgcedalggnmooaaGreatDoor
open Go.RowKit Go.Shelf Go.Maps
open Tryz
attribute [local go_sem] Oper.semAt_some
def OY(p:Nat×Nat):Value:=.agg #[.int .i64 p.1,.int .i64 p.2]
variable {l rj ss:List (Nat×Nat)}{w:World}
def xJ{F:Fence}{m:Nat}{l:Array Oper}{f:List Oper}{o:Oper}{a:Act}{Q:Exit->Act->World->Prop}(S:Rc rj){D:DataW Unit}(R:RD rj D)(W:o.guard=none)(N:Operand)(g:o.op=Op.next N false)(b r n:Nat)(left:Lit->Bool)(cnt:Nat)
  (hit:a.eval N=.pointer (some ⟨r,0,none⟩)) (t:∀k,left k=true->Maps.has D k=true) (h:w.ranges prog 202 (unitElem (H:=Unit)) b r n D left cnt)
  (i:cnt=0->(∀k,left k=false)->wpListIn F m prog l Q f (a.put o.dst (.tuple #[.bool false])) w)
  (j:∀(p:Nat×Nat) (w':World) (d:Nat),p∈rj->left (cG p.1 p.2)=true->w'.ranges prog 202 (unitElem (H:=Unit)) b r n D (λz=>left z&&!z.sameKey (cG p.1 p.2)) d->d<cnt->w.grownBy w' (some r)->w'.heap.size=w.heap.size ->
   (Instr.entry (.pointer (some ⟨r,0,none⟩))).run prog w'=.ok (.tuple #[OY p,.agg #[]]) w'->wpListIn F m prog l Q f (a.put o.dst (.tuple #[.bool true,OY p,.agg #[]])) w') :
  wpListIn F m prog l Q (o::f) a w:=by
 refine wpListIn_plain W λK' q=>?_
 unfold Oper.wpIn;refine⟨by simp[Oper.about,g],?_⟩;rw[Oper.semAt_plain F _ _ (by rw[g];intro c u;cases u)];rcases h.next Ib o.type with ⟨P,X,e⟩|⟨a0,v,k,y,w',d,cG,s,Z,T,e,J,C,A,K,x⟩
 ·simp[execOp,g,hit,e,Result.andThen];exact q _ _ (i P X)
 obtain⟨p,M,rfl⟩:=R.keys k (t k s);obtain⟨E,G⟩:=S.fits p M;have B:=AW cG E G rfl;subst B;obtain⟨rfl,_⟩:=xco Z;simp[execOp,g,hit,e,Result.andThen];exact q _ _ (j p w' d M s J C A K x)
structure Come(rj:List (Nat×Nat))(left:Lit->Bool)(ss:List (Nat×Nat)):Prop where
 nd:ss.Nodup
 mem:∀p,p∈ss↔p∈rj/\left (cG p.1 p.2)=false
variable {D:DataW Unit}
def Come.start(b:Rc rj)(a:RD rj D):Come rj (Maps.has D) []:=by
 refine⟨by simp,λp=>⟨λh=>by simp at h,λ⟨h1,h2⟩=>?_⟩⟩;obtain⟨c,d⟩:=b.fits p h1;rw[a.has _ _ c d]at h2;have:rj.contains (p.1,p.2)=true:=by rw[XW];exact h1
 rw[this]at h2;cases h2
variable {left:Lit->Bool}
def Come.step(h:Come rj left ss)(i:Rc rj){p:Nat×Nat}(k:p∈rj)(w:left (cG p.1 p.2)=true):Come rj (λz=>left z&&!z.sameKey (cG p.1 p.2)) (ss++[p]):=by
 have c:(cG p.1 p.2).sameKey (cG p.1 p.2)=true:=by simp[cG,Lit.sameKey]
 have g:p ∉ ss:=λx=>by have:=((h.mem p).1 x).2;rw[w]at this;cases this
 refine⟨XP.2 ⟨h.nd,by simp,λa v b j e=>?_⟩,λq=>?_⟩
 ·simp at j;subst j;subst e;exact g v
 rw[xx,XN,h.mem];constructor
 ·rintro(⟨d,f⟩|rfl)
  ·exact⟨d,by rw[f];rfl⟩
  exact⟨k,by rw[c];simp⟩
 rintro⟨d,f⟩;by_cases e:q=p
 ·exact Or.inr e
 have:(cG q.1 q.2).sameKey (cG p.1 p.2)=false:=xcs (λs=>e (by
  obtain⟨l,m⟩:=i.fits q d;obtain⟨n,r⟩:=i.fits p k;obtain⟨t,u⟩:=gO l m n r s;exact Prod.ext t u))
 rw[this]at f;exact Or.inl ⟨d,by simpa using f⟩
def Come.all(h:Come rj left ss)(a:Rc rj)(b:∀c,left c=false):ss.Perm rj :=
 (YN h.nd a.nodup).2 (λp=>by rw[h.mem,b];simp)
def Come.lt(h:Come rj left ss){p:Nat×Nat}(l:p∈rj)(i:left (cG p.1 p.2)=true):ss.length<rj.length:=by
 have d:p ∉ ss:=λj=>by have:=((h.mem p).1 j).2;rw[i]at this;cases this
 have k:(ss++[p]).Nodup:=XP.2 ⟨h.nd,by simp,λa g b f e=>by simp at f;subst f;subst e;exact d g⟩;have:=ZH (m:=rj) k (λq c=>by
  rcases xx.1 c with c|c
  ·exact((h.mem q).1 c).1
  simp at c;subst c;exact l)
 simp at this;omega
def Dc(m:Nat)(a1:1<=m)(Bm b:Nat){rj:List (Nat×Nat)}{D:DataW Unit}(v:Rc rj)(T:RD rj D)(w:World)(z:Bm<w.heap.size)(hm:w.cell? ⟨Bm,0,none⟩=some (.map (some b)))(a:yU w b (Maps.size D) D):SeqStops Fence.wide m prog 174 #[.pointer (some ⟨Bm,0,none⟩)] OY (λss=>ss.Perm rj) (λ_=>True) rj.length w:=λl J Jx W X C _ hY h0=>by
 have f:yU W b (Maps.size D) D:=zu a (X.block b a.lt);have a2:W.cell? ⟨Bm,0,none⟩=some (.map (some b)):=(X.cell (p:=⟨Bm,0,none⟩) z).trans hm;refine callsIn_of_wp func174 rfl trivial ?_ rfl
 simp only[ntmps174,xbq,List.length_cons,XO,Nat.reduceAdd,Nat.reduceSub,Array.replicate_succ,Array.replicate_zero,List.push_toArray,List.append_toArray,xaX,XS];gi_wp2_with (first
  |(gi_at_range;refine wpListIn_range_own _ rfl _ 114 rfl 202 206 Ib OC _ b (Maps.size D) D rfl f ?_;intro w0 q M a3)
  |gi_in)
 go_frame
 gi_loopw [3] (λ_ wr=>∃(left:Lit->Bool) (cnt:Nat) (ss:List (Nat×Nat)),wr.ranges prog 202 (unitElem (H:=Unit)) b W.heap.size (Maps.size D) D left cnt/\(∀t,left t=true->Maps.has D t=true)/\Come rj left ss/\J ss wr) (λ_ wr=>wr.rangeLeft b W.heap.size)
 case atStart=>exact⟨_,_,[],q,λt h=>h,Come.start v T,C [] W w0 none h0 M (λr e=>by cases e)⟩
 obtain⟨left,cnt,ss,g,d,A,j⟩:=hrel;gi_wp2_with (first
  |(gi_at_next;refine xJ v T rfl _ rfl b W.heap.size (Maps.size D) left cnt rfl d g ?_ ?_)
  |gi_in)
 ·intro a0 P;gi_wp2;go_end0;exact⟨⟨_,rfl⟩,.inl ⟨ss,A.all v P,j⟩⟩
 intro x y w2 i Z n s Q N R K;have E:J ss w2:=C ss wr w2 (some W.heap.size) j N (λr e=>by cases e;exact⟨xe _,g.iter_walk⟩);have F:=C ss w2 (w2.alloc (.cells #[.int .i64 x,.int .i64 y] 202)) none E (World.grownBy_alloc _ _ none) (λr e=>by cases e);obtain⟨fn,tmps,u,S,hy,G⟩:=hY ss (x,y) _ F (A.lt Z n);unfold OY at hy K;clear R;gi_wp2;refine G.mono ?_
 have B:=A.step v Z n;rintro e W3 (⟨rfl,hJ4,hk3⟩|⟨rfl,hJx3⟩)
 ·gi_wp2
  have c:=(s.alloc _).of_walks hk3;go_roundw
  case rel=>exact⟨_,i,ss++[(x,y)],c,λt k=>d t (by simp only[XK]at k;exact k.1),B,hJ4⟩
  rw[c.left_eq,g.left_eq];exact Q
 gi_wp2
 refine bodyPost_ret (results_none rfl _ _ _) rfl ?_
 exact⟨⟨_,rfl⟩,.inr ⟨ss++[(x,y)],trivial,hJx3⟩⟩
def JN(a:Option Nat)(w:World):Calls prog 130 #[.map a] w λe w'=>e=.returned (.func (.func 174) #[] #[.pointer (some ⟨w.heap.size,0,none⟩)])/\w'=w.alloc (.cells #[.map a] 114):=by
 go_enter func130,ntmps130;go_wp2_with fail;go_ret;exact⟨rfl,rfl⟩
def QE:(prog.info? 202).map (λi=>(i.zero,i.size,i.bytes))=some (some (.agg #[.int .i64 0,.int .i64 0]),2,16):=by kernel_rfl
def TK:prog.underlying 199=some (.slice 202):=by kernel_rfl
def FL(g:Nat)(lb:Array Value)(eg:∀args w,(callFunc g args).run prog w=.ok (.enter g args) w)(S:List (Nat×Nat)->Prop)(N:Nat)(hN:N<=1000)(w:World)(C:∀m,1<=m->SeqStops Fence.wide m prog g lb OY S (λ_=>True) N w):CallsIn Fence.wide 4 prog 191 #[.slice none 0 0,.func (.func g) #[] lb] w λe w'=>∃(v:Value) (G:List (Nat×Nat)),e=.returned v/\S G/\w'.ownsRow w.heap.size 202 2 v G.length (zl G)/\Below w.heap.size w w':=by
 obtain⟨i0,hi,a0,a1,a2⟩:=XT QE;refine callsIn_of_wp_marks func191 rfl trivial ?_ rfl
 simp only[ntmps191,xbq,List.length_cons,XO,Nat.reduceAdd,Nat.reduceSub,Array.replicate_succ,Array.replicate_zero,List.push_toArray,List.append_toArray,xaX,XS];gi_wp2;obtain⟨y,d⟩:∃y,w.alloc (.cells #[.slice none 0 0] 199)=y:=⟨_,rfl⟩
 have a7:y.heap.size=w.heap.size+1:=by rw[<-d];simp
 have T:Boxed y w.heap.size 199 (.slice none 0 0):=by rw[<-d];exact Boxed.new _ _ _
 have B:Below w.heap.size w y:=by rw[<-d];exact(xm _ w).alloc (xe _) _
 rw[d];clear d;refine wpIn_rangeFunc_ownH (F:=Fence.wide) (n:=4) rfl (by omega) (gf:=g) (lb:=lb) rfl trivial eg (encs:=λx=>#[OY x]) (Kp:=KeepsWalks) (C 3 (by omega)) walksK_t walksK_b B (λ_=>rfl)
  (λb W=>(∃v,Boxed W w.heap.size 199 v/\W.ownsRow w.heap.size 202 2 v b.length (zl b)/\True)/\Below w.heap.size w W) (λ_ _ _=>False)
  (OwnFrom.and (Own.from (holdsRow_own w.heap.size w.heap.size 199 202 2 (λb=>b.length) zl (λ_ _=>True)) _) (ownFrom_below (xe _) (by omega)))
  (λ_ _ _ _ _ R _ _=>R) ⟨⟨_,T,Xx _ _ _ _,trivial⟩,B⟩
  (λx J W=>∃i,W.heap[i]?=some (.cells #[.int .i64 x.1,.int .i64 x.2] 202 (0,0))/\J={ tmps:=#[.slice none 0 0,.func (.func g) #[] lb,.pointer (some ⟨w.heap.size,0,none⟩),undef,.slice none 0 0,.pointer (some ⟨i,0,none⟩),.func (.func g) #[] lb,OY x,undef,undef,undef,undef,undef],defers:=[] })
  (λx J _ X Y row R hg hr=>by
   obtain⟨i,M,h2⟩:=R;refine⟨i,(hg.block i (zc M) (λe=>?_)).trans M,h2⟩;obtain⟨_,o,H,hc⟩:=hr i e.symm;rw[M]at H;cases H;cases hc)
  ?assign ?body ?done ?stop
 case assign=>
  rintro l b x W K ⟨⟨v,p,a,_⟩,j⟩ A;unfold OY;gi_wp2;exact A _ _ ((KeepsOthers.alloc _ _).from _) (KeepsWalks.alloc _ _) ⟨⟨v,p.alloc _,a.alloc _,trivial⟩,j.alloc j.size _⟩ ⟨W.heap.size,xp W _,rfl⟩
 case body=>
  rintro l b x J W hl ⟨r,hr⟩ ⟨⟨v,p,a,_⟩,j⟩ ⟨i,z,rfl⟩ a6;have cS:=p.cell;have fS:=p.frozen;have x0:W.cell? ⟨i,0,none⟩=some (.int .i64 x.1):=by rw[za z];rfl
  have x1:W.cell? ⟨i,1,none⟩=some (.int .i64 x.2):=by rw[za z];rfl
  gi_wp2_with (gi_at_builtin;refine wpListIn_append_own _ rfl _ _ 199 rfl w.heap.size 202 i0 (.agg #[.int .i64 0,.int .i64 0]) 2 16 TK hi a0 a1 a2 rfl (by decide) _ _ _ rfl (a.alloc _) ⟨W.heap.size,0,none⟩ 1 1 [.int .i64 x.1,.int .i64 x.2] rfl rfl (λq u hu=>by have:=Yt W (.int .i64 x.1) (.int .i64 x.2) 202 q u hu;simpa using this) (by simp[Value.oneCell']) (by unfold maxLen;omega) (by omega) (by have:=j.size;simp;omega) ?_;intro v' w1 f s _;obtain⟨g',a3,rfl⟩:=ownsRow_succ f;obtain⟨E,Z,Q,t,P⟩:=p.appended (by decide) a j.size (xe _) f s;have a4:=E.cell;have a5:=E.frozen)
  refine⟨t.from _,⟨t.size,λk o hk H=>t.same k o hk (Obj.not_cells_of_walk H)⟩,⟨_,Z,?_,trivial⟩,j.trans P⟩;rw[jS,xc];exact Q
 case done=>
  rintro D G W hD hS ⟨⟨v,p,a,_⟩,j⟩ A;have cS:=p.cell;gi_wp2;refine⟨by simp,.inl ⟨_,_,rfl,run_takeDeferred A,?_⟩⟩;exact⟨_,results_tmp rfl _ _ _,v,G,rfl,hS,ownsRow_putObj a _ A rfl,j.trans (belowK_b (w:=y) (by omega) W D _ _ hD A rfl rfl)⟩
 case stop=>
  rintro D c b W _ _ h _;exact h.elim
def Uh:∀args w,(callFunc 174 args).run prog w=.ok (.enter 174 args) w:=YI func174 (by kernel_rfl) rfl
variable {Bm G b base:Nat}
def Aj(f:Rc rj)(g:RD rj D)(c:Bm<w.heap.size)(h:w.cell? ⟨Bm,0,none⟩=some (.map (some b)))(a:yU w b (Maps.size D) D):Calls prog 172 #[.func (.func 174) #[] #[.pointer (some ⟨Bm,0,none⟩)]] w λe w'=>∃(v:Value) (ss:List (Nat×Nat)),e=.returned v/\ss.Perm rj/\w'.ownsRow w.heap.size 202 2 v ss.length (zl ss)/\Below w.heap.size w w':=by
 have i:=zb ((xbM (n:=4)).1 (FL 174 #[.pointer (some ⟨Bm,0,none⟩)] Uh (λss=>ss.Perm rj) rj.length (by have:=f.len;omega) w (λm j=>Dc m j Bm b f g w c h a)));clear f g c h a;go_enter func172,ntmps172;go_wp2_with (go_at_call 191;refine(i.o).mono ?_;rintro e w1 ⟨v,ss,rfl,k,d,l⟩);go_ret;exact⟨v,ss,rfl,k,d,l⟩
open Go.RowKit Go.Maps Go.Sort Go.Shelf
def VL{P: Program}{f: Nat}{B: Func}(h : (((P.funcs[f]?).getD default).name == "runtime.NumGoroutine") = false)(e : P.funcs[f]? = some { B with name := ((P.funcs[f]?).getD default).name }): Bears P f B := ⟨_, h, e⟩
def AX:Go.Shelf.Ren:=⟨fun|7=>126|10=>171|n=>n,fun|23=>112|26=>2|3=>2|28=>194|0=>0|27=>193|33=>236|4=>4|n=>n,fun|n=>n⟩
def SZ:SlLaysZI.n7 prog AX:=by constructor<;>first|kernel_rfl|(intro w;kernel_rfl)|(apply VL<;>kernel_rfl)
def rS:Go.Shelf.Ren:=⟨fun|6=>125|8=>169|9=>170|11=>189|13=>186|12=>190|23=>210|24=>211|14=>220|15=>221|16=>222|17=>223|18=>224|19=>225|20=>226|21=>227|22=>228|25=>250|26=>243|27=>244|28=>251|29=>252|30=>187|31=>262|n=>n,fun|26=>2|28=>194|24=>81|0=>0|3=>3|37=>176|48=>188|50=>300|4=>4|40=>292|39=>291|45=>296|5=>5|9=>9|51=>321|55=>325|57=>334|58=>135|33=>236|n=>n,fun|n=>n⟩
def RE:SlLaysZI.n6 prog rS:=by constructor<;>first|kernel_rfl|(intro w;kernel_rfl)|(apply VL<;>kernel_rfl)
def Lp:Go.Shelf.Ren:=⟨fun|5=>170|8=>186|7=>190|19=>210|20=>211|10=>220|11=>221|12=>222|13=>223|14=>224|15=>225|16=>226|17=>227|18=>228|30=>250|31=>243|32=>244|33=>251|34=>252|35=>187|40=>262|n=>n,fun|23=>81|25=>2|3=>3|32=>176|22=>81|0=>0|44=>188|46=>300|4=>4|36=>292|35=>291|41=>296|5=>5|9=>9|53=>321|57=>325|63=>334|64=>135|n=>n,fun|n=>n⟩
def Tz:SlLaysM.n5 prog Lp:=by constructor<;>first|kernel_rfl|(intro w;kernel_rfl)|(apply VL<;>kernel_rfl)
def TA(m:Nat):AnyZI.SortsIn prog rS Fence.wide m :=
 ⟨λblk c cap e W d a b=>xbM.2 (AnyM.slices_Sort_int Tz blk c cap e W d a b),
  λp cap W=>xbM.2 (AnyM.slices_Sort_int_none Tz p cap W)⟩
def JM(a:Option Nat)(w:World):Calls prog 126 #[.map a] w λe w'=>e=.returned (.func (.func 171) #[] #[.pointer (some ⟨w.heap.size,0,none⟩)])/\w'=w.alloc (.cells #[.map a] 112) :=
 (xbM (n:=5)).1 (AnyZI.keys_in SZ Fence.wide 5 trivial rfl a w)
def NB{ss:List Int}(a:ss.Perm (intKeys D)):ss.length=Maps.size D:=by
 rw[a.length_eq]
 cases D<;>simp[intKeys,Maps.size]
def DT{os:List O}(B:(os.map O.id).Nodup)(q:∀o∈os,1<=o.id/\o.id<=2147483647)(f:os.length<=10)(j:Bm<w.heap.size)(A:w.cell? ⟨Bm,0,none⟩=some (.map (some b)))(h:Mv w b (Maps.size D) D)(a:OD os D):Calls prog 125 #[.func (.func 171) #[] #[.pointer (some ⟨Bm,0,none⟩)]] w λe w'=>Below w.heap.size w w'/\∃v,e=.returned v/\w'.ownsRow w.heap.size 2 1 v (Wz os).length (I (Wz os)):=by
 have C:Maps.size D<=10:=by rw[a.size];exact f
 have i:=(AnyZI.keys_stops (ρ:=AX) { SZ with } Fence.wide 2 trivial rfl (by omega) Bm b (Maps.size D) D w j A h).gives;have s:=AnyZI.sorted_in RE Fence.wide 5 trivial trivial trivial trivial rfl (by omega) (TA _) (YI func170 (by kernel_rfl) rfl) 171 #[.pointer (some ⟨Bm,0,none⟩)] trivial (YI func171 (by kernel_rfl) rfl) _ _ (by unfold maxLen;omega) (by omega) _ i;refine((xbM (n:=5)).1 s).mono ?_
 rintro e w' ⟨v,p,rfl,⟨k,l⟩,c,_,u⟩;have z:=NB k;have g:∀x:Int,x∈p↔∃o∈os,x=(o.id:Int):=λx=>by
  rw[l];constructor
  ·intro E;obtain⟨o,d,e⟩:=a.keys _ E;refine⟨o,d,?_⟩;simpa [dT] using e
  rintro⟨o,d,rfl⟩;have:=a.has o.id (q o d).2;rw[show(Lit.int .i64 ((o.id:Nat):Int))=dT o.id from rfl,this];exact xal.2 ⟨o,d,by simp⟩
 have r:=Hj B (λo d=>(q o d).1) (z.trans a.size) g;refine⟨u,v,rfl,?_⟩;have m:p.length=(Wz os).length:=by
  have:=YK List.length r
  rw[List.length_mergeSort,List.length_map]at this;exact this
 have t:(p.mergeSort (λx y=>decide (x<=y))).map encZ=I (Wz os):=by rw[r];simp[I]
 rw[t,m]at c;exact c
open Go.RowKit
def TV(a b:Nat×Nat):Int:=Lib.compareInt (a.1:Int) (b.1:Int)
def QZ(a b:Nat×Nat):TV a b<0↔Pr a b=true:=by unfold TV;rw[pR];simp[Pr]
def NW(a b:Nat×Nat)(W:World)(x:Ex):Calls prog 168 #[.agg #[.int .i64 a.1,.int .i64 a.2],.agg #[.int .i64 b.1,.int .i64 b.2]] (ext W x) λe w'=>e=.returned (.int .i64 (TV a b))/\∃f,w'=ext W f:=by
 have c:=λd=>vW (a.1:Int) (b.1:Int) d
 unfold TV;generalize Lib.compareInt (a.1:Int) (b.1:Int)=r at c;go_enter func168,ntmps168;go_wp2_with (go_at_call 165;refine(c _).mono ?_;rintro e w' ⟨rfl,rfl⟩);go_ret;exact⟨rfl,_,by rw[ZE,ZE]⟩
def JT(n:Nat)(a:n<=12)(w:World):Calls prog 211 #[.int .u64 (n:Int)] w λe w'=>(∃m,e=.returned (.int .i64 m))/\w'=w:=by
 have h:n=0\/n=1\/n=2\/n=3\/n=4\/n=5\/n=6\/n=7\/n=8\/n=9\/n=10\/n=11\/n=12:=by omega
 rcases h with rfl|rfl|rfl|rfl|rfl|rfl|rfl|rfl|rfl|rfl|rfl|rfl|rfl
 all_goals
  go_enter func211,ntmps211;go_wp2_with fail;go_ret;exact⟨⟨_,rfl⟩,rfl⟩
def Eo(n:Nat)(b:n<=12)(w:World):Calls prog 186 #[.int .u64 (n:Int)] w λe w'=>(∃m,e=.returned (.int .i64 m))/\w'=w:=by
 have a:=zb (λw=>JT n b w);go_enter func186,ntmps186;go_wp2_with (go_at_call 211;refine(a.o _).mono ?_;rintro e w' ⟨⟨m,rfl⟩,rfl⟩);go_ret;exact⟨⟨_,rfl⟩,rfl⟩
variable {cf:Nat×Nat->Nat×Nat->Int}{lt:Nat×Nat->Nat×Nat->Bool}{v:Value}
def GQ(d:∀args w,(callFunc G args).run prog w=.ok (.enter G args) w)(c:∀a b W x,Calls prog G #[.agg #[.int .i64 a.1,.int .i64 a.2],.agg #[.int .i64 b.1,.int .i64 b.2]] (ext W x) λe w'=>e=.returned (.int .i64 (cf a b))/\∃q,w'=ext W q)(f:∀a b,cf a b<0↔lt a b=true)(h:w.ownsRow base 234 2 v l.length (zl l))(n:l.length<=12)(m:Int):Calls prog 188 #[v,.int .i64 0,.int .i64 l.length,.int .i64 m,.func (.func G) #[] #[]] w λe w'=>e=.returned (.tuple #[])/\Kp (λk=>v.ownBlock=some k) w w'/\w'.ownsRow base 234 2 v l.length (zl (Wm lt l)):=by
 have j:=zb (SV (Or.inl rfl) d c f h n);have p:((l.length:Int)<=12):=by omega
 clear d c f h;go_enter func188,ntmps188;go_wp2_with fail;refine YM 1 ?_
 rw[xar];go_wp2_with (go_at_call 212;refine(j.o).mono ?_;rintro e w1 ⟨rfl,g,i⟩);go_returns;exact⟨rfl,g,i⟩
def DR(d:∀args w,(callFunc G args).run prog w=.ok (.enter G args) w)(c:∀a b W x,Calls prog G #[.agg #[.int .i64 a.1,.int .i64 a.2],.agg #[.int .i64 b.1,.int .i64 b.2]] (ext W x) λe w'=>e=.returned (.int .i64 (cf a b))/\∃t,w'=ext W t)(f:∀a b,cf a b<0↔lt a b=true)(h:w.ownsRow base 234 2 v l.length (zl l))(j:l.length<=12):Calls prog 167 #[v,.func (.func G) #[] #[]] w λe w'=>e=.returned (.tuple #[])/\Kp (λk=>v.ownBlock=some k) w w'/\w'.ownsRow base 234 2 v l.length (zl (Wm lt l)):=by
 have r:=zb (λm=>GQ d c f h j m);obtain⟨u,p,s⟩:=zj h;subst s;have q:=zb (λw=>Eo l.length j w);clear d c f h;generalize l.length=n at *;go_enter func167,ntmps167;go_wp2_with (first
  |(go_at_call 186;refine(q.o _).mono ?_;rintro e w' ⟨⟨m,rfl⟩,rfl⟩)
  |(go_at_call 188;refine(r.o _).mono ?_;rintro e w1 ⟨rfl,g,i⟩))
 go_end0
 exact⟨rfl,g,i⟩
def GR(d:∀args w,(callFunc G args).run prog w=.ok (.enter G args) w)(c:∀a b W x,Calls prog G #[.agg #[.int .i64 a.1,.int .i64 a.2],.agg #[.int .i64 b.1,.int .i64 b.2]] (ext W x) λe w'=>e=.returned (.int .i64 (cf a b))/\∃q,w'=ext W q)(f:∀a b,cf a b<0↔lt a b=true)(h:w.ownsRow base 202 2 v l.length (zl l))(n:l.length<=12)(m:Int):Calls prog 192 #[v,.int .i64 0,.int .i64 l.length,.int .i64 m,.func (.func G) #[] #[]] w λe w'=>e=.returned (.tuple #[])/\Kp (λk=>v.ownBlock=some k) w w'/\w'.ownsRow base 202 2 v l.length (zl (Wm lt l)):=by
 have j:=zb (SV (Or.inr rfl) d c f h n);have p:((l.length:Int)<=12):=by omega
 clear d c f h;go_enter func192,ntmps192;go_wp2_with fail;refine YM 1 ?_
 rw[xar];go_wp2_with (go_at_call 229;refine(j.o).mono ?_;rintro e w1 ⟨rfl,g,i⟩);go_returns;exact⟨rfl,g,i⟩
def DS(d:∀args w,(callFunc G args).run prog w=.ok (.enter G args) w)(c:∀a b W x,Calls prog G #[.agg #[.int .i64 a.1,.int .i64 a.2],.agg #[.int .i64 b.1,.int .i64 b.2]] (ext W x) λe w'=>e=.returned (.int .i64 (cf a b))/\∃t,w'=ext W t)(f:∀a b,cf a b<0↔lt a b=true)(h:w.ownsRow base 202 2 v l.length (zl l))(j:l.length<=12):Calls prog 173 #[v,.func (.func G) #[] #[]] w λe w'=>e=.returned (.tuple #[])/\Kp (λk=>v.ownBlock=some k) w w'/\w'.ownsRow base 202 2 v l.length (zl (Wm lt l)):=by
 have r:=zb (λm=>GR d c f h j m);obtain⟨u,p,s⟩:=zj h;subst s;have q:=zb (λw=>Eo l.length j w);clear d c f h;generalize l.length=n at *;go_enter func173,ntmps173;go_wp2_with (first
  |(go_at_call 186;refine(q.o _).mono ?_;rintro e w' ⟨⟨m,rfl⟩,rfl⟩)
  |(go_at_call 192;refine(r.o _).mono ?_;rintro e w1 ⟨rfl,g,i⟩))
 go_end0
 exact⟨rfl,g,i⟩
def UO:∀args w,(callFunc 168 args).run prog w=.ok (.enter 168 args) w:=YI func168 (by kernel_rfl) rfl
def UN:∀args w,(callFunc 131 args).run prog w=.ok (.enter 131 args) w:=YI func131 (by kernel_rfl) rfl
def DU(i:Rc rj)(q:RD rj D)(g:Bm<w.heap.size)(t:w.cell? ⟨Bm,0,none⟩=some (.map (some b)))(d:yU w b (Maps.size D) D):Calls prog 129 #[.func (.func 174) #[] #[.pointer (some ⟨Bm,0,none⟩)],.func (.func 131) #[] #[]] w λe w'=>Below w.heap.size w w'/\∃v,e=.returned v/\w'.ownsRow w.heap.size 202 2 v rj.length (zl (cA rj)):=by
 have u:=zb (Aj i q g t d);have s:=i.len;have l:=zb i.nodup;clear i q g t d;go_enter func129,ntmps129;go_wp2_with (go_at_call 172;refine(u.o).mono ?_;rintro e w1 ⟨v,z,rfl,m,c,r⟩);have h:=m.length_eq;have p:=zb (DS UN Fk KU c (by omega));have x:=zb (QH l.o m);have f:=zb r;have y:Ha (∀k,v.ownBlock=some k->w.heap.size<=k):=λk j=>(c.lt k j).1
 rw[x.o,h]at p;clear m c r h;go_wp2_with (go_at_call 173;refine(p.o).mono ?_;rintro e w2 ⟨rfl,a,n⟩);go_ret;refine⟨⟨a.os.trans f.o.os,a.tape.trans f.o.tape,a.output.trans f.o.output,xj f.o.size a.size,λk j=>?_⟩,v,rfl,n⟩;exact(a.block k (xl j f.o.size) (λe=>by have:=y.o k e;omega)).trans (f.o.block k j)
def QC:(prog.info? 234).map (λi=>(i.zero,i.size,i.bytes))=some (some (.agg #[.int .i64 0,.int .i64 0]),2,16):=by kernel_rfl
def TH:prog.underlying 229=some (.slice 234):=by kernel_rfl
def SG(a:Addr)(n c:Nat)(w:World):(binOp .eql 229 (.slice (some a) n c) (.slice none 0 0)).run prog w=.ok (.bool false) w:=by kernel_rfl
def uL:∀l:List (Nat×Nat),(zl l).length=l.length*2
 |[]=>rfl
 |p::l=>by simp only[zl,List.length_cons,uL l];omega
def Ba:∀(l:List (Nat×Nat)) (u:Value),u∈zl l->u.oneCell'=true
 |[],u,h=>by simp[zl]at h
 |p::l,u,h=>by
  simp only[zl,xz]at h;rcases h with rfl|rfl|h
  ·rfl
  ·rfl
  exact Ba l u h
def AZ:∀(l:List (Nat×Nat)) (j:Nat) (u:Value),(zl l)[j]?=some u->∃i,i<l.length/\((j=2*i/\u=.int .i64 ((l.getD i (0,0)).1:Int))\/(j=2*i+1/\u=.int .i64 ((l.getD i (0,0)).2:Int)))
 |[],j,u,h=>by simp[zl]at h
 |p::l,0,u,h=>by simp[zl]at h;exact⟨0,by simp,Or.inl ⟨rfl,by simp[<-h]⟩⟩
 |p::l,1,u,h=>by simp[zl]at h;exact⟨0,by simp,Or.inr ⟨rfl,by simp[<-h]⟩⟩
 |p::l,j+2,u,h=>by
  have b:(zl l)[j]?=some u:=by simpa [zl] using h
  obtain⟨i,e,c⟩:=AZ l j u b;refine⟨i+1,by simp;omega,?_⟩;rcases c with ⟨d,a⟩|⟨d,a⟩
  ·exact Or.inl ⟨by omega,by simpa using a⟩
  exact Or.inr ⟨by omega,by simpa using a⟩
def Ah{q cap:Nat}{g:Array Value}{ps:List (Nat×Nat)}(G:ps.length<=2)(f:w.heap[q]?=some (.cells g 234 (0,0)))(z:∀j,j<ps.length->g[2*j]?=some (.int .i64 ((ps.getD j (0,0)).1:Int))/\g[2*j+1]?=some (.int .i64 ((ps.getD j (0,0)).2:Int))):Calls prog 166 #[.slice (some ⟨q,0,none⟩) ps.length cap] w λe w'=>Below w.heap.size w w'/\∃v',e=.returned v'/\w'.ownsRow w.heap.size 234 2 v' ps.length (zl ps):=by
 obtain⟨F,n,t,v,x⟩:=XT QC;have D:=SG;have m:q<w.heap.size:=zc f;have h:=VE w (.cells #[] 234);have c:(w.alloc (.cells #[] 234)).ownsRow w.heap.size 234 2 (.slice (some ⟨w.heap.size,0,none⟩) 0 0) 0 []:=Yb w #[] 0 (xe _) (by unfold maxLen;simp) rfl;have A:Ha (∀j u,(zl ps)[j]?=some u->(w.alloc (.cells #[] 234)).cell? ((⟨q,0,none⟩:Addr).add j)=some u):=λj u E=>by
  rw[Addr.add_lit,h.cell (by exact m)];obtain⟨i,n,s⟩:=AZ ps j u E;obtain⟨c1,c2⟩:=z i n;rcases s with ⟨rfl,rfl⟩|⟨rfl,rfl⟩
  ·rw[Yz,za f];exact c1
  rw[Yz,za f];exact c2
 have y:=zb h;have d:=Ba ps;have p:=uL ps;clear h f z;go_enter func166,ntmps166;go_wp2_with (at_builtin;refine Xr _ rfl _ _ 229 rfl w.heap.size 234 F (.agg #[.int .i64 0,.int .i64 0]) 2 16 TH n t v x rfl (by decide) _ 0 [] rfl c ⟨q,0,none⟩ ps.length cap (zl ps) rfl (by rw[p]) A.o d ?c3 ?c4 ?c5 ?_)
 case c3=>unfold maxLen;omega
 case c4=>omega
 case c5=>simp
 intro v' w2 b a r;have l:Below w.heap.size w w2:=y.o.grown a y.o.size (λk C=>(c.lt k C).1);have B:Ha (w2.ownsRow w.heap.size 234 2 v' ps.length (zl ps)):=by
  unfold Ha;simpa using b
 clear b a r c;go_wp2_with fail;go_ret;exact⟨l,v',rfl,B.o⟩
def De{l:L}{pv:Value}(i:w.heap[b]?=some (.cells (zm l pv) 231 (0,0)))(hp:Par w pv l.par)(r:L.Ok l):Calls prog 124 #[.pointer (some ⟨b,0,none⟩)] w λe w'=>Below w.heap.size w w'/\∃g c,e=.returned (.slice (some ⟨g,0,none⟩) (yP l).length c)/\w'.ownsRow w.heap.size 2 1 (.slice (some ⟨g,0,none⟩) (yP l).length c) (yP l).length (I (yP l)):=by
 obtain⟨i0,hi,d6,d7,d8⟩:=XT QA;have y:=zc i;have c0:w.cell? ⟨b,0,none⟩=some (.int .i64 l.id):=by rw[za i];rfl
 have c1:w.cell? ⟨b,1,none⟩=some (.int .i64 l.gd):=by rw[za i];rfl
 have c2:w.cell? ⟨b,2,none⟩=some (.int .i64 l.ex):=by rw[za i];rfl
 have c3:w.cell? ⟨b,3,none⟩=some (.int .i64 l.place):=by rw[za i];rfl
 have c4:w.cell? ⟨b,4,none⟩=some pv:=by rw[za i];rfl
 have c5:w.cell? ⟨b,5,none⟩=some (.int .i64 l.got):=by rw[za i];rfl
 have c6:w.cell? ⟨b,6,none⟩=some (.int .i64 l.free):=by rw[za i];rfl
 have c7:w.cell? ⟨b,7,none⟩=some (.int .i64 l.hd):=by rw[za i];rfl
 have c8:w.cell? ⟨b,8,none⟩=some (.int .i64 l.sh):=by rw[za i];rfl
 have c9:w.cell? ⟨b,9,none⟩=some (.int .i64 l.sc):=by rw[za i];rfl
 obtain⟨pa,a0,d2⟩:=Prs.isSl hp;rw[d2]at c4;have f4:=r.par.1;have HP:=zb hp;have e8:=zb d2;have e3:=zb i;have B:Ha (yP l=[l.id,l.gd,l.ex,l.place,l.free,l.hd,l.sh,l.sc,l.par.length]++(if l.par.length=0 then [l.got] else (Wm Pr l.par).flatMap (λp=>[p.1,p.2]))):=rfl;obtain⟨n,H⟩:=Ww l.par.length;rw[<-H.o]at c4 f4 B;have k1:=r.id;have k2:=r.gd;have k3:=r.ex;have k4:=r.place;have k5:=r.sum;have k6:=r.got;clear i hp d2 r;go_enter func124,ntmps124;go_wp2_with fail;go_region_held3 (λw'=>w'.cell? ⟨b,0,none⟩=some (.int .i64 l.id)/\w'.cell? ⟨b,1,none⟩=some (.int .i64 l.gd)/\w'.cell? ⟨b,2,none⟩=some (.int .i64 l.ex)/\w'.cell? ⟨b,3,none⟩=some (.int .i64 l.place)/\w'.cell? ⟨b,6,none⟩=some (.int .i64 l.free)/\w'.cell? ⟨b,7,none⟩=some (.int .i64 l.hd)/\w'.cell? ⟨b,8,none⟩=some (.int .i64 l.sh)/\w'.cell? ⟨b,9,none⟩=some (.int .i64 l.sc)) (go_keep) (fail);have j:Ha (Below w.heap.size w (w.alloc (.cells #[.int .i64 l.id,.int .i64 l.gd,.int .i64 l.ex,.int .i64 l.place,.int .i64 l.free,.int .i64 l.hd,.int .i64 l.sh,.int .i64 l.sc] 2)).drew):=(VE w _).drew;obtain⟨s,a7⟩:∃A:List Nat,Ha (A=[l.id,l.gd,l.ex,l.place,l.free,l.hd,l.sh,l.sc]):=⟨_,rfl⟩
 have K:Ha ((w.alloc (.cells #[.int .i64 l.id,.int .i64 l.gd,.int .i64 l.ex,.int .i64 l.place,.int .i64 l.free,.int .i64 l.hd,.int .i64 l.sh,.int .i64 l.sc] 2)).drew.ownsRow w.heap.size 2 1 (.slice (some ⟨w.heap.size,0,none⟩) 8 8) 8 (I s)):=by
  rw[a7.o];refine⟨by simp[I],Or.inr ⟨w.heap.size,8,#[.int .i64 l.id,.int .i64 l.gd,.int .i64 l.ex,.int .i64 l.place,.int .i64 l.free,.int .i64 l.hd,.int .i64 l.sh,.int .i64 l.sc],rfl,xe _,xp w _,?_⟩⟩;simp[I];unfold maxLen;omega
 obtain⟨w1,e9⟩:∃w1,Ha (w1=(w.alloc (.cells #[.int .i64 l.id,.int .i64 l.gd,.int .i64 l.ex,.int .i64 l.place,.int .i64 l.free,.int .i64 l.hd,.int .i64 l.sh,.int .i64 l.sc] 2)).drew):=⟨_,rfl⟩
 rw[<-e9.o]at j K ⊢;clear e9;have d4:=(j.o.cell (p:=⟨b,4,none⟩) (by exact y)).trans c4;have d5:=(j.o.cell (p:=⟨b,5,none⟩) (by exact y)).trans c5;clear c0 c1 c2 c3 c4 c5 c6 c7 c8 c9;go_wp2_with (at_builtin;refine Xr _ rfl _ _ 81 rfl w.heap.size 2 i0 (.int .i64 0) 1 8 Mn hi d6 d7 d8 rfl (by decide) _ 8 (I s) rfl (K.o.alloc _) ⟨w1.heap.size,0,none⟩ 1 1 [.int .i64 n] rfl rfl ?a1 ?a2 ?a3 ?a4 ?a5 ?_)
 case a1=>exact Zy _ _ _
 case a2=>intro u Z;simp at Z;subst Z;rfl
 case a3=>unfold maxLen;omega
 case a4=>omega
 case a5=>have:=j.o.size;simp;omega
 intro v2 w2 d0 f1 g7;have a:Ha (Below w.heap.size w w2):=(j.o.alloc j.o.size _).grown f1 (by have:=j.o.size;simp;omega) (λq T=>(K.o.lt q T).1);have D:Ha (w2.ownsRow w.heap.size 2 1 v2 9 (I (s++[n]))):=by
  unfold Ha;have e:I (s++[n])=I s++[.int .i64 n]:=by simp[I]
  rw[e];exact d0
 obtain⟨g2,cap2,h0,_,_⟩:=zL d0 (by omega);subst h0;have e4:=(a.o.cell (p:=⟨b,4,none⟩) (by exact y)).trans (by
  have:=e3.o;show w.cell? ⟨b,4,none⟩=some (.slice pa n a0);rw[za this,H.o,<-e8.o];rfl)
 have e5:=(a.o.cell (p:=⟨b,5,none⟩) (by exact y)).trans (by
  have:=e3.o;show w.cell? ⟨b,5,none⟩=some (.int .i64 l.got);rw[za this];rfl)
 clear d0 f1 g7 j K d4 d5;by_cases b9:n=0
 ·subst b9;rw[xh rfl]at B;go_wp2_with (at_builtin;refine Xr _ rfl _ _ 81 rfl w.heap.size 2 i0 (.int .i64 0) 1 8 Mn hi d6 d7 d8 rfl (by decide) _ 9 (I (s++[0])) rfl (D.o.alloc _) ⟨w2.heap.size,0,none⟩ 1 1 [.int .i64 l.got] rfl rfl ?b1 ?b2 ?b3 ?b4 ?b5 ?_)
  case b1=>exact Zy _ _ _
  case b2=>intro u Z;simp at Z;subst Z;rfl
  case b3=>unfold maxLen;omega
  case b4=>omega
  case b5=>have:=a.o.size;simp;omega
  intro v3 w3 m f2 g8;have f:Ha (Below w.heap.size w w3):=(a.o.alloc a.o.size _).grown f2 (by have:=a.o.size;simp;omega) (λq T=>(D.o.lt q T).1);have HE:Ha ((yP l).length=10/\I (yP l)=I (s++[0])++[.int .i64 l.got]):=by
   unfold Ha;rw[B.o,a7.o];exact⟨rfl,by simp[I]⟩
  have E:=zb m;obtain⟨g3,f0,d3,_,_⟩:=zL m (by omega);subst d3;clear m f2 g8;go_wp2_with fail;go_ret;refine⟨f.o,g3,f0,by rw[HE.o.1];rfl,?_⟩;rw[HE.o.1,HE.o.2];exact E.o
 rw[xg b9]at B;obtain⟨q,f8,cs,f5,f6,f7⟩:=(HP.o.congr (w':=w2) (λq T=>by obtain⟨cs,h3⟩:=HP.o.blk T;exact a.o.block q (zc h3))).resolve_left (λh=>b9 (by rw[H.o,h.2];rfl));have C:=zb (Ah (cap:=f8) (by rw[<-H.o];exact f4) f6 f7);rw[<-f5]at C;have f3:pv=.slice pa n a0:=by rw[e8.o,H.o]
 rw[f3]at C;rw[<-H.o]at C;clear f5 f6 f7 f3;go_wp2_with (go_at_call 166;refine(C.o).mono ?_;rintro e w3 ⟨b6,v3,rfl,m⟩);have b0:=zb (DR (lt:=Pr) UO NW QZ (l:=l.par) (by rw[<-H.o];exact m) (by rw[<-H.o];omega));rw[<-H.o]at b0;have f:Ha (Below w.heap.size w w3):=a.o.trans (b6.mono a.o.size);have E:=zb (zg D.o b6);have HV:Ha (∀k,v3.ownBlock=some k->w2.heap.size<=k):=λk X=>(m.lt k X).1
 obtain⟨va,a6,d3⟩:=zj m;subst d3;clear b6 m C e4 e5;go_wp2_with (go_at_call 167;refine(b0.o).mono ?_;rintro e w4 ⟨rfl,t,d1⟩);obtain⟨P,a8⟩:=Ww (Wm Pr l.par);have F:Ha (n=P.length):=by unfold Ha;rw[a8.o,Wm,CY];exact H.o
 rw[<-a8.o]at d1;rw[<-a8.o]at B;have d9:Ha (Below w.heap.size w w4):=⟨t.os.trans f.o.os,t.tape.trans f.o.tape,t.output.trans f.o.output,xj f.o.size t.size,λk X=>(t.block k (xl X f.o.size) (λe=>by have:=HV.o k e;have:=a.o.size;omega)).trans (f.o.block k X)⟩
 have e6:Ha (w4.ownsRow w.heap.size 2 1 (.slice (some ⟨g2,0,none⟩) 9 cap2) 9 (I (s++[n]))):=zd E.o (λk X=>by
  obtain⟨cs,N⟩:=zh E.o X;exact t.block k (zc N) (λe=>by have:=HV.o k e;have h2:=(D.o.lt k X).2;omega))
 have e7:=zb d1;clear t d1 E f a D HV b0;go_wp2_with fail;go_loopw [3,6,70] (λnn _ ii wr=>∃(k g c:Nat),ii=.int .i64 k/\k<=n/\nn=.slice (some ⟨g,0,none⟩) (9+k*2) c/\wr.ownsRow w.heap.size 2 1 (.slice (some ⟨g,0,none⟩) (9+k*2) c) (9+k*2) (I (s++[n]++(P.take k).flatMap (λp=>[p.1,p.2])))/\(∃v,wr.ownsRow v 234 2 (.slice va n a6) n (zl P))/\Below w.heap.size w wr) (λ_ _ ii _=>n-(intOf ii).toNat)
 case atStart=>exact⟨0,g2,cap2,rfl,by omega,rfl,by simpa using e6.o,⟨_,e7.o⟩,d9.o⟩
 clear e6 e7 d9;obtain⟨k,g,c,rfl,X,rfl,z,⟨v,S⟩,i⟩:=hrel;by_cases b8:k<n
 ·obtain⟨G,rfl,h4,g1,g2⟩:=eT S k (by rw[<-F.o];exact b8) F.o;have HT:Ha ((P.take (k+1)).flatMap (λp=>[p.1,p.2])=(P.take k).flatMap (λp=>[p.1,p.2])++[(P.getD k (0,0)).1,(P.getD k (0,0)).2]):=by
   unfold Ha;rw[ZY (d:=(0,0)) (by rw[<-F.o];exact b8),yw];simp
  generalize P.getD k (0,0)=x at *;obtain⟨x1,x2⟩:=x;simp only at g1 g2 HT;have hB:=VE wr (.cells #[.int .i64 x1,.int .i64 x2] 234);have M:=zb (zg z hB);have a9:=zb (zg S hB);have J:=zb (i.trans (hB.mono i.size));have h5:=i.size;clear z i hB S;go_wp2_with (at_builtin;refine Xr _ rfl _ _ 81 rfl w.heap.size 2 i0 (.int .i64 0) 1 8 Mn hi d6 d7 d8 rfl (by decide) _ (9+k*2) (I (s++[n]++(P.take k).flatMap (λp=>[p.1,p.2]))) rfl (M.o.alloc _) ⟨wr.heap.size+1,0,none⟩ 2 2 [.int .i64 x1,.int .i64 x2] rfl rfl ?c1 ?c2 ?c3 ?c4 ?c5 ?_)
  case c1=>exact jU _ _ _ _ (by simp)
  case c2=>intro u Z;simp at Z;rcases Z with rfl|rfl<;>rfl
  case c3=>unfold maxLen;omega
  case c4=>omega
  case c5=>simp;omega
  intro v5 w5 R b7 g9;obtain⟨g5,W,h1,_,_⟩:=zL R (by omega);subst h1;have g0:Ha (w5.ownsRow w.heap.size 2 1 (.slice (some ⟨g5,0,none⟩) (9+(k+1)*2) W) (9+(k+1)*2) (I (s++[n]++(P.take (k+1)).flatMap (λp=>[p.1,p.2])))):=by
   unfold Ha;have e:I (s++[n]++(P.take (k+1)).flatMap (λp=>[p.1,p.2]))=I (s++[n]++(P.take k).flatMap (λp=>[p.1,p.2]))++[.int .i64 x1,.int .i64 x2]:=by rw[HT.o];simp[I]
   have e0:s++n::(P.take k).flatMap (λp=>[p.1,p.2])=s++[n]++(P.take k).flatMap (λp=>[p.1,p.2]):=by simp
   rw[e0]at R;rw[e,show 9+(k+1)*2=9+k*2+2 by omega];exact R
  have f9:Ha (Below w.heap.size w w5):=(J.o.alloc J.o.size _).grown b7 (by have:=J.o.size;simp at *;omega) (λq T=>(M.o.lt q T).1);have g4:Ha (w5.ownsRow v 234 2 (.slice (some ⟨G,0,none⟩) n a6) n (zl P)):=by
   refine zd (a9.o.alloc (.cells #[.int .i64 x1,.int .i64 x2] 2)) (λq T=>?_);obtain⟨cs,N⟩:=zh (a9.o.alloc (.cells #[.int .i64 x1,.int .i64 x2] 2)) T;obtain⟨ds,g6⟩:=zh (M.o.alloc (.cells #[.int .i64 x1,.int .i64 x2] 2)) (g:=g) rfl;exact b7.block q (zc N) (λe=>zt N g6 (by decide) (xt e))
  rw[show 9+k*2+2=9+(k+1)*2 by omega];clear R b7 g9 M a9 J g1 g2;go_wp2_with fail;go_roundw
  case rel=>exact⟨k+1,g5,W,by go_num,by omega,rfl,g0.o,⟨v,g4.o⟩,f9.o⟩
  simp[intOf];omega
 obtain rfl:k=n:=by omega
 have HE:Ha ((yP l).length=9+k*2/\I (yP l)=I (s++[k]++(P.take k).flatMap (λp=>[p.1,p.2]))):=by
  unfold Ha;have e1:P.take k=P:=by rw[F.o];exact Xs
  have e2:∀Q:List (Nat×Nat),(Q.flatMap (λp=>[p.1,p.2])).length=Q.length*2:=by
   intro Q;induction Q with
   |nil=>rfl
   |cons q Q ih=>simp only[yb,xc,List.length_cons,XO,ih];omega
  rw[B.o,a7.o,e1];refine⟨?_,by simp[I]⟩;rw[xc,e2,<-F.o];rfl
 have HO:=zb z;clear b8 z S;go_wp2_with fail;go_ret;refine⟨i,g,c,by rw[HE.o.1];rfl,?_⟩;rw[HE.o.1,HE.o.2];exact HO.o
def LZ{a:Option Addr}{cap:Nat}{j:List Nat}{ls:List L}(h:w.ownsRow 0 241 2 (.slice a l.length cap) l.length (zk j l))(m:l.length<=30)(n:∀p∈l,p.2<=2147483647)(f:LotsOK w j ls)(i:∀x∈ls,L.Ok x)(d:∀p∈l,p.1<ls.length):Calls prog 127 #[.slice a l.length cap] w λe w'=>Below w.heap.size w w'/\∃g c,e=.returned (.slice (some ⟨g,0,none⟩) (zA ls l).length c)/\w'.ownsRow w.heap.size 2 1 (.slice (some ⟨g,0,none⟩) (zA ls l).length c) (zA ls l).length (I (zA ls l)) :=
 sA (λk b=>ZW h k b) m (λk b=>n _ (by rw[Wc,xi b];exact yy b)) f i d
