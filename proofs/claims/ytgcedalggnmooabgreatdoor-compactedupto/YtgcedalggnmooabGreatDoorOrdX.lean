import Derived.Test.YtgcedalggnmooabGreatDoorMp0X
import Derived.Test.YtgcedalggnmooabGreatDoorExtX
set_option linter.unusedSimpArgs false
set_option linter.unusedVariables false
set_option maxRecDepth 100000
namespace Go.Proofs.YtgcedalggnmooabGreatDoor
def bef (first:Bool) (a b:L):Bool:=if first then decide (a.place<b.place) else (decide (a.expiry<b.expiry) || (decide (a.expiry=b.expiry) && decide (a.id<b.id)))
def befI (first:Bool) (ls:List L) (i j:Nat):Bool:=bef first (ls.getD i L0) (ls.getD j L0)
theorem bef_trans {f:Bool} {a b c:L} (h1:bef f b a=false) (h2:bef f c b=false):bef f c a=false:=by
 cases f
 ·simp [bef] at h1 h2 ⊢;omega
 ·simp [bef] at h1 h2 ⊢;omega
theorem bef_asymm {f:Bool} {a b:L} (h:bef f a b=true):bef f b a=false:=by
 cases f
 ·simp [bef] at h ⊢;omega
 ·simp [bef] at h ⊢;omega
theorem bef_irrefl (f:Bool) (a:L):bef f a a=false:=by
 cases f <;> simp [bef]
theorem befI_anti {os:List O} {ls:List L} (h:Good os ls) {f:Bool} {i j:Nat} (hi:i<ls.length) (hj:j<ls.length) (h1:befI f ls i j=false) (h2:befI f ls j i=false):i=j:=by
 cases f
 ·simp only [befI,bef,Bool.false_eq_true,if_false,Bool.or_eq_false_iff,decide_eq_false_iff_not,Bool.and_eq_false_imp,decide_eq_true_eq] at h1 h2
  apply h.ids i j hi hj
  have he:(ls.getD i L0).expiry=(ls.getD j L0).expiry:=by omega
  have:=h1.2 he
  have:=h2.2 he.symm
  omega
 ·simp only [befI,bef,if_true,decide_eq_false_iff_not] at h1 h2
  have:=h.place i hi
  have:=h.place j hj
  omega
def insI (lt:Nat→Nat→Bool) (x:Nat):List Nat→List Nat
 | []=>[x]
 | y :: r=>if lt y x then y :: insI lt x r else x :: y :: r
def srtI (lt:Nat→Nat→Bool):List Nat→List Nat
 | []=>[]
 | x :: r=>insI lt x (srtI lt r)
theorem insI_perm (lt:Nat→Nat→Bool) (x:Nat):∀ l:List Nat,(insI lt x l).Perm (x :: l)
 | []=>List.Perm.refl _
 | y :: r=>by
  unfold insI
  split
  ·exact ((insI_perm lt x r).cons y).trans (List.Perm.swap x y r)
  ·exact List.Perm.refl _
theorem srtI_perm (lt:Nat→Nat→Bool):∀ l:List Nat,(srtI lt l).Perm l
 | []=>List.Perm.refl _
 | x :: r=>(insI_perm lt x _).trans ((srtI_perm lt r).cons x)
def Srt (lt:Nat→Nat→Bool) (l:List Nat):Prop:=l.Pairwise fun a b=>lt b a=false
theorem insI_srt (f:Bool) (ls:List L) (x:Nat):∀ l:List Nat,Srt (befI f ls) l→Srt (befI f ls) (insI (befI f ls) x l)
 | [],_=>by simp [insI,Srt]
 | y :: r,h=>by
  have hy:=List.pairwise_cons.1 h
  unfold insI
  split
  ·rename_i hlt
   refine List.pairwise_cons.2 ⟨fun b hb=>?_,insI_srt f ls x r hy.2⟩
   rcases List.mem_cons.1 ((insI_perm _ x r).mem_iff.1 hb) with rfl | hb
   ·exact bef_asymm hlt
   ·exact hy.1 b hb
  ·rename_i hlt
   have hxy:befI f ls y x=false:=by simpa using hlt
   refine List.pairwise_cons.2 ⟨fun b hb=>?_,h⟩
   rcases List.mem_cons.1 hb with rfl | hb
   ·exact hxy
   ·exact bef_trans hxy (hy.1 b hb)
theorem srtI_srt (f:Bool) (ls:List L):∀ l:List Nat,Srt (befI f ls) (srtI (befI f ls) l)
 | []=>List.Pairwise.nil
 | x :: r=>insI_srt f ls x _ (srtI_srt f ls r)
def queue (rcs:List (Nat × Nat)) (f:Bool) (td goods gate:Nat) (ls:List L):List Nat:=srtI (befI f ls) (srvI rcs td goods gate ls ls.length)
theorem queue_perm {rcs:List (Nat × Nat)} (f:Bool) (td goods gate:Nat) (ls:List L):(queue rcs f td goods gate ls).Perm (srvI rcs td goods gate ls ls.length):=srtI_perm _ _
theorem srvI_nodup {rcs:List (Nat × Nat)} (td goods gate:Nat) (ls:List L) (k:Nat):(srvI rcs td goods gate ls k).Nodup:=(List.nodup_range).filter _
theorem queue_nodup {rcs:List (Nat × Nat)} (f:Bool) (td goods gate:Nat) (ls:List L):(queue rcs f td goods gate ls).Nodup:=(queue_perm f td goods gate ls).nodup_iff.2 (srvI_nodup _ _ _ _ _)
theorem queue_mem {rcs:List (Nat × Nat)} {f:Bool} {td goods gate:Nat} {ls:List L} {i:Nat}:i ∈ queue rcs f td goods gate ls↔i<ls.length∧srv (recB rcs ls) td goods gate (ls.getD i L0)=true:=by
 rw [(queue_perm f td goods gate ls).mem_iff];simp [srvI]
theorem head_first {os:List O} {ls:List L} (h:Good os ls) {f:Bool} {c m:Nat} {r:List Nat} (hs:Srt (befI f ls) (c :: r)) (hlt:∀ i ∈ c :: r,i<ls.length) (hm:m ∈ c :: r) (hmin:∀ i ∈ c :: r,befI f ls i m=false):m=c:=by
 rcases List.mem_cons.1 hm with rfl | hr
 ·rfl
 ·exact befI_anti h (hlt m hm) (hlt c (by simp)) ((List.pairwise_cons.1 hs).1 m hr) (hmin c (by simp))
def giveQ (ls:List L):List Nat→Nat→List (Nat × Nat)
 | [],_=>[]
 | c :: r,want=>if want=0 then [] else (c,min (ls.getD c L0).free want) :: giveQ ls r (want - min (ls.getD c L0).free want)
def sumQ (l:List (Nat × Nat)):Nat:=(l.map Prod.snd).sum
theorem giveQ_zero (ls:List L) (q:List Nat):giveQ ls q 0=[]:=by cases q <;> simp [giveQ]
theorem giveQ_sum (ls:List L):∀ (q:List Nat) (want:Nat),sumQ (giveQ ls q want)≤want
 | [],want=>by simp [giveQ,sumQ]
 | c :: r,want=>by
  unfold giveQ
  by_cases h:want=0
  ·simp [h,sumQ]
  ·have:=giveQ_sum ls r (want - min (ls.getD c L0).free want)
   simp only [if_neg h,sumQ,List.map_cons,List.sum_cons] at this ⊢
   omega
theorem giveQ_sub (ls:List L):∀ (q:List Nat) (want:Nat),((giveQ ls q want).map Prod.fst).Sublist q
 | [],want=>by simp [giveQ]
 | c :: r,want=>by
  unfold giveQ
  by_cases h:want=0
  ·simp [h]
  ·simp only [if_neg h,List.map_cons]
   exact (giveQ_sub ls r _).cons_cons c
theorem giveQ_le (ls:List L):∀ (q:List Nat) (want:Nat),∀ p ∈ giveQ ls q want,p.2≤(ls.getD p.1 L0).free
 | [],want=>by simp [giveQ]
 | c :: r,want=>by
  unfold giveQ
  by_cases h:want=0
  ·simp [h]
  ·simp only [if_neg h,List.mem_cons]
   rintro p (rfl | hp)
   ·exact Nat.min_le_left _ _
   ·exact giveQ_le ls r _ p hp
end Go.Proofs.YtgcedalggnmooabGreatDoor
namespace Go.Proofs.YtgcedalggnmooabGreatDoor
open Go.RowKit
theorem ext_drewN (w:World) (x:Ex) (n:Nat):(ext w x).drewN n=ext w ⟨x.n+n,x.os⟩:=by
 simp [ext,World.drewN,Nat.add_assoc]
def swp (l:List Nat) (i j:Nat):List Nat:=(l.set i (l.getD j 0)).set j (l.getD i 0)
theorem swp_len (l:List Nat) (i j:Nat):(swp l i j).length=l.length:=by simp [swp]
theorem swp_perm {l:List Nat} {i j:Nat} (hi:i<l.length) (hj:j<l.length):(swp l i j).Perm l:=by
 have:=List.set_set_perm hi hj
 simp only [swp,List.getD_eq_getElem?_getD,List.getElem?_eq_getElem hi,List.getElem?_eq_getElem hj,Option.getD_some]
 exact this
theorem gD_set_eq {l:List Nat} {i:Nat} (hi:i<l.length) (x:Nat):(l.set i x).getD i 0=x:=by simp [List.getD_eq_getElem?_getD,List.getElem?_set,hi]
theorem gD_set_ne {l:List Nat} {i j:Nat} (hij:j≠i) (x:Nat):(l.set i x).getD j 0=l.getD j 0:=by simp [List.getD_eq_getElem?_getD,List.getElem?_set,Ne.symm hij]
theorem swp_l {l:List Nat} {i j:Nat} (hi:i<l.length) (hij:i≠j):(swp l i j).getD i 0=l.getD j 0:=by
 unfold swp;rw [gD_set_ne hij,gD_set_eq hi]
theorem swp_r {l:List Nat} {i j:Nat} (hj:j<l.length):(swp l i j).getD j 0=l.getD i 0:=by
 unfold swp;rw [gD_set_eq (by simpa using hj)]
theorem swp_o {l:List Nat} {i j k:Nat} (h1:k≠i) (h2:k≠j):(swp l i j).getD k 0=l.getD k 0:=by
 unfold swp;rw [gD_set_ne h2,gD_set_ne h1]
structure Ordr (lt:Nat→Nat→Bool):Prop where
 trans:∀ {a b c},lt b a=false→lt c b=false→lt c a=false
 asymm:∀ {a b},lt a b=true→lt b a=false
 irrefl:∀ a,lt a a=false
theorem befI_ordr (f:Bool) (ls:List L):Ordr (befI f ls):=⟨fun h1 h2=>bef_trans h1 h2,fun h=>bef_asymm h,fun a=>bef_irrefl f _⟩
def Hp (lt:Nat→Nat→Bool) (l:List Nat):Prop:=∀ j,0<j→j<l.length→lt (l.getD j 0) (l.getD ((j - 1) / 2) 0)=false
structure RiseI (lt:Nat→Nat→Bool) (l:List Nat) (i:Nat):Prop where
 up:∀ j,0<j→j<l.length→j≠i→lt (l.getD j 0) (l.getD ((j - 1) / 2) 0)=false
 dn:0<i→∀ j,0<j→j<l.length→(j - 1) / 2=i→lt (l.getD j 0) (l.getD ((i - 1) / 2) 0)=false
structure SinkI (lt:Nat→Nat→Bool) (l:List Nat) (i:Nat):Prop where
 up:∀ j,0<j→j<l.length→(j - 1) / 2≠i→lt (l.getD j 0) (l.getD ((j - 1) / 2) 0)=false
 dn:0<i→∀ j,0<j→j<l.length→(j - 1) / 2=i→lt (l.getD j 0) (l.getD ((i - 1) / 2) 0)=false
theorem RiseI.top {lt:Nat→Nat→Bool} {l:List Nat} (h:RiseI lt l 0):Hp lt l:=fun j h1 h2=>h.up j h1 h2 (by omega)
theorem RiseI.done {lt:Nat→Nat→Bool} {l:List Nat} {i:Nat} (h:RiseI lt l i) (hd:lt (l.getD i 0) (l.getD ((i - 1) / 2) 0)=false):Hp lt l:=fun j h1 h2=>by
 by_cases e:j=i
 ·subst e;exact hd
 ·exact h.up j h1 h2 e
theorem RiseI.step {lt:Nat→Nat→Bool} (O:Ordr lt) {l:List Nat} {i:Nat} (h:RiseI lt l i) (h0:0<i) (hi:i<l.length) (hlt:lt (l.getD i 0) (l.getD ((i - 1) / 2) 0)=true):RiseI lt (swp l i ((i - 1) / 2)) ((i - 1) / 2):=by
 have hp:(i - 1) / 2<i:=by omega
 have hpl:(i - 1) / 2<l.length:=by omega
 generalize hpe:(i - 1) / 2=p at *
 have hpi:i≠p:=by omega
 refine ⟨fun j h1 h2 hne=>?_,fun hp0 j h1 h2 hpar=>?_⟩
 ·rw [swp_len] at h2
  by_cases ji:j=i
  ·subst ji
   rw [swp_l hi hpi,hpe,swp_r hpl];exact O.asymm hlt
  ·rw [swp_o ji hne]
   by_cases q1:(j - 1) / 2=i
   ·rw [q1,swp_l hi hpi]
    have:=h.dn h0 j h1 h2 q1
    rw [hpe] at this;exact this
   ·by_cases q2:(j - 1) / 2=p
    ·rw [q2,swp_r hpl]
     have:=h.up j h1 h2 ji
     rw [q2] at this
     exact O.trans (O.asymm hlt) this
    ·rw [swp_o q1 q2];exact h.up j h1 h2 ji
 ·rw [swp_len] at h2
  have hpp:(p - 1) / 2≠i:=by omega
  have hpp2:(p - 1) / 2≠p:=by omega
  rw [swp_o hpp hpp2]
  have hup:=h.up p hp0 hpl (Ne.symm hpi)
  by_cases ji:j=i
  ·subst ji;rw [swp_l hi hpi];exact hup
  ·rw [swp_o ji (by omega)]
   have:=h.up j h1 h2 ji
   rw [hpar] at this
   exact O.trans hup this
theorem SinkI.done {lt:Nat→Nat→Bool} {l:List Nat} {i:Nat} (h:SinkI lt l i) (hd:∀ j,0<j→j<l.length→(j - 1) / 2=i→lt (l.getD j 0) (l.getD i 0)=false):Hp lt l:=fun j h1 h2=>by
 by_cases e:(j - 1) / 2=i
 ·rw [e];exact hd j h1 h2 e
 ·exact h.up j h1 h2 e
theorem SinkI.step {lt:Nat→Nat→Bool} (O:Ordr lt) {l:List Nat} {i m:Nat} (h:SinkI lt l i) (hm0:0<m) (hml:m<l.length) (hmi:(m - 1) / 2=i) (hd:∀ j,0<j→j<l.length→(j - 1) / 2=i→lt (l.getD j 0) (l.getD m 0)=false) (hlt:lt (l.getD m 0) (l.getD i 0)=true):SinkI lt (swp l i m) m:=by
 have hil:i<l.length:=by omega
 have him:i≠m:=by omega
 refine ⟨fun j h1 h2 hne=>?_,fun _ j h1 h2 hpar=>?_⟩
 ·rw [swp_len] at h2
  by_cases jm:j=m
  ·subst jm
   rw [swp_r hml,hmi,swp_l hil him];exact O.asymm hlt
  ·by_cases q1:(j - 1) / 2=i
   ·rw [swp_o (by omega) jm,q1,swp_l hil him];exact hd j h1 h2 q1
   ·rw [swp_o (k:=(j - 1) / 2) q1 hne]
    by_cases ji:j=i
    ·subst ji;rw [swp_l hil him];exact h.dn h1 m hm0 hml hmi
    ·rw [swp_o ji jm];exact h.up j h1 h2 q1
 ·rw [swp_len] at h2
  rw [hmi,swp_l hil him,swp_o (by omega) (by omega)]
  have:=h.up j h1 h2 (by omega)
  rw [hpar] at this;exact this
theorem Hp.root {lt:Nat→Nat→Bool} (O:Ordr lt) {l:List Nat} (h:Hp lt l):∀ (n j:Nat),j≤n→j<l.length→lt (l.getD j 0) (l.getD 0 0)=false
 | 0,j,hj,hl=>by
  obtain rfl:j=0:=by omega
  exact O.irrefl _
 | n+1,j,hj,hl=>by
  by_cases h0:j=0
  ·subst h0;exact O.irrefl _
  ·exact O.trans (Hp.root O h n ((j - 1) / 2) (by omega) (by omega)) (h j (by omega) hl)
theorem gD_snoc_lt (l:List Nat) (x i:Nat) (h:i<l.length):(l++[x]).getD i 0=l.getD i 0:=by
 simp [List.getD_eq_getElem?_getD,List.getElem?_append_left h]
theorem Hp.push {lt:Nat→Nat→Bool} {l:List Nat} (h:Hp lt l) (x:Nat):RiseI lt (l++[x]) l.length:=by
 refine ⟨fun j h1 h2 hne=>?_,fun _ j h1 h2 hpar=>?_⟩
 ·rw [List.length_append,List.length_singleton] at h2
  rw [gD_snoc_lt l x j (by omega),gD_snoc_lt l x _ (by omega)]
  exact h j h1 (by omega)
 ·rw [List.length_append,List.length_singleton] at h2;omega
def popL (l:List Nat):List Nat:=(l.set 0 (l.getD (l.length - 1) 0)).take (l.length - 1)
theorem popL_len (l:List Nat):(popL l).length=l.length - 1:=by simp [popL]
theorem popL_get {l:List Nat} {j:Nat} (h0:0<j) (h:j<l.length - 1):(popL l).getD j 0=l.getD j 0:=by
 unfold popL
 rw [List.getD_eq_getElem?_getD,List.getElem?_take,if_pos h,← List.getD_eq_getElem?_getD,gD_set_ne (by omega)]
theorem Hp.pop {lt:Nat→Nat→Bool} {l:List Nat} (h:Hp lt l):SinkI lt (popL l) 0:=by
 refine ⟨fun j h1 h2 hne=>?_,fun h0=>absurd h0 (by omega)⟩
 rw [popL_len] at h2
 rw [popL_get h1 h2,popL_get (by omega) (by omega)]
 exact h j h1 (by omega)
theorem popL_perm {l:List Nat} (h:0<l.length):l.Perm (l.getD 0 0 :: popL l):=by
 cases l with
 | nil=>simp at h
 | cons a t =>
  rcases List.eq_nil_or_concat t with rfl | ⟨t',b,rfl⟩
  ·simp [popL]
  ·have e1:(a :: (t'++[b])).length - 1=t'.length+1:=by simp
   have e2:(a :: (t'++[b])).getD (t'.length+1) 0=b:=by simp [List.getD_eq_getElem?_getD]
   have e3:popL (a :: (t'++[b]))=b :: t':=by
    unfold popL
    rw [e1,e2]
    simp
   rw [List.concat_eq_append,e3]
   simp only [List.getD_cons_zero]
   exact (List.perm_append_comm (l₁:=t') (l₂:=[b])).cons a
theorem sb_getD {bs hs:List Nat} {i:Nat} (hi:i<hs.length):(sb bs hs).getD i 0=bs.getD (hs.getD i 0) 0:=by
 simp [sb,List.getD_eq_getElem?_getD,hi]
theorem sb_len (bs hs:List Nat):(sb bs hs).length=hs.length:=by simp [sb]
theorem sb_swp {bs hs:List Nat} {i j:Nat} (hi:i<hs.length) (hj:j<hs.length):swp (sb bs hs) i j=sb bs (swp hs i j):=by
 unfold swp
 rw [sb_getD hi,sb_getD hj]
 simp [sb,List.map_set]
def LotsOK (w:World) (bs:List Nat) (ls:List L):Prop:=∀ i,i<ls.length→∃ pv,w.heap[bs.getD i 0]?=some (.cells (lotCells (ls.getD i L0) pv) 153 (0,0))
theorem PV.lots {rcs:List (Nat × Nat)} {w:World} {S:Nat} {M:Mx} {v:Value} {td:Nat} {bs:List Nat} {pvs:List Value} {ls:List L} {os:List O} (h:PV os rcs w S M v td bs pvs ls):LotsOK w bs ls:=fun i hi=>⟨_,h.lot i hi⟩
theorem LotsOK.kp {w w':World} {bs:List Nat} {ls:List L} (h:LotsOK w bs ls) {Z:Nat→Prop} (hk:Kp Z w w') (hz:∀ i,i<ls.length→¬ Z (bs.getD i 0)):LotsOK w' bs ls:=fun i hi=>by
 obtain ⟨pv,hp⟩:=h i hi
 exact ⟨pv,(hk.block _ (blk_lt hp) (hz i hi)).trans hp⟩
theorem LotsOK.below {w w':World} {bs:List Nat} {ls:List L} (h:LotsOK w bs ls) (hk:Below w.heap.size w w'):LotsOK w' bs ls:=fun i hi=>by
 obtain ⟨pv,hp⟩:=h i hi
 exact ⟨pv,(hk.block _ (blk_lt hp)).trans hp⟩
theorem below_kp {B:Nat} {Z:Nat→Prop} {a b c:World} (h:Below B a b) (hs:B≤b.heap.size) (k:Kp Z b c) (hz:∀ i,Z i→B≤i):Below B a c :=
 h.trans ⟨k.os,k.tape,k.output,k.size,fun i hi=>k.block i (Nat.lt_of_lt_of_le hi hs) (fun q=>absurd (hz i q) (by omega))⟩
def lineCells (bs:List Nat):List (Nat × Nat)→List Value
 | p :: r=>.pointer (some ⟨bs.getD p.1 0,0,none⟩) :: .int .i64 (p.2:Int) :: lineCells bs r
 | []=>[]
theorem lineCells_snoc (bs:List Nat) (p:Nat × Nat):∀ l,lineCells bs (l++[p])=lineCells bs l++[.pointer (some ⟨bs.getD p.1 0,0,none⟩),.int .i64 (p.2:Int)]
 | []=>rfl
 | q :: r=>by simp only [List.cons_append,lineCells,lineCells_snoc bs p r]
theorem own_base {w:World} {base e size n:Nat} {v:Value} {xs:List Value} (h:w.ownsRow base e size v n xs):w.ownsRow 0 e size v n xs:=by
 refine ⟨h.1,?_⟩
 rcases h.2 with h1 | ⟨g,cap,cur,h1,h2,h3⟩
 ·exact Or.inl h1
 ·exact Or.inr ⟨g,cap,cur,h1,Nat.zero_le _,h3⟩
theorem own_shapeS {w:World} {base e size n:Nat} {v:Value} {xs:List Value} (h:w.ownsRow base e size v n xs):∃ a cap,v=.slice a n cap:=by
 rcases h.2 with ⟨hv,hx⟩ | ⟨g,cap,cur,hv,_⟩
 ·exact ⟨none,0,by rw [hv,hx]⟩
 ·exact ⟨_,cap,hv⟩
theorem own_someS {w:World} {base e size n:Nat} {v:Value} {xs:List Value} (h:w.ownsRow base e size v n xs) (hn:0<n):∃ g cap,v=.slice (some ⟨g,0,none⟩) n cap∧base≤g∧g<w.heap.size:=by
 rcases h.2 with ⟨hv,hx⟩ | ⟨g,cap,cur,hv,hg,hh,_⟩
 ·omega
 ·exact ⟨g,cap,hv,hg,(Array.getElem?_eq_some_iff.1 hh).1⟩
theorem infoLine:(Tryz.prog.info? 163).map (fun i=>(i.zero,i.size,i.bytes))=some (some (.agg #[.pointer none,.int .i64 0]),2,16):=by kernel_rfl
theorem tULines:Tryz.prog.underlying 135=some (.slice 163):=by kernel_rfl
end Go.Proofs.YtgcedalggnmooabGreatDoor
