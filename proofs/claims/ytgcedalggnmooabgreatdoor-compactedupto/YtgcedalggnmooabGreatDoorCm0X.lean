import Derived.Test.YtgcedalggnmooabGreatDoorSqX
import Derived.Test.YtgcedalggnmooabGreatDoorHlX
import Derived.Test.YtgcedalggnmooabGreatDoorExtX
import Derived.Test.YtgcedalggnmooabGreatDoorEn0X
import Derived.Test.YtgcedalggnmooabGreatDoorSaX
import Derived.Test.YtgcedalggnmooabGreatDoorMp0X
import Derived.Test.YtgcedalggnmooabGreatDoorR1X
import Derived.RangeFuncNested
import Derived.RangeFuncBound
import Derived.RangeFuncCalls
import Derived.RangeFuncLeaves
import Derived.RangeFuncBox
import Derived.RangeFuncFrom
import Derived.Shelf.Abstract
import Derived.Shelf.RegionOpen
import Derived.WalkKit
import Derived.OwnWalkIn
import Derived.TacticsInMore
import Derived.LoopNIn
import Derived.LoopIn
import Derived.Maps.AppendAt
import Derived.Sort.MapsRangeIn
import Derived.Shelf.SlIterI.Sorted
import Derived.Shelf.SlIterI.Stops
import Derived.Shelf.SortM.Plain
import Derived.Shelf.SortM.SortNone
import Derived.Ground.GgzProg
import Derived.Ground.SlgmProg
import Derived.Shelf.Lay
set_option linter.unusedSimpArgs false
set_option linter.unusedVariables false
set_option maxRecDepth 100000
namespace Go.Proofs.YtgcedalggnmooabGreatDoor
open Go.RowKit
theorem cmpInt_lt (x y:Int):Lib.compareInt x y<0↔x<y:=by
 unfold Lib.compareInt
 split
 ·simp [*]
 ·split <;> simp [*]
def recC (a b:Nat × Nat):Int:=if a.1=b.1 then Lib.compareInt (a.2:Int) (b.2:Int) else Lib.compareInt (a.1:Int) (b.1:Int)
theorem recC_lt (a b:Nat × Nat):recC a b<0↔prtB a b=true:=by
 unfold recC
 split
 ·rw [cmpInt_lt];rename_i h;simp [prtB,h]
 ·rw [cmpInt_lt];rename_i h;simp [prtB,h]
set_option maxHeartbeats 1600000 in
theorem rcmp_any (a b:Nat × Nat) (W:World) (x:Ex):Calls Tryz.prog 73 #[.agg #[.int .i64 (a.1:Int),.int .i64 (a.2:Int)],.agg #[.int .i64 (b.1:Int),.int .i64 (b.2:Int)]] (ext W x) fun e w'=>e=.returned (.int .i64 (recC a b))∧∃ x',w'=ext W x':=by
 unfold recC
 by_cases h:a.1=b.1
 ·have hcon:=fun W'=>cmp_any (a.2:Int) (b.2:Int) W'
  have hq:=beqN_t h
  rw [if_pos h]
  generalize Lib.compareInt (a.2:Int) (b.2:Int)=r at hcon
  clear h
  go_enter Tryz.func73,Tryz.ntmps73
  go_wp2_with (go_at_call 98;refine (hcon _).mono ?_;rintro e w' ⟨rfl,rfl⟩)
  go_ret
  exact ⟨rfl,_,by rw [ext_alloc,ext_alloc]⟩
 ·have hcon:=fun W'=>cmp_any (a.1:Int) (b.1:Int) W'
  have hq:=beqN_f h
  rw [if_neg h]
  generalize Lib.compareInt (a.1:Int) (b.1:Int)=r at hcon
  clear h
  go_enter Tryz.func73,Tryz.ntmps73
  go_wp2_with (go_at_call 98;refine (hcon _).mono ?_;rintro e w' ⟨rfl,rfl⟩)
  go_ret
  exact ⟨rfl,_,by rw [ext_alloc,ext_alloc]⟩
end Go.Proofs.YtgcedalggnmooabGreatDoor
namespace Go.Proofs.YtgcedalggnmooabGreatDoor
theorem rise_ext {α:Type} {lt:α→α→Prop} (irr:∀ a,¬ lt a a) (tr:∀ a b c,lt a b→lt b c→lt a c):∀ {l m:List α},l.Pairwise lt→m.Pairwise lt→(∀ x,x ∈ l↔x ∈ m)→l=m
 | [],[],_,_,_=>rfl
 | [],y :: m,_,_,h=>absurd ((h y).2 (by simp)) (by simp)
 | x :: l,[],_,_,h=>absurd ((h x).1 (by simp)) (by simp)
 | x :: l,y :: m,hl,hm,h=>by
  have hx:=List.pairwise_cons.1 hl
  have hy:=List.pairwise_cons.1 hm
  have e:x=y:=by
   rcases List.mem_cons.1 ((h x).1 (by simp)) with e | e
   ·exact e
   ·rcases List.mem_cons.1 ((h y).2 (by simp)) with e' | e'
    ·exact e'.symm
    ·exact absurd (tr _ _ _ (hy.1 x e) (hx.1 y e')) (irr y)
  subst e
  rw [rise_ext irr tr hx.2 hy.2 (fun z=>?_)]
  constructor
  ·intro hz
   rcases List.mem_cons.1 ((h z).1 (by simp [hz])) with e | e
   ·subst e;exact absurd (hx.1 z hz) (irr z)
   ·exact e
  ·intro hz
   rcases List.mem_cons.1 ((h z).2 (by simp [hz])) with e | e
   ·subst e;exact absurd (hy.1 z hz) (irr z)
   ·exact e
theorem nxA_min {x:Nat→Nat} {n:Nat}:∀ {k i:Nat},nxA x n k=some i→∀ j,j<k→n<x j→x i≤x j
 | 0,i,h=>by simp [nxA] at h
 | k+1,i,h=>by
  intro j hj hx
  rw [nxA] at h
  split at h
  ·rename_i hc
   cases h
   by_cases e:j=k
   ·subst e;exact Nat.le_refl _
   ·cases hq:nxA x n k with
    | none =>
     exfalso
     have:∀ m,nxA x n m=none→∀ j,j<m→¬ n<x j:=by
      intro m
      induction m with
      | zero=>intro _ j h;omega
      | succ m ih =>
       intro hm j hj hx
       rw [nxA] at hm
       split at hm
       ·cases hm
       ·rename_i hc2
        by_cases e:j=m
        ·subst e;exact hc2 ⟨hx,fun b hb=>by rw [hm] at hb;cases hb⟩
        ·exact ih hm j (by omega) hx
     exact this k hq j (by omega) hx
    | some b =>
     have h1:=hc.2 b hq
     have h2:=nxA_min hq j (by omega) hx
     omega
  ·rename_i hc
   by_cases e:j=k
   ·subst e
    by_cases hlt:x j<x i
    ·exact absurd ⟨hx,fun b hb=>by rw [h] at hb;cases hb;exact hlt⟩ hc
    ·omega
   ·exact nxA_min h j (by omega) hx
theorem nxA_none {x:Nat→Nat} {n:Nat}:∀ {k:Nat},nxA x n k=none→∀ j,j<k→¬ n<x j
 | 0,_,j,h=>by omega
 | k+1,hm,j,hj=>by
  intro hx
  rw [nxA] at hm
  split at hm
  ·cases hm
  ·rename_i hc2
   by_cases e:j=k
   ·subst e;exact hc2 ⟨hx,fun b hb=>by rw [hm] at hb;cases hb⟩
   ·exact nxA_none hm j (by omega) hx
theorem enum_facts {x:Nat→Nat} {N:Nat} (hin:∀ i j,i<N→j<N→x i=x j→i=j):∀ (f n:Nat),cntA x n N≤f→(enumI x N f n).Pairwise (fun a b=>x a<x b)∧∀ i,i ∈ enumI x N f n↔i<N∧n<x i
 | 0,n,hc=>by
  refine ⟨by simp [enumI],fun i=>⟨by simp [enumI],fun ⟨h1,h2⟩=>?_⟩⟩
  have:=cntA_lt x h2 N h1
  omega
 | f+1,n,hc=>by
  rw [enumI]
  cases hq:nxA x n N with
  | none=>exact ⟨by simp,fun i=>⟨by simp,fun ⟨h1,h2⟩=>absurd h2 (nxA_none hq i h1)⟩⟩
  | some k =>
   obtain ⟨k1,k2⟩:=nxA_lt hq
   have hm:=nxA_min hq
   have hc2:=cntA_lt x k2 N k1
   obtain ⟨ih1,ih2⟩:=enum_facts hin f (x k) (by omega)
   refine ⟨List.pairwise_cons.2 ⟨fun b hb=>((ih2 b).1 hb).2,ih1⟩,fun i=>?_⟩
   rw [List.mem_cons,ih2]
   constructor
   ·rintro (rfl | ⟨h1,h2⟩)
    ·exact ⟨k1,k2⟩
    ·exact ⟨h1,by omega⟩
   ·rintro ⟨h1,h2⟩
    have:=hm i h1 h2
    by_cases e:x k=x i
    ·exact Or.inl (hin i k h1 k1 e.symm)
    ·exact Or.inr ⟨h1,by omega⟩
theorem byN_rise {ls:List L} (hids:∀ i j,i<ls.length→j<ls.length→(ls.getD i L0).id=(ls.getD j L0).id→i=j):(byN ls).Pairwise (fun a b=>(ls.getD a L0).id<(ls.getD b L0).id):=by
 have h:=List.pairwise_and_iff.2 ⟨byN_srt ls,byN_nodup ls⟩
 refine List.Pairwise.imp_of_mem ?_ h
 rintro a b ha hb ⟨h1,h2⟩
 have ha':=byN_mem.1 ha
 have hb':=byN_mem.1 hb
 simp only [idLt,decide_eq_false_iff_not] at h1
 rcases Nat.lt_or_ge (ls.getD a L0).id (ls.getD b L0).id with h | h
 ·exact h
 ·exact absurd (hids a b ha' hb' (by omega)) h2
theorem byN_enum {ls:List L} (hids:∀ i j,i<ls.length→j<ls.length→(ls.getD i L0).id=(ls.getD j L0).id→i=j) (h1:∀ l ∈ ls,1≤l.id):byN ls=enumI (fun i=>(ls.getD i L0).id) ls.length (ls.length+1) 0:=by
 obtain ⟨q1,q2⟩:=enum_facts (x:=fun i=>(ls.getD i L0).id) hids (ls.length+1) 0 (by have:=cntA_le (fun i=>(ls.getD i L0).id) 0 ls.length;omega)
 refine rise_ext (lt:=fun a b=>(ls.getD a L0).id<(ls.getD b L0).id) (fun a=>Nat.lt_irrefl _) (fun a b c=>Nat.lt_trans) (byN_rise hids) q1 (fun i=>?_)
 rw [q2,byN_mem]
 exact ⟨fun h=>⟨h,h1 _ (mem_getD h)⟩,fun h=>h.1⟩
theorem prtB_irr (a:Nat × Nat):¬ prtB a a=true:=by simp [prtB]
theorem prtB_tr (a b c:Nat × Nat) (h:prtB a b=true) (k:prtB b c=true):prtB a c=true:=by
 simp only [prtB,Bool.or_eq_true,Bool.and_eq_true,decide_eq_true_eq] at *;omega
theorem prtB_tot {a b:Nat × Nat} (h:prtB a b=false) (hne:a≠b):prtB b a=true:=by
 obtain ⟨a1,a2⟩:=a
 obtain ⟨b1,b2⟩:=b
 have hne':¬ (a1=b1∧a2=b2):=fun e=>hne (by rw [e.1,e.2])
 simp only [prtB,Bool.or_eq_false_iff,Bool.and_eq_false_iff,decide_eq_false_iff_not,Bool.or_eq_true,Bool.and_eq_true,decide_eq_true_eq] at *
 omega
theorem take_rise {α:Type} {lt:α→α→Prop} {l:List α} {d:α} (h:l.Pairwise lt) {k:Nat} (hk:k<l.length):∀ q ∈ l.take k,lt q (l.getD k d):=by
 have h2:(l.take k++[l.getD k d]).Pairwise lt:=by rw [← take_at hk];exact h.sublist (List.take_sublist _ _)
 intro q hq
 exact (List.pairwise_append.1 h2).2.2 q hq _ (by simp)
theorem insK_facts {p:Nat × Nat} {out:List (Nat × Nat)} (ho:out.Pairwise (fun a b=>prtB a b=true)) (hp:p ∉ out):∀ k,k≤out.length →
  ((insK p out k).2=false∧(insK p out k).1=out.take k∧∀ q ∈ out.take k,prtB q p=true)∨((insK p out k).2=true∧(insK p out k).1.Pairwise (fun a b=>prtB a b=true)∧(∀ q,q ∈ (insK p out k).1↔q=p∨q ∈ out.take k)∧∃ q ∈ out.take k,prtB p q=true)
 | 0,_=>Or.inl ⟨rfl,by simp [insK],by simp⟩
 | k+1,hk=>by
  have hlt:k<out.length:=by omega
  have hne:p≠out.getD k (0,0):=fun e=>hp (by rw [e];simp [List.getD_eq_getElem?_getD,hlt])
  have hr:=take_rise (d:=(0,0)) ho hlt
  rw [insK,take_at (d:=(0,0)) hlt]
  rcases insK_facts ho hp k (by omega) with ⟨h1,h2,h3⟩ | ⟨h1,h2,h3,q0,h4,h5⟩
  ·by_cases hb:prtB p (out.getD k (0,0))=true
   ·rw [if_pos ⟨hb,h1⟩]
    refine Or.inr ⟨rfl,?_,?_,out.getD k (0,0),by simp,hb⟩
    ·rw [h2]
     refine List.pairwise_append.2 ⟨List.pairwise_append.2 ⟨ho.sublist (List.take_sublist _ _),by simp,fun a ha b hb'=>?_⟩,by simp,fun a ha b hb'=>?_⟩
     ·simp at hb';subst hb';exact h3 a ha
     ·simp at hb';subst hb'
      rcases List.mem_append.1 ha with h | h
      ·exact hr a h
      ·simp at h;subst h;exact hb
    ·intro q;rw [h2];simp only [List.mem_append,List.mem_singleton]
     constructor
     ·rintro ((h | h) | h)
      ·exact Or.inr (Or.inl h)
      ·exact Or.inl h
      ·exact Or.inr (Or.inr h)
     ·rintro (h | h | h)
      ·exact Or.inl (Or.inr h)
      ·exact Or.inl (Or.inl h)
      ·exact Or.inr h
   ·rw [if_neg (fun e=>hb e.1)]
    refine Or.inl ⟨h1,by rw [h2],?_⟩
    intro q hq
    rcases List.mem_append.1 hq with h | h
    ·exact h3 q h
    ·simp at h;subst h;exact prtB_tot (by simpa using hb) hne
  ·rw [if_neg (fun e=>by rw [h1] at e;cases e.2)]
   refine Or.inr ⟨h1,?_,?_,q0,List.mem_append_left _ h4,h5⟩
   ·refine List.pairwise_append.2 ⟨h2,by simp,fun a ha b hb'=>?_⟩
    simp at hb';subst hb'
    rcases (h3 a).1 ha with h | h
    ·subst h;exact prtB_tr _ _ _ h5 (hr q0 h4)
    ·exact hr a h
   ·intro q
    simp only [List.mem_append,h3,List.mem_singleton]
    constructor
    ·rintro ((h | h) | h)
     ·exact Or.inl h
     ·exact Or.inr (Or.inl h)
     ·exact Or.inr (Or.inr h)
    ·rintro (h | h | h)
     ·exact Or.inl (Or.inl h)
     ·exact Or.inl (Or.inr h)
     ·exact Or.inr h
theorem insP_facts {p:Nat × Nat} {out:List (Nat × Nat)} (ho:out.Pairwise (fun a b=>prtB a b=true)) (hp:p ∉ out):(insP p out).Pairwise (fun a b=>prtB a b=true)∧∀ q,q ∈ insP p out↔q=p∨q ∈ out:=by
 unfold insP
 rcases insK_facts ho hp out.length (Nat.le_refl _) with ⟨h1,h2,h3⟩ | ⟨h1,h2,h3,_⟩
 ·rw [h1,if_neg (by simp),h2,List.take_length]
  rw [List.take_length] at h3
  refine ⟨List.pairwise_append.2 ⟨ho,by simp,fun a ha b hb=>by simp at hb;subst hb;exact h3 a ha⟩,fun q=>?_⟩
  simp [or_comm]
 ·rw [h1,if_pos rfl]
  rw [List.take_length] at h3
  exact ⟨h2,h3⟩
theorem prtN_facts {l:List (Nat × Nat)} (hn:l.Nodup):∀ k,k≤l.length→(prtN l k).Pairwise (fun a b=>prtB a b=true)∧∀ q,q ∈ prtN l k↔q ∈ l.take k
 | 0,_=>⟨by simp [prtN],fun q=>by simp [prtN]⟩
 | k+1,hk=>by
  have hlt:k<l.length:=by omega
  obtain ⟨h1,h2⟩:=prtN_facts hn k (by omega)
  have hno:l.getD k (0,0) ∉ prtN l k:=by
   rw [h2]
   have:=hn.sublist (List.take_sublist (k+1) l)
   rw [take_at (d:=(0,0)) hlt] at this
   intro hm
   exact (List.nodup_append.1 this).2.2 _ hm _ (by simp) rfl
  obtain ⟨h3,h4⟩:=insP_facts h1 hno
  rw [prtN]
  refine ⟨h3,fun q=>?_⟩
  rw [h4,h2,take_at (d:=(0,0)) hlt]
  simp [or_comm]
theorem prtS_facts {l:List (Nat × Nat)} (hn:l.Nodup):(prtS l).Pairwise (fun a b=>prtB a b=true)∧∀ q,q ∈ prtS l↔q ∈ l:=by
 have:=prtN_facts hn l.length (Nat.le_refl _)
 rw [List.take_length] at this
 exact this
theorem isS_prt {l m:List (Nat × Nat)} (hn:l.Nodup) (hp:m.Perm l):isS prtB m=prtS l:=by
 obtain ⟨q1,q2⟩:=prtS_facts hn
 rw [isS_eq]
 have hnd:(rvK prtB m).Nodup:=((rvK_perm prtB m).trans hp).nodup_iff.2 hn
 have hr:=rvK_rise prtB (fun a b h=>by simp only [prtB,Bool.or_eq_true,Bool.and_eq_true,decide_eq_true_eq,Bool.or_eq_false_iff,Bool.and_eq_false_iff,decide_eq_false_iff_not] at *;omega) (fun a b c h k=>by simp only [prtB,Bool.or_eq_false_iff,Bool.and_eq_false_iff,decide_eq_false_iff_not] at *;omega) m
 refine rise_ext (lt:=fun a b=>prtB a b=true) prtB_irr prtB_tr ?_ q1 (fun q=>?_)
 ·rw [List.pairwise_reverse]
  refine (List.pairwise_and_iff.2 ⟨hr,hnd⟩).imp ?_
  rintro a b ⟨h1,h2⟩
  exact prtB_tot h1 h2
 ·rw [List.mem_reverse,(rvK_perm prtB m).mem_iff,hp.mem_iff,q2]
def parB (a b:Nat × Nat):Bool:=decide (a.1<b.1)
theorem isS_par {l:List (Nat × Nat)} (h:l.length≤2):isS parB l=dpar l:=by
 match l,h with
 | [],_=>rfl
 | [a],_=>rfl
 | [a,b],_ =>
  simp only [isS,List.length_cons,List.length_nil,isK,bub,swA,parB,dpar]
  by_cases hb:b.1<a.1 <;> simp [hb]
def lotP (l:L):List Nat:=[l.id,l.goods,l.expiry,l.place,l.free,l.held,l.shipped,l.scrapped,l.par.length]++(if l.par.length=0 then [l.got] else (isS parB l.par).flatMap (fun p=>[p.1,p.2]))
theorem lotP_eq {l:L} (h:l.par.length≤2):lotP l=lotN l:=by
 unfold lotP lotN flP
 rw [isS_par h,dpar_len]
 by_cases h0:l.par.length=0
 ·have hp:l.par=[]:=List.length_eq_zero_iff.1 h0
  rw [if_pos h0,if_pos h0,hp];rfl
 ·rw [if_neg h0,if_neg h0];simp
def oks (os:List O):List Nat:=(enumI (fun i=>(os.getD i O0).id) os.length (os.length+1) 0).map (fun i=>(os.getD i O0).id)
theorem getO {os:List O} {i:Nat} (h:i<os.length):os.getD i O0 ∈ os:=by simp [List.getD_eq_getElem?_getD,h]
theorem oid_inj {os:List O} (hn:(os.map O.id).Nodup):∀ i j,i<os.length→j<os.length→(os.getD i O0).id=(os.getD j O0).id→i=j:=by
 intro i j hi hj he
 have:=List.getElem_inj (i:=i) (j:=j) (h₀:=by simpa using hi) (h₁:=by simpa using hj) hn
 refine this.1 ?_
 simpa [List.getD_eq_getElem?_getD,hi,hj] using he
theorem oks_facts {os:List O} (hn:(os.map O.id).Nodup) (h1:∀ o ∈ os,1≤o.id):(oks os).Pairwise (·<·)∧∀ a,a ∈ oks os↔a ∈ os.map O.id:=by
 obtain ⟨q1,q2⟩:=enum_facts (x:=fun i=>(os.getD i O0).id) (oid_inj hn) (os.length+1) 0 (by have:=cntA_le (fun i=>(os.getD i O0).id) 0 os.length;omega)
 refine ⟨List.pairwise_map.2 q1,fun a=>?_⟩
 unfold oks
 rw [List.mem_map,List.mem_map]
 constructor
 ·rintro ⟨i,hi,rfl⟩
  exact ⟨_,getO ((q2 i).1 hi).1,rfl⟩
 ·rintro ⟨o,ho,rfl⟩
  obtain ⟨i,hi,rfl⟩:=List.getElem_of_mem ho
  have e:os.getD i O0=os[i]:=by simp [List.getD_eq_getElem?_getD,hi]
  exact ⟨i,(q2 i).2 ⟨hi,by show 0<(os.getD i O0).id;rw [e];exact h1 _ ho⟩,by rw [e]⟩
theorem toldL_map (ls:List L):∀ l,toldL ls l=(l.map (fun p=>((ls.getD p.1 L0).id,p.2))).flatMap (fun p=>[p.1,p.2])
 | []=>rfl
 | p :: r=>by simp only [toldL,List.map_cons,List.flatMap_cons,toldL_map ls r];rfl
theorem nodup_keys {l:List (Nat × Nat)} (h:(l.map Prod.fst).Nodup):l.Nodup:=by
 refine (List.pairwise_map.1 h).imp ?_
 intro a b hab e;exact hab (by rw [e])
theorem lineOf_self {os:List O} (hn:(os.map O.id).Nodup) {o:O} (ho:o ∈ os) (b:Nat):lineOf os o.id b=o.lines.lookup b:=by
 unfold lineOf;rw [find_self hn ho];rfl
theorem lines_prt {os:List O} {ls:List L} (hg:Good os ls) {o:O} (ho:o ∈ os):(endQ os o.id ls ls.length).map (fun p=>((ls.getD p.1 L0).id,p.2))=prtS o.lines:=by
 obtain ⟨q1,q2⟩:=prtS_facts (nodup_keys (hg.keys o ho))
 refine rise_ext (lt:=fun a b=>prtB a b=true) prtB_irr prtB_tr ?_ q1 (fun q=>?_)
 ·rw [List.pairwise_map]
  unfold endQ
  rw [List.pairwise_filterMap]
  refine ((byN_rise hg.ids).sublist (List.take_sublist _ _)).imp ?_
  intro a a' h b hb b' hb'
  cases h1:lineOf os o.id (ls.getD a L0).id with
  | none=>rw [h1] at hb;cases hb
  | some n =>
   cases h2:lineOf os o.id (ls.getD a' L0).id with
   | none=>rw [h2] at hb';cases hb'
   | some n' =>
    rw [h1] at hb;rw [h2] at hb'
    cases hb;cases hb'
    simp only [prtB,Bool.or_eq_true,decide_eq_true_eq]
    exact Or.inl h
 ·rw [q2,List.mem_map]
  constructor
  ·rintro ⟨p,hp,rfl⟩
   have:=(endQ_mem hp).2
   rw [lineOf_self hg.oids ho] at this
   exact lookup_some_mem this
  ·intro hq
   obtain ⟨i,hi,he⟩:=hg.mem o ho q hq
   have hl:lineOf os o.id (ls.getD i L0).id=some q.2:=by rw [lineOf_self hg.oids ho,he];exact lookup_of_mem (hg.keys o ho) hq
   exact ⟨(i,q.2),endQ_has hl hi,Prod.ext he rfl⟩
theorem goods_self {os:List O} (hn:(os.map O.id).Nodup) {o:O} (ho:o ∈ os):goodsOf os o.id=o.goods:=by
 unfold goodsOf;rw [find_self hn ho];rfl
def ordP (os:List O) (ls:List L) (a:Nat):List Nat:=[a,goodsOf os a]++toldQ ls (endQ os a ls ls.length)
theorem ordP_eq {os:List O} {ls:List L} (hg:Good os ls) {o:O} (ho:o ∈ os):ordP os ls o.id=ordN o:=by
 unfold ordP ordN toldQ flP
 rw [toldL_map,lines_prt hg ho,goods_self hg.oids ho]
 have:=congrArg List.length (lines_prt hg ho)
 rw [List.length_map] at this
 rw [this]
def pN (td:Nat) (os:List O) (rcs:List (Nat × Nat)) (ls:List L):List Nat:=[td,ls.length,ls.length]++(byN ls).flatMap (fun i=>lotP (ls.getD i L0))++[os.length]++(oks os).flatMap (ordP os ls)++[rcs.length]++(prtS rcs).flatMap (fun p=>[p.1,p.2])
theorem flatMap_same {α:Type} {f g:α→List Nat}:∀ {l:List α},(∀ x ∈ l,f x=g x)→l.flatMap f=l.flatMap g
 | [],_=>rfl
 | x :: l,h=>by rw [List.flatMap_cons,List.flatMap_cons,h x (by simp),flatMap_same (fun y hy=>h y (by simp [hy]))]
theorem prtS_len' (l:List (Nat × Nat)) (hn:l.Nodup):(prtS l).length=l.length:=by
 obtain ⟨q1,q2⟩:=prtS_facts hn
 have h1:(prtS l).Nodup:=q1.imp (fun h e=>by rw [e] at h;exact prtB_irr _ h)
 exact ((List.perm_ext_iff_of_nodup h1 hn).2 q2).length_eq
theorem pN_eq {td:Nat} {os:List O} {rcs:List (Nat × Nat)} {ls:List L} (hg:Good os ls) (hid:∀ l ∈ ls,1≤l.id) (hoid:∀ o ∈ os,1≤o.id) (hpar:∀ l ∈ ls,l.par.length≤2) (hr:rcs.Nodup):pN td os rcs ls=stN td os rcs ls:=by
 have e1:(byN ls).flatMap (fun i=>lotP (ls.getD i L0))=stL ls:=by
  unfold stL
  rw [byN_enum hg.ids hid]
  refine flatMap_same (fun i hi=>lotP_eq (hpar _ (mem_getD ?_)))
  rw [← byN_enum hg.ids hid] at hi
  exact byN_mem.1 hi
 have e2:(oks os).flatMap (ordP os ls)=stO os:=by
  unfold stO oks
  rw [List.flatMap_map]
  obtain ⟨_,q2⟩:=enum_facts (x:=fun i=>(os.getD i O0).id) (oid_inj hg.oids) (os.length+1) 0 (by have:=cntA_le (fun i=>(os.getD i O0).id) 0 os.length;omega)
  exact flatMap_same (fun i hi=>ordP_eq hg (getO ((q2 i).1 hi).1))
 unfold pN stN
 rw [e1,e2]
 unfold flP
 rw [prtS_len' rcs hr]
 simp
theorem nodup_of_len {α:Type} [DecidableEq α]:∀ {ss t:List α},t.Nodup→ss.length=t.length→(∀ x,x ∈ ss↔x ∈ t)→ss.Nodup
 | [],t,_,_,_=>by simp
 | x :: r,t,hn,hl,hm=>by
  by_cases hx:x ∈ r
  ·exfalso
   have:=len_of_sub (l:=t) (m:=r) hn (fun y hy=>by
    rcases List.mem_cons.1 ((hm y).2 hy) with rfl | h
    ·exact hx
    ·exact h)
   rw [List.length_cons] at hl;omega
  ·refine List.nodup_cons.2 ⟨hx,nodup_of_len (t:=t.erase x) (hn.erase x) ?_ (fun y=>?_)⟩
   ·rw [List.length_erase_of_mem ((hm x).1 (by simp))];rw [List.length_cons] at hl;omega
   ·rw [hn.mem_erase_iff,← hm,List.mem_cons]
    constructor
    ·intro hy;exact ⟨fun e=>hx (by rw [← e];exact hy),Or.inr hy⟩
    ·rintro ⟨h1,h2 | h2⟩
     ·exact absurd h2 h1
     ·exact h2
theorem sorted_oks {os:List O} {ss:List Int} (hn:(os.map O.id).Nodup) (h1:∀ o ∈ os,1≤o.id) (hlen:ss.length=os.length) (hmem:∀ x:Int,x ∈ ss↔∃ o ∈ os,x=(o.id:Int)):ss.mergeSort (fun x y=>decide (x≤y))=(oks os).map Int.ofNat:=by
 have hnd:ss.Nodup:=by
  refine nodup_of_len (t:=os.map (fun o=>(o.id:Int))) ?_ (by rw [hlen,List.length_map]) (fun x=>by rw [hmem,List.mem_map];exact ⟨fun ⟨o,ho,e⟩=>⟨o,ho,e.symm⟩,fun ⟨o,ho,e⟩=>⟨o,ho,e.symm⟩⟩)
  rw [List.nodup_iff_pairwise_ne,List.pairwise_map]
  have:=hn
  rw [List.nodup_iff_pairwise_ne,List.pairwise_map] at this
  exact this.imp (fun h e=>h (by omega))
 obtain ⟨q1,q2⟩:=oks_facts hn h1
 have hp:=List.mergeSort_perm ss (fun x y=>decide (x≤y))
 have hs:=List.pairwise_mergeSort (le:=fun x y:Int=>decide (x≤y)) (fun a b c h k=>by simp at *;omega) (fun a b=>by simp;omega) ss
 refine rise_ext (lt:=fun a b:Int=>a<b) (fun a=>by omega) (fun a b c h k=>by omega) ?_ ?_ (fun x=>?_)
 ·refine (List.pairwise_and_iff.2 ⟨hs,hp.nodup_iff.2 hnd⟩).imp ?_
  rintro a b ⟨h,k⟩
  simp at h;omega
 ·rw [List.pairwise_map]
  exact q1.imp (fun h=>Int.ofNat_lt.2 h)
 ·rw [hp.mem_iff,hmem,List.mem_map]
  constructor
  ·rintro ⟨o,ho,rfl⟩
   exact ⟨o.id,(q2 _).2 (List.mem_map_of_mem ho),rfl⟩
  ·rintro ⟨a,ha,rfl⟩
   obtain ⟨o,ho,e⟩:=List.mem_map.1 ((q2 a).1 ha)
   exact ⟨o,ho,by rw [e];rfl⟩
end Go.Proofs.YtgcedalggnmooabGreatDoor
namespace Go.Proofs.YtgcedalggnmooabGreatDoor
open Go.RowKit Go.Shelf Go.Maps
attribute [local go_sem] Oper.semAt_some
def encR (p:Nat × Nat):Value:=.agg #[.int .i64 (p.1:Int),.int .i64 (p.2:Int)]
theorem nextIn_recall {F:Fence} {m:Nat} {w:World} {ops:Array Oper} {rest:List Oper} {o:Oper} {a:Act} {Q:Exit→Act→World→Prop} {rcs:List (Nat × Nat)} (hR:Rc rcs) {D:DataW Unit} (hD:RD rcs D) (hg:o.guard=none) (it:Operand) (hop:o.op=Op.next it false) (b r n:Nat) (left:Lit→Bool) (cnt:Nat)
  (hit:a.eval it=.pointer (some ⟨r,0,none⟩)) (hsub:∀ kl,left kl=true→Maps.has D kl=true) (h:w.ranges Tryz.prog 140 (unitElem (H:=Unit)) b r n D left cnt)
  (hDone:cnt=0→(∀ kl,left kl=false)→wpListIn F m Tryz.prog ops Q rest (a.put o.dst (.tuple #[.bool false])) w)
  (hMore:∀ (p:Nat × Nat) (w':World) (cnt':Nat),p ∈ rcs→left (hkey p.1 p.2)=true→w'.ranges Tryz.prog 140 (unitElem (H:=Unit)) b r n D (fun z=>left z && !z.sameKey (hkey p.1 p.2)) cnt'→cnt'<cnt→w.grownBy w' (some r)→w'.heap.size=w.heap.size →
   (Instr.entry (.pointer (some ⟨r,0,none⟩))).run Tryz.prog w'=.ok (.tuple #[encR p,.agg #[]]) w'→wpListIn F m Tryz.prog ops Q rest (a.put o.dst (.tuple #[.bool true,encR p,.agg #[]])) w') :
  wpListIn F m Tryz.prog ops Q (o :: rest) a w:=by
 refine wpListIn_plain hg fun K' hK'=>?_
 unfold Oper.wpIn
 refine ⟨by simp [Oper.about,hop],?_⟩
 rw [Oper.semAt_plain F _ _ (by rw [hop];intro c hc';cases hc')]
 rcases h.next kRec o.type with ⟨h0,hl,hrun⟩ | ⟨key,v,kl,y,w',cnt',hkey,hlk,hv,hat,hrun,hrg,hlt,hgr,hsz,hen⟩
 ·simp [execOp,hop,hit,hrun,Result.andThen]
  exact hK' _ _ (hDone h0 hl)
 ·obtain ⟨p,hp,rfl⟩:=hD.keys kl (hsub kl hlk)
  obtain ⟨hp1,hp2⟩:=hR.fits p hp
  have hkk:=key_r_inv hkey hp1 hp2 rfl
  subst hkk
  obtain ⟨rfl,_⟩:=unitElem_inv hv
  simp [execOp,hop,hit,hrun,Result.andThen]
  exact hK' _ _ (hMore p w' cnt' hp hlk hrg hlt hgr hsz hen)
structure Come (rcs:List (Nat × Nat)) (left:Lit→Bool) (ss:List (Nat × Nat)):Prop where
 nd:ss.Nodup
 mem:∀ p,p ∈ ss↔p ∈ rcs∧left (hkey p.1 p.2)=false
theorem Come.start {rcs:List (Nat × Nat)} {D:DataW Unit} (hR:Rc rcs) (hD:RD rcs D):Come rcs (Maps.has D) []:=by
 refine ⟨by simp,fun p=>⟨fun h=>by simp at h,fun ⟨h1,h2⟩=>?_⟩⟩
 obtain ⟨q1,q2⟩:=hR.fits p h1
 rw [hD.has _ _ q1 q2] at h2
 have:rcs.contains (p.1,p.2)=true:=by rw [List.contains_iff_mem];exact h1
 rw [this] at h2;cases h2
theorem Come.step {rcs:List (Nat × Nat)} {left:Lit→Bool} {ss:List (Nat × Nat)} (h:Come rcs left ss) (hR:Rc rcs) {p:Nat × Nat} (hp:p ∈ rcs) (hl:left (hkey p.1 p.2)=true):Come rcs (fun z=>left z && !z.sameKey (hkey p.1 p.2)) (ss++[p]):=by
 have hsame:(hkey p.1 p.2).sameKey (hkey p.1 p.2)=true:=by simp [hkey,Lit.sameKey]
 have hno:p ∉ ss:=fun hm=>by have:=((h.mem p).1 hm).2;rw [hl] at this;cases this
 refine ⟨List.nodup_append.2 ⟨h.nd,by simp,fun a ha b hb e=>?_⟩,fun q=>?_⟩
 ·simp at hb;subst hb;subst e;exact hno ha
 ·rw [List.mem_append,List.mem_singleton,h.mem]
  constructor
  ·rintro (⟨h1,h2⟩ | rfl)
   ·exact ⟨h1,by rw [h2];rfl⟩
   ·exact ⟨hp,by rw [hsame];simp⟩
  ·rintro ⟨h1,h2⟩
   by_cases e:q=p
   ·exact Or.inr e
   ·have:(hkey q.1 q.2).sameKey (hkey p.1 p.2)=false:=Maps.sameKey_ne (fun e'=>e (by
     obtain ⟨a1,a2⟩:=hR.fits q h1
     obtain ⟨b1,b2⟩:=hR.fits p hp
     obtain ⟨e1,e2⟩:=hkey_inj a1 a2 b1 b2 e'
     exact Prod.ext e1 e2))
    rw [this] at h2
    exact Or.inl ⟨h1,by simpa using h2⟩
theorem Come.all {rcs:List (Nat × Nat)} {left:Lit→Bool} {ss:List (Nat × Nat)} (h:Come rcs left ss) (hR:Rc rcs) (hl:∀ kl,left kl=false):ss.Perm rcs :=
 (List.perm_ext_iff_of_nodup h.nd hR.nodup).2 (fun p=>by rw [h.mem,hl];simp)
theorem Come.lt {rcs:List (Nat × Nat)} {left:Lit→Bool} {ss:List (Nat × Nat)} (h:Come rcs left ss) {p:Nat × Nat} (hp:p ∈ rcs) (hl:left (hkey p.1 p.2)=true):ss.length<rcs.length:=by
 have hno:p ∉ ss:=fun hm=>by have:=((h.mem p).1 hm).2;rw [hl] at this;cases this
 have hn:(ss++[p]).Nodup:=List.nodup_append.2 ⟨h.nd,by simp,fun a ha b hb e=>by simp at hb;subst hb;subst e;exact hno ha⟩
 have:=len_of_sub (m:=rcs) hn (fun q hq=>by
  rcases List.mem_append.1 hq with hq | hq
  ·exact ((h.mem q).1 hq).1
  ·simp at hq;subst hq;exact hp)
 simp at this;omega
set_option maxHeartbeats 1600000 in
theorem keysR_stops (m:Nat) (hm1:1≤m) (Bm b:Nat) {rcs:List (Nat × Nat)} {D:DataW Unit} (hR:Rc rcs) (hD:RD rcs D) (w:World) (hBm:Bm<w.heap.size) (hm:w.cell? ⟨Bm,0,none⟩=some (.map (some b))) (hown:OwnsR w b (Maps.size D) D) :
  SeqStops Fence.wide m Tryz.prog 107 #[.pointer (some ⟨Bm,0,none⟩)] encR (fun ss=>ss.Perm rcs) (fun _=>True) rcs.length w:=fun l J Jx W hW hJ _ hY h0=>by
 have hown':OwnsR W b (Maps.size D) D:=owns_congr hown (hW.block b hown.lt)
 have hmW:W.cell? ⟨Bm,0,none⟩=some (.map (some b)):=(hW.cell (p:=⟨Bm,0,none⟩) hBm).trans hm
 refine callsIn_of_wp Tryz.func107 rfl trivial ?_ rfl
 simp only [Tryz.ntmps107,List.size_toArray,List.length_cons,List.length_nil,Nat.reduceAdd,Nat.reduceSub,Array.replicate_succ,Array.replicate_zero,List.push_toArray,List.append_toArray,List.nil_append,List.cons_append]
 gi_wp2_with (first
  | (gi_at_range;refine wpListIn_range_own _ rfl _ 77 rfl 140 144 kRec tU56 _ b (Maps.size D) D rfl hown' ?_;intro w0 hrg0 hg0 hs0)
  | gi_in)
 go_frame
 gi_loopw [3] (fun _ wr=>∃ (left:Lit→Bool) (cnt:Nat) (ss:List (Nat × Nat)),wr.ranges Tryz.prog 140 (unitElem (H:=Unit)) b W.heap.size (Maps.size D) D left cnt∧(∀ kl,left kl=true→Maps.has D kl=true)∧Come rcs left ss∧J ss wr) (fun _ wr=>wr.rangeLeft b W.heap.size)
 case atStart=>exact ⟨_,_,[],hrg0,fun kl h=>h,Come.start hR hD,hJ [] W w0 none h0 hg0 (fun r e=>by cases e)⟩
 case round =>
  obtain ⟨left,cnt,ss,hrg,hsub,hC,hJs⟩:=hrel
  gi_wp2_with (first
   | (gi_at_next;refine nextIn_recall hR hD rfl _ rfl b W.heap.size (Maps.size D) left cnt rfl hsub hrg ?_ ?_)
   | gi_in)
  ·intro hc0 hl0
   gi_wp2
   go_end0
   exact ⟨⟨_,rfl⟩,.inl ⟨ss,hC.all hR hl0,hJs⟩⟩
  ·intro px py w2 cnt2 hp hlk hrg2 hlt hg2 hs2 hen
   have hJ2:J ss w2:=hJ ss wr w2 (some W.heap.size) hJs hg2 (fun r e=>by cases e;exact ⟨Nat.le_refl _,hrg.iter_walk⟩)
   have hJ3:=hJ ss w2 (w2.alloc (.cells #[.int .i64 (px:Int),.int .i64 (py:Int)] 140)) none hJ2 (World.grownBy_alloc _ _ none) (fun r e=>by cases e)
   obtain ⟨fn,tmps,assign,body,hy,hRd⟩:=hY ss (px,py) _ hJ3 (hC.lt hp hlk)
   unfold encR at hy hen
   clear hs2
   gi_wp2
   refine hRd.mono ?_
   have hC2:=hC.step hR hp hlk
   rintro e W3 (⟨rfl,hJ4,hk3⟩ | ⟨rfl,hJx3⟩)
   ·gi_wp2
    have hrg3:=(hrg2.alloc _).of_walks hk3
    go_roundw
    case rel=>exact ⟨_,cnt2,ss++[(px,py)],hrg3,fun kl hkl=>hsub kl (by simp only [Bool.and_eq_true] at hkl;exact hkl.1),hC2,hJ4⟩
    case measure=>rw [hrg3.left_eq,hrg.left_eq];exact hlt
   ·gi_wp2
    refine bodyPost_ret (results_none rfl _ _ _) rfl ?_
    exact ⟨⟨_,rfl⟩,.inr ⟨ss++[(px,py)],trivial,hJx3⟩⟩
set_option maxHeartbeats 1000000 in
theorem keysR_any (mb:Option Nat) (w:World):Calls Tryz.prog 72 #[.map mb] w fun e w'=>e=.returned (.func (.func 107) #[] #[.pointer (some ⟨w.heap.size,0,none⟩)])∧w'=w.alloc (.cells #[.map mb] 77):=by
 go_enter Tryz.func72,Tryz.ntmps72
 go_wp2_with fail
 go_ret
 exact ⟨rfl,rfl⟩
theorem infoRec:(Tryz.prog.info? 140).map (fun i=>(i.zero,i.size,i.bytes))=some (some (.agg #[.int .i64 0,.int .i64 0]),2,16):=by kernel_rfl
theorem tURecs:Tryz.prog.underlying 137=some (.slice 140):=by kernel_rfl
set_option maxHeartbeats 2000000 in
theorem appendR_in (g:Nat) (lb:Array Value) (eg:∀ args w,(callFunc g args).run Tryz.prog w=.ok (.enter g args) w) (S:List (Nat × Nat)→Prop) (N:Nat) (hN:N≤1000) (w:World) (hseq:∀ m,1≤m→SeqStops Fence.wide m Tryz.prog g lb encR S (fun _=>True) N w) :
  CallsIn Fence.wide 4 Tryz.prog 122 #[.slice none 0 0,.func (.func g) #[] lb] w fun e w'=>∃ (v:Value) (ss:List (Nat × Nat)),e=.returned v∧S ss∧w'.ownsRow w.heap.size 140 2 v ss.length (lflat ss)∧Below w.heap.size w w':=by
 obtain ⟨i0,hi,hz0,hz1,hz2⟩:=info_parts infoRec
 refine callsIn_of_wp_marks Tryz.func122 rfl trivial ?_ rfl
 simp only [Tryz.ntmps122,List.size_toArray,List.length_cons,List.length_nil,Nat.reduceAdd,Nat.reduceSub,Array.replicate_succ,Array.replicate_zero,List.push_toArray,List.append_toArray,List.nil_append,List.cons_append]
 gi_wp2
 obtain ⟨W0,hW0⟩:∃ W0,w.alloc (.cells #[.slice none 0 0] 137)=W0:=⟨_,rfl⟩
 have hs0:W0.heap.size=w.heap.size+1:=by rw [← hW0];simp
 have hv0:Boxed W0 w.heap.size 137 (.slice none 0 0):=by rw [← hW0];exact Boxed.new _ _ _
 have hb0:Below w.heap.size w W0:=by rw [← hW0];exact (Below.refl _ w).alloc (Nat.le_refl _) _
 rw [hW0]
 clear hW0
 refine wpIn_rangeFunc_ownH (F:=Fence.wide) (n:=4) rfl (by omega) (gf:=g) (lb:=lb) rfl trivial eg (encs:=fun x=>#[encR x]) (Kp:=KeepsWalks) (hseq 3 (by omega)) walksK_t walksK_b hb0 (fun _=>rfl)
  (fun pre W=>(∃ v,Boxed W w.heap.size 137 v∧W.ownsRow w.heap.size 140 2 v pre.length (lflat pre)∧True)∧Below w.heap.size w W) (fun _ _ _=>False)
  (OwnFrom.and (Own.from (holdsRow_own w.heap.size w.heap.size 137 140 2 (fun pre=>pre.length) lflat (fun _ _=>True)) _) (ownFrom_below (Nat.le_refl _) (by omega)))
  (fun _ _ _ _ _ hs _ _=>hs) ⟨⟨_,hv0,World.ownsRow_nil _ _ _ _,trivial⟩,hb0⟩
  (fun x a' W=>∃ Bx,W.heap[Bx]?=some (.cells #[.int .i64 (x.1:Int),.int .i64 (x.2:Int)] 140 (0,0))∧a'={ tmps:=#[.slice none 0 0,.func (.func g) #[] lb,.pointer (some ⟨w.heap.size,0,none⟩),undef,.slice none 0 0,.pointer (some ⟨Bx,0,none⟩),.func (.func g) #[] lb,encR x,undef,undef,undef,undef,undef],defers:=[] })
  (fun x a' _ X Y row hs hg hr=>by
   obtain ⟨Bx,h1,h2⟩:=hs
   refine ⟨Bx,(hg.block Bx (blk_lt h1) (fun e=>?_)).trans h1,h2⟩
   obtain ⟨_,o,ho,hc⟩:=hr Bx e.symm
   rw [h1] at ho;cases ho;cases hc)
  ?assign ?body ?done ?stop
 case assign =>
  rintro l pre x W K ⟨⟨v,bS,hrow,_⟩,hB⟩ hK
  unfold encR
  gi_wp2
  exact hK _ _ ((KeepsOthers.alloc _ _).from _) (KeepsWalks.alloc _ _) ⟨⟨v,bS.alloc _,hrow.alloc _,trivial⟩,hB.alloc hB.size _⟩ ⟨W.heap.size,heap_alloc_new W _,rfl⟩
 case body =>
  rintro l pre x a' W hl ⟨r,hr⟩ ⟨⟨v,bS,hrow,_⟩,hB⟩ ⟨Bx,hBx,rfl⟩ hlt
  have cS:=bS.cell
  have fS:=bS.frozen
  have x0:W.cell? ⟨Bx,0,none⟩=some (.int .i64 (x.1:Int)):=by rw [blk_cell hBx];rfl
  have x1:W.cell? ⟨Bx,1,none⟩=some (.int .i64 (x.2:Int)):=by rw [blk_cell hBx];rfl
  gi_wp2_with (gi_at_builtin;refine wpListIn_append_own _ rfl _ _ 137 rfl w.heap.size 140 i0 (.agg #[.int .i64 0,.int .i64 0]) 2 16 tURecs hi hz0 hz1 hz2 rfl (by decide) _ _ _ rfl (hrow.alloc _) ⟨W.heap.size,0,none⟩ 1 1 [.int .i64 (x.1:Int),.int .i64 (x.2:Int)] rfl rfl (fun q u hu=>by have:=cell_two_new W (.int .i64 (x.1:Int)) (.int .i64 (x.2:Int)) 140 q u hu;simpa using this) (by simp [Value.oneCell']) (by unfold maxLen;omega) (by omega) (by have:=hB.size;simp;omega) ?_;intro v' w1 hown' hgrow _;obtain ⟨g',cap',rfl⟩:=ownsRow_succ hown';obtain ⟨hv1,hv2,hr2,hk2,hb2⟩:=bS.appended (by decide) hrow hB.size (Nat.le_refl _) hown' hgrow;have hc1:=hv1.cell;have hf1:=hv1.frozen)
  refine ⟨hk2.from _,⟨hk2.size,fun k o hk ho=>hk2.same k o hk (Obj.not_cells_of_walk ho)⟩,⟨_,hv2,?_,trivial⟩,hB.trans hb2⟩
  rw [lflat_app,List.length_append]
  exact hr2
 case done =>
  rintro D ss W hD hS ⟨⟨v,bS,hrow,_⟩,hB⟩ hK
  have cS:=bS.cell
  gi_wp2
  refine ⟨by simp,.inl ⟨_,_,rfl,run_takeDeferred hK,?_⟩⟩
  exact ⟨_,results_tmp rfl _ _ _,v,ss,rfl,hS,ownsRow_putObj hrow _ hK rfl,hB.trans (belowK_b (w:=W0) (by omega) W D _ _ hD hK rfl rfl)⟩
 case stop =>
  rintro D c pre W _ _ h _
  exact h.elim
theorem hentR:∀ args w,(callFunc 107 args).run Tryz.prog w=.ok (.enter 107 args) w:=enters_of Tryz.func107 (by kernel_rfl) rfl
set_option maxHeartbeats 1000000 in
theorem collectR_any {w:World} {Bm b:Nat} {rcs:List (Nat × Nat)} {D:DataW Unit} (hR:Rc rcs) (hD:RD rcs D) (hBm:Bm<w.heap.size) (hm:w.cell? ⟨Bm,0,none⟩=some (.map (some b))) (hown:OwnsR w b (Maps.size D) D) :
  Calls Tryz.prog 105 #[.func (.func 107) #[] #[.pointer (some ⟨Bm,0,none⟩)]] w fun e w'=>∃ (v:Value) (ss:List (Nat × Nat)),e=.returned v∧ss.Perm rcs∧w'.ownsRow w.heap.size 140 2 v ss.length (lflat ss)∧Below w.heap.size w w':=by
 have HA:=hide ((callsIn_wide (n:=4)).1 (appendR_in 107 #[.pointer (some ⟨Bm,0,none⟩)] hentR (fun ss=>ss.Perm rcs) rcs.length (by have:=hR.len;omega) w (fun m h1=>keysR_stops m h1 Bm b hR hD w hBm hm hown)))
 clear hR hD hBm hm hown
 go_enter Tryz.func105,Tryz.ntmps105
 go_wp2_with (go_at_call 122;refine (HA.out).mono ?_;rintro e w1 ⟨v,ss,rfl,hS,hrow,hb⟩)
 go_ret
 exact ⟨v,ss,rfl,hS,hrow,hb⟩
end Go.Proofs.YtgcedalggnmooabGreatDoor
namespace Go.Proofs.YtgcedalggnmooabGreatDoor
open Go.RowKit Go.Maps Go.Sort Go.Shelf
theorem brs {P : Program} {f : Nat} {B : Func} (h : (((P.funcs[f]?).getD default).name == "runtime.NumGoroutine") = false) (e : P.funcs[f]? = some { B with name := ((P.funcs[f]?).getD default).name }) : Bears P f B := ⟨_, h, e⟩
def keysO_ren : Go.Shelf.Ren := ⟨fun | 7 => 68 | 10 => 104 | n => n, fun | 23 => 75 | 26 => 2 | 3 => 2 | 28 => 132 | 0 => 0 | 27 => 131 | 33 => 158 | 4 => 4 | n => n, fun | n => n⟩
theorem keysO : SlLaysZI.n7 Tryz.prog keysO_ren := by constructor <;> first | kernel_rfl | (intro w; kernel_rfl) | (apply brs <;> kernel_rfl)
def sortedO_ren : Go.Shelf.Ren := ⟨fun | 6 => 67 | 8 => 102 | 9 => 103 | 11 => 120 | 13 => 117 | 12 => 121 | 23 => 137 | 24 => 138 | 14 => 147 | 15 => 148 | 16 => 149 | 17 => 150 | 18 => 151 | 19 => 152 | 20 => 153 | 21 => 154 | 22 => 155 | 25 => 176 | 26 => 169 | 27 => 170 | 28 => 177 | 29 => 178 | 30 => 118 | 31 => 188 | n => n, fun | 26 => 2 | 28 => 132 | 24 => 54 | 0 => 0 | 3 => 3 | 37 => 119 | 48 => 126 | 50 => 220 | 4 => 4 | 40 => 212 | 39 => 211 | 45 => 216 | 5 => 5 | 9 => 9 | 51 => 240 | 55 => 244 | 57 => 254 | 58 => 255 | 33 => 158 | n => n, fun | n => n⟩
theorem sortedO : SlLaysZI.n6 Tryz.prog sortedO_ren := by constructor <;> first | kernel_rfl | (intro w; kernel_rfl) | (apply brs <;> kernel_rfl)
def sortO_ren : Go.Shelf.Ren := ⟨fun | 5 => 103 | 8 => 117 | 7 => 121 | 19 => 137 | 20 => 138 | 10 => 147 | 11 => 148 | 12 => 149 | 13 => 150 | 14 => 151 | 15 => 152 | 16 => 153 | 17 => 154 | 18 => 155 | 30 => 176 | 31 => 169 | 32 => 170 | 33 => 177 | 34 => 178 | 35 => 118 | 40 => 188 | n => n, fun | 23 => 54 | 25 => 2 | 3 => 3 | 32 => 119 | 22 => 54 | 0 => 0 | 44 => 126 | 46 => 220 | 4 => 4 | 36 => 212 | 35 => 211 | 41 => 216 | 5 => 5 | 9 => 9 | 53 => 240 | 57 => 244 | 63 => 254 | 64 => 255 | n => n, fun | n => n⟩
theorem sortO : SlLaysM.n5 Tryz.prog sortO_ren := by constructor <;> first | kernel_rfl | (intro w; kernel_rfl) | (apply brs <;> kernel_rfl)
theorem sortsO (m:Nat):AnyZI.SortsIn Tryz.prog sortedO_ren Fence.wide m :=
 ⟨fun blk off cap ss W hH hblk hsz=>callsIn_wide.2 (AnyM.slices_Sort_int sortO blk off cap ss W hH hblk hsz),
  fun p cap W=>callsIn_wide.2 (AnyM.slices_Sort_int_none sortO p cap W)⟩
theorem keysO_any (mb:Option Nat) (w:World):Calls Tryz.prog 68 #[.map mb] w fun e w'=>e=.returned (.func (.func 104) #[] #[.pointer (some ⟨w.heap.size,0,none⟩)])∧w'=w.alloc (.cells #[.map mb] 75) :=
 (callsIn_wide (n:=5)).1 (AnyZI.keys_in keysO Fence.wide 5 trivial rfl mb w)
theorem len_keys {ss:List Int} {D:DataW Unit} (hp:ss.Perm (intKeys D)):ss.length=Maps.size D:=by
 rw [hp.length_eq]
 cases D <;> simp [intKeys,Maps.size]
set_option maxHeartbeats 1000000 in
theorem sortedO_any {w:World} {Bm b:Nat} {os:List O} {D:DataW Unit} (hn:(os.map O.id).Nodup) (h1:∀ o ∈ os,1≤o.id∧o.id≤2147483647) (hlen:os.length≤10) (hBm:Bm<w.heap.size) (hm:w.cell? ⟨Bm,0,none⟩=some (.map (some b))) (hown:OwnsO w b (Maps.size D) D) (hOD:OD os D) :
  Calls Tryz.prog 67 #[.func (.func 104) #[] #[.pointer (some ⟨Bm,0,none⟩)]] w fun e w'=>Below w.heap.size w w'∧∃ v,e=.returned v∧w'.ownsRow w.heap.size 2 1 v (oks os).length (I (oks os)):=by
 have hsz:Maps.size D≤10:=by rw [hOD.size];exact hlen
 have hseq:=(AnyZI.keys_stops (ρ:=keysO_ren) { keysO with } Fence.wide 2 trivial rfl (by omega) Bm b (Maps.size D) D w hBm hm hown).gives
 have cS:=AnyZI.sorted_in sortedO Fence.wide 5 trivial trivial trivial trivial rfl (by omega) (sortsO _) (enters_of Tryz.func103 (by kernel_rfl) rfl) 104 #[.pointer (some ⟨Bm,0,none⟩)] trivial (enters_of Tryz.func104 (by kernel_rfl) rfl) _ _ (by unfold maxLen;omega) (by omega) _ hseq
 refine ((callsIn_wide (n:=5)).1 cS).mono ?_
 rintro e w' ⟨v,ss,rfl,⟨hS1,hS2⟩,hrow,_,hb⟩
 have hl:=len_keys hS1
 have hmem:∀ x:Int,x ∈ ss↔∃ o ∈ os,x=(o.id:Int):=fun x=>by
  rw [hS2]
  constructor
  ·intro hx
   obtain ⟨o,ho,e⟩:=hOD.keys _ hx
   refine ⟨o,ho,?_⟩
   simpa [okey] using e
  ·rintro ⟨o,ho,rfl⟩
   have:=hOD.has o.id (h1 o ho).2
   rw [show (Lit.int .i64 ((o.id:Nat):Int))=okey o.id from rfl,this]
   exact List.any_eq_true.2 ⟨o,ho,by simp⟩
 have he:=sorted_oks hn (fun o ho=>(h1 o ho).1) (hl.trans hOD.size) hmem
 refine ⟨hb,v,rfl,?_⟩
 have hl2:ss.length=(oks os).length:=by
  have:=congrArg List.length he
  rw [List.length_mergeSort,List.length_map] at this
  exact this
 have e2:(ss.mergeSort (fun x y=>decide (x≤y))).map encZ=I (oks os):=by rw [he];simp [I]
 rw [e2,hl2] at hrow
 exact hrow
end Go.Proofs.YtgcedalggnmooabGreatDoor
namespace Go.Proofs.YtgcedalggnmooabGreatDoor
open Go.RowKit
def parC (a b:Nat × Nat):Int:=Lib.compareInt (a.1:Int) (b.1:Int)
theorem parC_lt (a b:Nat × Nat):parC a b<0↔parB a b=true:=by unfold parC;rw [cmpInt_lt];simp [parB]
set_option maxHeartbeats 1600000 in
theorem pcmp_any (a b:Nat × Nat) (W:World) (x:Ex):Calls Tryz.prog 101 #[.agg #[.int .i64 (a.1:Int),.int .i64 (a.2:Int)],.agg #[.int .i64 (b.1:Int),.int .i64 (b.2:Int)]] (ext W x) fun e w'=>e=.returned (.int .i64 (parC a b))∧∃ x',w'=ext W x':=by
 have hcon:=fun W'=>cmp_any (a.1:Int) (b.1:Int) W'
 unfold parC
 generalize Lib.compareInt (a.1:Int) (b.1:Int)=r at hcon
 go_enter Tryz.func101,Tryz.ntmps101
 go_wp2_with (go_at_call 98;refine (hcon _).mono ?_;rintro e w' ⟨rfl,rfl⟩)
 go_ret
 exact ⟨rfl,_,by rw [ext_alloc,ext_alloc]⟩
theorem len64_any (n:Nat) (hn:n≤12) (w:World):Calls Tryz.prog 138 #[.int .u64 (n:Int)] w fun e w'=>(∃ m,e=.returned (.int .i64 m))∧w'=w:=by
 have h:n=0∨n=1∨n=2∨n=3∨n=4∨n=5∨n=6∨n=7∨n=8∨n=9∨n=10∨n=11∨n=12:=by omega
 rcases h with rfl | rfl | rfl | rfl | rfl | rfl | rfl | rfl | rfl | rfl | rfl | rfl | rfl
 all_goals
  go_enter Tryz.func138,Tryz.ntmps138
  go_wp2_with fail
  go_ret
  exact ⟨⟨_,rfl⟩,rfl⟩
end Go.Proofs.YtgcedalggnmooabGreatDoor
namespace Go.Proofs.YtgcedalggnmooabGreatDoor
open Go.RowKit
set_option maxHeartbeats 800000 in
theorem blen_any (n:Nat) (hn:n≤12) (w:World):Calls Tryz.prog 117 #[.int .u64 (n:Int)] w fun e w'=>(∃ m,e=.returned (.int .i64 m))∧w'=w:=by
 have HL:=hide (fun w=>len64_any n hn w)
 go_enter Tryz.func117,Tryz.ntmps117
 go_wp2_with (go_at_call 138;refine (HL.out _).mono ?_;rintro e w' ⟨⟨m,rfl⟩,rfl⟩)
 go_ret
 exact ⟨⟨_,rfl⟩,rfl⟩
set_option maxHeartbeats 1600000 in
theorem pdq_parent {lt:Nat × Nat→Nat × Nat→Bool} {cf:Nat × Nat→Nat × Nat→Int} {G base:Nat} {v:Value} {l:List (Nat × Nat)} {w:World} (hent:∀ args w,(callFunc G args).run Tryz.prog w=.ok (.enter G args) w) (hcmp:∀ a b W x,Calls Tryz.prog G #[.agg #[.int .i64 (a.1:Int),.int .i64 (a.2:Int)],.agg #[.int .i64 (b.1:Int),.int .i64 (b.2:Int)]] (ext W x) fun e w'=>e=.returned (.int .i64 (cf a b))∧∃ x',w'=ext W x') (hlt:∀ a b,cf a b<0↔lt a b=true) (h:w.ownsRow base 156 2 v l.length (lflat l)) (hl:l.length≤12) (m:Int) :
  Calls Tryz.prog 119 #[v,.int .i64 0,.int .i64 (l.length:Int),.int .i64 m,.func (.func G) #[] #[]] w fun e w'=>e=.returned (.tuple #[])∧Kp (fun k=>v.ownBlock=some k) w w'∧w'.ownsRow base 156 2 v l.length (lflat (isS lt l)):=by
 have HI:=hide (ins_parent hent hcmp hlt h hl)
 have hlz:((l.length:Int)≤12):=by omega
 clear hent hcmp hlt h
 go_enter Tryz.func119,Tryz.ntmps119
 go_wp2_with fail
 refine wp_loop_rounds 1 ?_
 rw [rounds_succ]
 go_wp2_with (go_at_call 139;refine (HI.out).mono ?_;rintro e w1 ⟨rfl,hk1,ho1⟩)
 go_returns
 exact ⟨rfl,hk1,ho1⟩
set_option maxHeartbeats 1600000 in
theorem sort_parent {lt:Nat × Nat→Nat × Nat→Bool} {cf:Nat × Nat→Nat × Nat→Int} {G base:Nat} {v:Value} {l:List (Nat × Nat)} {w:World} (hent:∀ args w,(callFunc G args).run Tryz.prog w=.ok (.enter G args) w) (hcmp:∀ a b W x,Calls Tryz.prog G #[.agg #[.int .i64 (a.1:Int),.int .i64 (a.2:Int)],.agg #[.int .i64 (b.1:Int),.int .i64 (b.2:Int)]] (ext W x) fun e w'=>e=.returned (.int .i64 (cf a b))∧∃ x',w'=ext W x') (hlt:∀ a b,cf a b<0↔lt a b=true) (h:w.ownsRow base 156 2 v l.length (lflat l)) (hl:l.length≤12) :
  Calls Tryz.prog 100 #[v,.func (.func G) #[] #[]] w fun e w'=>e=.returned (.tuple #[])∧Kp (fun k=>v.ownBlock=some k) w w'∧w'.ownsRow base 156 2 v l.length (lflat (isS lt l)):=by
 have HP:=hide (fun m=>pdq_parent hent hcmp hlt h hl m)
 obtain ⟨va,vcap,hv⟩:=own_shapeS h
 subst hv
 have HB:=hide (fun w=>blen_any l.length hl w)
 clear hent hcmp hlt h
 generalize l.length=n at *
 go_enter Tryz.func100,Tryz.ntmps100
 go_wp2_with (first
  | (go_at_call 117;refine (HB.out _).mono ?_;rintro e w' ⟨⟨m,rfl⟩,rfl⟩)
  | (go_at_call 119;refine (HP.out _).mono ?_;rintro e w1 ⟨rfl,hk1,ho1⟩))
 go_end0
 exact ⟨rfl,hk1,ho1⟩
set_option maxHeartbeats 1600000 in
theorem pdq_recall {lt:Nat × Nat→Nat × Nat→Bool} {cf:Nat × Nat→Nat × Nat→Int} {G base:Nat} {v:Value} {l:List (Nat × Nat)} {w:World} (hent:∀ args w,(callFunc G args).run Tryz.prog w=.ok (.enter G args) w) (hcmp:∀ a b W x,Calls Tryz.prog G #[.agg #[.int .i64 (a.1:Int),.int .i64 (a.2:Int)],.agg #[.int .i64 (b.1:Int),.int .i64 (b.2:Int)]] (ext W x) fun e w'=>e=.returned (.int .i64 (cf a b))∧∃ x',w'=ext W x') (hlt:∀ a b,cf a b<0↔lt a b=true) (h:w.ownsRow base 140 2 v l.length (lflat l)) (hl:l.length≤12) (m:Int) :
  Calls Tryz.prog 123 #[v,.int .i64 0,.int .i64 (l.length:Int),.int .i64 m,.func (.func G) #[] #[]] w fun e w'=>e=.returned (.tuple #[])∧Kp (fun k=>v.ownBlock=some k) w w'∧w'.ownsRow base 140 2 v l.length (lflat (isS lt l)):=by
 have HI:=hide (ins_recall hent hcmp hlt h hl)
 have hlz:((l.length:Int)≤12):=by omega
 clear hent hcmp hlt h
 go_enter Tryz.func123,Tryz.ntmps123
 go_wp2_with fail
 refine wp_loop_rounds 1 ?_
 rw [rounds_succ]
 go_wp2_with (go_at_call 156;refine (HI.out).mono ?_;rintro e w1 ⟨rfl,hk1,ho1⟩)
 go_returns
 exact ⟨rfl,hk1,ho1⟩
set_option maxHeartbeats 1600000 in
theorem sort_recall {lt:Nat × Nat→Nat × Nat→Bool} {cf:Nat × Nat→Nat × Nat→Int} {G base:Nat} {v:Value} {l:List (Nat × Nat)} {w:World} (hent:∀ args w,(callFunc G args).run Tryz.prog w=.ok (.enter G args) w) (hcmp:∀ a b W x,Calls Tryz.prog G #[.agg #[.int .i64 (a.1:Int),.int .i64 (a.2:Int)],.agg #[.int .i64 (b.1:Int),.int .i64 (b.2:Int)]] (ext W x) fun e w'=>e=.returned (.int .i64 (cf a b))∧∃ x',w'=ext W x') (hlt:∀ a b,cf a b<0↔lt a b=true) (h:w.ownsRow base 140 2 v l.length (lflat l)) (hl:l.length≤12) :
  Calls Tryz.prog 106 #[v,.func (.func G) #[] #[]] w fun e w'=>e=.returned (.tuple #[])∧Kp (fun k=>v.ownBlock=some k) w w'∧w'.ownsRow base 140 2 v l.length (lflat (isS lt l)):=by
 have HP:=hide (fun m=>pdq_recall hent hcmp hlt h hl m)
 obtain ⟨va,vcap,hv⟩:=own_shapeS h
 subst hv
 have HB:=hide (fun w=>blen_any l.length hl w)
 clear hent hcmp hlt h
 generalize l.length=n at *
 go_enter Tryz.func106,Tryz.ntmps106
 go_wp2_with (first
  | (go_at_call 117;refine (HB.out _).mono ?_;rintro e w' ⟨⟨m,rfl⟩,rfl⟩)
  | (go_at_call 123;refine (HP.out _).mono ?_;rintro e w1 ⟨rfl,hk1,ho1⟩))
 go_end0
 exact ⟨rfl,hk1,ho1⟩
theorem entP:∀ args w,(callFunc 101 args).run Tryz.prog w=.ok (.enter 101 args) w:=enters_of Tryz.func101 (by kernel_rfl) rfl
theorem entC:∀ args w,(callFunc 73 args).run Tryz.prog w=.ok (.enter 73 args) w:=enters_of Tryz.func73 (by kernel_rfl) rfl
set_option maxHeartbeats 1600000 in
theorem sortedR_any {w:World} {Bm b:Nat} {rcs:List (Nat × Nat)} {D:DataW Unit} (hR:Rc rcs) (hD:RD rcs D) (hBm:Bm<w.heap.size) (hm:w.cell? ⟨Bm,0,none⟩=some (.map (some b))) (hown:OwnsR w b (Maps.size D) D) :
  Calls Tryz.prog 71 #[.func (.func 107) #[] #[.pointer (some ⟨Bm,0,none⟩)],.func (.func 73) #[] #[]] w fun e w'=>Below w.heap.size w w'∧∃ v,e=.returned v∧w'.ownsRow w.heap.size 140 2 v rcs.length (lflat (prtS rcs)):=by
 have HC:=hide (collectR_any hR hD hBm hm hown)
 have hlen:=hR.len
 have HND:=hide hR.nodup
 clear hR hD hBm hm hown
 go_enter Tryz.func71,Tryz.ntmps71
 go_wp2_with (go_at_call 105;refine (HC.out).mono ?_;rintro e w1 ⟨v,ss,rfl,hS,hrow,hb⟩)
 have hsl:=hS.length_eq
 have HS:=hide (sort_recall entC rcmp_any recC_lt hrow (by omega))
 have HE:=hide (isS_prt HND.out hS)
 have HB:=hide hb
 have HV:Hid (∀ k,v.ownBlock=some k→w.heap.size≤k):=fun k hk=>(hrow.lt k hk).1
 rw [HE.out,hsl] at HS
 clear hS hrow hb hsl
 go_wp2_with (go_at_call 106;refine (HS.out).mono ?_;rintro e w2 ⟨rfl,hk2,ho2⟩)
 go_ret
 refine ⟨⟨hk2.os.trans HB.out.os,hk2.tape.trans HB.out.tape,hk2.output.trans HB.out.output,Nat.le_trans HB.out.size hk2.size,fun k hk=>?_⟩,v,rfl,ho2⟩
 exact (hk2.block k (Nat.lt_of_lt_of_le hk HB.out.size) (fun e=>by have:=HV.out k e;omega)).trans (HB.out.block k hk)
end Go.Proofs.YtgcedalggnmooabGreatDoor
