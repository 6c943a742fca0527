import Derived.Test.YtgcedalggnmooabGreatDoorSmlX
import Derived.Test.YtgcedalggnmooabGreatDoorFpX
import Derived.Test.YtgcedalggnmooabGreatDoorCm0X
import Derived.Test.YtgcedalggnmooabGreatDoorKAX
import Derived.Test.YtgcedalggnmooabGreatDoorKSX
set_option linter.unusedSimpArgs false
set_option linter.unusedVariables false
set_option maxRecDepth 100000
namespace Go.Proofs.YtgcedalggnmooabGreatDoor
def gv1 (l:L) (n:Nat):Nat:=(l.par.map fun p=>if p.1=n then p.2 else 0).sum
def gvS (ls:List L) (n:Nat):Nat:=(ls.map fun l=>gv1 l n).sum
def mnE (ls:List L) (ps:List (Nat × Nat)):Nat:=ps.foldl (fun e p=>min e (lotAt ls p.1).expiry) 2147483647
structure So1 (l:L):Prop where
 id:1≤l.id
 goods:1≤l.goods
 got:1≤l.got
 sum:l.got=l.free+l.held+l.shipped+l.scrapped+l.given
 keys:(l.par.map Prod.fst).Nodup
 small:∀ p ∈ l.par,p.2≤2147483647
 par:l.par=[]∨l.got=(l.par.map Prod.snd).sum
structure Snd (os:List O) (rcs:List (Nat × Nat)) (ls:List L):Prop where
 one:∀ i,i<ls.length→So1 (ls.getD i L0)
 fam:∀ i,i<ls.length→∀ p ∈ (ls.getD i L0).par,∃ j,j<i∧(ls.getD j L0).id=p.1∧(ls.getD j L0).goods=(ls.getD i L0).goods
 exp:∀ i,i<ls.length→(ls.getD i L0).par≠[]→(ls.getD i L0).expiry=mnE ls (ls.getD i L0).par
 giv:∀ i,i<ls.length→(ls.getD i L0).given=gvS ls (ls.getD i L0).id
 ord:∀ o ∈ os,1≤o.goods∧o.lines≠[]∧∀ p ∈ o.lines,1≤p.2∧(lotAt ls p.1).goods=o.goods
 rcl:∀ p ∈ rcs,1≤p.1∧1≤p.2∧idx p.1 ls<ls.length
theorem snd_nil:Snd [] [] []:=⟨fun i h=>absurd h (by simp),fun i h=>absurd h (by simp),fun i h=>absurd h (by simp),fun i h=>absurd h (by simp),fun o h=>absurd h (by simp),fun o h=>absurd h (by simp)⟩
theorem idx_same {ls ls':List L} (hl:ls'.length=ls.length) (h:∀ i,i<ls.length→(ls'.getD i L0).id=(ls.getD i L0).id) (n:Nat):idx n ls'=idx n ls:=by
 have hm:ls'.map L.id=ls.map L.id:=List.ext_getElem (by simp [hl]) (fun i h1 h2=>by
  have h1':i<ls'.length:=by simpa using h1
  have h2':i<ls.length:=by simpa using h2
  have:=h i h2'
  simpa [List.getD_eq_getElem?_getD,h1',h2'] using this)
 have e:∀ l:List L,idx n l=(l.map L.id).findIdx (fun x=>x == n):=fun l=>by
  induction l with
  | nil=>rfl
  | cons a l ih=>unfold idx at ih ⊢;simp [List.findIdx_cons,ih]
 rw [e,e,hm]
structure Lqq (l l':L):Prop where
 id:l'.id=l.id
 goods:l'.goods=l.goods
 expiry:l'.expiry=l.expiry
 got:l'.got=l.got
 par:l'.par=l.par
theorem Lqq.refl (l:L):Lqq l l:=⟨rfl,rfl,rfl,rfl,rfl⟩
theorem ls_ext {β:Type} {ls ls':List L} (hl:ls'.length=ls.length) (f:L→β) (h:∀ i,i<ls.length→f (ls'.getD i L0)=f (ls.getD i L0)):ls'.map f=ls.map f:=List.ext_getElem (by simp [hl]) (fun i h1 h2=>by
 have h1':i<ls'.length:=by simpa using h1
 have h2':i<ls.length:=by simpa using h2
 have:=h i h2'
 simpa [List.getD_eq_getElem?_getD,h1',h2'] using this)
section
variable {os:List O} {rcs:List (Nat × Nat)} {ls ls':List L}
theorem lotAt_q (hl:ls'.length=ls.length) (h:∀ i,i<ls.length→Lqq (ls.getD i L0) (ls'.getD i L0)) (n:Nat):(lotAt ls' n).goods=(lotAt ls n).goods∧(lotAt ls' n).expiry=(lotAt ls n).expiry:=by
 unfold lotAt
 rw [idx_same hl (fun i hi=>(h i hi).id)]
 rcases Nat.lt_or_ge (idx n ls) ls.length with hi | hi
 ·exact ⟨(h _ hi).goods,(h _ hi).expiry⟩
 ·rw [List.getD_eq_getElem?_getD,List.getD_eq_getElem?_getD,List.getElem?_eq_none hi,List.getElem?_eq_none (by omega)]
  exact ⟨rfl,rfl⟩
theorem mnE_q (hl:ls'.length=ls.length) (h:∀ i,i<ls.length→Lqq (ls.getD i L0) (ls'.getD i L0)) (ps:List (Nat × Nat)):mnE ls' ps=mnE ls ps:=by
 unfold mnE
 congr 1
 funext e p
 rw [(lotAt_q hl h p.1).2]
theorem Snd.keep (h:Snd os rcs ls) (hl:ls'.length=ls.length) (hq:∀ i,i<ls.length→Lqq (ls.getD i L0) (ls'.getD i L0)∧(ls'.getD i L0).given=(ls.getD i L0).given∧(ls'.getD i L0).free+(ls'.getD i L0).held+(ls'.getD i L0).shipped+(ls'.getD i L0).scrapped=(ls.getD i L0).free+(ls.getD i L0).held+(ls.getD i L0).shipped+(ls.getD i L0).scrapped):Snd os rcs ls' := {
 one:=fun i hi=>by
  rw [hl] at hi
  have a:=h.one i hi
  obtain ⟨q,g,s⟩:=hq i hi
  exact ⟨by rw [q.id];exact a.id,by rw [q.goods];exact a.goods,by rw [q.got];exact a.got,by rw [q.got,a.sum,g];omega,by rw [q.par];exact a.keys,by rw [q.par];exact a.small,by rw [q.par,q.got];exact a.par⟩
 fam:=fun i hi p hp=>by
  rw [hl] at hi
  rw [(hq i hi).1.par] at hp
  obtain ⟨j,h1,h2,h3⟩:=h.fam i hi p hp
  exact ⟨j,h1,by rw [(hq j (by omega)).1.id];exact h2,by rw [(hq j (by omega)).1.goods,(hq i hi).1.goods];exact h3⟩
 exp:=fun i hi hp=>by
  rw [hl] at hi
  rw [(hq i hi).1.par] at hp ⊢
  rw [(hq i hi).1.expiry,mnE_q hl (fun i hi=>(hq i hi).1)]
  exact h.exp i hi hp
 giv:=fun i hi=>by
  rw [hl] at hi
  rw [(hq i hi).2.1,(hq i hi).1.id,h.giv i hi]
  unfold gvS
  rw [ls_ext hl (fun l=>gv1 l (ls.getD i L0).id) (fun j hj=>by unfold gv1;rw [(hq j hj).1.par])]
 ord:=fun o ho=>by
  obtain ⟨h1,h2,h3⟩:=h.ord o ho
  exact ⟨h1,h2,fun p hp=>⟨(h3 p hp).1,by rw [(lotAt_q hl (fun i hi=>(hq i hi).1) p.1).1];exact (h3 p hp).2⟩⟩
 rcl:=fun p hp=>by
  obtain ⟨h1,h2,h3⟩:=h.rcl p hp
  exact ⟨h1,h2,by rw [hl,idx_same hl (fun i hi=>(hq i hi).1.id)];exact h3⟩ }
theorem lotAt_app {x:L} {n:Nat} (h:idx n ls<ls.length):idx n (ls++[x])=idx n ls∧lotAt (ls++[x]) n=lotAt ls n:=by
 have e:idx n (ls++[x])=idx n ls:=by
  unfold idx at h ⊢
  rw [List.findIdx_append,if_pos h]
 refine ⟨e,?_⟩
 unfold lotAt
 rw [e,List.getD_eq_getElem?_getD,List.getD_eq_getElem?_getD,List.getElem?_append_left h]
theorem idxOf (hids:∀ i j,i<ls.length→j<ls.length→(ls.getD i L0).id=(ls.getD j L0).id→i=j) {j:Nat} (hj:j<ls.length):idx (ls.getD j L0).id ls=j:=idx_hit hj (fun k hk e=>by have:=hids k j (by omega) hj e;omega) rfl
theorem gv1_zero {l:L} {n:Nat} (h:∀ p ∈ l.par,p.1≠n):gv1 l n=0:=by
 unfold gv1
 have:l.par.map (fun p=>if p.1=n then p.2 else 0)=l.par.map (fun _=>0):=List.map_congr_left (fun p hp=>by rw [if_neg (h p hp)])
 rw [this]
 generalize l.par=ps
 induction ps with
 | nil=>rfl
 | cons p ps ih=>rw [List.map_cons,List.sum_cons,ih]
theorem gvS_zero {n:Nat}:∀ {l:List L},(∀ x ∈ l,gv1 x n=0)→gvS l n=0
 | [],_=>rfl
 | x :: l,h=>by
  unfold gvS
  rw [List.map_cons,List.sum_cons,h x (by simp)]
  have:=gvS_zero (n:=n) (l:=l) (fun y hy=>h y (by simp [hy]))
  unfold gvS at this
  rw [this]
theorem gvS_app (l:List L) (x:L) (n:Nat):gvS (l++[x]) n=gvS l n+gv1 x n:=by simp [gvS]
theorem Snd.app (h:Snd os rcs ls) (hids:∀ i j,i<ls.length→j<ls.length→(ls.getD i L0).id=(ls.getD j L0).id→i=j) (hmem:∀ o ∈ os,∀ p ∈ o.lines,idx p.1 ls<ls.length) {x:L} (hl:ls'.length=ls.length)
  (hq:∀ i,i<ls.length→Lqq (ls.getD i L0) (ls'.getD i L0)∧(ls'.getD i L0).given=(ls.getD i L0).given+gv1 x (ls.getD i L0).id∧(ls'.getD i L0).got=(ls'.getD i L0).free+(ls'.getD i L0).held+(ls'.getD i L0).shipped+(ls'.getD i L0).scrapped+(ls'.getD i L0).given)
  (hx:So1 x) (hx0:x.given=0) (hnew:¬ idx x.id ls<ls.length) (hfam:∀ p ∈ x.par,idx p.1 ls<ls.length∧(lotAt ls p.1).goods=x.goods) (hexp:x.par≠[]→x.expiry=mnE ls x.par):Snd os rcs (ls'++[x]):=by
 have hold:∀ i,i<ls.length→(ls'++[x]).getD i L0=ls'.getD i L0:=fun i hi=>by rw [List.getD_eq_getElem?_getD,List.getD_eq_getElem?_getD,List.getElem?_append_left (by omega)]
 have hnx:(ls'++[x]).getD ls.length L0=x:=by simp [List.getD_eq_getElem?_getD,← hl]
 have hlen:(ls'++[x]).length=ls.length+1:=by simp [hl]
 have hq1:=fun i hi=>(hq i hi).1
 have hla:∀ n,idx n ls<ls.length→idx n (ls'++[x])=idx n ls∧(lotAt (ls'++[x]) n).goods=(lotAt ls n).goods∧(lotAt (ls'++[x]) n).expiry=(lotAt ls n).expiry:=fun n hn=>by
  have e:=idx_same hl (fun i hi=>(hq1 i hi).id) n
  obtain ⟨a,b⟩:=lotAt_app (ls:=ls') (x:=x) (n:=n) (by rw [e,hl];exact hn)
  have c:=lotAt_q hl hq1 n
  exact ⟨by rw [a,e],by rw [b,c.1],by rw [b,c.2]⟩
 have hpi:∀ i,i<ls.length→∀ p ∈ (ls.getD i L0).par,idx p.1 ls<ls.length:=fun i hi p hp=>by
  obtain ⟨j,h1,h2,_⟩:=h.fam i hi p hp
  rw [← h2,idxOf hids (by omega)];omega
 have hmn:∀ ps:List (Nat × Nat),(∀ p ∈ ps,idx p.1 ls<ls.length)→mnE (ls'++[x]) ps=mnE ls ps:=fun ps=>by
  unfold mnE
  generalize 2147483647=e
  induction ps generalizing e with
  | nil=>intro _;rfl
  | cons p ps ih =>
   intro hp
   rw [List.foldl_cons,List.foldl_cons,(hla p.1 (hp p (by simp))).2.2]
   exact ih _ (fun q hq=>hp q (by simp [hq]))
 refine ⟨fun i hi=>?_,fun i hi p hp=>?_,fun i hi hp=>?_,fun i hi=>?_,fun o ho=>?_,fun p hp=>?_⟩
 ·rw [hlen] at hi
  by_cases e:i=ls.length
  ·subst e;rw [hnx];exact hx
  ·have hi':i<ls.length:=by omega
   rw [hold i hi']
   obtain ⟨q,g,s⟩:=hq i hi'
   have a:=h.one i hi'
   exact ⟨by rw [q.id];exact a.id,by rw [q.goods];exact a.goods,by rw [q.got];exact a.got,s,by rw [q.par];exact a.keys,by rw [q.par];exact a.small,by rw [q.par,q.got];exact a.par⟩
 ·rw [hlen] at hi
  by_cases e:i=ls.length
  ·subst e
   rw [hnx] at hp ⊢
   obtain ⟨h1,h2⟩:=hfam p hp
   refine ⟨idx p.1 ls,h1,?_,?_⟩
   ·rw [hold _ h1,(hq1 _ h1).id];exact idx_id h1
   ·rw [hold _ h1,(hq1 _ h1).goods];exact h2
  ·have hi':i<ls.length:=by omega
   rw [hold i hi',(hq1 i hi').par] at hp
   obtain ⟨j,h1,h2,h3⟩:=h.fam i hi' p hp
   exact ⟨j,h1,by rw [hold j (by omega),(hq1 j (by omega)).id];exact h2,by rw [hold j (by omega),hold i hi',(hq1 j (by omega)).goods,(hq1 i hi').goods];exact h3⟩
 ·rw [hlen] at hi
  by_cases e:i=ls.length
  ·subst e
   rw [hnx] at hp ⊢
   rw [hmn _ (fun p hp=>(hfam p hp).1)];exact hexp hp
  ·have hi':i<ls.length:=by omega
   rw [hold i hi',(hq1 i hi').par] at hp ⊢
   rw [(hq1 i hi').expiry,hmn _ (hpi i hi')];exact h.exp i hi' hp
 ·have hgs:∀ n,gvS (ls'++[x]) n=gvS ls n+gv1 x n:=fun n=>by
   rw [gvS_app]
   unfold gvS
   rw [ls_ext hl (fun l=>gv1 l n) (fun j hj=>by unfold gv1;rw [(hq1 j hj).par])]
  rw [hgs]
  rw [hlen] at hi
  by_cases e:i=ls.length
  ·subst e
   rw [hnx,hx0,gv1_zero (fun p hp e=>hnew (by rw [← e];exact (hfam p hp).1)),gvS_zero (fun l hl=>gv1_zero (fun p hp e=>?_))]
   obtain ⟨j,hj,rfl⟩:=List.getElem_of_mem hl
   have:=hpi j hj p (by simpa [List.getD_eq_getElem?_getD,hj] using hp)
   rw [e] at this
   exact hnew this
  ·have hi':i<ls.length:=by omega
   rw [hold i hi',(hq i hi').2.1,(hq1 i hi').id,h.giv i hi']
 ·obtain ⟨h1,h2,h3⟩:=h.ord o ho
  exact ⟨h1,h2,fun p hp=>⟨(h3 p hp).1,by rw [(hla p.1 (hmem o ho p hp)).2.1];exact (h3 p hp).2⟩⟩
 ·obtain ⟨h1,h2,h3⟩:=h.rcl p hp
  exact ⟨h1,h2,by rw [hlen,(hla p.1 h3).1];omega⟩
end
theorem gv1_nil {l:L} (h:l.par=[]) (n:Nat):gv1 l n=0:=by unfold gv1;rw [h];rfl
theorem good_idx {os:List O} {ls:List L} (h:Good os ls):∀ o ∈ os,∀ p ∈ o.lines,idx p.1 ls<ls.length:=fun o ho p hp=>by
 obtain ⟨i,hi,e⟩:=h.mem o ho p hp
 rw [← e,idxOf h.ids hi];exact hi
theorem room_new {ls:List L} {n:Nat} (h:roomC ls n=0):¬ idx n ls<ls.length:=fun hi=>by unfold roomC at h;rw [if_pos hi] at h;cases h
section
variable {os:List O} {rcs:List (Nat × Nat)} {ls:List L}
theorem Snd.receive (h:Snd os rcs ls) (hgo:Good os ls) {a b c d:Nat} (ha:1≤a) (hb:1≤b) (hc:1≤c):Snd os rcs (if roomC ls a=0 then ls++[newL ls a b c d] else ls):=by
 split
 ·rename_i hr
  exact h.app hgo.ids (good_idx hgo) rfl (fun i hi=>⟨Lqq.refl _,by rw [gv1_nil rfl];omega,(h.one i hi).sum⟩) ⟨ha,hb,hc,by show c=c+0+0+0+0;omega,by simp [newL],by simp [newL],Or.inl rfl⟩ rfl (room_new hr) (fun p hp=>by simp [newL] at hp) (fun hp=>absurd rfl hp)
 ·exact h
theorem splitC_zero {n m c:Nat} (h:splitC ls n m c=0):idx n ls<ls.length∧roomC ls m=0∧c≤(ls.getD (idx n ls) L0).free:=by
 unfold splitC at h
 split at h
 ·rename_i h1
  split at h
  ·rename_i h2
   split at h
   ·cases h
   ·exact ⟨h1,h2,by omega⟩
  ·rename_i h2;exact absurd h h2
 ·cases h
theorem gaveL_q (l:L) (n:Nat):Lqq l (gaveL l n):=⟨rfl,rfl,rfl,rfl,rfl⟩
theorem Snd.split (h:Snd os rcs ls) (hgo:Good os ls) (hok:∀ l ∈ ls,L.Ok l) {n m c:Nat} (hm:1≤m) (hc:1≤c) (hcm:c≤2147483647):Snd os rcs (splitS ls n m c):=by
 unfold splitS
 split
 ·rename_i h0
  obtain ⟨h1,h2,h3⟩:=splitC_zero h0
  have hid:=idx_id h1
  have he:=(hok _ (mem_getD h1)).expiry
  refine h.app hgo.ids (good_idx hgo) (List.length_set ..) (fun i hi=>?_) ⟨hm,(h.one _ h1).goods,hc,by show c=c+0+0+0+0;omega,by simp [mkL],by intro p hp;simp only [mkL,List.mem_singleton] at hp;subst hp;exact hcm,Or.inr (by simp [mkL])⟩ rfl (room_new h2) (fun p hp=>?_) (fun _=>?_)
  ·have hs:=(h.one i hi).sum
   by_cases e:i=idx n ls
   ·subst e
    rw [gset_eq hi]
    refine ⟨gaveL_q _ _,by simp [gaveL,gv1,mkL],?_⟩
    show (ls.getD (idx n ls) L0).got=(ls.getD (idx n ls) L0).free - c+(ls.getD (idx n ls) L0).held+(ls.getD (idx n ls) L0).shipped+(ls.getD (idx n ls) L0).scrapped+((ls.getD (idx n ls) L0).given+c)
    omega
   ·rw [gset_ne e]
    refine ⟨Lqq.refl _,?_,hs⟩
    have hne:¬ (ls.getD (idx n ls) L0).id=(ls.getD i L0).id:=fun q=>e (hgo.ids i _ hi h1 q.symm)
    have hz:∀ (g m:Nat),gv1 (mkL ls m (ls.getD (idx n ls) L0).goods (ls.getD (idx n ls) L0).expiry c [((ls.getD (idx n ls) L0).id,g)]) (ls.getD i L0).id=0:=fun g m=>gv1_zero (fun p hp=>by simp only [mkL,List.mem_singleton] at hp;subst hp;exact hne)
    rw [hz];rfl
  ·simp only [mkL,List.mem_singleton] at hp
   subst hp
   have e:idx (ls.getD (idx n ls) L0).id ls=idx n ls:=idxOf hgo.ids h1
   exact ⟨by show idx (ls.getD (idx n ls) L0).id ls<_;rw [e];exact h1,by show (lotAt ls (ls.getD (idx n ls) L0).id).goods=(ls.getD (idx n ls) L0).goods;unfold lotAt;rw [e]⟩
  ·show (ls.getD (idx n ls) L0).expiry=min 2147483647 (lotAt ls (ls.getD (idx n ls) L0).id).expiry
   unfold lotAt
   rw [idxOf hgo.ids h1];omega
 ·exact h
theorem mergeC_none {a b m:Nat} (h:mergeC ls a b m=0):idx a ls<ls.length∧idx b ls<ls.length∧idx a ls≠idx b ls∧(lotAt ls a).goods=(lotAt ls b).goods∧roomC ls m=0∧(lotAt ls a).free+(lotAt ls b).free≠0:=by
 unfold mergeC at h
 split at h
 ·rename_i hi
  split at h
  ·cases h
  ·rename_i h1
   split at h
   ·rename_i h2
    split at h
    ·cases h
    ·rename_i h3
     exact ⟨hi.1,hi.2,fun e=>h1 (Or.inl e),Decidable.byContradiction (fun e=>h1 (Or.inr e)),h2,h3⟩
   ·rename_i h2;exact absurd h h2
 ·cases h
theorem Snd.merge (h:Snd os rcs ls) (hgo:Good os ls) (hok:∀ l ∈ ls,L.Ok l) {a b m:Nat} (hm:1≤m):Snd os rcs (mergeS ls a b m):=by
 unfold mergeS
 split
 ·rename_i h0
  obtain ⟨h1,h2,h3,h4,h5,h6⟩:=mergeC_none h0
  have ea:idx (lotAt ls a).id ls=idx a ls:=idxOf hgo.ids h1
  have eb:idx (lotAt ls b).id ls=idx b ls:=idxOf hgo.ids h2
  have oa:=hok _ (mem_getD h1)
  have ob:=hok _ (mem_getD h2)
  have hne:(lotAt ls a).id≠(lotAt ls b).id:=fun e=>h3 (hgo.ids _ _ h1 h2 e)
  have fa:(lotAt ls a).free≤2147483647:=by have:=oa.sum;unfold lotAt;omega
  have fb:(lotAt ls b).free≤2147483647:=by have:=ob.sum;unfold lotAt;omega
  refine h.app hgo.ids (good_idx hgo) (by rw [List.length_set,List.length_set]) (fun i hi=>?_) ⟨hm,(h.one _ h1).goods,by show 1≤(lotAt ls a).free+(lotAt ls b).free;omega,by show (lotAt ls a).free+(lotAt ls b).free=(lotAt ls a).free+(lotAt ls b).free+0+0+0+0;omega,by simp [mkL,hne],by
   intro p hp
   simp only [mkL,List.mem_cons,List.not_mem_nil,or_false] at hp
   rcases hp with rfl | rfl
   ·exact fa
   ·exact fb,Or.inr (by simp [mkL])⟩ rfl (room_new h5) (fun p hp=>?_) (fun _=>?_)
  ·have hs:=(h.one i hi).sum
   by_cases e2:i=idx b ls
   ·subst e2
    rw [gset_eq (by rw [List.length_set];exact hi)]
    refine ⟨gaveL_q _ _,?_,?_⟩
    ·show (lotAt ls b).given+(lotAt ls b).free=(lotAt ls b).given+gv1 _ (lotAt ls b).id
     simp [gv1,mkL,hne]
    ·show (lotAt ls b).got=(lotAt ls b).free - (lotAt ls b).free+(lotAt ls b).held+(lotAt ls b).shipped+(lotAt ls b).scrapped+((lotAt ls b).given+(lotAt ls b).free)
     unfold lotAt;omega
   ·rw [gset_ne e2]
    by_cases e1:i=idx a ls
    ·subst e1
     rw [gset_eq hi]
     refine ⟨gaveL_q _ _,?_,?_⟩
     ·show (lotAt ls a).given+(lotAt ls a).free=(lotAt ls a).given+gv1 _ (lotAt ls a).id
      simp [gv1,mkL,Ne.symm hne]
     ·show (lotAt ls a).got=(lotAt ls a).free - (lotAt ls a).free+(lotAt ls a).held+(lotAt ls a).shipped+(lotAt ls a).scrapped+((lotAt ls a).given+(lotAt ls a).free)
      unfold lotAt;omega
    ·rw [gset_ne e1]
     refine ⟨Lqq.refl _,?_,hs⟩
     have n1:¬ (lotAt ls a).id=(ls.getD i L0).id:=fun q=>e1 (hgo.ids i _ hi h1 q.symm)
     have n2:¬ (lotAt ls b).id=(ls.getD i L0).id:=fun q=>e2 (hgo.ids i _ hi h2 q.symm)
     have hz:∀ (m g e t x y:Nat),gv1 (mkL ls m g e t [((lotAt ls a).id,x),((lotAt ls b).id,y)]) (ls.getD i L0).id=0:=fun m g e t x y=>gv1_zero (fun p hp=>by
      simp only [mkL,List.mem_cons,List.not_mem_nil,or_false] at hp
      rcases hp with rfl | rfl
      ·exact n1
      ·exact n2)
     rw [hz];rfl
  ·simp only [mkL,List.mem_cons,List.not_mem_nil,or_false] at hp
   rcases hp with rfl | rfl
   ·exact ⟨by show idx (lotAt ls a).id ls<_;rw [ea];exact h1,by show (lotAt ls (lotAt ls a).id).goods=(lotAt ls a).goods;rw [show lotAt ls (lotAt ls a).id=ls.getD (idx (lotAt ls a).id ls) L0 from rfl,ea];rfl⟩
   ·exact ⟨by show idx (lotAt ls b).id ls<_;rw [eb];exact h2,by show (lotAt ls (lotAt ls b).id).goods=(lotAt ls a).goods;rw [show lotAt ls (lotAt ls b).id=ls.getD (idx (lotAt ls b).id ls) L0 from rfl,eb,h4];rfl⟩
  ·show min (lotAt ls a).expiry (lotAt ls b).expiry=min (min 2147483647 (lotAt ls (lotAt ls a).id).expiry) (lotAt ls (lotAt ls b).id).expiry
   rw [show lotAt ls (lotAt ls a).id=lotAt ls a by unfold lotAt at ea ⊢;rw [ea],show lotAt ls (lotAt ls b).id=lotAt ls b by unfold lotAt at eb ⊢;rw [eb]]
   have:(lotAt ls a).expiry≤2147483647:=oa.expiry
   omega
 ·exact h
theorem Snd.scrap (h:Snd os rcs ls) (a c:Nat):Snd os rcs (scrapS ls a c):=by
 unfold scrapS
 split
 ·rename_i h0
  unfold scrapC at h0
  split at h0
  ·rename_i hi
   split at h0
   ·cases h0
   ·refine h.keep (List.length_set ..) (fun i hil=>?_)
    by_cases hij:i=idx a ls
    ·subst hij;rw [gset_eq hi]
     refine ⟨⟨rfl,rfl,rfl,rfl,rfl⟩,rfl,?_⟩
     show (ls.getD (idx a ls) L0).free - c+(ls.getD (idx a ls) L0).held+(ls.getD (idx a ls) L0).shipped+((ls.getD (idx a ls) L0).scrapped+c)=_
     omega
    ·rw [gset_ne hij];exact ⟨Lqq.refl _,rfl,rfl⟩
  ·cases h0
 ·exact h
theorem giveQ_ps (ls:List L):∀ (q:List Nat) (want:Nat),(∀ i ∈ q,0<(ls.getD i L0).free)→∀ p ∈ giveQ ls q want,1≤p.2
 | [],want,_=>by simp [giveQ]
 | c :: r,want,hq=>by
  unfold giveQ
  by_cases h:want=0
  ·simp [h]
  ·simp only [if_neg h,List.mem_cons]
   rintro p (rfl | hp)
   ·have:=hq c (by simp)
    show 1≤min _ _
    omega
   ·exact giveQ_ps ls r _ (fun i hi=>hq i (by simp [hi])) p hp
theorem Snd.ask (h:Snd os rcs ls) (hgo:Good os ls) (hl:ls.length≤30) {td id goods count gate way:Nat} (hg:1≤goods):Snd (askO rcs os td ls id goods count gate way) rcs (askL rcs os td ls id goods count gate way):=by
 unfold askO askL
 split
 ·rename_i h0
  obtain ⟨f1,f2,f3,f4,f5⟩:=linesQ_facts (rcs:=rcs) td goods count gate way ls hl
  obtain ⟨_,_,hs⟩:=askC_zero h0
  have hq:∀ i,i<ls.length→Lqq (ls.getD i L0) ((holdS ls (linesQ rcs td goods count gate way ls)).getD i L0)∧((holdS ls (linesQ rcs td goods count gate way ls)).getD i L0).given=(ls.getD i L0).given∧((holdS ls (linesQ rcs td goods count gate way ls)).getD i L0).free+((holdS ls (linesQ rcs td goods count gate way ls)).getD i L0).held+((holdS ls (linesQ rcs td goods count gate way ls)).getD i L0).shipped+((holdS ls (linesQ rcs td goods count gate way ls)).getD i L0).scrapped=(ls.getD i L0).free+(ls.getD i L0).held+(ls.getD i L0).shipped+(ls.getD i L0).scrapped:=fun i hi=>by
   by_cases hm:i ∈ (linesQ rcs td goods count gate way ls).map Prod.fst
   ·obtain ⟨p,hp,he⟩:=List.mem_map.1 hm
    obtain ⟨j,n⟩:=p
    simp only at he;subst he
    rw [holdS_in _ ls f2 hp hi]
    have:=f4 _ hp
    simp only at this
    refine ⟨⟨rfl,rfl,rfl,rfl,rfl⟩,rfl,?_⟩
    show (ls.getD j L0).free - n+((ls.getD j L0).held+n)+(ls.getD j L0).shipped+(ls.getD j L0).scrapped=_
    omega
   ·rw [holdS_out _ ls hm];exact ⟨Lqq.refl _,rfl,rfl⟩
  have hk:=h.keep (holdS_len _ ls) hq
  refine ⟨hk.one,hk.fam,hk.exp,hk.giv,fun o ho=>?_,hk.rcl⟩
  rcases List.mem_append.1 ho with ho | ho
  ·exact hk.ord o ho
  ·simp only [List.mem_singleton] at ho
   subst ho
   refine ⟨hg,fun e=>hs (Or.inl ?_),fun p hp=>?_⟩
   ·have:linesQ rcs td goods count gate way ls=[]:=by simpa [linesId] using e
    rw [this];rfl
   ·obtain ⟨q,hq',rfl⟩:=List.mem_map.1 hp
    have hsub:=(giveQ_sub ls (queue rcs (wayF way) td goods gate ls) count).mem (List.mem_map_of_mem hq')
    obtain ⟨i1,i2⟩:=queue_mem.1 hsub
    have i3:=i2
    unfold srv at i2
    simp only [Bool.and_eq_true,beq_iff_eq,decide_eq_true_eq] at i2
    refine ⟨giveQ_ps ls _ count (fun i hi=>?_) q hq',?_⟩
    ·have:=(queue_mem.1 hi).2
     unfold srv at this
     simp only [Bool.and_eq_true,beq_iff_eq,decide_eq_true_eq] at this
     exact this.1.2
    ·show (lotAt (holdS ls _) (ls.getD q.1 L0).id).goods=goods
     rw [(lotAt_q (holdS_len _ ls) (fun i hi=>(hq i hi).1) _).1]
     unfold lotAt
     rw [idxOf hgo.ids i1];exact i2.1.1.1
 ·exact h
theorem Snd.fin (h:Snd os rcs ls) (hgo:Good os ls) (g:L→Nat→L) (hg:∀ l n,Lqq l (g l n)∧(g l n).given=l.given∧(g l n).free+(g l n).held+(g l n).shipped+(g l n).scrapped=l.free+l.held+l.shipped+l.scrapped+n) (a:Nat):Snd (os.filter (fun o=>o.id != a)) rcs (ls.map (finL g os a)):=by
 have hk:Snd os rcs (ls.map (finL g os a)):=h.keep (List.length_map ..) (fun i hi=>by
  have e:(ls.map (finL g os a)).getD i L0=finL g os a (ls.getD i L0):=by simp [List.getD_eq_getElem?_getD,hi]
  rw [e]
  unfold finL
  cases hl:lineOf os a (ls.getD i L0).id with
  | none=>exact ⟨Lqq.refl _,rfl,rfl⟩
  | some n =>
   have hnh:n≤(ls.getD i L0).held:=by rw [hgo.held i hi];exact line_le hl
   obtain ⟨q1,q2,q3⟩:=hg { ls.getD i L0 with held:=(ls.getD i L0).held - n } n
   refine ⟨⟨q1.id,q1.goods,q1.expiry,q1.got,q1.par⟩,q2,?_⟩
   rw [q3]
   show (ls.getD i L0).free+((ls.getD i L0).held - n)+(ls.getD i L0).shipped+(ls.getD i L0).scrapped+n=_
   omega)
 exact ⟨hk.one,hk.fam,hk.exp,hk.giv,fun o ho=>hk.ord o (List.mem_filter.1 ho).1,hk.rcl⟩
theorem Snd.recall (h:Snd os rcs ls) {a m:Nat} (ha:1≤a) (hm:1≤m):Snd os (recallS rcs ls a m) ls:=by
 unfold recallS
 split
 ·rename_i h0
  obtain ⟨h1,_⟩:=recallC_zero h0
  refine ⟨h.one,h.fam,h.exp,h.giv,h.ord,fun p hp=>?_⟩
  rcases List.mem_append.1 hp with hp | hp
  ·exact h.rcl p hp
  ·simp only [List.mem_singleton] at hp;subst hp;exact ⟨ha,hm,h1⟩
 ·exact h
theorem Snd.release (h:Snd os rcs ls) (a m:Nat):Snd os (releaseS rcs a m) ls:=by
 unfold releaseS
 split
 ·exact ⟨h.one,h.fam,h.exp,h.giv,h.ord,fun p hp=>h.rcl p (List.mem_of_mem_erase hp)⟩
 ·exact h
theorem Snd.stepS (h:Snd os rcs ls) (hgo:Good os ls) {td:Nat} {c:Pl.Cmd} (hm:∀ n ns,c=.ok (n,ns)→Pl.mays (Pl.kindsL n) ns=true):Snd os rcs (stepS rcs td ls c).2.2:=by
 unfold Go.Proofs.YtgcedalggnmooabGreatDoor.stepS
 split
 ·exact h
 ·split <;> exact h
 ·rename_i a b c d
  have:=hm _ _ rfl
  simp [Pl.mays,Pl.kindsL,Pl.mayB] at this
  exact h.receive hgo (by omega) (by omega) (by omega)
 ·split <;> exact h
 ·exact h
 ·exact h
theorem Snd.stepT (h:Snd os rcs ls) (hgo:Good os ls) (hok:∀ l ∈ ls,L.Ok l) {td:Nat} {c:Pl.Cmd} (hm:∀ n ns,c=.ok (n,ns)→Pl.mays (Pl.kindsL n) ns=true):Snd os rcs (stepT rcs td ls c).2.2:=by
 unfold Go.Proofs.YtgcedalggnmooabGreatDoor.stepT
 split
 ·rename_i a b c
  have:=hm _ _ rfl
  simp [Pl.mays,Pl.kindsL,Pl.mayB] at this
  exact h.split hgo hok (by omega) (by omega) (by omega)
 ·rename_i a b c
  have:=hm _ _ rfl
  simp [Pl.mays,Pl.kindsL,Pl.mayB] at this
  exact h.merge hgo hok (by omega)
 ·exact h.scrap _ _
 ·exact h.stepS hgo hm
theorem Snd.stepO (h:Snd os rcs ls) (hgo:Good os ls) (hok:∀ l ∈ ls,L.Ok l) (hl:ls.length≤30) {td:Nat} {c:Pl.Cmd} (hm:∀ n ns,c=.ok (n,ns)→Pl.mays (Pl.kindsL n) ns=true):Snd (stepO rcs td os ls c).2.2.1 rcs (stepO rcs td os ls c).2.2.2:=by
 unfold Go.Proofs.YtgcedalggnmooabGreatDoor.stepO
 split
 ·rename_i a b c d f
  have:=hm _ _ rfl
  simp [Pl.mays,Pl.kindsL,Pl.mayB] at this
  exact h.ask hgo hl (by omega)
 ·exact h.fin hgo freeL (fun l n=>⟨⟨rfl,rfl,rfl,rfl,rfl⟩,rfl,by show l.free+n+l.held+l.shipped+l.scrapped=_;omega⟩) _
 ·exact h.fin hgo shipL (fun l n=>⟨⟨rfl,rfl,rfl,rfl,rfl⟩,rfl,by show l.free+l.held+(l.shipped+n)+l.scrapped=_;omega⟩) _
 ·exact h.stepT hgo hok hm
theorem snd_stepR (h:Snd os rcs ls) (hgo:Good os ls) (hok:∀ l ∈ ls,L.Ok l) (hl:ls.length≤30) (td:Nat) (l:List UInt8):Snd (stepR rcs td os ls (Pl.cmd l)).2.2.1 (stepR rcs td os ls (Pl.cmd l)).2.2.2.1 (stepR rcs td os ls (Pl.cmd l)).2.2.2.2:=by
 have hm:=cmd_mays l
 generalize Pl.cmd l=c at hm
 unfold stepR
 split
 ·rename_i a m
  have:=hm _ _ rfl
  simp [Pl.mays,Pl.kindsL,Pl.mayB] at this
  exact h.recall (by omega) (by omega)
 ·exact h.release _ _
 ·exact h.stepO hgo hok hl hm
end
end Go.Proofs.YtgcedalggnmooabGreatDoor
namespace Go.Proofs.YtgcedalggnmooabGreatDoor
theorem rd1_told {n:Nat} (h:n≤2147483647) (ns:List Nat):rd1 (Pl.toldB (n :: ns))=some (n,Pl.toldB ns):=by
 have e:Pl.toldB (n :: ns)=Pl.num n++Pl.toldB ns:=by simp [Pl.toldB]
 obtain ⟨h1,h2⟩:=Pl.read_num n (by omega) (Pl.toldB ns)
 have h3:=Pl.num_len_pos n
 unfold rd1
 rw [e,h1,h2,if_neg (by omega)]
 simp
theorem rdB_told {lo hi n:Nat} (h1:lo≤n) (h2:n≤hi) (h3:n≤2147483647) (ns:List Nat):rdB lo hi (Pl.toldB (n :: ns))=some (n,Pl.toldB ns):=by
 unfold rdB
 rw [rd1_told h3,Option.bind_some,if_pos ⟨h1,h2⟩]
def Ris (l:List (Nat × Nat)):Prop:=(l.map Prod.fst).Pairwise (·<·)
theorem Ris.cons {p:Nat × Nat} {l:List (Nat × Nat)} (h:Ris (p :: l)):(∀ q ∈ l,p.1<q.1)∧Ris l:=by
 unfold Ris at h
 rw [List.map_cons,List.pairwise_cons] at h
 exact ⟨fun q hq=>h.1 _ (List.mem_map_of_mem hq),h.2⟩
theorem ris_dpar {l:List (Nat × Nat)} (h:l.length≤2) (hk:(l.map Prod.fst).Nodup):Ris (dpar l):=by
 match l,h with
 | [],_=>simp [Ris,dpar]
 | [a],_=>simp [Ris,dpar]
 | [a,b],_ =>
  have hne:¬ a.1=b.1:=by simpa using hk
  simp only [Ris,dpar]
  by_cases hb:b.1<a.1
  ·simp [hb]
  ·simp [hb];omega
theorem ris_prtS {l:List (Nat × Nat)} (hk:(l.map Prod.fst).Nodup):Ris (prtS l):=by
 obtain ⟨q1,q2⟩:=prtS_facts (nodup_keys hk)
 unfold Ris
 rw [List.pairwise_map]
 refine q1.imp_of_mem (fun {a b} ha hb h=>?_)
 rw [q2] at ha hb
 simp only [prtB,Bool.or_eq_true,Bool.and_eq_true,decide_eq_true_eq] at h
 rcases h with h | h
 ·exact h
 ·exfalso
  have h1:=lookup_of_mem hk (b:=a.1) (n:=a.2) ha
  have h2:=lookup_of_mem hk (b:=b.1) (n:=b.2) hb
  rw [h.1,h2] at h1
  injection h1 with h1
  omega
theorem rdPar_told (ns:List Nat):∀ (ps:List (Nat × Nat)) (p:Nat) (acc:List (Nat × Nat)),Ris ps→(∀ q ∈ ps,p<q.1∧q.1≤2147483647∧q.2≤2147483647)→rdPar ps.length p acc (Pl.toldB (ps.flatMap (fun p=>[p.1,p.2])++ns))=some (acc++ps,Pl.toldB ns)
 | [],p,acc,_,_=>by simp [rdPar]
 | q :: ps,p,acc,hr,hq=>by
  obtain ⟨h1,h2,h3⟩:=hq q (by simp)
  rw [List.length_cons,rdPar,List.flatMap_cons]
  show ((rdB (p+1) 2147483647 (Pl.toldB (q.1 :: (q.2 :: (ps.flatMap (fun p=>[p.1,p.2])++ns))))).bind _)=_
  rw [rdB_told (by omega) h2 h2,Option.bind_some]
  show ((rdB 0 2147483647 (Pl.toldB (q.2 :: (ps.flatMap (fun p=>[p.1,p.2])++ns)))).bind _)=_
  rw [rdB_told (Nat.zero_le _) h3 h3,Option.bind_some]
  show rdPar ps.length q.1 (acc++[(q.1,q.2)]) (Pl.toldB (ps.flatMap (fun p=>[p.1,p.2])++ns))=_
  rw [rdPar_told ns ps q.1 _ hr.cons.2 (fun r hrm=>⟨hr.cons.1 r hrm,(hq r (by simp [hrm])).2⟩)]
  simp
theorem rdPars_told {ps:List (Nat × Nat)} (hl:ps.length≤2) (hr:Ris ps) (hq:∀ q ∈ ps,1≤q.1∧q.1≤2147483647∧q.2≤2147483647) (ns:List Nat):rdPars (Pl.toldB (flP ps++ns))=some (ps,Pl.toldB ns):=by
 unfold rdPars flP
 rw [List.cons_append,rdB_told (Nat.zero_le _) hl (by omega),Option.bind_some]
 show rdPar ps.length 0 [] (Pl.toldB _)=_
 rw [rdPar_told ns ps 0 [] hr (fun q h=>by have:=hq q h;omega)]
 simp
def kap (l:L):L:={ l with par:=dpar l.par }
def zap (l:L):L:={ kap l with given:=0 }
theorem dpar_sum (l:List (Nat × Nat)):((dpar l).map Prod.snd).sum=(l.map Prod.snd).sum:=by
 unfold dpar;split
 ·split
  ·simp;omega
  ·rfl
 ·rfl
theorem rdLot_told {l:L} (hs:So1 l) (hok:L.Ok l) {com:Nat} (hp1:1≤l.place) (hp2:l.place≤com) (hpar:∀ p ∈ l.par,1≤p.1) (ns:List Nat) :
  rdLot l.id com (Pl.toldB ((lotN l).tail++ns))=some (zap l,Pl.toldB ns):=by
 have h5:=hok.sum
 have h4:=hok.place
 have hgot:=hs.got
 have hgot2:=hok.got
 have hlen:=hok.par.1
 have e:(lotN l).tail++ns=l.goods :: l.expiry :: l.place :: l.free :: l.held :: l.shipped :: l.scrapped :: (flP (dpar l.par)++((if (dpar l.par).length=0 then [l.got] else [])++ns)):=by
  unfold lotN;simp
 rw [e]
 unfold rdLot
 rw [rdB_told hs.goods hok.goods hok.goods,Option.bind_some,rdB_told (Nat.zero_le _) hok.expiry hok.expiry,Option.bind_some,rdB_told hp1 hp2 (by omega),Option.bind_some,rdB_told (Nat.zero_le _) (by omega) (by omega),Option.bind_some,rdB_told (Nat.zero_le _) (by omega) (by omega),Option.bind_some,rdB_told (Nat.zero_le _) (by omega) (by omega),Option.bind_some,rdB_told (Nat.zero_le _) (by omega) (by omega),Option.bind_some]
 rw [rdPars_told (by rw [dpar_len];exact hlen) (ris_dpar hlen hs.keys) (fun q hq=>by
  rw [dpar_mem] at hq
  exact ⟨hpar q hq,hok.par.2 q hq,hs.small q hq⟩),Option.bind_some]
 dsimp only
 by_cases h0:(dpar l.par).length=0
 ·rw [if_pos h0,if_pos h0,List.singleton_append,rd1_told hgot2,Option.bind_some,if_pos ⟨hgot,hgot2⟩]
  rfl
 ·rw [if_neg h0,if_neg h0,Option.bind_some]
  have hsum:((dpar l.par).map Prod.snd).sum=l.got:=by
   rw [dpar_sum]
   rcases hs.par with h | h
   ·rw [dpar_len,h] at h0;simp at h0
   ·exact h.symm
  rw [hsum,if_pos ⟨hgot,hgot2⟩]
  rfl
def fil (f:Nat→Option L) (is:List Nat) (sl:List (Option L)):List (Option L):=is.foldl (fun sl i=>sl.set i (f i)) sl
theorem fil_len (f:Nat→Option L):∀ (is:List Nat) (sl:List (Option L)),(fil f is sl).length=sl.length
 | [],sl=>rfl
 | i :: is,sl=>by
  show (fil f is (sl.set i (f i))).length=_
  rw [fil_len f is,List.length_set]
theorem fil_get (f:Nat→Option L) {j:Nat}:∀ (is:List Nat) (sl:List (Option L)),j<sl.length→(fil f is sl)[j]?=if j ∈ is then some (f j) else sl[j]?
 | [],sl,_=>by simp [fil]
 | i :: is,sl,hj=>by
  show (fil f is (sl.set i (f i)))[j]?=_
  rw [fil_get f is _ (by rw [List.length_set];exact hj)]
  by_cases h1:j ∈ is
  ·rw [if_pos h1,if_pos (by simp [h1])]
  ·rw [if_neg h1]
   by_cases h2:j=i
   ·subst h2;rw [if_pos (by simp)];simp [hj]
   ·rw [if_neg (by simp [h1,h2])];simp [Ne.symm h2]
theorem fil_all {ls:List L} {is:List Nat} (h:∀ i,i<ls.length→i ∈ is):fil (fun i=>some (zap (ls.getD i L0))) is (List.replicate ls.length none)=ls.map (fun l=>some (zap l)):=by
 apply List.ext_getElem?
 intro j
 by_cases hj:j<ls.length
 ·rw [fil_get _ _ _ (by simpa using hj),if_pos (h j hj)]
  simp [List.getD_eq_getElem?_getD,hj]
 ·rw [List.getElem?_eq_none (by rw [fil_len];simp;omega),List.getElem?_eq_none (by simp;omega)]
section
variable {os:List O} {rcs:List (Nat × Nat)} {ls:List L} {td:Nat}
theorem rdLs_told (hok:∀ l ∈ ls,L.Ok l) (hgo:Good os ls) (hs:Snd os rcs ls) (ns:List Nat):∀ (is:List Nat) (p:Nat) (sl:List (Option L)),(∀ i ∈ is,i<ls.length∧p<(ls.getD i L0).id∧sl[i]?=some none)→is.Pairwise (fun a b=>(ls.getD a L0).id<(ls.getD b L0).id) →
  rdLs ls.length is.length p sl (Pl.toldB (is.flatMap (fun i=>lotN (ls.getD i L0))++ns))=some (fil (fun i=>some (zap (ls.getD i L0))) is sl,Pl.toldB ns)
 | [],p,sl,_,_=>by simp [rdLs,fil]
 | i :: is,p,sl,hi,hr=>by
  obtain ⟨h1,h2,h3⟩:=hi i (by simp)
  have hoki:=hok _ (mem_getD h1)
  have hpl:=hgo.place i h1
  obtain ⟨r1,r2⟩:=List.pairwise_cons.1 hr
  have e:(i :: is).flatMap (fun i=>lotN (ls.getD i L0))++ns=(ls.getD i L0).id :: ((lotN (ls.getD i L0)).tail++(is.flatMap (fun i=>lotN (ls.getD i L0))++ns)):=by
   rw [List.flatMap_cons];unfold lotN;simp
  rw [List.length_cons,rdLs,e,rdB_told (by omega) hoki.id hoki.id,Option.bind_some]
  dsimp only
  rw [rdLot_told (hs.one i h1) hoki (by omega) (by omega) (fun p hp=>by
   obtain ⟨j,k1,k2,_⟩:=hs.fam i h1 p hp
   rw [← k2];exact (hs.one j (by omega)).id),Option.bind_some]
  dsimp only
  have hz:(zap (ls.getD i L0)).place - 1=i:=by show (ls.getD i L0).place - 1=i;omega
  rw [hz,if_pos (by rw [List.getD_eq_getElem?_getD,h3];rfl),rdLs_told hok hgo hs ns is _ _ (fun j hj=>⟨(hi j (by simp [hj])).1,r1 j hj,by
   rw [List.getElem?_set]
   by_cases e:i=j
   ·subst e;have:=r1 i hj;omega
   ·rw [if_neg e];exact (hi j (by simp [hj])).2.2⟩) r2]
  rfl
def wg (ls:List L) (g:L→Nat):List L:=ls.map fun x=>{ kap x with given:=g x }
theorem wg_len (g:L→Nat):(wg ls g).length=ls.length:=by simp [wg]
theorem wg_idx (g:L→Nat) (n:Nat):idx n (wg ls g)=idx n ls:=by
 unfold idx wg
 rw [List.findIdx_map];rfl
theorem wg_get (g:L→Nat) {i:Nat} (hi:i<ls.length):(wg ls g).getD i L0={ kap (ls.getD i L0) with given:=g (ls.getD i L0) }:=by
 simp [wg,List.getD_eq_getElem?_getD,hi]
theorem wg_set (hids:∀ i j,i<ls.length→j<ls.length→(ls.getD i L0).id=(ls.getD j L0).id→i=j) (g:L→Nat) {n m:Nat} (hi:idx n ls<ls.length):(wg ls g).set (idx n ls) (gvL ((wg ls g).getD (idx n ls) L0) m)=wg ls (fun x=>g x+if n=x.id then m else 0):=by
 have hid:=idx_id hi
 apply List.ext_getElem?
 intro j
 by_cases hj:j<ls.length
 ·have e2:(wg ls (fun x=>g x+if n=x.id then m else 0))[j]?=some ((wg ls (fun x=>g x+if n=x.id then m else 0)).getD j L0):=by
   rw [List.getD_eq_getElem?_getD,List.getElem?_eq_getElem (by rw [wg_len];exact hj)];rfl
  have e1:(wg ls g)[j]?=some ((wg ls g).getD j L0):=by
   rw [List.getD_eq_getElem?_getD,List.getElem?_eq_getElem (by rw [wg_len];exact hj)];rfl
  rw [e2,wg_get _ hj,List.getElem?_set]
  by_cases e:idx n ls=j
  ·rw [if_pos e,if_pos (by rw [wg_len];exact hi),wg_get _ hi,e]
   rw [e] at hid
   rw [if_pos hid.symm];rfl
  ·rw [if_neg e,e1,wg_get _ hj]
   have:¬ n=(ls.getD j L0).id:=fun q=>e (hids _ _ hi hj (by rw [hid,q]))
   rw [if_neg this];rfl
 ·rw [List.getElem?_eq_none (by rw [List.length_set,wg_len];omega),List.getElem?_eq_none (by rw [wg_len];omega)]
theorem tfk_wg (hids:∀ i j,i<ls.length→j<ls.length→(ls.getD i L0).id=(ls.getD j L0).id→i=j) (l:L):∀ (ps:List (Nat × Nat)) (e:Nat) (g:L→Nat),(∀ p ∈ ps,idx p.1 ls<ls.length∧(lotAt ls p.1).goods=l.goods∧(lotAt ls p.1).place<l.place) →
  tfk l ps e (wg ls g)=some (wg ls (fun x=>g x+(ps.map fun p=>if p.1=x.id then p.2 else 0).sum),ps.foldl (fun e p=>min e (lotAt ls p.1).expiry) e)
 | [],e,g,_=>by simp [tfk]
 | p :: ps,e,g,hp=>by
  obtain ⟨h1,h2,h3⟩:=hp p (by simp)
  have hg:=wg_get g h1
  have hgo:((wg ls g).getD (idx p.1 (wg ls g)) L0).goods=l.goods:=by rw [wg_idx,hg];exact h2
  have hpl:((wg ls g).getD (idx p.1 (wg ls g)) L0).place<l.place:=by rw [wg_idx,hg];exact h3
  have hex:((wg ls g).getD (idx p.1 (wg ls g)) L0).expiry=(lotAt ls p.1).expiry:=by rw [wg_idx,hg];rfl
  rw [tfk,if_pos ⟨by rw [wg_idx,wg_len];exact h1,hgo,hpl⟩,hex,wg_idx,wg_set hids g h1,tfk_wg hids l ps _ _ (fun q hq=>hp q (by simp [hq]))]
  simp only [List.map_cons,List.sum_cons,List.foldl_cons,Option.some.injEq,Prod.mk.injEq,and_true]
  congr 1
  funext x
  omega
theorem mnE_dpar (ps:List (Nat × Nat)):mnE ls (dpar ps)=mnE ls ps:=by
 unfold dpar;split
 ·split
  ·simp only [mnE,List.foldl_cons,List.foldl_nil];omega
  ·rfl
 ·rfl
theorem dpar_sumf (f:Nat × Nat→Nat) (l:List (Nat × Nat)):((dpar l).map f).sum=(l.map f).sum:=by
 unfold dpar;split
 ·split
  ·simp;omega
  ·rfl
 ·rfl
theorem tfp_wg (hgo:Good os ls) (hs:Snd os rcs ls) {i:Nat} (hi:i<ls.length):tfp (wg ls (fun x=>gvS (ls.take i) x.id)) i=some (wg ls (fun x=>gvS (ls.take (i+1)) x.id)):=by
 have hgs:∀ n,gvS (ls.take (i+1)) n=gvS (ls.take i) n+gv1 (ls.getD i L0) n:=fun n=>by
  rw [take_at (d:=L0) hi];simp [gvS]
 obtain ⟨y,hy⟩:∃ y,y=(wg ls (fun x=>gvS (ls.take i) x.id)).getD i L0:=⟨_,rfl⟩
 have y1:y.par=dpar (ls.getD i L0).par:=by rw [hy,wg_get _ hi];rfl
 have y2:y.expiry=(ls.getD i L0).expiry:=by rw [hy,wg_get _ hi];rfl
 have y3:y.goods=(ls.getD i L0).goods:=by rw [hy,wg_get _ hi];rfl
 have y4:y.place=(ls.getD i L0).place:=by rw [hy,wg_get _ hi];rfl
 unfold tfp
 rw [← hy,y1,y2]
 by_cases h0:(dpar (ls.getD i L0).par).length=0
 ·rw [if_pos h0]
  have hp:(ls.getD i L0).par=[]:=by rw [dpar_len] at h0;exact List.length_eq_zero_iff.1 h0
  congr 2
  funext x
  rw [hgs];unfold gv1;rw [hp];rfl
 ·rw [if_neg h0]
  have hne:(ls.getD i L0).par≠[]:=fun e=>h0 (by rw [e];rfl)
  rw [tfk_wg hgo.ids _ _ _ _ (fun p hp=>by
   rw [dpar_mem] at hp
   obtain ⟨j,k1,k2,k3⟩:=hs.fam i hi p hp
   have e:idx p.1 ls=j:=by rw [← k2];exact idx_hit (by omega) (fun k hk e=>by have:=hgo.ids k j (by omega) (by omega) e;omega) rfl
   unfold lotAt
   rw [e,y3,y4]
   refine ⟨by omega,k3,?_⟩
   rw [hgo.place j (by omega),hgo.place i hi];omega),Option.bind_some]
  have hx:=hs.exp i hi hne
  have hm:=mnE_dpar (ls:=ls) (ls.getD i L0).par
  rw [← hx] at hm
  unfold mnE at hm
  rw [hm,if_pos rfl]
  show some (wg ls _)=_
  congr 2
  funext x
  rw [hgs,dpar_sumf]
  rfl
theorem tfA_wg (hgo:Good os ls) (hs:Snd os rcs ls):∀ k i,i+k=ls.length→tfA k i (wg ls (fun x=>gvS (ls.take i) x.id))=some (ls.map kap)
 | 0,i,h=>by
  rw [tfA]
  congr 1
  unfold wg
  apply List.map_congr_left
  intro x hx
  obtain ⟨j,hj,rfl⟩:=List.getElem_of_mem hx
  have e:ls.getD j L0=ls[j]:=by simp [List.getD_eq_getElem?_getD,hj]
  have hg:=hs.giv j hj
  rw [e] at hg
  rw [List.take_of_length_le (by omega)]
  show ({ kap ls[j] with given:=gvS ls ls[j].id }:L)=_
  rw [← hg]
  rfl
 | k+1,i,h=>by
  rw [tfA,tfp_wg hgo hs (by omega),Option.bind_some]
  exact tfA_wg hgo hs k (i+1) (by omega)
theorem lots_told (hok:∀ l ∈ ls,L.Ok l) (hroom:ls.length≤30) (hgo:Good os ls) (hs:Snd os rcs ls) (ns:List Nat):rdLots (Pl.toldB (ls.length :: ls.length :: (stL ls++ns)))=some (ls.map kap,Pl.toldB ns):=by
 obtain ⟨q1,q2⟩:=enum_facts (x:=fun i=>(ls.getD i L0).id) hgo.ids (ls.length+1) 0 (by have:=cntA_le (fun i=>(ls.getD i L0).id) 0 ls.length;omega)
 have hall:∀ i,i<ls.length→i ∈ enumI (fun i=>(ls.getD i L0).id) ls.length (ls.length+1) 0:=fun i hi=>(q2 i).2 ⟨hi,(hs.one i hi).id⟩
 have hlen:(enumI (fun i=>(ls.getD i L0).id) ls.length (ls.length+1) 0).length=ls.length:=by
  have a:=len_of_sub (l:=enumI (fun i=>(ls.getD i L0).id) ls.length (ls.length+1) 0) (m:=List.range ls.length) (q1.imp (fun hab e=>by rw [e] at hab;exact Nat.lt_irrefl _ hab)) (fun i hi=>by simp;exact ((q2 i).1 hi).1)
  have b:=len_of_sub (l:=List.range ls.length) (m:=enumI (fun i=>(ls.getD i L0).id) ls.length (ls.length+1) 0) List.nodup_range (fun i hi=>hall i (by simpa using hi))
  simp only [List.length_range] at a b
  omega
 unfold rdLots
 rw [rdB_told (Nat.zero_le _) hroom (by omega),Option.bind_some,rd1_told (by omega),Option.bind_some,if_pos rfl]
 dsimp only
 have h:=rdLs_told hok hgo hs ns (enumI (fun i=>(ls.getD i L0).id) ls.length (ls.length+1) 0) 0 (List.replicate ls.length none) (fun i hi=>⟨((q2 i).1 hi).1,((q2 i).1 hi).2,by simp [((q2 i).1 hi).1]⟩) q1
 rw [hlen] at h
 unfold stL
 rw [h,Option.bind_some,fil_all hall]
 dsimp only
 have e:(ls.map (fun l=>some (zap l))).map (fun o=>o.getD L0)=wg ls (fun x=>gvS (ls.take 0) x.id):=by
  unfold wg;simp [zap,gvS]
 rw [e,tfA_wg hgo hs _ 0 (by omega),Option.bind_some]
def sOl (o:O):O:={ o with lines:=prtS o.lines }
theorem kap_idx (n:Nat):idx n (ls.map kap)=idx n ls:=by
 unfold idx
 rw [List.findIdx_map];rfl
theorem kap_get (i:Nat):(ls.map kap).getD i L0=kap (ls.getD i L0):=by
 rw [List.getD_eq_getElem?_getD,List.getD_eq_getElem?_getD,List.getElem?_map]
 cases ls[i]? with
 | none=>rfl
 | some x=>rfl
theorem rdLn_told {g:Nat} (ns:List Nat):∀ (ps:List (Nat × Nat)) (p:Nat) (acc:List (Nat × Nat)),Ris ps→(∀ q ∈ ps,p<q.1∧q.1≤2147483647∧1≤q.2∧q.2≤2147483647∧idx q.1 ls<ls.length∧(lotAt ls q.1).goods=g)→rdLn (ls.map kap) g ps.length p acc (Pl.toldB (ps.flatMap (fun p=>[p.1,p.2])++ns))=some (acc++ps,Pl.toldB ns)
 | [],p,acc,_,_=>by simp [rdLn]
 | q :: ps,p,acc,hr,hq=>by
  obtain ⟨h1,h2,h3,h4,h5,h6⟩:=hq q (by simp)
  rw [List.length_cons,rdLn,List.flatMap_cons]
  show ((rdB (p+1) 2147483647 (Pl.toldB (q.1 :: (q.2 :: (ps.flatMap (fun p=>[p.1,p.2])++ns))))).bind _)=_
  rw [rdB_told (by omega) h2 h2,Option.bind_some]
  dsimp only
  rw [if_pos ⟨by rw [kap_idx,List.length_map];exact h5,by rw [kap_idx,kap_get];exact h6⟩,rdB_told h3 h4 h4,Option.bind_some]
  show rdLn (ls.map kap) g ps.length q.1 (acc++[(q.1,q.2)]) (Pl.toldB (ps.flatMap (fun p=>[p.1,p.2])++ns))=_
  rw [rdLn_told ns ps q.1 _ hr.cons.2 (fun r hrm=>⟨hr.cons.1 r hrm,(hq r (by simp [hrm])).2⟩)]
  simp
structure Rdo (ls:List L) (o:O):Prop where
 id:o.id≤2147483647
 goods:1≤o.goods∧o.goods≤2147483647
 len:1≤o.lines.length∧o.lines.length≤30
 keys:(o.lines.map Prod.fst).Nodup
 line:∀ q ∈ o.lines,1≤q.1∧q.1≤2147483647∧1≤q.2∧q.2≤2147483647∧idx q.1 ls<ls.length∧(lotAt ls q.1).goods=o.goods
theorem rdLines_told {o:O} (ho:Rdo ls o) (ns:List Nat):rdLines (ls.map kap) o.goods (Pl.toldB (flP (prtS o.lines)++ns))=some (prtS o.lines,Pl.toldB ns):=by
 obtain ⟨_,q2⟩:=prtS_facts (nodup_keys ho.keys)
 have hl:=prtS_len' o.lines (nodup_keys ho.keys)
 have h1:=ho.len
 unfold rdLines flP
 rw [List.cons_append,rdB_told (by omega) (by omega) (by omega),Option.bind_some]
 show rdLn (ls.map kap) o.goods (prtS o.lines).length 0 [] (Pl.toldB _)=_
 rw [rdLn_told ns _ 0 [] (ris_prtS ho.keys) (fun q hq=>by
  rw [q2] at hq
  have:=ho.line q hq
  exact ⟨by omega,this.2⟩)]
 simp
theorem rdOs_told (hR:∀ o ∈ os,Rdo ls o) (ns:List Nat):∀ (is:List Nat) (p:Nat) (acc:List O),(∀ i ∈ is,i<os.length∧p<(os.getD i O0).id)→is.Pairwise (fun a b=>(os.getD a O0).id<(os.getD b O0).id) →
  rdOs (ls.map kap) is.length p acc (Pl.toldB (is.flatMap (fun i=>ordN (os.getD i O0))++ns))=some (acc++is.map (fun i=>sOl (os.getD i O0)),Pl.toldB ns)
 | [],p,acc,_,_=>by simp [rdOs]
 | i :: is,p,acc,hi,hr=>by
  obtain ⟨h1,h2⟩:=hi i (by simp)
  have ho:=hR _ (getO h1)
  obtain ⟨r1,r2⟩:=List.pairwise_cons.1 hr
  have e:(i :: is).flatMap (fun i=>ordN (os.getD i O0))++ns=(os.getD i O0).id :: (os.getD i O0).goods :: (flP (prtS (os.getD i O0).lines)++(is.flatMap (fun i=>ordN (os.getD i O0))++ns)):=by
   rw [List.flatMap_cons];unfold ordN;simp
  rw [List.length_cons,rdOs,e,rdB_told (by omega) ho.id ho.id,Option.bind_some]
  dsimp only
  rw [rdB_told ho.goods.1 ho.goods.2 ho.goods.2,Option.bind_some]
  dsimp only
  rw [rdLines_told ho,Option.bind_some]
  show rdOs (ls.map kap) is.length (os.getD i O0).id (acc++[sOl (os.getD i O0)]) (Pl.toldB _)=_
  rw [rdOs_told hR ns is _ _ (fun j hj=>⟨(hi j (by simp [hj])).1,r1 j hj⟩) r2]
  simp
def osS (os:List O):List O:=(enumI (fun i=>(os.getD i O0).id) os.length (os.length+1) 0).map (fun i=>sOl (os.getD i O0))
theorem enum_len {x:Nat→Nat} {N:Nat} (hin:∀ i j,i<N→j<N→x i=x j→i=j) (hp:∀ i,i<N→1≤x i):(enumI x N (N+1) 0).Perm (List.range N):=by
 obtain ⟨q1,q2⟩:=enum_facts (x:=x) hin (N+1) 0 (by have:=cntA_le x 0 N;omega)
 refine (List.perm_ext_iff_of_nodup (q1.imp (fun hab e=>by rw [e] at hab;exact Nat.lt_irrefl _ hab)) List.nodup_range).2 (fun i=>?_)
 rw [q2,List.mem_range]
 exact ⟨fun h=>h.1,fun h=>⟨h,hp i h⟩⟩
theorem range_map {α β:Type} (f:α→β) (d:α) (l:List α):(List.range l.length).map (fun i=>f (l.getD i d))=l.map f:=by
 apply List.ext_getElem
 ·simp
 ·intro i h1 h2
  simp at h1
  simp [List.getD_eq_getElem?_getD,h1]
theorem osS_perm (hn:(os.map O.id).Nodup) (h1:∀ o ∈ os,1≤o.id):(osS os).Perm (os.map sOl):=by
 have:=(enum_len (x:=fun i=>(os.getD i O0).id) (oid_inj hn) (fun i hi=>h1 _ (getO hi))).map (fun i=>sOl (os.getD i O0))
 rw [range_map sOl O0 os] at this
 exact this
theorem orders_told (hR:∀ o ∈ os,Rdo ls o) (hn:(os.map O.id).Nodup) (h1:∀ o ∈ os,1≤o.id) (hlen:os.length≤10) (ns:List Nat):rdOrders (ls.map kap) (Pl.toldB (os.length :: (stO os++ns)))=some (osS os,Pl.toldB ns):=by
 obtain ⟨q1,q2⟩:=enum_facts (x:=fun i=>(os.getD i O0).id) (oid_inj hn) (os.length+1) 0 (by have:=cntA_le (fun i=>(os.getD i O0).id) 0 os.length;omega)
 have hl:=(enum_len (x:=fun i=>(os.getD i O0).id) (oid_inj hn) (fun i hi=>h1 _ (getO hi))).length_eq
 rw [List.length_range] at hl
 unfold rdOrders
 rw [rdB_told (Nat.zero_le _) hlen (by omega),Option.bind_some]
 dsimp only
 have h:=rdOs_told hR ns (enumI (fun i=>(os.getD i O0).id) os.length (os.length+1) 0) 0 [] (fun i hi=>(q2 i).1 hi) q1
 rw [hl] at h
 unfold stO
 rw [h]
 rfl
theorem rdRc_told (ns:List Nat):∀ (ps:List (Nat × Nat)) (a:Nat × Nat) (acc:List (Nat × Nat)),(a :: ps).Pairwise (fun a b=>prtB a b=true)→(∀ q ∈ ps,1≤q.1∧q.1≤2147483647∧1≤q.2∧q.2≤2147483647∧idx q.1 ls<ls.length)→rdRc (ls.map kap) ps.length a acc (Pl.toldB (ps.flatMap (fun p=>[p.1,p.2])++ns))=some (acc++ps,Pl.toldB ns)
 | [],p,acc,_,_=>by simp [rdRc]
 | q :: ps,p,acc,hr,hq=>by
  obtain ⟨h1,h2,h3,h4,h5⟩:=hq q (by simp)
  obtain ⟨r1,r2⟩:=List.pairwise_cons.1 hr
  rw [List.length_cons,rdRc,List.flatMap_cons]
  show ((rdB 1 2147483647 (Pl.toldB (q.1 :: (q.2 :: (ps.flatMap (fun p=>[p.1,p.2])++ns))))).bind _)=_
  rw [rdB_told h1 h2 h2,Option.bind_some]
  dsimp only
  rw [rdB_told h3 h4 h4,Option.bind_some]
  show (if prtB p q=true∧idx q.1 (ls.map kap)<(ls.map kap).length then rdRc (ls.map kap) ps.length q (acc++[q]) (Pl.toldB _) else none)=_
  rw [if_pos ⟨r1 q (by simp),by rw [kap_idx,List.length_map];exact h5⟩,rdRc_told ns ps q _ r2 (fun r hr=>hq r (by simp [hr]))]
  simp
theorem recs_told (hrc:Rc rcs) (hs:Snd os rcs ls) (ns:List Nat):rdRecs (ls.map kap) (Pl.toldB (flP (prtS rcs)++ns))=some (prtS rcs,Pl.toldB ns):=by
 obtain ⟨q1,q2⟩:=prtS_facts hrc.nodup
 have hl:=prtS_len' rcs hrc.nodup
 have h1:=hrc.len
 unfold rdRecs flP
 rw [List.cons_append,rdB_told (Nat.zero_le _) (by omega) (by omega),Option.bind_some]
 show rdRc (ls.map kap) (prtS rcs).length (0,0) [] (Pl.toldB _)=_
 rw [rdRc_told ns _ (0,0) [] (List.pairwise_cons.2 ⟨fun q hq=>by
  rw [q2] at hq
  have:=(hs.rcl q hq).1
  simp only [prtB,Bool.or_eq_true,decide_eq_true_eq]
  exact Or.inl (by omega),q1⟩) (fun q hq=>by
  rw [q2] at hq
  have:=hs.rcl q hq
  have:=hrc.fits q hq
  omega)]
 simp
theorem lookup_prt {l:List (Nat × Nat)} (hk:(l.map Prod.fst).Nodup) (n:Nat):(prtS l).lookup n=l.lookup n:=by
 obtain ⟨q1,q2⟩:=prtS_facts (nodup_keys hk)
 have hk2:((prtS l).map Prod.fst).Nodup:=(ris_prtS hk).imp (fun h e=>by rw [e] at h;exact Nat.lt_irrefl _ h)
 cases h:l.lookup n with
 | some v=>exact lookup_of_mem hk2 ((q2 _).2 (lookup_some_mem h))
 | none =>
  cases h2:(prtS l).lookup n with
  | none=>rfl
  | some v =>
   have:=lookup_of_mem hk ((q2 _).1 (lookup_some_mem h2))
   rw [h] at this;cases this
theorem heldSum_prt (hk:∀ o ∈ os,(o.lines.map Prod.fst).Nodup) (hn:(os.map O.id).Nodup) (h1:∀ o ∈ os,1≤o.id) (n:Nat):heldSum (osS os) n=heldSum os n:=by
 unfold heldSum
 rw [((osS_perm hn h1).map (fun o=>heldBy o n)).sum_nat,List.map_map]
 congr 1
 apply List.map_congr_left
 intro o ho
 show ((prtS o.lines).lookup n).getD 0=(o.lines.lookup n).getD 0
 rw [lookup_prt (hk o ho)]
theorem le_sum {n:Nat}:∀ {l:List Nat},n ∈ l→n≤l.sum
 | x :: l,h=>by
  rw [List.sum_cons]
  rcases List.mem_cons.1 h with rfl | h
  ·omega
  ·have:=le_sum h;omega
theorem state_told (htd:td≤2147483647) (hok:∀ l ∈ ls,L.Ok l) (hroom:ls.length≤30) (hgo:Good os ls) (hs:Snd os rcs ls) (hrc:Rc rcs) (hO:∀ o ∈ os,1≤o.id∧o.goods≤2147483647):rdState (stB td os rcs ls)=some (td,ls.map kap,osS os,prtS rcs):=by
 have hR:∀ o ∈ os,Rdo ls o:=fun o ho=>by
  obtain ⟨s1,s2,s3⟩:=hs.ord o ho
  have hmem:=fun p hp=>hgo.mem o ho p hp
  have hlen:o.lines.length≤30:=by
   have:=len_of_sub (l:=o.lines.map Prod.fst) (m:=ls.map L.id) (hgo.keys o ho) (fun x hx=>by
    obtain ⟨p,hp,rfl⟩:=List.mem_map.1 hx
    obtain ⟨i,hi,e⟩:=hmem p hp
    rw [← e];exact List.mem_map_of_mem (mem_getD hi))
   rw [List.length_map,List.length_map] at this
   omega
  refine ⟨hgo.oid o ho,⟨s1,(hO o ho).2⟩,⟨List.length_pos_iff.2 s2,hlen⟩,hgo.keys o ho,fun p hp=>?_⟩
  obtain ⟨i,hi,e⟩:=hmem p hp
  have hki:=hok _ (mem_getD hi)
  have hx:idx p.1 ls=i:=by rw [← e];exact idx_hit hi (fun k hk e=>by have:=hgo.ids k i (by omega) hi e;omega) rfl
  have hle:p.2≤heldSum os p.1:=by
   have h2:heldBy o p.1=p.2:=by unfold heldBy;rw [lookup_of_mem (hgo.keys o ho) hp];rfl
   rw [← h2]
   unfold heldSum
   exact le_sum (List.mem_map_of_mem (f:=fun o=>heldBy o p.1) ho)
  have hh:=hgo.held i hi
  rw [e] at hh
  have hsum:=hki.sum
  have h1:=(hs.one i hi).id
  have h2:=hki.id
  rw [e] at h1 h2
  exact ⟨h1,h2,(s3 p hp).1,by omega,by rw [hx];exact hi,(s3 p hp).2⟩
 have e:stN td os rcs ls=td :: (ls.length :: ls.length :: (stL ls++(os.length :: (stO os++(flP (prtS rcs)++[]))))):=by
  unfold stN;simp
 unfold stB rdState
 dsimp only
 rw [if_pos rfl,e,rdB_told (Nat.zero_le _) htd htd,Option.bind_some]
 dsimp only
 rw [lots_told hok hroom hgo hs,Option.bind_some]
 dsimp only
 rw [orders_told hR hgo.oids (fun o ho=>(hO o ho).1) hgo.olen,Option.bind_some]
 dsimp only
 rw [recs_told hrc hs,Option.bind_some]
 dsimp only
 rw [if_pos ⟨rfl,by
  rw [List.all_eq_true]
  intro x hx
  obtain ⟨l,hl,rfl⟩:=List.mem_map.1 hx
  obtain ⟨j,hj,rfl⟩:=List.getElem_of_mem hl
  have e:ls.getD j L0=ls[j]:=by simp [List.getD_eq_getElem?_getD,hj]
  have a1:=(hs.one j hj).sum
  have a2:=hgo.held j hj
  rw [e] at a1 a2
  unfold adB
  rw [Bool.and_eq_true,decide_eq_true_eq,decide_eq_true_eq]
  refine ⟨a1,?_⟩
  show ls[j].held=heldSum (osS os) ls[j].id
  rw [heldSum_prt hgo.keys hgo.oids (fun o ho=>(hO o ho).1)];exact a2⟩]
end
end Go.Proofs.YtgcedalggnmooabGreatDoor
namespace Go.Proofs.YtgcedalggnmooabGreatDoor
theorem dpar_dpar (l:List (Nat × Nat)):dpar (dpar l)=dpar l:=by
 match l with
 | []=>rfl
 | [a]=>rfl
 | [a,b] =>
  by_cases h:b.1<a.1
  ·have h2:¬ a.1<b.1:=by omega
   simp [dpar,h,h2]
  ·simp [dpar,h]
 | a :: b :: c :: r=>rfl
theorem kap_kap (l:L):kap (kap l)=kap l:=by unfold kap;simp [dpar_dpar]
section
variable {os:List O} {rcs:List (Nat × Nat)} {ls:List L} {td:Nat}
theorem map_kap_kap:(ls.map kap).map kap=ls.map kap:=by
 rw [List.map_map];exact List.map_congr_left (fun l _=>kap_kap l)
theorem famStep_kap (f:Nat→Bool) (l:L):famStep f (kap l)=famStep f l:=by
 unfold famStep kap
 funext n
 rw [dpar_any]
theorem famB_kap:∀ (ls:List L) (f:Nat→Bool),famB (ls.map kap) f=famB ls f
 | [],f=>rfl
 | l :: ls,f=>by
  show famB (ls.map kap) (famStep f (kap l))=famB ls (famStep f l)
  rw [famStep_kap,famB_kap ls]
theorem recB_kap:recB rcs (ls.map kap)=recB rcs ls:=famB_kap ls _
theorem comB_kap (n:Nat):comB (ls.map kap) n=comB ls n:=famB_kap ls _
theorem roomC_kap (n:Nat):roomC (ls.map kap) n=roomC ls n:=by unfold roomC;rw [kap_idx,List.length_map]
theorem lotAt_kap (n:Nat):lotAt (ls.map kap) n=kap (lotAt ls n):=by unfold lotAt;rw [kap_idx,kap_get]
theorem srvI_kap (goods gate k:Nat):srvI rcs td goods gate (ls.map kap) k=srvI rcs td goods gate ls k:=by
 unfold srvI
 congr 1
 funext i
 rw [recB_kap,kap_get];rfl
theorem freeOf_kap (is:List Nat):freeOf (ls.map kap) is=freeOf ls is:=by
 unfold freeOf
 congr 2
 funext i
 rw [kap_get];rfl
theorem supL_kap (a b:Nat):supL rcs td a b (ls.map kap)=supL rcs td a b ls:=by
 unfold supL
 rw [List.length_map,srvI_kap,freeOf_kap]
theorem splitC_kap (n m c:Nat):splitC (ls.map kap) n m c=splitC ls n m c:=by
 unfold splitC
 rw [kap_idx,List.length_map,roomC_kap,kap_get];rfl
theorem snoc_kap (l m:List L) (x:L) (h:l.map kap=m.map kap):(l++[x]).map kap=(m++[x]).map kap:=by rw [List.map_append,List.map_append,h]
theorem set_kap (i:Nat) (x:L):(ls.map kap).set i (kap x)=(ls.set i x).map kap:=by rw [List.map_set]
theorem splitS_kap (n m c:Nat):(splitS (ls.map kap) n m c).map kap=(splitS ls n m c).map kap:=by
 unfold splitS
 rw [splitC_kap,kap_idx,kap_get]
 split
 ·show ((ls.map kap).set (idx n ls) (kap (gaveL (ls.getD (idx n ls) L0) c))++[mkL (ls.map kap) m (ls.getD (idx n ls) L0).goods (ls.getD (idx n ls) L0).expiry c [((ls.getD (idx n ls) L0).id,c)]]).map kap=_
  have e:∀ g e t ps,mkL (ls.map kap) m g e t ps=mkL ls m g e t ps:=fun g e t ps=>by unfold mkL;rw [List.length_map]
  rw [e,set_kap]
  exact snoc_kap _ _ _ map_kap_kap
 ·exact map_kap_kap
theorem mergeC_kap (a b m:Nat):mergeC (ls.map kap) a b m=mergeC ls a b m:=by
 unfold mergeC
 rw [kap_idx,kap_idx,List.length_map,roomC_kap,lotAt_kap,lotAt_kap];rfl
theorem mergeS_kap (a b m:Nat):(mergeS (ls.map kap) a b m).map kap=(mergeS ls a b m).map kap:=by
 unfold mergeS
 rw [mergeC_kap,kap_idx,kap_idx,lotAt_kap,lotAt_kap]
 split
 ·show (((ls.map kap).set (idx a ls) (kap (gaveL (lotAt ls a) (lotAt ls a).free))).set (idx b ls) (kap (gaveL (lotAt ls b) (lotAt ls b).free))++[mkL (ls.map kap) m (lotAt ls a).goods (min (lotAt ls a).expiry (lotAt ls b).expiry) ((lotAt ls a).free+(lotAt ls b).free) [((lotAt ls a).id,(lotAt ls a).free),((lotAt ls b).id,(lotAt ls b).free)]]).map kap=_
  have e:∀ g e t ps,mkL (ls.map kap) m g e t ps=mkL ls m g e t ps:=fun g e t ps=>by unfold mkL;rw [List.length_map]
  rw [e,set_kap,set_kap]
  exact snoc_kap _ _ _ map_kap_kap
 ·exact map_kap_kap
theorem scrapC_kap (a c:Nat):scrapC (ls.map kap) a c=scrapC ls a c:=by
 unfold scrapC
 rw [kap_idx,List.length_map,kap_get];rfl
theorem scrapS_kap (a c:Nat):(scrapS (ls.map kap) a c).map kap=(scrapS ls a c).map kap:=by
 unfold scrapS
 rw [scrapC_kap,kap_idx,kap_get]
 split
 ·show ((ls.map kap).set (idx a ls) (kap (scrapL (ls.getD (idx a ls) L0) c))).map kap=_
  rw [set_kap,map_kap_kap]
 ·exact map_kap_kap
theorem queue_kap (f:Bool) (goods gate:Nat):queue rcs f td goods gate (ls.map kap)=queue rcs f td goods gate ls:=by
 unfold queue
 rw [List.length_map,srvI_kap]
 congr 1
 funext i j
 unfold befI
 rw [kap_get,kap_get];rfl
theorem giveQ_kap:∀ (q:List Nat) (want:Nat),giveQ (ls.map kap) q want=giveQ ls q want
 | [],_=>rfl
 | c :: r,want=>by
  unfold giveQ
  rw [kap_get,giveQ_kap r];rfl
theorem linesQ_kap (goods count gate way:Nat):linesQ rcs td goods count gate way (ls.map kap)=linesQ rcs td goods count gate way ls:=by
 unfold linesQ
 rw [queue_kap,giveQ_kap]
theorem toldL_kap:∀ l,toldL (ls.map kap) l=toldL ls l
 | []=>rfl
 | p :: r=>by rw [toldL,toldL,kap_get,toldL_kap r];rfl
theorem toldQ_kap (l:List (Nat × Nat)):toldQ (ls.map kap) l=toldQ ls l:=by unfold toldQ;rw [toldL_kap]
theorem linesId_kap (l:List (Nat × Nat)):linesId (ls.map kap) l=linesId ls l:=by
 unfold linesId
 congr 1
 funext p
 rw [kap_get];rfl
theorem holdS_kap:∀ (q:List (Nat × Nat)) (ls:List L),holdS (ls.map kap) q=(holdS ls q).map kap
 | [],ls=>rfl
 | p :: q,ls=>by
  show holdS ((ls.map kap).set p.1 (holdL ((ls.map kap).getD p.1 L0) p.2)) q=(holdS (ls.set p.1 (holdL (ls.getD p.1 L0) p.2)) q).map kap
  rw [kap_get,show holdL (kap (ls.getD p.1 L0)) p.2=kap (holdL (ls.getD p.1 L0) p.2) from rfl,set_kap,holdS_kap q]
theorem askC_kap (a b c d f:Nat):askC rcs os td (ls.map kap) a b c d f=askC rcs os td ls a b c d f:=by unfold askC;rw [linesQ_kap]
theorem fin_kap (g:L→Nat→L) (hg:∀ l n,g (kap l) n=kap (g l n)) (a:Nat):(ls.map kap).map (finL g os a)=(ls.map (finL g os a)).map kap:=by
 rw [List.map_map,List.map_map]
 apply List.map_congr_left
 intro l _
 show finL g os a (kap l)=kap (finL g os a l)
 unfold finL
 show (match lineOf os a l.id with | some n=>g { kap l with held:=(kap l).held - n } n | none=>kap l)=_
 cases lineOf os a l.id with
 | none=>rfl
 | some n =>
  show g { kap l with held:=(kap l).held - n } n=kap (g { l with held:=l.held - n } n)
  rw [← hg];rfl
theorem heldQ_kap (n:Nat):heldQ (ls.map kap) n=heldQ ls n:=by
 have e1:heldI (ls.map kap) n=heldI ls n:=by
  unfold heldI heldK
  rw [List.length_map,comB_kap]
  have a:idLt (ls.map kap)=idLt ls:=by
   funext i j
   unfold idLt
   rw [kap_get,kap_get];rfl
  have b:heldP (ls.map kap) (comB ls n)=heldP ls (comB ls n):=by
   funext i
   unfold heldP
   rw [kap_get];rfl
  rw [a,b]
 unfold heldQ withHeld
 rw [e1]
 congr 1
 funext i
 rw [kap_get];rfl
theorem recallC_kap (a m:Nat):recallC rcs (ls.map kap) a m=recallC rcs ls a m:=by
 unfold recallC
 rw [kap_idx,List.length_map]
def Alk (a b:List UInt8 × Nat × List O × List (Nat × Nat) × List L):Prop:=a.1=b.1∧a.2.1=b.2.1∧a.2.2.1=b.2.2.1∧a.2.2.2.1=b.2.2.2.1∧a.2.2.2.2.map kap=b.2.2.2.2.map kap
theorem stepS_kap (c:Pl.Cmd):(stepS rcs td (ls.map kap) c).1=(stepS rcs td ls c).1∧(stepS rcs td (ls.map kap) c).2.1=(stepS rcs td ls c).2.1∧(stepS rcs td (ls.map kap) c).2.2.map kap=(stepS rcs td ls c).2.2.map kap:=by
 unfold stepS
 split
 ·exact ⟨rfl,rfl,map_kap_kap⟩
 ·split <;> exact ⟨rfl,rfl,map_kap_kap⟩
 ·dsimp only
  rw [roomC_kap]
  refine ⟨rfl,rfl,?_⟩
  split
  ·rename_i a b c d _
   have e:newL (ls.map kap) a b c d=newL ls a b c d:=by unfold newL;rw [List.length_map]
   rw [e];exact snoc_kap _ _ _ map_kap_kap
  ·exact map_kap_kap
 ·rw [kap_idx,List.length_map,recB_kap,kap_get]
  split <;> exact ⟨rfl,rfl,map_kap_kap⟩
 ·rw [supL_kap];exact ⟨rfl,rfl,map_kap_kap⟩
 ·exact ⟨rfl,rfl,map_kap_kap⟩
theorem stepT_kap (c:Pl.Cmd):(stepT rcs td (ls.map kap) c).1=(stepT rcs td ls c).1∧(stepT rcs td (ls.map kap) c).2.1=(stepT rcs td ls c).2.1∧(stepT rcs td (ls.map kap) c).2.2.map kap=(stepT rcs td ls c).2.2.map kap:=by
 unfold stepT
 split
 ·dsimp only;rw [splitC_kap];exact ⟨rfl,rfl,splitS_kap _ _ _⟩
 ·dsimp only;rw [mergeC_kap];exact ⟨rfl,rfl,mergeS_kap _ _ _⟩
 ·dsimp only;rw [scrapC_kap];exact ⟨rfl,rfl,scrapS_kap _ _⟩
 ·exact stepS_kap _
theorem stepO_kap (c:Pl.Cmd):(stepO rcs td os (ls.map kap) c).1=(stepO rcs td os ls c).1∧(stepO rcs td os (ls.map kap) c).2.1=(stepO rcs td os ls c).2.1∧(stepO rcs td os (ls.map kap) c).2.2.1=(stepO rcs td os ls c).2.2.1∧(stepO rcs td os (ls.map kap) c).2.2.2.map kap=(stepO rcs td os ls c).2.2.2.map kap:=by
 unfold stepO
 split
 ·dsimp only
  unfold askR askO askL
  rw [askC_kap,linesQ_kap,toldQ_kap,linesId_kap,holdS_kap]
  refine ⟨rfl,rfl,rfl,?_⟩
  split <;> exact map_kap_kap
 ·dsimp only
  rw [fin_kap freeL (fun l n=>rfl)];exact ⟨rfl,rfl,rfl,map_kap_kap⟩
 ·dsimp only
  rw [fin_kap shipL (fun l n=>rfl)];exact ⟨rfl,rfl,rfl,map_kap_kap⟩
 ·have:=stepT_kap (rcs:=rcs) (ls:=ls) (td:=td) c
  exact ⟨this.1,this.2.1,rfl,this.2.2⟩
theorem stepR_kap (c:Pl.Cmd):Alk (stepR rcs td os (ls.map kap) c) (stepR rcs td os ls c):=by
 unfold stepR
 split
 ·dsimp only [Alk]
  unfold recallR recallS
  rw [recallC_kap,heldQ_kap,toldQ_kap]
  exact ⟨rfl,rfl,rfl,rfl,map_kap_kap⟩
 ·exact ⟨rfl,rfl,rfl,rfl,map_kap_kap⟩
 ·have:=stepO_kap (rcs:=rcs) (ls:=ls) (td:=td) (os:=os) c
  exact ⟨this.1,this.2.1,this.2.2.1,rfl,this.2.2.2⟩
theorem stepR_alike {ls':List L} (h:ls.map kap=ls'.map kap) (c:Pl.Cmd):Alk (stepR rcs td os ls c) (stepR rcs td os ls' c):=by
 obtain ⟨a1,a2,a3,a4,a5⟩:=stepR_kap (rcs:=rcs) (td:=td) (os:=os) (ls:=ls) c
 obtain ⟨b1,b2,b3,b4,b5⟩:=stepR_kap (rcs:=rcs) (td:=td) (os:=os) (ls:=ls') c
 rw [h] at a1 a2 a3 a4 a5
 exact ⟨a1.symm.trans b1,a2.symm.trans b2,a3.symm.trans b3,a4.symm.trans b4,a5.symm.trans b5⟩
end
end Go.Proofs.YtgcedalggnmooabGreatDoor
namespace Go.Proofs.YtgcedalggnmooabGreatDoor
open Go.RowKit
section
variable {os:List O} {rcs:List (Nat × Nat)} {ls:List L} {td:Nat}
theorem osS_ids (hn:(os.map O.id).Nodup) (h1:∀ o ∈ os,1≤o.id):((osS os).map O.id).Nodup:=by
 have h:=((osS_perm hn h1).map O.id)
 rw [List.map_map] at h
 exact h.nodup_iff.2 hn
theorem osS_mem (hn:(os.map O.id).Nodup) (h1:∀ o ∈ os,1≤o.id) {o:O}:o ∈ osS os↔∃ x ∈ os,sOl x=o:=by
 rw [(osS_perm hn h1).mem_iff,List.mem_map]
theorem find_osS (hn:(os.map O.id).Nodup) (h1:∀ o ∈ os,1≤o.id) (n:Nat):(osS os).find? (fun o=>o.id == n)=(os.find? (fun o=>o.id == n)).map sOl:=by
 cases h:os.find? (fun o=>o.id == n) with
 | some o =>
  have ho:=List.mem_of_find?_eq_some h
  have hid:o.id=n:=by have:=List.find?_some h;simpa using this
  have:=find_self (osS_ids hn h1) ((osS_mem hn h1).2 ⟨o,ho,rfl⟩)
  rw [← hid];exact this
 | none =>
  rw [List.find?_eq_none] at h
  show _=none
  rw [List.find?_eq_none]
  intro o ho
  obtain ⟨x,hx,rfl⟩:=(osS_mem hn h1).1 ho
  exact h x hx
theorem goodsOf_osS (hn:(os.map O.id).Nodup) (h1:∀ o ∈ os,1≤o.id) (n:Nat):goodsOf (osS os) n=goodsOf os n:=by
 unfold goodsOf
 rw [find_osS hn h1,Option.map_map];rfl
theorem lineOf_osS (hn:(os.map O.id).Nodup) (h1:∀ o ∈ os,1≤o.id) (hk:∀ o ∈ os,(o.lines.map Prod.fst).Nodup) (a b:Nat):lineOf (osS os) a b=lineOf os a b:=by
 unfold lineOf
 rw [find_osS hn h1]
 cases h:os.find? (fun o=>o.id == a) with
 | none=>rfl
 | some o=>exact lookup_prt (hk o (List.mem_of_find?_eq_some h)) b
theorem any_osS (hn:(os.map O.id).Nodup) (h1:∀ o ∈ os,1≤o.id) (n:Nat):(osS os).any (fun o=>o.id == n)=os.any (fun o=>o.id == n):=by
 rw [Bool.eq_iff_iff,List.any_eq_true,List.any_eq_true]
 constructor
 ·rintro ⟨o,ho,e⟩
  obtain ⟨x,hx,rfl⟩:=(osS_mem hn h1).1 ho
  exact ⟨x,hx,e⟩
 ·rintro ⟨o,ho,e⟩
  exact ⟨sOl o,(osS_mem hn h1).2 ⟨o,ho,rfl⟩,e⟩
theorem osS_len (hn:(os.map O.id).Nodup) (h1:∀ o ∈ os,1≤o.id):(osS os).length=os.length:=by rw [(osS_perm hn h1).length_eq,List.length_map]
theorem nLines_osS (hn:(os.map O.id).Nodup) (h1:∀ o ∈ os,1≤o.id) (hk:∀ o ∈ os,(o.lines.map Prod.fst).Nodup):nLines (osS os)=nLines os:=by
 unfold nLines
 rw [((osS_perm hn h1).map (fun o=>o.lines.length)).sum_nat,List.map_map]
 congr 1
 apply List.map_congr_left
 intro o ho
 exact prtS_len' o.lines (nodup_keys (hk o ho))
theorem good_read (h:Good os ls) (h1:∀ o ∈ os,1≤o.id):Good (osS os) (ls.map kap) := {
 ids:=fun i j hi hj e=>by
  rw [List.length_map] at hi hj
  rw [kap_get,kap_get] at e
  exact h.ids i j hi hj e
 place:=fun i hi=>by
  rw [List.length_map] at hi
  rw [kap_get];exact h.place i hi
 oids:=osS_ids h.oids h1
 oid:=fun o ho=>by
  obtain ⟨x,hx,rfl⟩:=(osS_mem h.oids h1).1 ho
  exact h.oid x hx
 olen:=by rw [osS_len h.oids h1];exact h.olen
 keys:=fun o ho=>by
  obtain ⟨x,hx,rfl⟩:=(osS_mem h.oids h1).1 ho
  exact (ris_prtS (h.keys x hx)).imp (fun h e=>by rw [e] at h;exact Nat.lt_irrefl _ h)
 mem:=fun o ho p hp=>by
  obtain ⟨x,hx,rfl⟩:=(osS_mem h.oids h1).1 ho
  have hp':p ∈ x.lines:=((prtS_facts (nodup_keys (h.keys x hx))).2 p).1 hp
  obtain ⟨i,hi,e⟩:=h.mem x hx p hp'
  exact ⟨i,by rw [List.length_map];exact hi,by rw [kap_get];exact e⟩
 held:=fun i hi=>by
  rw [List.length_map] at hi
  rw [kap_get,heldSum_prt h.keys h.oids h1];exact h.held i hi }
theorem good_kap (h:Good os ls):Good os (ls.map kap) := {
 ids:=fun i j hi hj e=>by
  rw [List.length_map] at hi hj
  rw [kap_get,kap_get] at e
  exact h.ids i j hi hj e
 place:=fun i hi=>by
  rw [List.length_map] at hi
  rw [kap_get];exact h.place i hi
 oids:=h.oids
 oid:=h.oid
 olen:=h.olen
 keys:=h.keys
 mem:=fun o ho p hp=>by
  obtain ⟨i,hi,e⟩:=h.mem o ho p hp
  exact ⟨i,by rw [List.length_map];exact hi,by rw [kap_get];exact e⟩
 held:=fun i hi=>by
  rw [List.length_map] at hi
  rw [kap_get];exact h.held i hi }
end
section
variable {os:List O} {rcs:List (Nat × Nat)} {ls:List L} {td:Nat} {w:World} {M:Mx}
theorem Mp.same (h:Mp (osS os) (prtS rcs) w M) (hgo:Good os ls) (h1:∀ o ∈ os,1≤o.id) (hrc:Rc rcs):Mp os rcs w M := {
 r:=by
  obtain ⟨D,k1,k2⟩:=h.r
  obtain ⟨_,q2⟩:=prtS_facts hrc.nodup
  refine ⟨D,k1,⟨by rw [k2.size,prtS_len' rcs hrc.nodup],fun a b ha hb=>?_,fun kl hkl=>?_⟩⟩
  ·rw [k2.has a b ha hb,Bool.eq_iff_iff]
   simp [q2]
  ·obtain ⟨p,hp,e⟩:=k2.keys kl hkl
   exact ⟨p,(q2 p).1 hp,e⟩
 rc:=hrc
 o:=by
  obtain ⟨D,k1,k2⟩:=h.o
  refine ⟨D,k1,⟨by rw [k2.size,osS_len hgo.oids h1],fun n hn=>by rw [k2.has n hn,any_osS hgo.oids h1],fun n hn=>by rw [k2.val n hn,goodsOf_osS hgo.oids h1],fun kl hkl=>?_⟩⟩
  obtain ⟨o,ho,e⟩:=k2.keys kl hkl
  obtain ⟨x,hx,rfl⟩:=(osS_mem hgo.oids h1).1 ho
  exact ⟨x,hx,e⟩
 h:=by
  obtain ⟨D,k1,k2⟩:=h.h
  exact ⟨D,k1,⟨by rw [k2.size,nLines_osS hgo.oids h1 hgo.keys],fun a b ha hb=>by rw [k2.has a b ha hb,lineOf_osS hgo.oids h1 hgo.keys],fun a b ha hb=>by rw [k2.val a b ha hb,lineOf_osS hgo.oids h1 hgo.keys]⟩⟩
 ro:=h.ro
 rh:=h.rh
 oh:=h.oh }
theorem PL.same {lg:List UInt8} {Z:Nat→Prop} {Lb:Nat} (h:PL lg (osS os) (prtS rcs) Z w Lb td ls) (hgo:Good os ls) (h1:∀ o ∈ os,1≤o.id) (hrc:Rc rcs):PL lg os rcs Z w Lb td ls:=by
 obtain ⟨S,Zs,lv,a1,a2,a3,a4,⟨M,v,bs,pvs,hP,hin⟩,a6,a7⟩:=h
 exact ⟨S,Zs,lv,a1,a2,a3,a4,⟨M,v,bs,pvs,⟨hP.store,hP.maps.same hgo h1 hrc,hP.row,hP.len,hP.plen,hP.lot,hP.par,hP.nodup,hP.today,hP.ok,hP.room⟩,hin⟩,a6,a7⟩
theorem Kv.same {lg:List UInt8} {B:Nat} {w0:World} {Z:Nat→Prop} {Lb:Nat} (h:Kv B w0 w Z Lb ⟨td,osS os,prtS rcs,ls,lg⟩) (hgo:Good os ls) (h1:∀ o ∈ os,1≤o.id) (hrc:Rc rcs):Kv B w0 w Z Lb ⟨td,os,rcs,ls,lg⟩ :=
 ⟨h.old,h.size,h.two,h.gl,h.pl.same hgo h1 hrc,h.zin,hgo⟩
end
end Go.Proofs.YtgcedalggnmooabGreatDoor
