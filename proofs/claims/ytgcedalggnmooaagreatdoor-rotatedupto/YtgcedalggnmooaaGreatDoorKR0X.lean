import Derived.Test.YtgcedalggnmooaaGreatDoorKU2
import Derived.Test.YtgcedalggnmooaaGreatDoorHl2X
import Derived.Test.YtgcedalggnmooaaGreatDoorKV
import Derived.Test.YtgcedalggnmooaaGreatDoorKT3X
namespace Go.Proofs.YtgcedalggnmooaaGreatDoor
set_option linter.unusedSimpArgs false
set_option linter.unusedVariables false
set_option maxRecDepth 100000

/-- Can the lot n serve? Of the numbers up to k those that can. -/
def cdP (s : Sv) (kd gt n : Nat) : Bool := decide (idx n s.ls < s.ls.length) && srv (recB s.rcs s.ls) s.td kd gt (lotAt s.ls n)
def cdL (s : Sv) (kd gt k : Nat) : List Nat := ((List.range k).map (· + 1)).filter (cdP s kd gt)
theorem cdL_succ (s : Sv) (kd gt k : Nat) : cdL s kd gt (k + 1) = if cdP s kd gt (k + 1) = true then cdL s kd gt k ++ [k + 1] else cdL s kd gt k := by
  unfold cdL
  rw [List.range_succ, List.map_append, List.filter_append]
  by_cases h : cdP s kd gt (k + 1) = true
  · rw [if_pos h]; simp [h]
  · rw [if_neg h]; simp [h]
theorem cdL_mem {s : Sv} {kd gt k n : Nat} : n ∈ cdL s kd gt k ↔ (1 ≤ n ∧ n ≤ k) ∧ cdP s kd gt n = true := by
  unfold cdL
  rw [List.mem_filter, List.mem_map]
  constructor
  · rintro ⟨⟨i, hi, rfl⟩, h⟩
    rw [List.mem_range] at hi
    exact ⟨by omega, h⟩
  · rintro ⟨⟨h1, h2⟩, h⟩
    exact ⟨⟨n - 1, by rw [List.mem_range]; omega, by omega⟩, h⟩
theorem cdL_nodup (s : Sv) (kd gt k : Nat) : (cdL s kd gt k).Nodup := by
  have h : ((List.range k).map (· + 1)).Nodup := by
    rw [List.nodup_iff_pairwise_ne, List.pairwise_map]
    exact (List.nodup_iff_pairwise_ne.1 List.nodup_range).imp (fun h e => h (by omega))
  exact h.sublist List.filter_sublist
theorem cdL_len (s : Sv) (kd gt k : Nat) : (cdL s kd gt k).length ≤ k := by
  have := List.length_filter_le (cdP s kd gt) ((List.range k).map (· + 1))
  simpa [cdL] using this

/-- The queue's numbers. -/
def qIds (ls : List L) (q : List Nat) : List Nat := q.map (fun i => (ls.getD i L0).id)

theorem cd_perm {s : Sv} (hg : Good s.os s.ls) (h : Sc s) (f : Bool) {kd : Nat} (hk : kd ≤ 3) (gt : Nat) : (cdL s kd gt 13).Perm (qIds s.ls (queue s.rcs f s.td kd gt s.ls)) := by
  refine (List.perm_ext_iff_of_nodup (cdL_nodup _ _ _ _) ?_).2 (fun n => ?_)
  · unfold qIds
    refine nodup_map_inj _ (queue_nodup (rcs := s.rcs) f s.td kd gt s.ls) (fun a ha b hb e => ?_)
    exact hg.ids a b (queue_mem.1 ha).1 (queue_mem.1 hb).1 e
  · rw [cdL_mem]
    unfold qIds
    rw [List.mem_map]
    constructor
    · rintro ⟨hn, hp⟩
      unfold cdP at hp
      simp only [Bool.and_eq_true, decide_eq_true_eq] at hp
      exact ⟨idx n s.ls, queue_mem.2 ⟨hp.1, hp.2⟩, idx_id hp.1⟩
    · rintro ⟨i, hi, rfl⟩
      obtain ⟨h1, h2⟩ := queue_mem.1 hi
      have hx := idx_of hg h1
      have hgd : (s.ls.getD i L0).goods = kd := by
        simp only [srv, Bool.and_eq_true, beq_iff_eq] at h2
        exact h2.1.1.1
      have hid : 1 ≤ (s.ls.getD i L0).id ∧ (s.ls.getD i L0).id ≤ 12 := by
        rcases h.lots i h1 with h | h
        · exact h
        · omega
      refine ⟨by omega, ?_⟩
      unfold cdP lotAt
      rw [hx, h2, Bool.and_true]
      exact decide_eq_true h1

def frN (ls : List L) (n : Nat) : Nat := (lotAt ls n).free
def thN (ls : List L) (ns : List Nat) : Nat := (ns.map (frN ls)).sum
theorem thN_snoc (ls : List L) (ns : List Nat) (n : Nat) : thN ls (ns ++ [n]) = thN ls ns + frN ls n := by simp [thN]
theorem sum_perm {a b : List Nat} (h : a.Perm b) : a.sum = b.sum := by
  induction h with
  | nil => rfl
  | cons x _ ih => simp [ih]
  | swap x y l => simp only [List.sum_cons]; omega
  | trans _ _ h1 h2 => exact h1.trans h2
theorem there_eq {s : Sv} (hg : Good s.os s.ls) (h : Sc s) (f : Bool) {kd : Nat} (hk : kd ≤ 3) (gt : Nat) : thN s.ls (cdL s kd gt 13) = freeOf s.ls (queue s.rcs f s.td kd gt s.ls) := by
  unfold thN
  rw [sum_perm ((cd_perm hg h f hk gt).map (frN s.ls))]
  unfold qIds freeOf
  rw [List.map_map]
  congr 1
  refine List.map_congr_left (fun i hi => ?_)
  show (lotAt s.ls (s.ls.getD i L0).id).free = _
  unfold lotAt
  rw [idx_of hg (queue_mem.1 hi).1]
theorem supply_eq {s : Sv} (hg : Good s.os s.ls) (h : Sc s) {kd : Nat} (hk : kd ≤ 3) (gt : Nat) : supL s.rcs s.td kd gt s.ls = [(cdL s kd gt 13).length, thN s.ls (cdL s kd gt 13)] := by
  unfold supL
  have hp := queue_perm (rcs := s.rcs) false s.td kd gt s.ls
  rw [there_eq hg h false hk gt, (cd_perm hg h false hk gt).length_eq]
  unfold qIds
  rw [List.length_map, hp.length_eq]
  have : freeOf s.ls (queue s.rcs false s.td kd gt s.ls) = freeOf s.ls (srvI s.rcs s.td kd gt s.ls s.ls.length) := sum_perm (hp.map _)
  rw [this]

theorem giveQ_total (ls : List L) : ∀ (q : List Nat) (want : Nat), sumQ (giveQ ls q want) = min want (freeOf ls q)
  | [], want => by simp [giveQ, sumQ, freeOf]
  | c :: r, want => by
    unfold giveQ
    have e : freeOf ls (c :: r) = (ls.getD c L0).free + freeOf ls r := by simp [freeOf]
    by_cases h : want = 0
    · simp [h, sumQ]
    · have := giveQ_total ls r (want - min (ls.getD c L0).free want)
      rw [e]
      simp only [if_neg h, sumQ, List.map_cons, List.sum_cons] at this ⊢
      omega
theorem giveQ_pos (ls : List L) : ∀ (q : List Nat) (want : Nat), (∀ i ∈ q, 0 < (ls.getD i L0).free) → ∀ p ∈ giveQ ls q want, 1 ≤ p.2
  | [], want, _ => by simp [giveQ]
  | c :: r, want, hf => by
    unfold giveQ
    by_cases h : want = 0
    · simp [h]
    · simp only [if_neg h, List.mem_cons]
      rintro p (rfl | hp)
      · have := hf c (by simp)
        show 1 ≤ min _ want
        omega
      · exact giveQ_pos ls r _ (fun i hi => hf i (by simp [hi])) p hp
/-- What goes ahead of one that gave has given all. -/
theorem giveQ_full (ls : List L) (f : Bool) : ∀ (q : List Nat) (want : Nat), q.Nodup → Srt (befI f ls) q → ∀ i j, i ∈ q → j ∈ q → befI f ls i j = true → j ∈ (giveQ ls q want).map Prod.fst → (giveQ ls q want).lookup i = some (ls.getD i L0).free
  | [], want, _, _ => by simp
  | c :: r, want, hn, hs => by
    intro i j hi hj hb hm
    have hn' := List.nodup_cons.1 hn
    have hs' := List.pairwise_cons.1 hs
    unfold giveQ at hm ⊢
    by_cases h : want = 0
    · simp [h] at hm
    · rw [if_neg h] at hm ⊢
      have hjr : j ∈ r := by
        rcases List.mem_cons.1 hj with rfl | hj
        · rcases List.mem_cons.1 hi with rfl | hi
          · rw [befI, bef_irrefl] at hb; cases hb
          · rw [hs'.1 i hi] at hb; cases hb
        · exact hj
      have hjc : j ≠ c := fun e => hn'.1 (e ▸ hjr)
      have hmr : j ∈ (giveQ ls r (want - min (ls.getD c L0).free want)).map Prod.fst := by
        rcases List.mem_cons.1 hm with h | h
        · exact absurd h hjc
        · exact h
      rcases List.mem_cons.1 hi with rfl | hir
      · have hw : want - min (ls.getD i L0).free want ≠ 0 := fun e => by rw [e, giveQ_zero] at hmr; simp at hmr
        rw [List.lookup_cons_self, show min (ls.getD i L0).free want = (ls.getD i L0).free by omega]
      · have hic : (i == c) = false := by rw [beq_eq_false_iff_ne]; exact fun e => hn'.1 (e ▸ hir)
        simp only [List.lookup, hic]
        exact giveQ_full ls f r _ hn'.2 hs'.2 i j hir hjr hb hmr

/-- The lines of the order 77 by numbers. -/
def lnR (s : Sv) (kd c gt y : Nat) : List (Nat × Nat) := linesId s.ls (linesQ s.rcs s.td kd c gt y s.ls)
theorem ahead_eq {s : Sv} {y a b : Nat} : bef (wayF y) (lotAt s.ls a) (lotAt s.ls b) = befI (wayF y) s.ls (idx a s.ls) (idx b s.ls) := rfl

end Go.Proofs.YtgcedalggnmooaaGreatDoor

namespace Go.Proofs.YtgcedalggnmooaaGreatDoor
set_option linter.unusedSimpArgs false
set_option linter.unusedVariables false
set_option maxRecDepth 100000

theorem lookup_mem {b n : Nat} : ∀ {l : List (Nat × Nat)}, l.lookup b = some n → (b, n) ∈ l
  | [], h => by simp at h
  | (x, y) :: l, h => by
    by_cases hb : b = x
    · subst hb; simp [List.lookup] at h; subst h; simp
    · have hx : (b == x) = false := by simpa using hb
      simp only [List.lookup, hx] at h
      exact List.mem_cons_of_mem _ (lookup_mem h)

/-- Sums, one behind the other. -/
def sN (f : Nat → Nat) : Nat → Nat
  | 0 => 0
  | k + 1 => sN f k + f k
theorem sN_shift (f : Nat → Nat) : ∀ k, sN f (k + 1) = f 0 + sN (fun i => f (i + 1)) k
  | 0 => by simp [sN]
  | k + 1 => by
    have := sN_shift f k
    rw [sN, this, sN]; omega
theorem sN_list {α : Type} (f : α → Nat) (d : α) : ∀ l : List α, sN (fun i => f (l.getD i d)) l.length = (l.map f).sum
  | [] => rfl
  | x :: l => by
    rw [List.length_cons, sN_shift, List.map_cons, List.sum_cons, ← sN_list f d l]
    simp
theorem sN_le (f : Nat → Nat) (b : Nat) : ∀ k, (∀ i, i < k → f i ≤ b) → sN f k ≤ k * b
  | 0, _ => by simp [sN]
  | k + 1, h => by
    have := sN_le f b k (fun i hi => h i (by omega))
    have h1 := h k (by omega)
    rw [sN, Nat.add_mul]; omega
theorem sN_mono (f : Nat → Nat) {j k : Nat} (h : j ≤ k) : sN f j ≤ sN f k := by
  induction k with
  | zero => obtain rfl : j = 0 := by omega
            exact Nat.le_refl _
  | succ k ih =>
    by_cases he : j = k + 1
    · subst he; exact Nat.le_refl _
    · have := ih (by omega)
      rw [sN]; omega

/-- A lot's row: number, expiry, place, how many are free. -/
def rowF (ls : List L) (n : Nat) : Nat → Nat
  | 0 => n
  | 1 => (lotAt ls n).expiry
  | 2 => (lotAt ls n).place
  | _ => (lotAt ls n).free
def aheadB (y : Nat) (a b : Nat → Nat) : Bool := if 2 ≤ y then decide (a 2 < b 2) else (decide (a 1 < b 1) || (decide (a 1 = b 1) && decide (a 0 < b 0)))
def gvR (ln : List (Nat × Nat)) (n : Nat) : Nat := (ln.lookup n).getD 0

/-- What 'lined' and 'ordered' look for. -/
structure Lnd (n : Nat) (R : Nat → Nat → Nat) (ln : List (Nat × Nat)) (count y : Nat) : Prop where
  nd : (ln.map Prod.fst).Nodup
  le : ∀ i, i < n → gvR ln (R i 0) ≤ R i 3
  full : ∀ i j, i < n → j < n → aheadB y (R i) (R j) = true → ∀ k, k < ln.length → (ln.getD k (0, 0)).1 = R j 0 → gvR ln (R i 0) = R i 3
  sum : sN (fun i => gvR ln (R i 0)) n = sN (fun k => (ln.getD k (0, 0)).2) ln.length
  pos : ∀ k, k < ln.length → 1 ≤ (ln.getD k (0, 0)).2
  fin : sN (fun i => gvR ln (R i 0)) n = count ∨ (sN (fun i => gvR ln (R i 0)) n = sN (fun i => R i 3) n ∧ sN (fun i => gvR ln (R i 0)) n < count)
  inj : ∀ i j, i < n → j < n → R i 0 = R j 0 → i = j
  mem : ∀ k, k < ln.length → ∃ i, i < n ∧ R i 0 = (ln.getD k (0, 0)).1
  next : ∀ k, k + 1 < ln.length → ∀ i j, i < n → j < n → R i 0 = (ln.getD k (0, 0)).1 → R j 0 = (ln.getD (k + 1) (0, 0)).1 → aheadB y (R i) (R j) = true
  small : n ≤ 13 ∧ ln.length ≤ 30 ∧ (∀ i, i < n → ∀ f, R i f ≤ 2147483647) ∧ (∀ k, k < ln.length → (ln.getD k (0, 0)).1 ≤ 2147483647 ∧ (ln.getD k (0, 0)).2 ≤ 2147483647) ∧ count ≤ 400 ∧ y ≤ 3

theorem aheadB_bef {ls : List L} {y n m : Nat} (hn : (lotAt ls n).id = n) (hm : (lotAt ls m).id = m) : aheadB y (rowF ls n) (rowF ls m) = bef (wayF y) (lotAt ls n) (lotAt ls m) := by
  unfold aheadB bef wayF
  by_cases h : 2 ≤ y
  · simp [h, rowF]
  · simp [h, rowF, hn, hm]

theorem giveQ_sums (ls : List L) : ∀ (q : List Nat) (want : Nat), q.Nodup → (q.map (fun i => ((giveQ ls q want).lookup i).getD 0)).sum = sumQ (giveQ ls q want)
  | [], want, _ => by simp [giveQ, sumQ]
  | c :: r, want, hn => by
    have hn' := List.nodup_cons.1 hn
    unfold giveQ
    by_cases h : want = 0
    · rw [if_pos h]
      have : ∀ l : List Nat, (l.map (fun i => (([] : List (Nat × Nat)).lookup i).getD 0)).sum = 0 := fun l => by
        induction l with
        | nil => rfl
        | cons x l ih => simp only [List.map_cons, List.sum_cons, ih]; rfl
      rw [this]; rfl
    · rw [if_neg h]
      have ih := giveQ_sums ls r (want - min (ls.getD c L0).free want) hn'.2
      have e : r.map (fun i => (((c, min (ls.getD c L0).free want) :: giveQ ls r (want - min (ls.getD c L0).free want)).lookup i).getD 0) = r.map (fun i => ((giveQ ls r (want - min (ls.getD c L0).free want)).lookup i).getD 0) := by
        refine List.map_congr_left (fun i hi => ?_)
        have hic : (i == c) = false := by rw [beq_eq_false_iff_ne]; exact fun e => hn'.1 (e ▸ hi)
        simp only [List.lookup, hic]
      rw [List.map_cons, List.sum_cons, e, ih, List.lookup_cons_self]
      simp [sumQ]

theorem queue_strict {os : List O} {ls : List L} (hg : Good os ls) (rcs : List (Nat × Nat)) (f : Bool) (td kd gt : Nat) : (queue rcs f td kd gt ls).Pairwise (fun i j => befI f ls i j = true) := by
  have hs := queue_srt (rcs := rcs) f td kd gt ls
  have hn := List.nodup_iff_pairwise_ne.1 (queue_nodup (rcs := rcs) f td kd gt ls)
  have hb := hs.and hn
  refine List.Pairwise.imp_of_mem (fun {i j} hi hj h => ?_) hb
  cases hc : befI f ls i j with
  | true => rfl
  | false => exact absurd (befI_anti hg (queue_mem.1 hi).1 (queue_mem.1 hj).1 hc h.1) h.2

theorem lnd_of {B : Nat} {w0 w : World} {Z : Nat → Prop} {Lb : Nat} {s : Sv} (hk : Kv B w0 w Z Lb s) (h : Sc s) {kd : Nat} (hkd : kd ≤ 3) (c gt y : Nat) (hc : c ≤ 400) (hy : y ≤ 3) : Lnd (cdL s kd gt 13).length (fun i => rowF s.ls ((cdL s kd gt 13).getD i 0)) (lnR s kd c gt y) c y := by
  have hg := hk.good
  have hf := linesQ_facts (rcs := s.rcs) s.td kd c gt y s.ls hk.room
  have hperm := cd_perm hg h (wayF y) hkd gt
  have hnq := queue_nodup (rcs := s.rcs) (wayF y) s.td kd gt s.ls
  have hsub := giveQ_sub s.ls (queue s.rcs (wayF y) s.td kd gt s.ls) c
  -- a number of cs: its place
  have hcs : ∀ n, n ∈ cdL s kd gt 13 → idx n s.ls < s.ls.length ∧ idx n s.ls ∈ queue s.rcs (wayF y) s.td kd gt s.ls ∧ (lotAt s.ls n).id = n := fun n hn => by
    have := (cdL_mem.1 hn).2
    unfold cdP at this
    simp only [Bool.and_eq_true, decide_eq_true_eq] at this
    exact ⟨this.1, queue_mem.2 ⟨this.1, this.2⟩, idx_id this.1⟩
  have hget : ∀ i, i < (cdL s kd gt 13).length → (cdL s kd gt 13).getD i 0 ∈ cdL s kd gt 13 := fun i hi => by simp [List.getD_eq_getElem?_getD, hi]
  have hgv : ∀ n, n ∈ cdL s kd gt 13 → gvR (lnR s kd c gt y) n = ((linesQ s.rcs s.td kd c gt y s.ls).lookup (idx n s.ls)).getD 0 := fun n hn => by
    obtain ⟨h1, h2, h3⟩ := hcs n hn
    unfold gvR lnR
    have := linesId_lookup hg.ids (linesQ s.rcs s.td kd c gt y s.ls) hf.2.2.1 (idx n s.ls) h1
    rw [show (s.ls.getD (idx n s.ls) L0).id = n from h3] at this
    rw [this]
  have hln : ∀ k, k < (lnR s kd c gt y).length → ∃ p, p ∈ linesQ s.rcs s.td kd c gt y s.ls ∧ (linesQ s.rcs s.td kd c gt y s.ls)[k]? = some p ∧ (lnR s kd c gt y).getD k (0, 0) = ((s.ls.getD p.1 L0).id, p.2) := fun k hk => by
    have hk' : k < (linesQ s.rcs s.td kd c gt y s.ls).length := by unfold lnR linesId at hk; simpa using hk
    refine ⟨(linesQ s.rcs s.td kd c gt y s.ls)[k], List.getElem_mem hk', List.getElem?_eq_getElem hk', ?_⟩
    unfold lnR linesId
    simp [List.getD_eq_getElem?_getD, hk']
  have hpq : ∀ p ∈ linesQ s.rcs s.td kd c gt y s.ls, p.1 ∈ queue s.rcs (wayF y) s.td kd gt s.ls := fun p hp => hsub.subset (List.mem_map_of_mem (f := Prod.fst) hp)
  have hsum : sN (fun i => gvR (lnR s kd c gt y) (rowF s.ls ((cdL s kd gt 13).getD i 0) 0)) (cdL s kd gt 13).length = sumQ (linesQ s.rcs s.td kd c gt y s.ls) := by
    have e1 := sN_list (gvR (lnR s kd c gt y)) 0 (cdL s kd gt 13)
    show sN (fun i => gvR (lnR s kd c gt y) ((cdL s kd gt 13).getD i 0)) _ = _
    rw [e1, List.map_congr_left (fun n hn => hgv n hn)]
    have e2 := sum_perm (hperm.map (fun n => ((linesQ s.rcs s.td kd c gt y s.ls).lookup (idx n s.ls)).getD 0))
    rw [e2]
    unfold qIds
    rw [List.map_map]
    rw [show (queue s.rcs (wayF y) s.td kd gt s.ls).map ((fun n => ((linesQ s.rcs s.td kd c gt y s.ls).lookup (idx n s.ls)).getD 0) ∘ fun i => (s.ls.getD i L0).id) = (queue s.rcs (wayF y) s.td kd gt s.ls).map (fun i => ((linesQ s.rcs s.td kd c gt y s.ls).lookup i).getD 0) from List.map_congr_left (fun i hi => by
      show ((linesQ s.rcs s.td kd c gt y s.ls).lookup (idx (s.ls.getD i L0).id s.ls)).getD 0 = _
      rw [idx_of hg (queue_mem.1 hi).1])]
    exact giveQ_sums s.ls _ c hnq
  have htold : sN (fun k => ((lnR s kd c gt y).getD k (0, 0)).2) (lnR s kd c gt y).length = sumQ (linesQ s.rcs s.td kd c gt y s.ls) := by
    have e1 := sN_list Prod.snd (0, 0) (lnR s kd c gt y)
    rw [e1]
    unfold lnR linesId sumQ
    rw [List.map_map]; rfl
  have hthere : sN (fun i => rowF s.ls ((cdL s kd gt 13).getD i 0) 3) (cdL s kd gt 13).length = freeOf s.ls (queue s.rcs (wayF y) s.td kd gt s.ls) := by
    have e1 := sN_list (frN s.ls) 0 (cdL s kd gt 13)
    rw [← there_eq hg h (wayF y) hkd gt]
    exact e1
  have htot := giveQ_total s.ls (queue s.rcs (wayF y) s.td kd gt s.ls) c
  have htot' : sumQ (linesQ s.rcs s.td kd c gt y s.ls) = min c (freeOf s.ls (queue s.rcs (wayF y) s.td kd gt s.ls)) := htot
  have hnd : ((lnR s kd c gt y).map Prod.fst).Nodup := by
    have e : (lnR s kd c gt y).map Prod.fst = ((linesQ s.rcs s.td kd c gt y s.ls).map Prod.fst).map (fun i => (s.ls.getD i L0).id) := by unfold lnR linesId; rw [List.map_map, List.map_map]; rfl
    rw [e]
    refine nodup_map_inj _ hf.2.1 (fun a ha b hb he => ?_)
    obtain ⟨p, hp, rfl⟩ := List.mem_map.1 ha
    obtain ⟨r, hr, rfl⟩ := List.mem_map.1 hb
    exact hg.ids _ _ (hf.2.2.1 p hp) (hf.2.2.1 r hr) he
  refine ⟨hnd, fun i hi => ?_, fun i j hi hj ha k hk' he => ?_, by rw [hsum, htold], fun k hk' => ?_, ?_, fun i j hi hj he => ?_, fun k hk' => ?_, fun k hk' i j hi hj h1 h2 => ?_, ⟨cdL_len s kd gt 13, ?_, fun i hi f => ?_, fun k hk' => ?_, hc, hy⟩⟩
  · -- le
    show gvR _ ((cdL s kd gt 13).getD i 0) ≤ (lotAt s.ls ((cdL s kd gt 13).getD i 0)).free
    rw [hgv _ (hget i hi)]
    cases hl : (linesQ s.rcs s.td kd c gt y s.ls).lookup (idx ((cdL s kd gt 13).getD i 0) s.ls) with
    | none => simp
    | some m =>
      have hm := lookup_mem hl
      have := hf.2.2.2.1 _ hm
      exact this
  · -- full
    show gvR _ ((cdL s kd gt 13).getD i 0) = (lotAt s.ls ((cdL s kd gt 13).getD i 0)).free
    obtain ⟨i1, i2, i3⟩ := hcs _ (hget i hi)
    obtain ⟨j1, j2, j3⟩ := hcs _ (hget j hj)
    rw [aheadB_bef i3 j3] at ha
    obtain ⟨p, hp, _, hpe⟩ := hln k hk'
    rw [hpe] at he
    have hpj : p.1 = idx ((cdL s kd gt 13).getD j 0) s.ls := by
      have h1 := idx_of hg (hf.2.2.1 p hp)
      rw [show (s.ls.getD p.1 L0).id = (cdL s kd gt 13).getD j 0 from he] at h1
      exact h1.symm
    rw [hgv _ (hget i hi)]
    have := giveQ_full s.ls (wayF y) (queue s.rcs (wayF y) s.td kd gt s.ls) c hnq (queue_srt (rcs := s.rcs) (wayF y) s.td kd gt s.ls) _ _ i2 j2 ha (by rw [← hpj]; exact List.mem_map_of_mem (f := Prod.fst) hp)
    rw [show linesQ s.rcs s.td kd c gt y s.ls = giveQ s.ls (queue s.rcs (wayF y) s.td kd gt s.ls) c from rfl, this]; rfl
  · -- pos
    obtain ⟨p, hp, _, hpe⟩ := hln k hk'
    rw [hpe]
    refine giveQ_pos s.ls (queue s.rcs (wayF y) s.td kd gt s.ls) c (fun i hi => ?_) p hp
    have := (queue_mem.1 hi).2
    simp only [srv, Bool.and_eq_true, decide_eq_true_eq] at this
    exact this.1.2
  · -- fin
    rw [hsum, hthere, htot']
    omega
  · -- inj
    exact (List.getElem?_inj (by simpa using hi) (cdL_nodup s kd gt 13)).1 (by
      have e : (cdL s kd gt 13).getD i 0 = (cdL s kd gt 13).getD j 0 := he
      simp only [List.getD_eq_getElem?_getD, List.getElem?_eq_getElem hi, List.getElem?_eq_getElem hj, Option.getD_some] at e ⊢
      rw [e])
  · -- mem
    obtain ⟨p, hp, _, hpe⟩ := hln k hk'
    rw [hpe]
    have hm : (s.ls.getD p.1 L0).id ∈ cdL s kd gt 13 := by
      rw [hperm.mem_iff]
      unfold qIds
      exact List.mem_map.2 ⟨p.1, hpq p hp, rfl⟩
    obtain ⟨i, hi, he⟩ := List.getElem_of_mem hm
    exact ⟨i, hi, by show (cdL s kd gt 13).getD i 0 = _; simp [List.getD_eq_getElem?_getD, hi, he]⟩
  · -- next
    obtain ⟨p, hp, hpk, hpe⟩ := hln k (by omega)
    obtain ⟨r, hr, hrk, hre⟩ := hln (k + 1) hk'
    rw [hpe] at h1
    rw [hre] at h2
    have e1 : (cdL s kd gt 13).getD i 0 = (s.ls.getD p.1 L0).id := h1
    have e2 : (cdL s kd gt 13).getD j 0 = (s.ls.getD r.1 L0).id := h2
    obtain ⟨_, _, i3⟩ := hcs _ (hget i hi)
    obtain ⟨_, _, j3⟩ := hcs _ (hget j hj)
    show aheadB y (rowF s.ls ((cdL s kd gt 13).getD i 0)) (rowF s.ls ((cdL s kd gt 13).getD j 0)) = true
    rw [aheadB_bef i3 j3, e1, e2]
    have hst := (queue_strict hg s.rcs (wayF y) s.td kd gt).sublist hsub
    rw [List.pairwise_map, List.pairwise_iff_getElem] at hst
    have hkl : k + 1 < (linesQ s.rcs s.td kd c gt y s.ls).length := by
      rcases Nat.lt_or_ge (k + 1) (linesQ s.rcs s.td kd c gt y s.ls).length with h | h
      · exact h
      · rw [List.getElem?_eq_none h] at hrk; cases hrk
    have hb := hst k (k + 1) (show k < (giveQ s.ls _ c).length from Nat.lt_of_succ_lt hkl) hkl (by omega)
    have ep : (linesQ s.rcs s.td kd c gt y s.ls)[k] = p := by rw [List.getElem?_eq_getElem (by omega)] at hpk; exact Option.some.inj hpk
    have er : (linesQ s.rcs s.td kd c gt y s.ls)[k + 1] = r := by rw [List.getElem?_eq_getElem hkl] at hrk; exact Option.some.inj hrk
    have hb' : befI (wayF y) s.ls (linesQ s.rcs s.td kd c gt y s.ls)[k].1 (linesQ s.rcs s.td kd c gt y s.ls)[k + 1].1 = true := hb
    rw [ep, er] at hb'
    show bef (wayF y) (s.ls.getD (idx (s.ls.getD p.1 L0).id s.ls) L0) (s.ls.getD (idx (s.ls.getD r.1 L0).id s.ls) L0) = true
    rw [idx_of hg (hf.2.2.1 p hp), idx_of hg (hf.2.2.1 r hr)]
    exact hb'
  · unfold lnR linesId; rw [List.length_map]; exact hf.1
  · show rowF s.ls ((cdL s kd gt 13).getD i 0) f ≤ _
    obtain ⟨i1, _, i3⟩ := hcs _ (hget i hi)
    have hok := hk.ok _ (mem_getD i1)
    have hs := hok.sum
    have hb := (cdL_mem.1 (hget i hi)).1
    match f with
    | 0 => show (cdL s kd gt 13).getD i 0 ≤ _; omega
    | 1 => exact hok.expiry
    | 2 => exact Nat.le_trans hok.place (by omega)
    | f + 3 => show (s.ls.getD (idx ((cdL s kd gt 13).getD i 0) s.ls) L0).free ≤ _; omega
  · obtain ⟨p, hp, _, hpe⟩ := hln k hk'
    rw [hpe]
    have hok := hk.ok _ (mem_getD (hf.2.2.1 p hp))
    have hs := hok.sum
    have := hf.2.2.2.1 p hp
    exact ⟨hok.id, by show p.2 ≤ _; omega⟩

end Go.Proofs.YtgcedalggnmooaaGreatDoor

namespace Go.Proofs.YtgcedalggnmooaaGreatDoor
set_option linter.unusedSimpArgs false
set_option linter.unusedVariables false
open Go.RowKit
set_option maxRecDepth 100000

/-- A row of four numbers. -/
def Q4 (w : World) (b : Nat) (r : Nat → Nat) : Prop := b < w.heap.size ∧ ∀ f, f < 4 → w.cell? ⟨b, f, none⟩ = some (.int .i64 (r f : Int))
theorem Q4.below {w w' : World} {b : Nat} {r : Nat → Nat} (h : Q4 w b r) (hb : Below w.heap.size w w') : Q4 w' b r := ⟨Nat.lt_of_lt_of_le h.1 hb.size, fun f hf => (hb.cell (p := ⟨b, f, none⟩) h.1).trans (h.2 f hf)⟩

set_option maxHeartbeats 1600000 in
theorem ahead_any (a b ca cb : Nat) (x z : Nat → Nat) (y : Nat) (hy : y ≤ 3) (w : World) (ha : Q4 w a x) (hb : Q4 w b z) (hx : ∀ f, x f ≤ 2147483647) (hz : ∀ f, z f ≤ 2147483647) :
    Calls Tryz.prog 48 #[.slice (some ⟨a, 0, none⟩) 4 ca, .slice (some ⟨b, 0, none⟩) 4 cb, .int .i64 (y : Int)] w fun e w' => e = .returned (.bool (aheadB y x z)) ∧ ∃ m, w' = w.drewN m := by
  have a0 := ha.2 0 (by omega)
  have a1 := ha.2 1 (by omega)
  have a2 := ha.2 2 (by omega)
  have b0 := hb.2 0 (by omega)
  have b1 := hb.2 1 (by omega)
  have b2 := hb.2 2 (by omega)
  have x0 := hx 0
  have x1 := hx 1
  have x2 := hx 2
  have z0 := hz 0
  have z1 := hz 1
  have z2 := hz 2
  by_cases h2 : 2 ≤ y
  · have HE : Hid (aheadB y x z = decide (x 2 < z 2)) := by unfold Hid aheadB; rw [if_pos h2]
    rw [HE.out]
    generalize x 2 = p2 at *
    generalize z 2 = q2 at *
    clear ha hb hx hz a0 a1 b0 b1
    go_enter Tryz.func48, Tryz.ntmps48
    have HD : Hid (decide ((p2 : Int) < (q2 : Int)) = decide (p2 < q2)) := by unfold Hid; rw [decide_eq_decide]; omega
    go_wp2_with fail
    go_quiet (fail)
    go_wp2_with fail
    go_ret
    exact ⟨by first | rfl | (rw [HD.out]) | (simp [HD.out]), nq, rfl⟩
  · have HE : Hid (aheadB y x z = (decide (x 1 < z 1) || (decide (x 1 = z 1) && decide (x 0 < z 0)))) := by unfold Hid aheadB; rw [if_neg h2]
    rw [HE.out]
    generalize x 1 = p1 at *
    generalize z 1 = q1 at *
    generalize x 0 = p0 at *
    generalize z 0 = q0 at *
    clear ha hb hx hz a2 b2
    by_cases h1 : p1 < q1
    · have g1 : decide ((p1 : Int) < (q1 : Int)) = true := decide_eq_true (by omega)
      have HR : Hid ((decide (p1 < q1) || (decide (p1 = q1) && decide (p0 < q0))) = true) := by unfold Hid; simp [h1]
      rw [HR.out]
      go_enter Tryz.func48, Tryz.ntmps48
      go_wp2_with fail
      go_quiet (fail)
      go_wp2_with fail
      go_ret
      exact ⟨rfl, nq, rfl⟩
    · by_cases h3 : p1 = q1
      · have g1 : decide ((p1 : Int) < (q1 : Int)) = false := decide_eq_false (by omega)
        subst h3
        by_cases h4 : p0 < q0
        · have g3 : decide ((p0 : Int) < (q0 : Int)) = true := decide_eq_true (by omega)
          have HR : Hid ((decide (p1 < p1) || (decide (p1 = p1) && decide (p0 < q0))) = true) := by unfold Hid; simp [h4]
          rw [HR.out]
          go_enter Tryz.func48, Tryz.ntmps48
          go_wp2_with fail
          go_quiet (fail)
          go_wp2_with fail
          go_ret
          exact ⟨rfl, nq, rfl⟩
        · have g3 : decide ((p0 : Int) < (q0 : Int)) = false := decide_eq_false (by omega)
          have HR : Hid ((decide (p1 < p1) || (decide (p1 = p1) && decide (p0 < q0))) = false) := by unfold Hid; simp [h4]
          rw [HR.out]
          go_enter Tryz.func48, Tryz.ntmps48
          go_wp2_with fail
          go_quiet (fail)
          go_wp2_with fail
          go_ret
          exact ⟨rfl, nq, rfl⟩
      · have g1 : decide ((p1 : Int) < (q1 : Int)) = false := decide_eq_false (by omega)
        have g2 : ((p1 : Int) == (q1 : Int)) = false := by rw [beq_eq_false_iff_ne]; omega
        have HR : Hid ((decide (p1 < q1) || (decide (p1 = q1) && decide (p0 < q0))) = false) := by unfold Hid; simp [h1, h3]
        rw [HR.out]
        go_enter Tryz.func48, Tryz.ntmps48
        go_wp2_with fail
        go_quiet (fail)
        go_wp2_with fail
        go_ret
        exact ⟨rfl, nq, rfl⟩

end Go.Proofs.YtgcedalggnmooaaGreatDoor

namespace Go.Proofs.YtgcedalggnmooaaGreatDoor
set_option linter.unusedSimpArgs false
set_option linter.unusedVariables false
open Go.RowKit
set_option maxRecDepth 100000

/-- Rows of four, in a row. -/
structure Cw (w : World) (G : Nat) (bs : Nat → Nat) (n : Nat) (R : Nat → Nat → Nat) : Prop where
  lt : G < w.heap.size
  row : ∀ i, i < n → w.cell? ⟨G, i, none⟩ = some (.slice (some ⟨bs i, 0, none⟩) 4 4)
  q4 : ∀ i, i < n → Q4 w (bs i) (R i)
theorem Cw.below {w w' : World} {G : Nat} {bs : Nat → Nat} {n : Nat} {R : Nat → Nat → Nat} (h : Cw w G bs n R) (hb : Below w.heap.size w w') : Cw w' G bs n R :=
  ⟨Nat.lt_of_lt_of_le h.lt hb.size, fun i hi => (hb.cell (p := ⟨G, i, none⟩) h.lt).trans (h.row i hi), fun i hi => (h.q4 i hi).below hb⟩
/-- Lines, from the second cell of a row on. -/
structure Lc (w : World) (q : Nat) (ln : List (Nat × Nat)) : Prop where
  lt : q < w.heap.size
  cell : ∀ k, k < ln.length → w.cell? ⟨q, 1 + 2 * k, none⟩ = some (.int .i64 ((ln.getD k (0, 0)).1 : Int)) ∧ w.cell? ⟨q, 1 + (2 * k + 1), none⟩ = some (.int .i64 ((ln.getD k (0, 0)).2 : Int))
theorem Lc.below {w w' : World} {q : Nat} {ln : List (Nat × Nat)} (h : Lc w q ln) (hb : Below w.heap.size w w') : Lc w' q ln :=
  ⟨Nat.lt_of_lt_of_le h.lt hb.size, fun k hk => ⟨(hb.cell (p := ⟨q, 1 + 2 * k, none⟩) h.lt).trans (h.cell k hk).1, (hb.cell (p := ⟨q, 1 + (2 * k + 1), none⟩) h.lt).trans (h.cell k hk).2⟩⟩

theorem gv_take {ln : List (Nat × Nat)} (hn : (ln.map Prod.fst).Nodup) (x : Nat) {k : Nat} (hk : k < ln.length) : gvR (ln.take (k + 1)) x = if (ln.getD k (0, 0)).1 = x then (ln.getD k (0, 0)).2 else gvR (ln.take k) x := by
  have hgk : ln.getD k (0, 0) = ln[k] := by simp [List.getD_eq_getElem?_getD, hk]
  have e : ln.take (k + 1) = ln.take k ++ [ln[k]] := List.take_succ_eq_append_getElem hk
  unfold gvR
  rw [e, lookup_snoc, hgk]
  by_cases h : ln[k].1 = x
  · have hnone : (ln.take k).lookup x = none := by
      rw [lookup_none_iff]
      intro hm
      have hn2 : ((ln.take k ++ [ln[k]]).map Prod.fst).Nodup := by rw [← e]; exact hn.sublist ((List.take_sublist _ _).map _)
      rw [List.map_append, List.nodup_append] at hn2
      exact hn2.2.2 x hm ln[k].1 (by simp) h.symm
    rw [hnone, if_pos h.symm, if_pos h]; rfl
  · rw [if_neg (fun e => h e.symm), if_neg h, Option.or_none]

set_option maxHeartbeats 6400000 in
theorem lined_any (G q gc lc n : Nat) (bs : Nat → Nat) (R : Nat → Nat → Nat) (ln : List (Nat × Nat)) (count y : Nat) (h : Lnd n R ln count y) (w : World) (hc : Cw w G bs n R) (hl : Lc w q ln) (m2 : Nat) (hm2 : m2 = 2 * ln.length) :
    Calls Tryz.prog 30 #[.slice (some ⟨G, 0, none⟩) n gc, .slice (some ⟨q, 1, none⟩) m2 lc, .int .i64 (count : Int), .int .i64 (y : Int)] w fun e w' => e = .returned (.bool true) ∧ Below w.heap.size w w' := by
  have HH := hide h
  have HC := hide hc
  have HL := hide hl
  obtain ⟨s1, s2, s3, s4, s5, s6⟩ := h.small
  have HM := hide hm2
  have hm2b : m2 ≤ 60 := by omega
  have HS3 := hide s3
  have HS4 := hide s4
  have HG : Hid (∀ i, i < n → gvR ln (R i 0) ≤ 2147483647) := fun i hi => Nat.le_trans (h.le i hi) (s3 i hi 3)
  have HAH : Hid (∀ i j, i < n → j < n → ∀ wx, Below w.heap.size w wx → Calls Tryz.prog 48 #[.slice (some ⟨bs i, 0, none⟩) 4 4, .slice (some ⟨bs j, 0, none⟩) 4 4, .int .i64 (y : Int)] wx fun e w' => e = .returned (.bool (aheadB y (R i) (R j))) ∧ ∃ m, w' = wx.drewN m) := fun i j hi hj wx hb => ahead_any (bs i) (bs j) 4 4 (R i) (R j) y s6 wx ((hc.q4 i hi).below hb) ((hc.q4 j hj).below hb) (s3 i hi) (s3 j hj)
  clear h hc hl hm2 s3 s4
  go_enter Tryz.func30, Tryz.ntmps30
  go_wp2_with fail
  go_loopw [9, 10, 11, 12, 13, 14, 15, 16] (fun sv tv ii _ _ _ _ _ wr => ∃ i : Nat, sv = .int .i64 (sN (fun i => gvR ln (R i 0)) i : Int) ∧ tv = .int .i64 (sN (fun i => R i 3) i : Int) ∧ ii = .int .i64 (i : Int) ∧ i ≤ n ∧ Below w.heap.size w wr) (fun _ _ ii _ _ _ _ _ _ => n - (intOf ii).toNat)
  case atStart => exact ⟨0, rfl, rfl, rfl, by omega, Below.refl _ _⟩
  case round =>
    obtain ⟨i, rfl, rfl, rfl, hi, hb⟩ := hrel
    have hsb : sN (fun i => gvR ln (R i 0)) i ≤ 13 * 2147483647 := Nat.le_trans (sN_le _ 2147483647 i (fun j hj => HG.out j (by omega))) (Nat.mul_le_mul_right _ (by omega))
    have htb : sN (fun i => R i 3) i ≤ 13 * 2147483647 := Nat.le_trans (sN_le _ 2147483647 i (fun j hj => HS3.out j (by omega) 3)) (Nat.mul_le_mul_right _ (by omega))
    by_cases hlt : i < n
    · have hcw := HC.out.below hb
      have k1 := hcw.row i hlt
      have k3 := (hcw.q4 i hlt).2 3 (by omega)
      have hr3 := HS3.out i hlt 3
      have hr0 := HS3.out i hlt 0
      have HSU : Hid (sN (fun i => gvR ln (R i 0)) (i + 1) = sN (fun i => gvR ln (R i 0)) i + gvR ln (R i 0)) := rfl
      have HTU : Hid (sN (fun i => R i 3) (i + 1) = sN (fun i => R i 3) i + R i 3) := rfl
      have hgb := HG.out i hlt
      have HLE := hide (HH.out.le i hlt)
      have HBW := hide hb
      generalize hS : sN (fun i => gvR ln (R i 0)) i = S at *
      generalize hT : sN (fun i => R i 3) i = T at *
      clear hb hcw hS hT
      have HHN := hide HH.out.nd
      have HGI := hide (HG.out i hlt)
      have HFU := hide (HH.out.full i)
      have hmb : ∀ k, k < ln.length → (ln.getD k (0, 0)).1 ≤ 2147483647 ∧ (ln.getD k (0, 0)).2 ≤ 2147483647 := HS4.out
      have HMB := hide hmb
      clear hmb
      go_wp2_with fail
      go_loopw [12, 13] (fun gv kk wr => ∃ (k κ : Nat), gv = .int .i64 (gvR (ln.take k) (R i 0) : Int) ∧ kk = .int .i64 (κ : Int) ∧ κ = 2 * k ∧ k ≤ ln.length ∧ Below w.heap.size w wr) (fun _ kk _ => m2 + 2 - (intOf kk).toNat)
      case atStart => exact ⟨0, 0, by simp [gvR], rfl, rfl, by omega, HBW.out⟩
      case round =>
        obtain ⟨k, κ, rfl, rfl, hκ, hk, hb⟩ := hrel
        have HKA := hide hκ
        by_cases hlt2 : k < ln.length
        · have hκm : κ + 1 < m2 := by have := HM.out; omega
          have hl := HL.out.below hb
          have l1 := (hl.cell k hlt2).1
          have l2 := (hl.cell k hlt2).2
          rw [← hκ] at l1 l2
          have hcw := HC.out.below hb
          have k1' := hcw.row i hlt
          have k0' := (hcw.q4 i hlt).2 0 (by omega)
          have HGT := hide (gv_take HHN.out (R i 0) hlt2)
          have hb1 := (HMB.out k hlt2).1
          have hb2 := (HMB.out k hlt2).2
          generalize hp : ln.getD k (0, 0) = p at *
          obtain ⟨p1, p2⟩ := p
          simp only at l1 l2 HGT hb1 hb2
          have HB := hide hb
          generalize gvR (ln.take k) (R i 0) = gk at *
          by_cases he : p1 = R i 0
          · rw [if_pos he] at HGT
            have heq : ((p1 : Int) == (R i 0 : Int)) = true := by rw [beq_iff_eq]; omega
            clear hb hl hcw hκ hp k1 k3
            go_wp2_with fail
            go_quiet (fail)
            go_wp2_with fail
            go_roundw
            case rel => exact ⟨k + 1, κ + 2, by rw [HGT.out], by go_num, by have := HKA.out; omega, by omega, below_drewN HB.out nq⟩
            case measure => simp [intOf]; omega
          · rw [if_neg he] at HGT
            have heq : ((p1 : Int) == (R i 0 : Int)) = false := by rw [beq_eq_false_iff_ne]; omega
            clear hb hl hcw hκ hp k1 k3
            go_wp2_with fail
            go_quiet (fail)
            go_wp2_with fail
            go_roundw
            case rel => exact ⟨k + 1, κ + 2, by rw [HGT.out], by go_num, by have := HKA.out; omega, by omega, below_drewN HB.out nq⟩
            case measure => simp [intOf]; omega
        · obtain rfl : k = ln.length := by omega
          have hκm : ¬ κ + 1 < m2 := by have := HM.out; omega
          have hκb : κ ≤ 60 := by have := HM.out; omega
          rw [List.take_length]
          have hcw := HC.out.below hb
          have k1' := hcw.row i hlt
          have k3' := (hcw.q4 i hlt).2 3 (by omega)
          have hle := HLE.out
          have HB := hide hb
          obtain ⟨gg, hgg⟩ : ∃ gg, gg = gvR ln (R i 0) := ⟨_, rfl⟩
          rw [← hgg] at hle hgb ⊢
          have HGG := hide hgg
          clear hb hcw hκ hlt2 hgg k1 k3 hk
          go_wp2_with fail
          go_loopw [14, 15, 16] (fun jj _ _ wr => ∃ (j : Nat), jj = .int .i64 (j : Int) ∧ j ≤ n ∧ Below w.heap.size w wr) (fun jj _ _ _ => n - (intOf jj).toNat)
          case atStart => exact ⟨0, rfl, by omega, HB.out⟩
          case round =>
            obtain ⟨j, rfl, hj, hb⟩ := hrel
            by_cases hlt3 : j < n
            · have HA := hide (HAH.out i j hlt hlt3)
              have hcw := HC.out.below hb
              have k1j := hcw.row i hlt
              have k2j := hcw.row j hlt3
              have HB2 := hide hb
              clear hb hcw k1' k3'
              go_wp2_with fail
              go_quiet (first | (go_at_call 48; exact Calls.quiet_of (HA.out _ (below_drewN HB2.out _))))
              have HB3 := hide (below_drewN HB2.out nq)
              obtain ⟨wz, HWZ⟩ : ∃ wz, Hid (wz = wr.drewN nq) := ⟨_, rfl⟩
              rw [← HWZ.out] at HB3 ⊢
              clear HWZ k1j k2j HA HB2
              obtain ⟨ab, hab⟩ : ∃ ab, ab = aheadB y (R i) (R j) := ⟨_, rfl⟩
              rw [← hab]
              have HAB := hide hab
              clear hab
              go_wp2_with fail
              go_loopw [16] (fun kk wr => ∃ (k κ : Nat), kk = .int .i64 (κ : Int) ∧ κ = 2 * k ∧ k ≤ ln.length ∧ Below w.heap.size w wr) (fun kk _ => m2 + 2 - (intOf kk).toNat)
              case atStart => exact ⟨0, 0, rfl, rfl, by omega, HB3.out⟩
              case round =>
                clear HB3
                obtain ⟨k, κ', rfl, hκ, hk, hb⟩ := hrel
                have HKB := hide hκ
                by_cases hlt4 : k < ln.length
                · have hκm' : κ' + 1 < m2 := by have := HM.out; omega
                  have hl := HL.out.below hb
                  have l1 := (hl.cell k hlt4).1
                  rw [← hκ] at l1
                  have hcw := HC.out.below hb
                  have k1i := hcw.row i hlt
                  have k3i := (hcw.q4 i hlt).2 3 (by omega)
                  have k1j := hcw.row j hlt3
                  have k0j := (hcw.q4 j hlt3).2 0 (by omega)
                  have hb1 := (HMB.out k hlt4).1
                  have hrj := HS3.out j hlt3 0
                  have HFK : Hid (ab = true → (ln.getD k (0, 0)).1 = R j 0 → gg = R i 3) := fun h1 h2 => by rw [HGG.out]; exact HH.out.full i j hlt hlt3 (by rw [← HAB.out]; exact h1) k hlt4 h2
                  generalize (ln.getD k (0, 0)).1 = p1 at *
                  have HB := hide hb
                  clear hb hl hcw hκ
                  cases ab with
                  | false =>
                    go_wp2_with fail
                    go_quiet (fail)
                    go_wp2_with fail
                    go_roundw
                    case rel => exact ⟨k + 1, κ' + 2, by go_num, by have := HKB.out; omega, by omega, below_drewN HB.out nq⟩
                    case measure => simp [intOf]; omega
                  | true =>
                    by_cases he : p1 = R j 0
                    · have heq : ((p1 : Int) == (R j 0 : Int)) = true := by rw [beq_iff_eq]; omega
                      have hgq : ((gg : Int) != (R i 3 : Int)) = false := by
                        have := HFK.out rfl he
                        rw [bne_eq_false_iff_eq]; omega
                      clear HFK
                      go_wp2_with fail
                      go_quiet (fail)
                      go_wp2_with fail
                      go_roundw
                      case rel => exact ⟨k + 1, κ' + 2, by go_num, by have := HKB.out; omega, by omega, below_drewN HB.out nq⟩
                      case measure => simp [intOf]; omega
                    · have heq : ((p1 : Int) == (R j 0 : Int)) = false := by rw [beq_eq_false_iff_ne]; omega
                      clear HFK
                      go_wp2_with fail
                      go_quiet (fail)
                      go_wp2_with fail
                      go_roundw
                      case rel => exact ⟨k + 1, κ' + 2, by go_num, by have := HKB.out; omega, by omega, below_drewN HB.out nq⟩
                      case measure => simp [intOf]; omega
                · have hκm' : ¬ κ' + 1 < m2 := by have := HM.out; omega
                  have hκb' : κ' ≤ 60 := by have := HM.out; omega
                  have HB := hide hb
                  clear hb hκ hlt4
                  go_wp2_with fail
                  go_roundw
                  case rel => exact ⟨j + 1, by go_num, by omega, HB.out⟩
                  case measure => simp [intOf]; omega
            · obtain rfl : j = n := by omega
              have HB2 := hide hb
              clear hb hlt3 k1' k3'
              go_wp2_with fail
              go_roundw
              case rel => exact ⟨i + 1, by rw [HSU.out, ← HGG.out]; go_num, by rw [HTU.out]; go_num, by go_num, by omega, HB2.out⟩
              case measure => simp [intOf]; omega
    · obtain rfl : i = n := by omega
      have HB := hide hb
      clear hb hlt
      have HSM := hide HH.out.sum
      have HPO := hide HH.out.pos
      have HFI := hide HH.out.fin
      generalize sN (fun i => gvR ln (R i 0)) i = S at *
      generalize sN (fun j => R j 3) i = T at *
      go_wp2_with fail
      go_loopw [17, 18] (fun tv kk wr => ∃ (k κ : Nat), tv = .int .i64 (sN (fun k => (ln.getD k (0, 0)).2) k : Int) ∧ kk = .int .i64 (κ : Int) ∧ κ = 2 * k ∧ k ≤ ln.length ∧ Below w.heap.size w wr) (fun _ kk _ => m2 + 2 - (intOf kk).toNat)
      case atStart => exact ⟨0, 0, rfl, rfl, rfl, by omega, HB.out⟩
      case round =>
        clear HB
        obtain ⟨k, κ, rfl, rfl, hκ, hk, hb⟩ := hrel
        have HKA := hide hκ
        have htb2 : sN (fun k => (ln.getD k (0, 0)).2) k ≤ 30 * 2147483647 := Nat.le_trans (sN_le _ 2147483647 k (fun j hj => (HS4.out j (by omega)).2)) (Nat.mul_le_mul_right _ (by omega))
        by_cases hlt2 : k < ln.length
        · have hκm : κ + 1 < m2 := by have := HM.out; omega
          have l2 := ((HL.out.below hb).cell k hlt2).2
          rw [← hκ] at l2
          have hb2 := (HS4.out k hlt2).2
          have hpo := HPO.out k hlt2
          have HSU : Hid (sN (fun k => (ln.getD k (0, 0)).2) (k + 1) = sN (fun k => (ln.getD k (0, 0)).2) k + (ln.getD k (0, 0)).2) := rfl
          generalize sN (fun k => (ln.getD k (0, 0)).2) k = U at *
          generalize (ln.getD k (0, 0)).2 = p2 at *
          have hd1 : decide ((p2 : Int) < 1) = false := decide_eq_false (by omega)
          have HB := hide hb
          clear hb hκ
          go_wp2_with fail
          go_roundw
          case rel => exact ⟨k + 1, κ + 2, by rw [HSU.out]; go_num, by go_num, by have := HKA.out; omega, by omega, HB.out⟩
          case measure => simp [intOf]; omega
        · obtain rfl : k = ln.length := by omega
          have hκm : ¬ κ + 1 < m2 := by have := HM.out; omega
          have hκb : κ ≤ 60 := by have := HM.out; omega
          rw [← HSM.out] at htb2 ⊢
          have HB := hide hb
          clear hb hκ hlt2
          rcases HFI.out with hf | ⟨hf1, hf2⟩
          · have e1 : ((S : Int) == (count : Int)) = true := by rw [beq_iff_eq]; omega
            go_wp2_with fail
            go_ret
            exact ⟨rfl, HB.out⟩
          · have e1 : ((S : Int) == (count : Int)) = false := by rw [beq_eq_false_iff_ne]; omega
            have e2 : ((S : Int) == (T : Int)) = true := by rw [beq_iff_eq]; omega
            have e3 : decide ((S : Int) < (count : Int)) = true := decide_eq_true (by omega)
            go_wp2_with fail
            go_ret
            refine ⟨?_, HB.out⟩
            have hf3 : T < count := by omega
            show Ending.returned (.bool (((T : Int) == (count : Int)) || decide (T < count))) = .returned (.bool true)
            rw [decide_eq_true hf3, Bool.or_true]

end Go.Proofs.YtgcedalggnmooaaGreatDoor

namespace Go.Proofs.YtgcedalggnmooaaGreatDoor
set_option linter.unusedSimpArgs false
set_option linter.unusedVariables false
open Go.RowKit
set_option maxRecDepth 100000

set_option maxHeartbeats 6400000 in
theorem ordered_any (G q gc lc n : Nat) (bs : Nat → Nat) (R : Nat → Nat → Nat) (ln : List (Nat × Nat)) (count y : Nat) (h : Lnd n R ln count y) (w : World) (hc : Cw w G bs n R) (hl : Lc w q ln) (m2 : Nat) (hm2 : m2 = 2 * ln.length) :
    Calls Tryz.prog 31 #[.slice (some ⟨G, 0, none⟩) n gc, .slice (some ⟨q, 1, none⟩) m2 lc, .int .i64 (y : Int)] w fun e w' => e = .returned (.bool true) ∧ Below w.heap.size w w' := by
  have HH := hide h
  have HC := hide hc
  have HL := hide hl
  obtain ⟨s1, s2, s3, s4, s5, s6⟩ := h.small
  have HM := hide hm2
  have hm2b : m2 ≤ 60 := by omega
  have HS3 := hide s3
  have HS4 := hide s4
  have HAH : Hid (∀ i j, i < n → j < n → ∀ wx, Below w.heap.size w wx → Calls Tryz.prog 48 #[.slice (some ⟨bs i, 0, none⟩) 4 4, .slice (some ⟨bs j, 0, none⟩) 4 4, .int .i64 (y : Int)] wx fun e w' => e = .returned (.bool (aheadB y (R i) (R j))) ∧ ∃ m, w' = wx.drewN m) := fun i j hi hj wx hb => ahead_any (bs i) (bs j) 4 4 (R i) (R j) y s6 wx ((hc.q4 i hi).below hb) ((hc.q4 j hj).below hb) (s3 i hi) (s3 j hj)
  clear h hc hl hm2 s3 s4
  go_enter Tryz.func31, Tryz.ntmps31
  go_wp2_with fail
  go_loopw [7, 8, 9, 10, 11] (fun lv kk _ _ _ wr => ∃ (k κ : Nat), kk = .int .i64 (κ : Int) ∧ κ = 2 * k ∧ k ≤ ln.length ∧ Below w.heap.size w wr ∧ ((k = 0 ∧ lv = .int .i64 (-1)) ∨ (∃ i, i < n ∧ 1 ≤ k ∧ R i 0 = (ln.getD (k - 1) (0, 0)).1 ∧ lv = .int .i64 (i : Int)))) (fun _ kk _ _ _ _ => m2 + 2 - (intOf kk).toNat)
  case atStart => exact ⟨0, 0, rfl, rfl, by omega, Below.refl _ _, Or.inl ⟨rfl, rfl⟩⟩
  case round =>
    obtain ⟨k, κ, rfl, hκ, hk, hb, hlast⟩ := hrel
    have HKA := hide hκ
    by_cases hlt : k < ln.length
    · have hκm : κ + 1 < m2 := by have := HM.out; omega
      have HME := hide (HH.out.mem k hlt)
      have HLK : Hid (∀ wx, Below w.heap.size w wx → wx.cell? ⟨q, 1 + κ, none⟩ = some (.int .i64 ((ln.getD k (0, 0)).1 : Int))) := fun wx hbx => by rw [hκ]; exact ((HL.out.below hbx).cell k hlt).1
      have hb1 := (HS4.out k hlt).1
      have HNX : Hid (∀ i j, i < n → j < n → 1 ≤ k → R i 0 = (ln.getD (k - 1) (0, 0)).1 → R j 0 = (ln.getD k (0, 0)).1 → aheadB y (R i) (R j) = true) := fun i j hi hj hk1 h1 h2 => HH.out.next (k - 1) (by omega) i j hi hj h1 (by rw [show k - 1 + 1 = k by omega]; exact h2)
      have HLV : Hid ((k = 0 ∧ u7 = .int .i64 (-1)) ∨ (∃ i, i < n ∧ 1 ≤ k ∧ R i 0 = (ln.getD (k - 1) (0, 0)).1 ∧ u7 = .int .i64 (i : Int))) := hlast
      obtain ⟨p1, hp1⟩ : ∃ p1, p1 = (ln.getD k (0, 0)).1 := ⟨_, rfl⟩
      rw [← hp1] at HME HLK hb1 HNX
      have HP1 := hide hp1
      have HB := hide hb
      clear hb hκ hp1 hlast
      go_wp2_with fail
      go_loopw [9, 10] (fun av ii wr => ∃ i : Nat, ii = .int .i64 (i : Int) ∧ i ≤ n ∧ Below w.heap.size w wr ∧ ((∃ j, j < i ∧ R j 0 = p1 ∧ av = .int .i64 (j : Int)) ∨ ((∀ j, j < i → R j 0 ≠ p1) ∧ av = .int .i64 (-1)))) (fun _ ii _ => n - (intOf ii).toNat)
      case atStart => exact ⟨0, rfl, by omega, HB.out, Or.inr ⟨fun j hj => by omega, rfl⟩⟩
      case round =>
        clear HB
        obtain ⟨i, rfl, hi, hb, hat⟩ := hrel
        by_cases hlt2 : i < n
        · have hcw := HC.out.below hb
          have k1 := hcw.row i hlt2
          have k0 := (hcw.q4 i hlt2).2 0 (by omega)
          have lk := HLK.out wr hb
          have hr0 := HS3.out i hlt2 0
          have HB := hide hb
          have HAT : Hid ((∃ j, j < i ∧ R j 0 = p1 ∧ u9 = .int .i64 (j : Int)) ∨ ((∀ j, j < i → R j 0 ≠ p1) ∧ u9 = .int .i64 (-1))) := hat
          clear hb hcw hat
          by_cases he : R i 0 = p1
          · have heq : ((R i 0 : Int) == (p1 : Int)) = true := by rw [beq_iff_eq]; omega
            have HE := hide he
            clear he
            go_wp2_with fail
            go_quiet (fail)
            go_wp2_with fail
            go_roundw
            case rel => exact ⟨i + 1, by go_num, by omega, below_drewN HB.out nq, Or.inl ⟨i, by omega, HE.out, rfl⟩⟩
            case measure => simp [intOf]; omega
          · have heq : ((R i 0 : Int) == (p1 : Int)) = false := by rw [beq_eq_false_iff_ne]; omega
            have HE := hide he
            clear he
            go_wp2_with fail
            go_quiet (fail)
            go_wp2_with fail
            go_roundw
            case rel => exact ⟨i + 1, by go_num, by omega, below_drewN HB.out nq, HAT.out.elim (fun ⟨j, h1, h2, h3⟩ => Or.inl ⟨j, by omega, h2, h3⟩) (fun ⟨h1, h2⟩ => Or.inr ⟨fun j hj => by
              by_cases hji : j = i
              · subst hji; exact HE.out
              · exact h1 j (by omega), h2⟩)⟩
            case measure => simp [intOf]; omega
        · obtain rfl : i = n := by omega
          obtain ⟨t, ht, hte, rfl⟩ : ∃ t, t < i ∧ R t 0 = p1 ∧ u9 = .int .i64 (t : Int) := by
            rcases hat with h | ⟨h, _⟩
            · exact h
            · obtain ⟨j, hj, he⟩ := HME.out
              exact absurd he (h j hj)
          have HTE := hide hte
          have HB := hide hb
          have HAP : Hid (i ≤ i) := Nat.le_refl _
          clear hb hat hlt2 hte
          rcases HLV.out with ⟨hk0, rfl⟩ | ⟨z, hz, hk1, hze, rfl⟩
          · subst hk0
            go_wp2_with fail
            go_roundw
            case rel => exact ⟨1, κ + 2, by go_num, by have := HKA.out; omega, by omega, HB.out, Or.inr ⟨t, ht, by omega, by rw [HTE.out, HP1.out], rfl⟩⟩
            case measure => simp [intOf]; omega
          · have HA := hide (HAH.out z t hz ht)
            rw [HNX.out z t hz ht hk1 hze HTE.out] at HA
            have hcw := HC.out.below HB.out
            have kz := hcw.row z hz
            have kt := hcw.row t ht
            clear hcw hze
            go_wp2_with fail
            go_quiet (first | (go_at_call 48; exact Calls.quiet_of (HA.out _ (below_drewN HB.out _))))
            go_wp2_with fail
            go_roundw
            case rel => exact ⟨k + 1, κ + 2, by go_num, by have := HKA.out; omega, by omega, below_drewN HB.out nq, Or.inr ⟨t, ht, by omega, by rw [HTE.out, HP1.out]; rfl, rfl⟩⟩
            case measure => simp [intOf]; omega
    · obtain rfl : k = ln.length := by omega
      have hκm : ¬ κ + 1 < m2 := by have := HM.out; omega
      have hκb : κ ≤ 60 := by have := HM.out; omega
      have HB := hide hb
      clear hb hκ hlt hlast
      go_wp2_with fail
      go_ret
      exact ⟨rfl, HB.out⟩

end Go.Proofs.YtgcedalggnmooaaGreatDoor

namespace Go.Proofs.YtgcedalggnmooaaGreatDoor
set_option linter.unusedSimpArgs false
set_option linter.unusedVariables false
open Go.RowKit
set_option maxRecDepth 100000

theorem Kv.td {B : Nat} {w0 w : World} {Z : Nat → Prop} {Lb : Nat} {s : Sv} (h : Kv B w0 w Z Lb s) : s.td ≤ 2147483647 := by
  obtain ⟨S, Zs, lv, _, _, _, _, ⟨M, v, bs, pvs, hP, _⟩, _⟩ := h.pl
  exact hP.today

/-- A row of rows of four, apart from the larder. -/
def sl4 (b : Nat) : Value := .slice (some ⟨b, 0, none⟩) 4 4
structure Fr (B : Nat) (w : World) (Z : Nat → Prop) (v : Value) (bs : List Nat) (R : Nat → Nat → Nat) : Prop where
  own : w.ownsRow B 55 1 v bs.length (bs.map sl4)
  oz : ∀ g, v.ownBlock = some g → ¬ Z g
  q4 : ∀ i, i < bs.length → Q4 w (bs.getD i 0) (R i)
  bz : ∀ i, i < bs.length → ¬ Z (bs.getD i 0)
  ne : ∀ i, i < bs.length → v.ownBlock ≠ some (bs.getD i 0)
theorem Fr.nil (B : Nat) (w : World) (Z : Nat → Prop) (R : Nat → Nat → Nat) : Fr B w Z (.slice none 0 0) [] R :=
  ⟨World.ownsRow_nil _ _ _ _, fun g hg => by simp [Value.ownBlock] at hg, fun i hi => absurd hi (by simp), fun i hi => absurd hi (by simp), fun i hi => absurd hi (by simp)⟩
theorem Q4.kn {w w' : World} {Z Z' : Nat → Prop} {b : Nat} {r : Nat → Nat} (h : Q4 w b r) (hz : ¬ Z b) (hn : Kn Z w Z' w') : Q4 w' b r :=
  ⟨Nat.lt_of_lt_of_le h.1 hn.size, fun f hf => (World.cell?_of_block (a := ⟨b, f, none⟩) (hn.keep b h.1 hz).1).trans (h.2 f hf)⟩
theorem Fr.kn {B : Nat} {w w' : World} {Z Z' : Nat → Prop} {v : Value} {bs : List Nat} {R : Nat → Nat → Nat} (h : Fr B w Z v bs R) (hn : Kn Z w Z' w') : Fr B w' Z' v bs R :=
  ⟨(hn.own h.own h.oz).1, (hn.own h.own h.oz).2, fun i hi => (h.q4 i hi).kn (h.bz i hi) hn, fun i hi => (hn.keep _ (h.q4 i hi).1 (h.bz i hi)).2, h.ne⟩
theorem Fr.congr {B : Nat} {w : World} {Z : Nat → Prop} {v : Value} {bs : List Nat} {R R' : Nat → Nat → Nat} (h : Fr B w Z v bs R) (e : ∀ i, i < bs.length → R i = R' i) : Fr B w Z v bs R' :=
  ⟨h.own, h.oz, fun i hi => e i hi ▸ h.q4 i hi, h.bz, h.ne⟩
/-- One row more. -/
theorem Fr.app {B : Nat} {w0 w w2 : World} {Z : Nat → Prop} {Lb : Nat} {s : Sv} {v v' : Value} {bs : List Nat} {R R' : Nat → Nat → Nat} {b : Nat} (h : Fr B w Z v bs R) (hk : Kv B w0 w Z Lb s) (hown : w2.ownsRow B 55 1 v' (bs.length + 1) (bs.map sl4 ++ [sl4 b])) (hg : w.grownBy w2 v.ownBlock) (hat : v'.ownBlock = v.ownBlock ∨ v'.ownBlock = some w.heap.size) (hb : Q4 w b (R' bs.length)) (hbz : ¬ Z b) (hbn : v.ownBlock ≠ some b) (e : ∀ i, i < bs.length → R i = R' i) :
    Fr B w2 Z v' (bs ++ [b]) R' ∧ Kv B w0 w2 Z Lb s := by
  have hq : ∀ c r, Q4 w c r → v.ownBlock ≠ some c → Q4 w2 c r := fun c r hc hn => ⟨Nat.lt_of_lt_of_le hc.1 hg.size, fun f hf => (World.cell?_of_block (a := ⟨c, f, none⟩) (hg.block c hc.1 (fun e => hn e.symm))).trans (hc.2 f hf)⟩
  have hnew : ∀ c r, Q4 w c r → v.ownBlock ≠ some c → v'.ownBlock ≠ some c := fun c r hc hn e => by
    rcases hat with h1 | h1
    · exact hn (h1.symm.trans e)
    · rw [h1] at e
      have := hc.1
      simp at e; omega
  have hlt : ∀ i, i < bs.length → (bs ++ [b]).getD i 0 = bs.getD i 0 := fun i hi => by simp [List.getD_eq_getElem?_getD, List.getElem?_append_left hi]
  have heq : (bs ++ [b]).getD bs.length 0 = b := by simp [List.getD_eq_getElem?_getD]
  have hall : ∀ i, i < (bs ++ [b]).length → Q4 w ((bs ++ [b]).getD i 0) (R' i) ∧ ¬ Z ((bs ++ [b]).getD i 0) ∧ v.ownBlock ≠ some ((bs ++ [b]).getD i 0) := fun i hi => by
    rw [List.length_append, List.length_singleton] at hi
    by_cases hl : i < bs.length
    · rw [hlt i hl, ← e i hl]; exact ⟨h.q4 i hl, h.bz i hl, h.ne i hl⟩
    · obtain rfl : i = bs.length := by omega
      rw [heq]; exact ⟨hb, hbz, hbn⟩
  refine ⟨⟨?_, ?_, fun i hi => hq _ _ (hall i hi).1 (hall i hi).2.2, fun i hi => (hall i hi).2.1, fun i hi => hnew _ _ (hall i hi).1 (hall i hi).2.2⟩, hk.grown hg (fun k e => ⟨h.oz k e, (h.own.lt k e).1⟩)⟩
  · rw [List.length_append, List.length_singleton, List.map_append]; exact hown
  · intro g e hz
    rcases hat with h1 | h1
    · exact h.oz g (h1.symm.trans e) hz
    · have := (hk.zin g hz).2
      rw [h1] at e; simp at e; omega
/-- As 'lined' and 'ordered' want it. -/
theorem Fr.cw {B : Nat} {w : World} {Z : Nat → Prop} {g cap : Nat} {bs : List Nat} {R : Nat → Nat → Nat} (h : Fr B w Z (.slice (some ⟨g, 0, none⟩) bs.length cap) bs R) : Cw w g (fun i => bs.getD i 0) bs.length R :=
  ⟨(h.own.lt g rfl).2, fun i hi => by rw [h.own.cellAt i (by omega)]; simp [List.getD_eq_getElem?_getD, hi, sl4], h.q4⟩

/-- Day: the reply and the day; other commands leave the day. -/
theorem td_day {s : Sv} {p : Nat × List Nat} {d : Nat} (h : p = (1, [d])) : (repV s (.ok p) = [0] ∧ (stepV s (.ok p)).td = d) ∨ (repV s (.ok p) ≠ [0] ∧ (stepV s (.ok p)).td = s.td) := by
  subst h
  have e1 : repV s (.ok (1, [d])) = (stepS s.rcs s.td s.ls (.ok (1, [d]))).1 := rfl
  have e2 : (stepV s (.ok (1, [d]))).td = (stepS s.rcs s.td s.ls (.ok (1, [d]))).2.1 := rfl
  rw [e1, e2]
  simp only [stepS]
  split
  · exact Or.inr ⟨by show ([3] : List UInt8) ≠ [0]; decide, rfl⟩
  · exact Or.inl ⟨rfl, rfl⟩
theorem sp_1 {k a b c d : Int} (h : (sp k a b c d).1 = 1) : sp k a b c d = (1, [pk a 40]) := by
  unfold sp at h ⊢
  split at h <;> first | rfl | (simp at h; done)
theorem td_same {s : Sv} {k a b c d : Int} (h : (sp k a b c d).1 ≠ 1) : (stepV s (.ok (sp k a b c d))).td = s.td := by
  unfold sp at h ⊢
  split at h <;> first | rfl | (exact absurd rfl h) | (show (stepS s.rcs s.td s.ls (.ok (11, [1 + pk a 12]))).2.1 = s.td; simp only [stepS]; split <;> rfl)

/-- The order 77 with a gate. -/
def eG (s : Sv) (g c gt y : Nat) : Nat := askC s.rcs s.os s.td s.ls 77 g c gt y
def tG (s : Sv) (g c gt y : Nat) : List Nat := if eG s g c gt y = 0 then toldQ s.ls (linesQ s.rcs s.td g c gt y s.ls) else []
def sG (s : Sv) (g c gt y : Nat) : Sv := stepV s (.ok (5, [77, g, c, gt, y]))
theorem ordG (s : Sv) (g c gt y : Nat) : repV s (.ok (5, [77, g, c, gt, y])) = UInt8.ofNat (eG s g c gt y) :: Pl.toldB (tG s g c gt y) := by
  have e1 : repV s (.ok (5, [77, g, c, gt, y])) = askR s.rcs s.os s.td s.ls 77 g c gt y := rfl
  rw [e1]
  unfold tG eG askR
  by_cases h0 : askC s.rcs s.os s.td s.ls 77 g c gt y = 0
  · rw [if_pos h0, if_pos h0, h0]; rfl
  · rw [if_neg h0, if_neg h0]; rfl
theorem os_len {s : Sv} (hg : Good s.os s.ls) (h : Sc s) : s.os.length ≤ 5 := by
  have := nodup_len 5 (s.os.map O.id) hg.oids (fun x hx => by
    obtain ⟨o, ho, rfl⟩ := List.mem_map.1 hx
    have := h.os o ho
    omega)
  simpa using this
theorem eG_eq {s : Sv} (hg : Good s.os s.ls) (h : Sc s) {kd : Nat} (hkd : kd ≤ 3) (c gt y : Nat) (hc : 1 ≤ c) : eG s kd c gt y = if thN s.ls (cdL s kd gt 13) = 0 ∨ (thN s.ls (cdL s kd gt 13) < c ∧ wayW y = true) then 7 else 0 := by
  have hl := os_len hg h
  have ht : sumQ (linesQ s.rcs s.td kd c gt y s.ls) = min c (thN s.ls (cdL s kd gt 13)) := by
    rw [there_eq hg h (wayF y) hkd gt]; exact giveQ_total s.ls _ c
  unfold eG askC
  rw [any77 h.os, if_neg (by simp), if_neg (by omega), ht]
  generalize thN s.ls (cdL s kd gt 13) = T
  have : (min c T = 0 ∨ (min c T < c ∧ wayW y = true)) ↔ (T = 0 ∨ (T < c ∧ wayW y = true)) := by
    cases wayW y with
    | true => simp only [and_true]; omega
    | false => simp only [Bool.false_eq_true, and_false, or_false]; omega
  by_cases hq : T = 0 ∨ (T < c ∧ wayW y = true)
  · rw [if_pos hq, if_pos (this.2 hq)]
  · rw [if_neg hq, if_neg (fun h => hq (this.1 h))]
theorem tG_told {s : Sv} {g c gt y : Nat} (h0 : eG s g c gt y = 0) : tG s g c gt y = (lnR s g c gt y).length :: (lnR s g c gt y).flatMap (fun p => [p.1, p.2]) := by
  unfold tG lnR
  rw [if_pos h0]
  unfold toldQ linesId
  rw [List.length_map]
  congr 1
  generalize linesQ s.rcs s.td g c gt y s.ls = q
  induction q with
  | nil => rfl
  | cons p r ih => rw [List.map_cons, List.flatMap_cons, ← ih]; rfl
theorem tG_small {B : Nat} {w0 w : World} {Z : Nat → Prop} {Lb : Nat} {s : Sv} (hk : Kv B w0 w Z Lb s) (g c gt y : Nat) : (∀ n ∈ tG s g c gt y, n < 9223372036854775808) ∧ (tG s g c gt y).length ≤ 61 := by
  unfold tG
  split
  · exact toldQ_small hk.ok hk.room s.td g c gt y
  · simp
theorem flR_len (l : List (Nat × Nat)) : (l.flatMap (fun p => [p.1, p.2])).length = 2 * l.length := by
  induction l with
  | nil => rfl
  | cons p r ih => rw [List.flatMap_cons, List.length_append, ih]; simp; omega
theorem flR_at : ∀ (l : List (Nat × Nat)) (k : Nat), k < l.length → (l.flatMap (fun p => [p.1, p.2])).getD (2 * k) 0 = (l.getD k (0, 0)).1 ∧ (l.flatMap (fun p => [p.1, p.2])).getD (2 * k + 1) 0 = (l.getD k (0, 0)).2
  | [], k, h => absurd h (by simp)
  | p :: r, 0, _ => ⟨rfl, rfl⟩
  | p :: r, k + 1, h => by
    have := flR_at r k (by simpa using h)
    rw [show 2 * (k + 1) = 2 * k + 1 + 1 by omega, List.flatMap_cons]
    simpa using this
/-- The lines as they lie behind the first number. -/
theorem lc_of {w : World} {base q qc : Nat} {ln : List (Nat × Nat)} (h : w.ownsRow base 3 1 (.slice (some ⟨q, 0, none⟩) (ln.length :: ln.flatMap (fun p => [p.1, p.2])).length qc) (ln.length :: ln.flatMap (fun p => [p.1, p.2])).length (I (ln.length :: ln.flatMap (fun p => [p.1, p.2])))) : Lc w q ln :=
  ⟨(h.lt q rfl).2, fun k hk => by
    have hl := flR_len ln
    obtain ⟨f1, f2⟩ := flR_at ln k hk
    have c1 := ownInts_cell h (1 + 2 * k) (by rw [List.length_cons]; omega)
    have c2 := ownInts_cell h (1 + (2 * k + 1)) (by rw [List.length_cons]; omega)
    rw [show 1 + 2 * k = 2 * k + 1 by omega, List.getD_cons_succ, f1] at c1
    rw [show 1 + (2 * k + 1) = 2 * k + 1 + 1 by omega, List.getD_cons_succ, f2] at c2
    rw [show 1 + 2 * k = 2 * k + 1 by omega, show 1 + (2 * k + 1) = 2 * k + 1 + 1 by omega]
    exact ⟨c1, c2⟩⟩

end Go.Proofs.YtgcedalggnmooaaGreatDoor

namespace Go.Proofs.YtgcedalggnmooaaGreatDoor
set_option linter.unusedSimpArgs false
set_option linter.unusedVariables false
open Go.RowKit
set_option maxRecDepth 100000

theorem tUIntss : Tryz.prog.underlying 61 = some (.slice 55) := by kernel_rfl
theorem infoIntsK : (Tryz.prog.info? 55).map (fun i => (i.zero, i.size, i.bytes)) = some (some (.slice none 0 0), 1, 24) := by kernel_rfl

theorem gsn_lt {l : List Nat} {i n : Nat} (hi : i < l.length) : (l ++ [n]).getD i 0 = l.getD i 0 := by simp [List.getD_eq_getElem?_getD, List.getElem?_append_left hi]
theorem gsn_eq (l : List Nat) (n : Nat) : (l ++ [n]).getD l.length 0 = n := by simp [List.getD_eq_getElem?_getD]

/-- What stands behind k lots. -/
structure Fs (B : Nat) (w0 : World) (Lb : Nat) (s : Sv) (kd gt k : Nat) (v : Value) (bs : List Nat) (w : World) (Z : Nat → Prop) : Prop where
  kv : Kv B w0 w Z Lb s
  fr : Fr B w Z v bs (fun i => rowF s.ls ((cdL s kd gt k).getD i 0))
  len : bs.length = (cdL s kd gt k).length
theorem Fs.kn {B : Nat} {w0 : World} {Lb : Nat} {s : Sv} {kd gt k : Nat} {v : Value} {bs : List Nat} {w w' : World} {Z Z' : Nat → Prop} (h : Fs B w0 Lb s kd gt k v bs w Z) (hk : Kv B w0 w' Z' Lb s) (hn : Kn Z w Z' w') : Fs B w0 Lb s kd gt k v bs w' Z' := ⟨hk, h.fr.kn hn, h.len⟩
theorem Fs.skip {B : Nat} {w0 : World} {Lb : Nat} {s : Sv} {kd gt k : Nat} {v : Value} {bs : List Nat} {w : World} {Z : Nat → Prop} (h : Fs B w0 Lb s kd gt k v bs w Z) (hc : cdP s kd gt (k + 1) = false) : Fs B w0 Lb s kd gt (k + 1) v bs w Z := by
  have e : cdL s kd gt (k + 1) = cdL s kd gt k := by rw [cdL_succ, if_neg (by rw [hc]; simp)]
  exact ⟨h.kv, by rw [e]; exact h.fr, by rw [e]; exact h.len⟩
theorem Fs.take {B : Nat} {w0 : World} {Lb : Nat} {s : Sv} {kd gt k : Nat} {v v' : Value} {bs : List Nat} {w w2 : World} {Z : Nat → Prop} {b : Nat} (h : Fs B w0 Lb s kd gt k v bs w Z) (hc : cdP s kd gt (k + 1) = true) (hown : w2.ownsRow B 55 1 v' (bs.length + 1) (bs.map sl4 ++ [sl4 b])) (hg : w.grownBy w2 v.ownBlock) (hat : v'.ownBlock = v.ownBlock ∨ v'.ownBlock = some w.heap.size) (hb : Q4 w b (rowF s.ls (k + 1))) (hbz : ¬ Z b) (hbn : v.ownBlock ≠ some b) : Fs B w0 Lb s kd gt (k + 1) v' (bs ++ [b]) w2 Z := by
  have e : cdL s kd gt (k + 1) = cdL s kd gt k ++ [k + 1] := by rw [cdL_succ, if_pos hc]
  have hl := h.len
  obtain ⟨h1, h2⟩ := h.fr.app (R' := fun i => rowF s.ls ((cdL s kd gt (k + 1)).getD i 0)) h.kv hown hg hat (by rw [e, hl, gsn_eq]; exact hb) hbz hbn (fun i hi => by show rowF s.ls _ = rowF s.ls _; rw [e, gsn_lt (by omega)])
  exact ⟨h2, h1, by rw [e, List.length_append, List.length_append, hl]; rfl⟩
theorem Fs.small {B : Nat} {w0 : World} {Lb : Nat} {s : Sv} {kd gt k : Nat} {v : Value} {bs : List Nat} {w : World} {Z : Nat → Prop} (h : Fs B w0 Lb s kd gt k v bs w Z) : bs.length ≤ k := by have := cdL_len s kd gt k; have := h.len; omega

theorem Fs.take2 {B : Nat} {w0 : World} {Lb : Nat} {s : Sv} {kd gt k : Nat} {oa : Option Addr} {oc : Nat} {bs : List Nat} {w2 w5 : World} {Z : Nat → Prop} {l : L} {g5 cap5 : Nat} (h : Fs B w0 Lb s kd gt k (.slice oa bs.length oc) bs w2 Z) (hc : cdP s kd gt (k + 1) = true)
    (hr : ∀ f, rowF s.ls (k + 1) f = match f with | 0 => k + 1 | 1 => l.expiry | 2 => l.place | _ => l.free)
    (hown : w5.ownsRow B 55 1 (.slice (some ⟨g5, 0, none⟩) (bs.length + 1) cap5) (bs.length + 1) (bs.map sl4 ++ [sl4 w2.heap.size]))
    (hg : (((w2.alloc (.cells #[.int .i64 ((k : Int) + 1), .int .i64 (l.expiry : Int), .int .i64 (l.place : Int), .int .i64 (l.free : Int)] 3)).alloc (.cells #[.slice (some ⟨w2.heap.size, 0, none⟩) 4 4] 55))).drew.grownBy w5 (Value.slice oa bs.length oc).ownBlock) (hat : (Value.slice oa bs.length oc).ownBlock = some g5 ∨ g5 = w2.heap.size + 2) : Fs B w0 Lb s kd gt (k + 1) (.slice (some ⟨g5, 0, none⟩) (bs.length + 1) cap5) (bs ++ [w2.heap.size]) w5 Z := by
  have hb : Below w2.heap.size w2 (((w2.alloc (.cells #[.int .i64 ((k : Int) + 1), .int .i64 (l.expiry : Int), .int .i64 (l.place : Int), .int .i64 (l.free : Int)] 3)).alloc (.cells #[.slice (some ⟨w2.heap.size, 0, none⟩) 4 4] 55))).drew := ((al1 w2 _).alloc (by simp) _).drew
  have hs : (((w2.alloc (.cells #[.int .i64 ((k : Int) + 1), .int .i64 (l.expiry : Int), .int .i64 (l.place : Int), .int .i64 (l.free : Int)] 3)).alloc (.cells #[.slice (some ⟨w2.heap.size, 0, none⟩) 4 4] 55))).drew.heap.size = w2.heap.size + 2 := by simp
  have hk : (((w2.alloc (.cells #[.int .i64 ((k : Int) + 1), .int .i64 (l.expiry : Int), .int .i64 (l.place : Int), .int .i64 (l.free : Int)] 3)).alloc (.cells #[.slice (some ⟨w2.heap.size, 0, none⟩) 4 4] 55))).drew.heap[w2.heap.size]? = some (.cells #[.int .i64 ((k : Int) + 1), .int .i64 (l.expiry : Int), .int .i64 (l.place : Int), .int .i64 (l.free : Int)] 3 (0, 0)) := by
    exact (Below.heap_alloc _ _ _ (by simp)).trans (heap_alloc_new w2 _)
  have hz : ¬ Z w2.heap.size := fun hz => by have := (h.kv.zin _ hz).2; omega
  have hn : (Value.slice oa bs.length oc).ownBlock ≠ some w2.heap.size := fun e => by have := (h.fr.own.lt _ e).2; omega
  refine (h.kn (h.kv.below hb) (Kn.below hb)).take hc hown hg ?_ ?_ hz hn
  · rcases hat with h1 | h1
    · exact Or.inl h1.symm
    · exact Or.inr (by rw [h1, hs]; rfl)
  · refine ⟨by rw [hs]; omega, fun f hf => ?_⟩
    rw [blk_cell hk, hr f]
    rcases (show f = 0 ∨ f = 1 ∨ f = 2 ∨ f = 3 by omega) with rfl | rfl | rfl | rfl <;> rfl

set_option maxHeartbeats 6400000 in
theorem free_any {B : Nat} {w0 w : World} {Z : Nat → Prop} {Lb : Nat} {s : Sv} (h : Kv B w0 w Z Lb s) (td kd gt : Nat) (htd : td = s.td) (hkd : kd ≤ 3) (hgt : gt ≤ 9) :
    Calls Tryz.prog 29 #[.pointer (some ⟨Lb, 0, none⟩), .int .i64 (td : Int), .int .i64 (kd : Int), .int .i64 (gt : Int)] w fun e w' => ∃ Z' v bs, e = .returned v ∧ Fs B w0 Lb s kd gt 13 v bs w' Z' := by
  obtain ⟨i0, hi, hz0, hz1, hz2⟩ := info_parts infoIntsK
  have htb := h.td
  rw [← htd] at htb
  have HTD := hide htd
  have HINI : Hid (Fs B w0 Lb s kd gt 0 (.slice none 0 0) [] w Z) := ⟨h, Fr.nil _ _ _ _, rfl⟩
  clear h htd
  go_enter Tryz.func29, Tryz.ntmps29
  go_wp2_with fail
  go_loopw [9, 10, 11, 12] (fun ov ii _ _ wr => ∃ (k : Nat) (Z' : Nat → Prop) (bs : List Nat), ii = .int .i64 ((k + 1 : Nat) : Int) ∧ k ≤ 13 ∧ Fs B w0 Lb s kd gt k ov bs wr Z') (fun _ ii _ _ _ => 14 - (intOf ii).toNat)
  case atStart => exact ⟨0, Z, [], rfl, by omega, HINI.out⟩
  case round =>
    clear HINI
    obtain ⟨k, Z1, bs, rfl, hk, hfs⟩ := hrel
    by_cases hlt : k < 13
    · by_cases he : lookE s (k + 1) = 0
      · have hix : idx (k + 1) s.ls < s.ls.length := by
          unfold lookE at he
          by_cases hi : idx (k + 1) s.ls < s.ls.length
          · exact hi
          · rw [if_neg hi] at he; omega
        have hln : lookN s (k + 1) = lookL (recB s.rcs s.ls) (lotAt s.ls (k + 1)) := by unfold lookN; rw [if_pos hix]; rfl
        have hok := hfs.kv.ok _ (mem_getD hix)
        have hlid : (lotAt s.ls (k + 1)).id = k + 1 := idx_id hix
        have HCD : Hid (cdP s kd gt (k + 1) = srv (recB s.rcs s.ls) s.td kd gt (lotAt s.ls (k + 1))) := by unfold Hid cdP; rw [decide_eq_true hix, Bool.true_and]
        have HRO : Hid (∀ f, rowF s.ls (k + 1) f = match f with | 0 => k + 1 | 1 => (lotAt s.ls (k + 1)).expiry | 2 => (lotAt s.ls (k + 1)).place | _ => (lotAt s.ls (k + 1)).free) := fun f => by
          match f with
          | 0 => rfl
          | 1 => rfl
          | 2 => rfl
          | f + 3 => rfl
        have hok' : L.Ok (lotAt s.ls (k + 1)) := hok
        have HSM := hide hfs.small
        have HLK : Hid (Calls Tryz.prog 25 #[.pointer (some ⟨Lb, 0, none⟩), .int .i64 11, .slice (some ⟨wr.heap.size, 0, none⟩) 1 1] (wr.alloc (.cells #[.int .i64 ((k + 1 : Nat) : Int)] 3)) fun e w' => ∃ Z' q qc, e = .returned (.tuple #[.int .i64 0, .slice (some ⟨q, 0, none⟩) 10 qc]) ∧ Fs B w0 Lb s kd gt k u9 bs w' Z' ∧ (q < w'.heap.size ∧ ¬ Z' q ∧ u9.ownBlock ≠ some q) ∧ w'.cell? ⟨q, 0, none⟩ = some (.int .i64 ((lotAt s.ls (k + 1)).goods : Int)) ∧ w'.cell? ⟨q, 1, none⟩ = some (.int .i64 ((lotAt s.ls (k + 1)).expiry : Int)) ∧ w'.cell? ⟨q, 2, none⟩ = some (.int .i64 ((lotAt s.ls (k + 1)).place : Int)) ∧ w'.cell? ⟨q, 4, none⟩ = some (.int .i64 ((lotAt s.ls (k + 1)).free : Int)) ∧ w'.cell? ⟨q, 9, none⟩ = some (.int .i64 ((if recB s.rcs s.ls (k + 1) = true then 1 else 0 : Nat) : Int))) := by
          refine (look_numZ hfs.kv (k + 1) (by omega) (by omega) he).mono (fun e w' hh => ?_)
          obtain ⟨Z', q, qc, q1, q2, q3, q4, q5, q6, q7⟩ := hh
          rw [hln] at q6
          have c9 := q6 9 (by omega)
          have e9 : (lookL (recB s.rcs s.ls) (lotAt s.ls (k + 1))).getD 9 0 = if recB s.rcs s.ls (k + 1) = true then 1 else 0 := by
            show (if recB s.rcs s.ls (lotAt s.ls (k + 1)).id then 1 else 0) = _
            rw [hlid]
          rw [e9] at c9
          exact ⟨Z', q, qc, q1, hfs.kn q2 q3, ⟨q5, q7, fun hq => by have := (hfs.fr.own.lt q hq).2; omega⟩, q6 0 (by omega), q6 1 (by omega), q6 2 (by omega), q6 4 (by omega), c9⟩
        have hxb := hok'.expiry
        have hpb := hok'.place
        have hsum := hok'.sum
        have hfb : (lotAt s.ls (k + 1)).free ≤ 2147483647 := by have := hok'.got; omega
        have hgb := hok'.goods
        obtain ⟨oa, oc, hov⟩ := own_shapeV hfs.fr.own
        subst hov
        have hbl := HSM.out
        have hsz := hfs.kv.size
        generalize lotAt s.ls (k + 1) = l at *
        have HLI := hide hlid
        clear he hix hln hok hlid hok' hfs hsum
        have HSV : Hid (cdP s kd gt (k + 1) = (((l.goods == kd) && !(recB s.rcs s.ls (k + 1))) && decide (0 < l.free) && decide (td + gt + 1 ≤ l.expiry))) := by unfold Hid; rw [HCD.out, srv, HLI.out, HTD.out]
        generalize recB s.rcs s.ls (k + 1) = rb at *
        clear HCD HLI
        by_cases h0 : l.goods = kd
        · have f0 : ((l.goods : Int) == (kd : Int)) = true := by rw [beq_iff_eq]; omega
          cases rb with
          | true =>
            have HCF : Hid (cdP s kd gt (k + 1) = false) := by unfold Hid; rw [HSV.out]; simp
            have HLK' : Hid (Calls Tryz.prog 25 #[.pointer (some ⟨Lb, 0, none⟩), .int .i64 11, .slice (some ⟨wr.heap.size, 0, none⟩) 1 1] (wr.alloc (.cells #[.int .i64 ((k + 1 : Nat) : Int)] 3)) fun e w' => ∃ Z' q qc, e = .returned (.tuple #[.int .i64 0, .slice (some ⟨q, 0, none⟩) 10 qc]) ∧ Fs B w0 Lb s kd gt k (.slice oa bs.length oc) bs w' Z' ∧ (q < w'.heap.size ∧ ¬ Z' q ∧ (Value.slice oa bs.length oc).ownBlock ≠ some q) ∧ w'.cell? ⟨q, 0, none⟩ = some (.int .i64 (l.goods : Int)) ∧ w'.cell? ⟨q, 1, none⟩ = some (.int .i64 (l.expiry : Int)) ∧ w'.cell? ⟨q, 2, none⟩ = some (.int .i64 (l.place : Int)) ∧ w'.cell? ⟨q, 4, none⟩ = some (.int .i64 (l.free : Int)) ∧ w'.cell? ⟨q, 9, none⟩ = some (.int .i64 1)) := HLK.out
            clear HSV HLK
            go_wp2_with (go_at_call 25; refine (HLK'.out).mono ?_; rintro e w2 ⟨Z2, q, qc, rfl, hf2, hq2, c0, c1, c2, c4, c9⟩; have HF2 := hide (hf2.skip HCF.out); clear hf2 hq2)
            go_roundw
            case rel => exact ⟨k + 1, Z2, bs, by go_num, by omega, HF2.out⟩
            case measure => simp [intOf]; omega
          | false =>
            have HLK' : Hid (Calls Tryz.prog 25 #[.pointer (some ⟨Lb, 0, none⟩), .int .i64 11, .slice (some ⟨wr.heap.size, 0, none⟩) 1 1] (wr.alloc (.cells #[.int .i64 ((k + 1 : Nat) : Int)] 3)) fun e w' => ∃ Z' q qc, e = .returned (.tuple #[.int .i64 0, .slice (some ⟨q, 0, none⟩) 10 qc]) ∧ Fs B w0 Lb s kd gt k (.slice oa bs.length oc) bs w' Z' ∧ (q < w'.heap.size ∧ ¬ Z' q ∧ (Value.slice oa bs.length oc).ownBlock ≠ some q) ∧ w'.cell? ⟨q, 0, none⟩ = some (.int .i64 (l.goods : Int)) ∧ w'.cell? ⟨q, 1, none⟩ = some (.int .i64 (l.expiry : Int)) ∧ w'.cell? ⟨q, 2, none⟩ = some (.int .i64 (l.place : Int)) ∧ w'.cell? ⟨q, 4, none⟩ = some (.int .i64 (l.free : Int)) ∧ w'.cell? ⟨q, 9, none⟩ = some (.int .i64 0)) := HLK.out
            clear HLK
            by_cases h4 : 0 < l.free
            · have f4 : decide ((0 : Int) < (l.free : Int)) = true := decide_eq_true (by omega)
              by_cases h1 : td + gt + 1 ≤ l.expiry
              · have f1 : decide ((td : Int) + (gt : Int) + 1 ≤ (l.expiry : Int)) = true := decide_eq_true (by omega)
                have HCT : Hid (cdP s kd gt (k + 1) = true) := by unfold Hid; rw [HSV.out]; simp [h0, h4, h1]
                clear HSV
                go_wp2_with (go_at_call 25; refine (HLK'.out).mono ?_; rintro e w2 ⟨Z2, q, qc, rfl, hf2, hq2, c0, c1, c2, c4, c9⟩; have HF2 := hide hf2; have HQ2 := hide hq2; clear hf2 hq2)
                have hbl2 : Below w2.heap.size w2 (((w2.alloc (.cells #[.int .i64 ((k : Int) + 1), .int .i64 (l.expiry : Int), .int .i64 (l.place : Int), .int .i64 (l.free : Int)] 3)).alloc (.cells #[sl4 w2.heap.size] 55))).drew := (((al1 w2 _).alloc (by simp) _)).drew
                have hbk : (((w2.alloc (.cells #[.int .i64 ((k : Int) + 1), .int .i64 (l.expiry : Int), .int .i64 (l.place : Int), .int .i64 (l.free : Int)] 3)).alloc (.cells #[sl4 w2.heap.size] 55))).drew.heap[w2.heap.size + 1]? = some (.cells #[sl4 w2.heap.size] 55 (0, 0)) := by
                  rw [show w2.heap.size + 1 = (w2.alloc (.cells #[.int .i64 ((k : Int) + 1), .int .i64 (l.expiry : Int), .int .i64 (l.place : Int), .int .i64 (l.free : Int)] 3)).heap.size by simp]
                  exact heap_alloc_new _ _
                have hone : ∀ u ∈ ([sl4 w2.heap.size] : List Value), u.oneCell' = true := by intro u hu; simp at hu; subst hu; rfl
                have hown2 := HF2.out.fr.own
                have hw2 := HF2.out.kv.size
                go_region_law (refine step_append_lies _ rfl _ _ 61 rfl B 55 i0 (.slice none 0 0) 1 24 tUIntss hi hz0 hz1 hz2 rfl (by decide) (.slice oa bs.length oc) bs.length (bs.map sl4) rfl (own_below hown2 hbl2) ⟨w2.heap.size + 1, 0, none⟩ 1 1 [sl4 w2.heap.size] rfl rfl (World.news_of_block hbk) hone (by decide) (by unfold maxLen; omega) (by omega) (by simp; omega) (w2.heap.size + 2) (by simp) ?_; intro g5 cap5 w5 hown5 hg5 hat5 hlt5)
                all_goals
                  have HT := hide (HF2.out.take2 HCT.out HRO.out hown5 hg5 hat5)
                  clear hown5 hg5 hat5 hlt5
                  go_wp2_with fail
                  go_roundw
                  case rel => exact ⟨k + 1, Z2, _, by go_num, by omega, HT.out⟩
                  case measure => simp [intOf]; omega
              · have f1 : decide ((td : Int) + (gt : Int) + 1 ≤ (l.expiry : Int)) = false := decide_eq_false (by omega)
                have HCF : Hid (cdP s kd gt (k + 1) = false) := by unfold Hid; rw [HSV.out]; simp [h1]
                clear HSV
                go_wp2_with (go_at_call 25; refine (HLK'.out).mono ?_; rintro e w2 ⟨Z2, q, qc, rfl, hf2, hq2, c0, c1, c2, c4, c9⟩; have HF2 := hide (hf2.skip HCF.out); clear hf2 hq2)
                go_roundw
                case rel => exact ⟨k + 1, Z2, bs, by go_num, by omega, HF2.out⟩
                case measure => simp [intOf]; omega
            · have f4 : decide ((0 : Int) < (l.free : Int)) = false := decide_eq_false (by omega)
              have HCF : Hid (cdP s kd gt (k + 1) = false) := by unfold Hid; rw [HSV.out]; simp [h4]
              clear HSV
              go_wp2_with (go_at_call 25; refine (HLK'.out).mono ?_; rintro e w2 ⟨Z2, q, qc, rfl, hf2, hq2, c0, c1, c2, c4, c9⟩; have HF2 := hide (hf2.skip HCF.out); clear hf2 hq2)
              go_roundw
              case rel => exact ⟨k + 1, Z2, bs, by go_num, by omega, HF2.out⟩
              case measure => simp [intOf]; omega
        · have f0 : ((l.goods : Int) == (kd : Int)) = false := by rw [beq_eq_false_iff_ne]; omega
          have HCF : Hid (cdP s kd gt (k + 1) = false) := by unfold Hid; rw [HSV.out]; simp [h0]
          clear HSV
          go_wp2_with (go_at_call 25; refine (HLK.out).mono ?_; rintro e w2 ⟨Z2, q, qc, rfl, hf2, hq2, c0, c1, c2, c4, c9⟩; have HF2 := hide (hf2.skip HCF.out); clear hf2 hq2)
          go_roundw
          case rel => exact ⟨k + 1, Z2, bs, by go_num, by omega, HF2.out⟩
          case measure => simp [intOf]; omega
      · have HCF : Hid (cdP s kd gt (k + 1) = false) := by
          have hix : ¬ idx (k + 1) s.ls < s.ls.length := fun hi => he (by unfold lookE; rw [if_pos hi])
          unfold Hid cdP; rw [decide_eq_false hix, Bool.false_and]
        have HLK : Hid (Calls Tryz.prog 25 #[.pointer (some ⟨Lb, 0, none⟩), .int .i64 11, .slice (some ⟨wr.heap.size, 0, none⟩) 1 1] (wr.alloc (.cells #[.int .i64 ((k + 1 : Nat) : Int)] 3)) fun e w' => ∃ Z' v, e = .returned (.tuple #[.int .i64 4, v]) ∧ Fs B w0 Lb s kd gt (k + 1) u9 bs w' Z') := (look_no hfs.kv (k + 1) (by omega) (by omega) he).mono (fun e w' hh => by
          obtain ⟨Z', v, q1, q2, q3⟩ := hh
          exact ⟨Z', v, q1, (hfs.kn q2 q3).skip HCF.out⟩)
        clear hfs he
        go_wp2_with (go_at_call 25; refine (HLK.out).mono ?_; rintro e w2 ⟨Z2, v2, rfl, hf2⟩; have HF2 := hide hf2; clear hf2)
        go_roundw
        case rel => exact ⟨k + 1, Z2, bs, by go_num, by omega, HF2.out⟩
        case measure => simp [intOf]; omega
    · obtain rfl : k = 13 := by omega
      have HF2 := hide hfs
      clear hfs hlt
      go_wp2_with fail
      go_ret
      exact ⟨Z1, _, bs, rfl, HF2.out⟩

end Go.Proofs.YtgcedalggnmooaaGreatDoor

namespace Go.Proofs.YtgcedalggnmooaaGreatDoor
set_option linter.unusedSimpArgs false
set_option linter.unusedVariables false
open Go.RowKit
set_option maxRecDepth 100000

/-- Supply tells the lots that can serve. -/
theorem ask_sup {B : Nat} {w0 w : World} {Z : Nat → Prop} {Lb : Nat} {s : Sv} (h : Kv B w0 w Z Lb s) (hs : Sc s) (kd gt : Nat) (hkd : 1 ≤ kd ∧ kd ≤ 3) (hgt : gt ≤ 9) :
    Calls Tryz.prog 25 #[.pointer (some ⟨Lb, 0, none⟩), .int .i64 12, .slice (some ⟨w.heap.size, 0, none⟩) 2 2] (w.alloc (.cells #[.int .i64 (kd : Int), .int .i64 (gt : Int)] 3)) fun e w' => ∃ Z' q qc, e = .returned (.tuple #[.int .i64 0, .slice (some ⟨q, 0, none⟩) 2 qc]) ∧ Kv B w0 w' Z' Lb s ∧ Kn Z w Z' w' ∧ w'.cell? ⟨q, 0, none⟩ = some (.int .i64 ((cdL s kd gt 13).length : Int)) ∧ w'.cell? ⟨q, 1, none⟩ = some (.int .i64 (thN s.ls (cdL s kd gt 13) : Int)) := by
  have he := supply_eq h.good hs hkd.2 gt
  have hsm : ∀ n ∈ [(cdL s kd gt 13).length, thN s.ls (cdL s kd gt 13)], n < 9223372036854775808 := by
    rw [← he]
    have hl : (srvI s.rcs s.td kd gt s.ls s.ls.length).length ≤ 30 := Nat.le_trans (srvI_len _ _ _ _ _) h.room
    intro n hn
    simp only [supL, List.mem_cons, List.not_mem_nil, or_false] at hn
    rcases hn with rfl | rfl
    · omega
    · have := freeOf_le s.ls h.ok (srvI s.rcs s.td kd gt s.ls s.ls.length) (fun i hi => by simp [srvI] at hi; exact hi.1)
      omega
  have : Calls Tryz.prog 25 #[.pointer (some ⟨Lb, 0, none⟩), .int .i64 12, .slice (some ⟨w.heap.size, 0, none⟩) 2 2] (w.alloc (.cells (I [kd, gt]).toArray 3)) fun e w' => ∃ Z' v, e = .returned (.tuple #[.int .i64 ((0 : Nat) : Int), v]) ∧ Kv B w0 w' Z' Lb (stepV s (.ok (12, [kd, gt]))) ∧ Kn Z w Z' w' ∧ w'.ownsRow w.heap.size 3 1 v [(cdL s kd gt 13).length, thN s.ls (cdL s kd gt 13)].length (I [(cdL s kd gt 13).length, thN s.ls (cdL s kd gt 13)]) ∧ ∀ q, v.ownBlock = some q → ¬ Z' q :=
    ask_lit h 12 (by omega) (by omega) (fun q => absurd q (by omega)) [kd, gt] rfl (by intro n hn; simp at hn; omega) (by simp [Pl.mays, Pl.kindsL, Pl.mayB]; omega) 0 _ (by omega) (by rw [(supV s kd gt).1, he]) hsm (by simp)
  rw [(supV s kd gt).2] at this
  refine this.mono ?_
  rintro e w' ⟨Z', v, he, hkv, hkn, hrow, _⟩
  obtain ⟨q, qc, hv, _, _⟩ := own_some hrow (by simp)
  subst hv
  exact ⟨Z', q, qc, he, hkv, hkn, ownInts_cell hrow 0 (by simp), ownInts_cell hrow 1 (by simp)⟩

/-- The order 77 with a gate, asked. -/
theorem ask_ordG {B : Nat} {w0 w : World} {Z : Nat → Prop} {Lb : Nat} {s : Sv} (h : Kv B w0 w Z Lb s) (hlg : s.lg.length ≤ 35184372088832) (g c gt y : Nat) (hg : 1 ≤ g ∧ g ≤ 3) (hc : 1 ≤ c ∧ c ≤ 400) (hgt : gt ≤ 9) (hy : y ≤ 3) :
    Calls Tryz.prog 25 #[.pointer (some ⟨Lb, 0, none⟩), .int .i64 5, .slice (some ⟨w.heap.size, 0, none⟩) 5 5] (w.alloc (.cells #[.int .i64 77, .int .i64 (g : Int), .int .i64 (c : Int), .int .i64 (gt : Int), .int .i64 (y : Int)] 3)) fun e w' => ∃ Z' v, e = .returned (.tuple #[.int .i64 (eG s g c gt y : Int), v]) ∧ Kv B w0 w' Z' Lb (sG s g c gt y) ∧ Kn Z w Z' w' ∧ w'.ownsRow w.heap.size 3 1 v (tG s g c gt y).length (I (tG s g c gt y)) := by
  obtain ⟨t1, t2⟩ := tG_small h g c gt y
  have := ask_lit h 5 (by omega) (by omega) (fun _ => hlg) [77, g, c, gt, y] rfl (by intro n hn; simp at hn; omega) (by simp [Pl.mays, Pl.kindsL, Pl.mayB]; omega) (eG s g c gt y) (tG s g c gt y) (by have := askC_le (rcs := s.rcs) s.os s.td s.ls 77 g c gt y; unfold eG; omega) (ordG s g c gt y) t1 (by omega)
  refine Calls.mono this ?_
  rintro e w' ⟨Z', v, h1, h2, h3, h4, _⟩
  exact ⟨Z', v, h1, h2, h3, h4⟩

theorem thN_sN (ls : List L) (cs : List Nat) : sN (fun i => rowF ls (cs.getD i 0) 3) cs.length = thN ls cs := sN_list (frN ls) 0 cs

set_option maxHeartbeats 12800000 in
theorem rotated_any (a0 : Option Addr) (len cap : Nat) (hlen : len ≤ 2097152) (X : Nat → Nat → Int) (kv cv gv yv : Int) (hk0 : Raw kv) (hc0 : Raw cv) (hg0 : Raw gv) (hy0 : Raw yv) (w : World) (hg : Gl w) (hx : 0 < len → ∃ b off, a0 = some ⟨b, off, none⟩ ∧ Scr w b off len X) :
    Calls Tryz.prog 12 #[.slice a0 len cap, .int .i64 kv, .int .i64 cv, .int .i64 gv, .int .i64 yv] w fun e w' => e = .returned (.bool true) ∧ Below w.heap.size w w' := by
  have HOP := hide (opened_any w hg)
  have HX0 := hide hx
  have HID := hide (id_any kv hk0 3 (by omega) (by omega))
  have HFW := hide (few_any cv hc0)
  have HPK := hide (pick_any yv hy0 4 (by omega) (by omega))
  have HPG := hide (pick_any gv hg0 10 (by omega) (by omega))
  have hgb : 1 ≤ 1 + pk kv 3 ∧ 1 + pk kv 3 ≤ 3 := by have := pk_lt kv (n := 3) (by omega); omega
  have hcb : 1 ≤ 1 + pk cv 400 ∧ 1 + pk cv 400 ≤ 400 := by have := pk_lt cv (n := 400) (by omega); omega
  have hyb : pk yv 4 ≤ 3 := by have := pk_lt yv (n := 4) (by omega); omega
  have hgtb : pk gv 10 ≤ 9 := by have := pk_lt gv (n := 10) (by omega); omega
  have HID' : Hid (∀ w, Calls Tryz.prog 26 #[.int .i64 kv, .int .i64 3] w fun e w' => e = .returned (.int .i64 ((1 + pk kv 3 : Nat) : Int)) ∧ w' = w) := fun w => HID.out w
  have HPK' : Hid (∀ w, Calls Tryz.prog 28 #[.int .i64 yv, .int .i64 4] w fun e w' => e = .returned (.int .i64 (pk yv 4 : Int)) ∧ w' = w) := fun w => HPK.out w
  have HPG' : Hid (∀ w, Calls Tryz.prog 28 #[.int .i64 gv, .int .i64 10] w fun e w' => e = .returned (.int .i64 (pk gv 10 : Int)) ∧ w' = w) := fun w => HPG.out w
  clear HID HPK HPG hg hx hk0 hc0 hy0 hg0
  generalize 1 + pk kv 3 = g at *
  generalize 1 + pk cv 400 = c at *
  generalize pk yv 4 = y at *
  generalize pk gv 10 = gt at *
  go_enter Tryz.func12, Tryz.ntmps12
  go_wp2_with (go_at_call 21; refine (HOP.out).mono ?_; rintro e w1 ⟨Lb, Z, rfl, hkv⟩)
  have HINI := hide hkv
  clear hkv HOP
  go_loopw [13, 14, 15, 16, 17] (fun dv ii _ _ _ wr => ∃ (k : Nat) (Z' : Nat → Prop) (s : Sv), dv = .int .i64 (s.td : Int) ∧ ii = .int .i64 k ∧ k ≤ len ∧ Kv w.heap.size w wr Z' Lb s ∧ Sc s ∧ s.lg.length ≤ 200 + 64 * k) (fun _ ii _ _ _ _ => len - (intOf ii).toNat)
  case atStart => exact ⟨0, Z, s2, rfl, rfl, by omega, HINI.out, sc_s2, s2_lg⟩
  case round =>
    clear HINI
    obtain ⟨k, Z1, s, rfl, rfl, hk, hkv, hsc, hslg⟩ := hrel
    have htd := hkv.td
    by_cases hlt : k < len
    · obtain ⟨b, off, ha0, hxs⟩ := HX0.out (by omega)
      subst ha0
      have hblt := hxs.lt
      have HX := hide hxs
      clear hxs
      have c0 : wr.cell? ⟨b, off + k * 5, none⟩ = some (.int .i64 (X k 0)) := (hkv.old.cell (p := ⟨b, off + k * 5 + 0, none⟩) hblt).trans (HX.out.cell k hlt 0 (by omega))
      have c1 := (hkv.old.cell (p := ⟨b, off + k * 5 + 1, none⟩) hblt).trans (HX.out.cell k hlt 1 (by omega))
      have c2 := (hkv.old.cell (p := ⟨b, off + k * 5 + 2, none⟩) hblt).trans (HX.out.cell k hlt 2 (by omega))
      have c3 := (hkv.old.cell (p := ⟨b, off + k * 5 + 3, none⟩) hblt).trans (HX.out.cell k hlt 3 (by omega))
      have c4 := (hkv.old.cell (p := ⟨b, off + k * 5 + 4, none⟩) hblt).trans (HX.out.cell k hlt 4 (by omega))
      have HSP := hide (spelt_x HX.out k hlt)
      have HSC : Hid (Sc (stepV s (.ok (spX X k)))) := hsc.step _ _ _ _ _
      have HLN : Hid ((stepV s (.ok (spX X k))).lg.length ≤ 200 + 64 * (k + 1)) := by have := spX_lg X k s; unfold Hid; omega
      obtain ⟨f1, f2, f3, f4, f5⟩ := cmdX_facts X k
      have HNM := hide (knumbers_any (cmdX X k) (by omega))
      rw [f4, Pl.dec_told _ (fun n hn => by have := (sp_code (X k 0) (X k 1) (X k 2) (X k 3) (X k 4)).2.2.2.1 n hn; omega)] at HNM
      have HT0 : Hid ((cmdX X k)[0].toNat = (spX X k).1) := by
        have hc := sp_code (X k 0) (X k 1) (X k 2) (X k 3) (X k 4)
        have := ba_getD (cmdX X k) 0 f2
        unfold Hid
        rw [← this, f5, UInt8.toNat_ofNat']
        have q1 : (spX X k).1 ≤ 12 := hc.2.1
        omega
      have HTW : Hid ((spX X k).1 = 1 → spX X k = (1, [pk (X k 1) 40])) := fun h => sp_1 h
      have HTS : Hid ((spX X k).1 ≠ 1 → (stepV s (.ok (spX X k))).td = s.td) := fun h => td_same h
      obtain ⟨r, HR⟩ : ∃ r : ByteArray, Hid (r = ⟨(repV s (.ok (spX X k))).toArray⟩) := ⟨_, rfl⟩
      have HHD : Hid (∀ w2, Below wr.heap.size wr w2 → Calls Tryz.prog 23 #[.pointer (some ⟨Lb, 0, none⟩), .string (cmdX X k)] w2 fun e w' => e = .returned (.string r) ∧ ∃ Z', Kv w.heap.size w w' Z' Lb (stepV s (.ok (spX X k)))) := fun w2 hb2 => (handle_x (hkv.below hb2) (by omega) X k).mono (fun e w' h => ⟨by rw [HR.out]; exact h.1, h.2.imp (fun Z' h' => h'.1)⟩)
      have HRL : Hid (r.toList = repV s (.ok (spX X k))) := by unfold Hid; rw [ByteArray.toList_eq, HR.out]
      have ht256 : (cmdX X k)[0].toNat < 256 := UInt8.toNat_lt _
      clear hkv hsc f1 f3 f4 f5 HX
      by_cases h1 : (spX X k).1 = 1
      · have t1 : (cmdX X k)[0].toNat = 1 := HT0.out.trans h1
        have HSX := hide (HTW.out h1)
        rcases td_day (s := s) HSX.out with ⟨q1, q2⟩ | ⟨q1, q2⟩
        · have hq : r.toList = [0] := by rw [HRL.out]; exact q1
          have HTD := hide q2
          rw [HSX.out] at HNM
          have HN2 := hide (nums_at HNM.out (by simp))
          have HN3 : Hid (∀ w, Calls Tryz.prog 24 #[.string (cmdX X k)] w fun e w' => Below w.heap.size w w' ∧ ∃ q qc, e = .returned (.slice (some ⟨q, 0, none⟩) 1 qc) ∧ w'.cell? ⟨q, 0, none⟩ = some (.int .i64 (pk (X k 1) 40 : Int))) := fun w => (HN2.out w).mono (fun e w' hh => by obtain ⟨g1, q, qc, g2, g3, g4, g5⟩ := hh; exact ⟨g1, q, qc, g2, g5 0 (by simp)⟩)
          generalize hpd : pk (X k 1) 40 = pd at *
          clear q1 q2 HNM HN2 HR HRL HT0 HSX HTW HTS h1 hpd
          generalize cmdX X k = t at *
          generalize X k 0 = x0 at *
          generalize hx1 : X k 1 = x1 at *
          generalize hx2 : X k 2 = x2 at *
          generalize hx3 : X k 3 = x3 at *
          generalize hx4 : X k 4 = x4 at *
          clear hx1 hx2 hx3 hx4
          go_wp2_with (go_at_call 22; refine (HSP.out _).mono ?_; rintro e w2 ⟨rfl, hb2⟩; have HH2 := hide (HHD.out w2 hb2); clear hb2)
          refine (HH2.out).mono ?_
          rintro e w3 ⟨rfl, Z3, hkv3⟩
          have HK3 := hide hkv3
          clear hkv3 HH2 HHD
          go_wp2_with (go_at_call 24; refine (HN3.out _).mono ?_; rintro e w4 ⟨hb4, q, qc, rfl, hq2⟩; have HB4 := hide hb4; clear hb4)
          go_roundw
          case rel => exact ⟨k + 1, Z3, _, by rw [HTD.out], by go_num, by omega, HK3.out.below HB4.out, HSC.out, HLN.out⟩
          case measure => simp [intOf]; omega
        · have hq : (r.toList == [0]) = false := by rw [beq_eq_false_iff_ne, HRL.out]; exact q1
          have HTD := hide q2
          clear q1 q2 HNM HR HRL HT0 HSX HTW HTS h1
          generalize cmdX X k = t at *
          generalize X k 0 = x0 at *
          generalize hx1 : X k 1 = x1 at *
          generalize hx2 : X k 2 = x2 at *
          generalize hx3 : X k 3 = x3 at *
          generalize hx4 : X k 4 = x4 at *
          clear hx1 hx2 hx3 hx4
          go_wp2_with (go_at_call 22; refine (HSP.out _).mono ?_; rintro e w2 ⟨rfl, hb2⟩; have HH2 := hide (HHD.out w2 hb2); clear hb2)
          refine (HH2.out).mono ?_
          rintro e w3 ⟨rfl, Z3, hkv3⟩
          have HK3 := hide hkv3
          clear hkv3 HH2 HHD
          go_wp2_with fail
          go_roundw
          case rel => exact ⟨k + 1, Z3, _, by rw [HTD.out], by go_num, by omega, HK3.out, HSC.out, HLN.out⟩
          case measure => simp [intOf]; omega
      · have t1 : ¬ (cmdX X k)[0].toNat = 1 := by rw [HT0.out]; exact h1
        have HTD := hide (HTS.out h1)
        clear HNM HR HRL HT0 HTW HTS h1
        generalize cmdX X k = t at *
        generalize X k 0 = x0 at *
        generalize X k 1 = x1 at *
        generalize X k 2 = x2 at *
        generalize X k 3 = x3 at *
        generalize X k 4 = x4 at *
        go_wp2_with (go_at_call 22; refine (HSP.out _).mono ?_; rintro e w2 ⟨rfl, hb2⟩; have HH2 := hide (HHD.out w2 hb2); clear hb2)
        refine (HH2.out).mono ?_
        rintro e w3 ⟨rfl, Z3, hkv3⟩
        have HK3 := hide hkv3
        clear hkv3 HH2 HHD
        go_wp2_with fail
        go_roundw
        case rel => exact ⟨k + 1, Z3, _, by rw [HTD.out], by go_num, by omega, HK3.out, HSC.out, HLN.out⟩
        case measure => simp [intOf]; omega
    · obtain rfl : k = len := by omega
      have HFR := hide (fun td htd => free_any hkv td g gt htd hgb.2 hgtb)
      have HFR' := hide (HFR.out s.td rfl)
      have HSC := hide hsc
      have HKV := hide hkv
      clear hkv hsc hlt HFR
      go_wp2_with (first | (go_at_call 26; with_reducible refine (HID'.out _).mono ?_; rintro e w3 ⟨rfl, hw⟩; have hw' := hw.symm; subst hw'; clear hw) | (go_at_call 27; with_reducible refine (HFW.out _).mono ?_; rintro e w3 ⟨rfl, hw⟩; have hw' := hw.symm; subst hw'; clear hw) | (go_at_call 28; with_reducible refine (HPK'.out _).mono ?_; rintro e w3 ⟨rfl, hw⟩; have hw' := hw.symm; subst hw'; clear hw) | (go_at_call 28; with_reducible refine (HPG'.out _).mono ?_; rintro e w3 ⟨rfl, hw⟩; have hw' := hw.symm; subst hw'; clear hw) | (go_at_call 29; with_reducible refine (HFR'.out).mono ?_; rintro e w4 ⟨Z4, v, bs, rfl, hfs⟩))
      obtain ⟨va, vc, hv⟩ := own_shapeV hfs.fr.own
      subst hv
      have hn13 : bs.length ≤ 13 := hfs.small
      have HVG : Hid (0 < bs.length → ∃ G, va = some ⟨G, 0, none⟩) := fun hp => by
        obtain ⟨g0, c0, hv', _, _⟩ := own_some hfs.fr.own hp
        cases hv'; exact ⟨g0, rfl⟩
      have HLD := hide (lnd_of HKV.out HSC.out hgb.2 c gt y hcb.2 hyb)
      have HTH : Hid (sN (fun i => rowF s.ls ((cdL s g gt 13).getD i 0) 3) bs.length = thN s.ls (cdL s g gt 13)) := by unfold Hid; rw [hfs.len]; exact thN_sN _ _
      have HEG := hide (eG_eq HKV.out.good HSC.out hgb.2 c gt y hcb.1)
      have HTT := hide (fun h0 => tG_told (s := s) (g := g) (c := c) (gt := gt) (y := y) h0)
      have HTN := hide (fun (h0 : ¬ eG s g c gt y = 0) => show tG s g c gt y = [] by unfold tG; rw [if_neg h0])
      have HSU : Hid (∀ (wx : World) (Zx : Nat → Prop), Kv w.heap.size w wx Zx Lb s → Calls Tryz.prog 25 #[.pointer (some ⟨Lb, 0, none⟩), .int .i64 12, .slice (some ⟨wx.heap.size, 0, none⟩) 2 2] (wx.alloc (.cells #[.int .i64 (g : Int), .int .i64 (gt : Int)] 3)) fun e w' => ∃ Z' q qc, e = .returned (.tuple #[.int .i64 0, .slice (some ⟨q, 0, none⟩) 2 qc]) ∧ Kv w.heap.size w w' Z' Lb s ∧ Kn Zx wx Z' w' ∧ w'.cell? ⟨q, 0, none⟩ = some (.int .i64 (bs.length : Int)) ∧ w'.cell? ⟨q, 1, none⟩ = some (.int .i64 (thN s.ls (cdL s g gt 13) : Int))) := fun wx Zx hx => by rw [hfs.len]; exact ask_sup hx HSC.out g gt hgb hgtb
      have HOG : Hid (∀ (wx : World) (Zx : Nat → Prop), Kv w.heap.size w wx Zx Lb s → Calls Tryz.prog 25 #[.pointer (some ⟨Lb, 0, none⟩), .int .i64 5, .slice (some ⟨wx.heap.size, 0, none⟩) 5 5] (wx.alloc (.cells #[.int .i64 77, .int .i64 (g : Int), .int .i64 (c : Int), .int .i64 (gt : Int), .int .i64 (y : Int)] 3)) fun e w' => ∃ Z' v, e = .returned (.tuple #[.int .i64 (eG s g c gt y : Int), v]) ∧ Kv w.heap.size w w' Z' Lb (sG s g c gt y) ∧ Kn Zx wx Z' w' ∧ w'.ownsRow wx.heap.size 3 1 v (tG s g c gt y).length (I (tG s g c gt y))) := fun wx Zx hx => ask_ordG hx (by omega) g c gt y hgb hcb hgtb hyb
      rw [← hfs.len] at HLD
      obtain ⟨R, HR⟩ : ∃ R : Nat → Nat → Nat, Hid (R = fun i => rowF s.ls ((cdL s g gt 13).getD i 0)) := ⟨_, rfl⟩
      have HFR : Hid (Fr w.heap.size w4 Z4 (.slice va bs.length vc) bs R ∧ Kv w.heap.size w w4 Z4 Lb s) := ⟨by rw [HR.out]; exact hfs.fr, hfs.kv⟩
      rw [← HR.out] at HLD
      have HTH' : Hid (sN (fun i => R i 3) bs.length = thN s.ls (cdL s g gt 13)) := by unfold Hid; rw [HR.out]; exact HTH.out
      have HRB : Hid (∀ i, i < bs.length → ∀ f, R i f ≤ 2147483647) := HLD.out.small.2.2.1
      generalize thN s.ls (cdL s g gt 13) = T at *
      clear hfs HTH HR HKV HFR' HID' HPK' HPG' HFW HX0 htd hk hlen
      go_loopw [19, 20] (fun tv ii wx => ∃ i : Nat, tv = .int .i64 (sN (fun j => R j 3) i : Int) ∧ ii = .int .i64 (i : Int) ∧ i ≤ bs.length ∧ Below w4.heap.size w4 wx) (fun _ ii _ => bs.length - (intOf ii).toNat)
      case atStart => exact ⟨0, rfl, rfl, by omega, Below.refl _ _⟩
      case round =>
        obtain ⟨i, rfl, rfl, hi, hb⟩ := hrel
        have htb : sN (fun j => R j 3) i ≤ 13 * 2147483647 := Nat.le_trans (sN_le _ 2147483647 i (fun j hj => HRB.out j (by omega) 3)) (Nat.mul_le_mul_right _ (by omega))
        by_cases hlt : i < bs.length
        · obtain ⟨G, hG⟩ := HVG.out (by omega)
          subst hG
          have hcw := HFR.out.1.cw.below hb
          have k1 : wr.cell? ⟨G, i, none⟩ = some (.slice (some ⟨bs.getD i 0, 0, none⟩) 4 4) := hcw.row i hlt
          have k3 : wr.cell? ⟨bs.getD i 0, 3, none⟩ = some (.int .i64 (R i 3 : Int)) := (hcw.q4 i hlt).2 3 (by omega)
          have hr3 := HRB.out i hlt 3
          generalize bs.getD i 0 = bi at *
          have HTU : Hid (sN (fun j => R j 3) (i + 1) = sN (fun j => R j 3) i + R i 3) := rfl
          generalize sN (fun j => R j 3) i = S at *
          have HB := hide hb
          clear hb hcw
          go_wp2_with fail
          go_roundw
          case rel => exact ⟨i + 1, by rw [HTU.out]; go_num, by go_num, by omega, HB.out⟩
          case measure => simp [intOf]; omega
        · have hin : i = bs.length := by omega
          rw [hin, HTH'.out]
          rw [hin, HTH'.out] at htb
          have hkx := HFR.out.2.below hb
          have hfx := HFR.out.1.kn (Kn.below hb)
          have HS1 := hide (HSU.out _ _ hkx)
          have HF1 := hide hfx
          clear hb hkx hfx hlt hin hi HSU HFR
          go_wp2_with fail
          refine (HS1.out).mono ?_
          rintro e w5 ⟨Z5, q, qc, rfl, hkv5, hkn5, m0, m1⟩
          have HF5 := hide (HF1.out.kn hkn5)
          have HO5 := hide (HOG.out _ _ hkv5)
          clear hkv5 hkn5 HF1 HS1 HOG
          go_wp2_with fail
          by_cases hsh : T = 0 ∨ T < c ∧ wayW y = true
          · rw [if_pos hsh] at HEG
            have h7 := HEG.out
            rw [HTN.out (by omega), h7] at HO5
            have HO6 : Hid (Calls Tryz.prog 25 #[.pointer (some ⟨Lb, 0, none⟩), .int .i64 5, .slice (some ⟨w5.heap.size, 0, none⟩) 5 5] (w5.alloc (.cells #[.int .i64 77, .int .i64 (g : Int), .int .i64 (c : Int), .int .i64 (gt : Int), .int .i64 (y : Int)] 3)) fun e w' => ∃ Z' na nc, e = .returned (.tuple #[.int .i64 7, .slice na 0 nc]) ∧ Below w.heap.size w w') := (HO5.out).mono (fun e w' hh => by
              obtain ⟨Z', v, h1, h2, _, h4⟩ := hh
              obtain ⟨na, nc, hv⟩ := own_shapeV h4
              exact ⟨Z', na, nc, by rw [h1, hv]; rfl, h2.old⟩)
            clear HO5 HTT HTN h7 HEG HLD HF5 m0 m1
            refine (HO6.out).mono ?_
            rintro e w6 ⟨Z6, na, nc, rfl, hb6⟩
            have HB6 := hide hb6
            clear hb6 HO6
            by_cases ht0 : T = 0
            · subst ht0
              go_wp2_with fail
              go_ret
              exact ⟨rfl, HB6.out⟩
            · obtain ⟨h1, h2⟩ := hsh.resolve_left ht0
              have f0 : ((T : Int) == 0) = false := by rw [beq_eq_false_iff_ne]; omega
              have f1 : decide ((T : Int) < (c : Int)) = true := decide_eq_true (by omega)
              have hy13 : y = 1 ∨ y = 3 := by simpa [wayW] using h2
              clear hsh h2
              rcases hy13 with rfl | rfl
              · go_wp2_with fail
                go_ret
                exact ⟨rfl, HB6.out⟩
              · go_wp2_with fail
                go_ret
                exact ⟨rfl, HB6.out⟩
          · rw [if_neg hsh] at HEG
            have h0 := HEG.out
            rw [HTT.out h0, h0] at HO5
            have hT0 : ¬ T = 0 := fun h => hsh (Or.inl h)
            have hbp : 0 < bs.length := by
              rcases Nat.eq_zero_or_pos bs.length with h | h
              · have := HTH'.out
                rw [h] at this
                exact absurd this.symm hT0
              · exact h
            obtain ⟨G, hG⟩ := HVG.out hbp
            subst hG
            obtain ⟨ln, HLNE⟩ : ∃ ln, Hid (ln = lnR s g c gt y) := ⟨_, rfl⟩
            rw [← HLNE.out] at HO5 HLD
            have hln := HLD.out.small.2.1
            have hln1 : 1 ≤ ln.length := by
              rcases Nat.eq_zero_or_pos ln.length with h | h
              · have h1 := HLD.out.sum
                have h2 := HLD.out.fin
                rw [h] at h1
                have h3 : sN (fun k => (ln.getD k (0, 0)).2) 0 = 0 := rfl
                rw [h1, h3, HTH'.out] at h2
                omega
              · exact h
            have HO6 : Hid (Calls Tryz.prog 25 #[.pointer (some ⟨Lb, 0, none⟩), .int .i64 5, .slice (some ⟨w5.heap.size, 0, none⟩) 5 5] (w5.alloc (.cells #[.int .i64 77, .int .i64 (g : Int), .int .i64 (c : Int), .int .i64 (gt : Int), .int .i64 (y : Int)] 3)) fun e w' => ∃ Z' q1 qc1, e = .returned (.tuple #[.int .i64 0, .slice (some ⟨q1, 0, none⟩) (1 + 2 * ln.length) qc1]) ∧ Below w.heap.size w w' ∧ Cw w' G (fun i => bs.getD i 0) bs.length R ∧ Lc w' q1 ln ∧ w'.cell? ⟨q1, 0, none⟩ = some (.int .i64 (ln.length : Int)) ∧ 1 + 2 * ln.length ≤ qc1) := (HO5.out).mono (fun e w' hh => by
              obtain ⟨Z', v, h1, h2, h3, h4⟩ := hh
              obtain ⟨q1, qc1, hv, _, _⟩ := own_some h4 (by simp)
              subst hv
              have hlen : (ln.length :: ln.flatMap (fun p => [p.1, p.2])).length = 1 + 2 * ln.length := by rw [List.length_cons, flR_len]; omega
              refine ⟨Z', q1, qc1, by rw [h1, hlen]; rfl, h2.old, (HF5.out.kn h3).cw, lc_of h4, ownInts_cell h4 0 (by simp), ?_⟩
              have hcap := h4.2
              rcases hcap with ⟨hv, _⟩ | ⟨g', cap', cur, hv, _, _, hcc⟩
              · cases hv
              · cases hv
                omega)
            clear HO5 HTT HTN h0 HEG HF5 m0 m1 HLNE
            have f0 : ((T : Int) == 0) = false := by rw [beq_eq_false_iff_ne]; omega
            have hcs : (¬ T < c) ∨ (T < c ∧ (y = 0 ∨ y = 2)) := by
              by_cases h1 : T < c
              · refine Or.inr ⟨h1, ?_⟩
                have h2 : ¬ wayW y = true := fun h => hsh (Or.inr ⟨h1, h⟩)
                have h3 : ¬ (y = 1 ∨ y = 3) := by simpa [wayW] using h2
                omega
              · exact Or.inl h1
            refine (HO6.out).mono ?_
            rintro e w6 ⟨Z6, q1, qc1, rfl, hb6, hcw6, hlc6, c0, hqc⟩
            have HB6 := hide hb6
            have HLI : Hid (∀ lc wx, Below w6.heap.size w6 wx → Calls Tryz.prog 30 #[.slice (some ⟨G, 0, none⟩) bs.length vc, .slice (some ⟨q1, 1, none⟩) (2 * ln.length) lc, .int .i64 (c : Int), .int .i64 (y : Int)] wx fun e w' => e = .returned (.bool true) ∧ Below wx.heap.size wx w') := fun lc wx hx => lined_any G q1 vc lc bs.length _ R ln c y HLD.out wx (hcw6.below hx) (hlc6.below hx) _ rfl
            have HOI : Hid (∀ lc wx, Below w6.heap.size w6 wx → Calls Tryz.prog 31 #[.slice (some ⟨G, 0, none⟩) bs.length vc, .slice (some ⟨q1, 1, none⟩) (2 * ln.length) lc, .int .i64 (y : Int)] wx fun e w' => e = .returned (.bool true) ∧ Below wx.heap.size wx w') := fun lc wx hx => ordered_any G q1 vc lc bs.length _ R ln c y HLD.out wx (hcw6.below hx) (hlc6.below hx) _ rfl
            clear hb6 hcw6 hlc6 HO6 HLD HTH' HVG HRB hsh hT0
            generalize hnl : ln.length = nl at *
            have hqn : ¬ qc1 = 1 := by omega
            clear hnl
            rcases hcs with h1 | ⟨h1, rfl | rfl⟩
            · have f1 : decide ((T : Int) < (c : Int)) = false := decide_eq_false (by omega)
              go_wp2_with fail
              refine (HLI.out _ _ (Below.refl _ _)).mono ?_
              rintro e w7 ⟨rfl, hb7⟩
              have HO7 := hide (fun lc => HOI.out lc w7 hb7)
              have HB7 : Hid (Below w.heap.size w w7) := HB6.out.trans (hb7.mono HB6.out.size)
              clear hb7 HLI HOI HB6
              go_wp2_with fail
              refine (HO7.out _).mono ?_
              rintro e w8 ⟨rfl, hb8⟩
              have HB8 : Hid (Below w.heap.size w w8) := HB7.out.trans (hb8.mono HB7.out.size)
              clear hb8 HO7 HB7
              go_wp2_with fail
              go_ret
              exact ⟨rfl, HB8.out⟩
            · have f1 : decide ((T : Int) < (c : Int)) = true := decide_eq_true (by omega)
              go_wp2_with fail
              refine (HLI.out _ _ (Below.refl _ _)).mono ?_
              rintro e w7 ⟨rfl, hb7⟩
              have HO7 := hide (fun lc => HOI.out lc w7 hb7)
              have HB7 : Hid (Below w.heap.size w w7) := HB6.out.trans (hb7.mono HB6.out.size)
              clear hb7 HLI HOI HB6
              go_wp2_with fail
              refine (HO7.out _).mono ?_
              rintro e w8 ⟨rfl, hb8⟩
              have HB8 : Hid (Below w.heap.size w w8) := HB7.out.trans (hb8.mono HB7.out.size)
              clear hb8 HO7 HB7
              go_wp2_with fail
              go_ret
              exact ⟨rfl, HB8.out⟩
            · have f1 : decide ((T : Int) < (c : Int)) = true := decide_eq_true (by omega)
              go_wp2_with fail
              refine (HLI.out _ _ (Below.refl _ _)).mono ?_
              rintro e w7 ⟨rfl, hb7⟩
              have HO7 := hide (fun lc => HOI.out lc w7 hb7)
              have HB7 : Hid (Below w.heap.size w w7) := HB6.out.trans (hb7.mono HB6.out.size)
              clear hb7 HLI HOI HB6
              go_wp2_with fail
              refine (HO7.out _).mono ?_
              rintro e w8 ⟨rfl, hb8⟩
              have HB8 : Hid (Below w.heap.size w w8) := HB7.out.trans (hb8.mono HB7.out.size)
              clear hb8 HO7 HB7
              go_wp2_with fail
              go_ret
              exact ⟨rfl, HB8.out⟩

end Go.Proofs.YtgcedalggnmooaaGreatDoor
