import Derived.Test.YtgcedalggnmooabGreatDoorOd4X
import Derived.Test.YtgcedalggnmooabGreatDoorHlX
import Derived.Test.YtgcedalggnmooabGreatDoorBn
import Derived.WalkSmall
namespace Go.Proofs.YtgcedalggnmooabGreatDoor
set_option linter.unusedSimpArgs false
set_option linter.unusedVariables false
open Go.RowKit
set_option maxRecDepth 100000

/-- What an order's end takes of a lot's Held. -/
def endL (os : List O) (a : Nat) (l : L) : L := { l with held := l.held - (lineOf os a l.id).getD 0 }
def updS (g : L → Nat → L) (ls : List L) : List (Nat × Nat) → List L
  | p :: r => updS g (ls.set p.1 (g (ls.getD p.1 L0) p.2)) r
  | [] => ls
theorem updS_snoc (g : L → Nat → L) (p : Nat × Nat) : ∀ (l : List (Nat × Nat)) (ls : List L), updS g ls (l ++ [p]) = (updS g ls l).set p.1 (g ((updS g ls l).getD p.1 L0) p.2)
  | [], ls => rfl
  | q :: r, ls => by simp only [List.cons_append, updS]; exact updS_snoc g p r _
theorem updS_len (g : L → Nat → L) : ∀ (l : List (Nat × Nat)) (ls : List L), (updS g ls l).length = ls.length
  | [], ls => rfl
  | q :: r, ls => by simp only [updS]; rw [updS_len g r]; simp
theorem updS_out (g : L → Nat → L) {i : Nat} : ∀ (l : List (Nat × Nat)) (ls : List L), i ∉ l.map Prod.fst → (updS g ls l).getD i L0 = ls.getD i L0
  | [], ls, _ => rfl
  | q :: r, ls, h => by
    simp only [List.map_cons, List.mem_cons, not_or] at h
    simp only [updS]
    rw [updS_out g r _ h.2, gset_ne h.1]
theorem updS_in (g : L → Nat → L) {i n : Nat} : ∀ (l : List (Nat × Nat)) (ls : List L), (l.map Prod.fst).Nodup → (i, n) ∈ l → i < ls.length → (updS g ls l).getD i L0 = g (ls.getD i L0) n
  | [], ls, _, h, _ => by simp at h
  | q :: r, ls, hn, h, hi => by
    simp only [List.map_cons, List.nodup_cons] at hn
    simp only [updS]
    rcases List.mem_cons.1 h with h | h
    · subst h
      rw [updS_out g r _ hn.1, gset_eq hi]
    · have hne : i ≠ q.1 := fun e => hn.1 (by rw [← e]; exact List.mem_map_of_mem h)
      rw [updS_in g r _ hn.2 h (by simpa using hi), gset_ne hne]

theorem ext_getD {a b : List L} (hl : a.length = b.length) (h : ∀ i, i < a.length → a.getD i L0 = b.getD i L0) : a = b := by
  apply List.ext_getElem hl
  intro i h1 h2
  have := h i h1
  simpa [List.getD_eq_getElem?_getD, h1, h2] using this
theorem getD_map {f : L → L} {ls : List L} {i : Nat} (hi : i < ls.length) : (ls.map f).getD i L0 = f (ls.getD i L0) := by simp [List.getD_eq_getElem?_getD, hi]

/-- The order's lines, the lots' numbers rising. -/
def endQ (os : List O) (a : Nat) (ls : List L) (i : Nat) : List (Nat × Nat) := ((byN ls).take i).filterMap fun j => (lineOf os a (ls.getD j L0).id).map fun n => (j, n)
theorem byN_at {ls : List L} {k : Nat} (hk : k < ls.length) : (byN ls).take (k + 1) = (byN ls).take k ++ [(byN ls).getD k 0] := by
  have h : k < (byN ls).length := by rw [byN_len]; exact hk
  rw [List.take_succ_eq_append_getElem h]; simp [List.getD_eq_getElem?_getD, h]
theorem endQ_hit {os : List O} {a : Nat} {ls : List L} {i n : Nat} (hi : i < ls.length) (h : lineOf os a (ls.getD ((byN ls).getD i 0) L0).id = some n) : endQ os a ls (i + 1) = endQ os a ls i ++ [((byN ls).getD i 0, n)] := by
  unfold endQ; rw [byN_at hi, List.filterMap_append]
  have e : List.filterMap (fun j => (lineOf os a (ls.getD j L0).id).map fun n => (j, n)) [(byN ls).getD i 0] = [((byN ls).getD i 0, n)] := by simp only [List.filterMap, h, Option.map_some]
  rw [e]
theorem endQ_miss {os : List O} {a : Nat} {ls : List L} {i : Nat} (hi : i < ls.length) (h : lineOf os a (ls.getD ((byN ls).getD i 0) L0).id = none) : endQ os a ls (i + 1) = endQ os a ls i := by
  unfold endQ; rw [byN_at hi, List.filterMap_append]
  have e : List.filterMap (fun j => (lineOf os a (ls.getD j L0).id).map fun n => (j, n)) [(byN ls).getD i 0] = [] := by simp only [List.filterMap, h, Option.map_none]
  rw [e, List.append_nil]
theorem endQ_len (os : List O) (a : Nat) (ls : List L) (i : Nat) : (endQ os a ls i).length ≤ i := by
  have := List.length_filterMap_le (fun j => (lineOf os a (ls.getD j L0).id).map fun n => (j, n)) ((byN ls).take i)
  have h2 := List.length_take_le i (byN ls)
  exact Nat.le_trans this h2
theorem endQ_mem {os : List O} {a : Nat} {ls : List L} {i : Nat} {p : Nat × Nat} (h : p ∈ endQ os a ls i) : p.1 < ls.length ∧ lineOf os a (ls.getD p.1 L0).id = some p.2 := by
  unfold endQ at h
  obtain ⟨j, hj, he⟩ := List.mem_filterMap.1 h
  have hj' := byN_mem.1 (List.mem_of_mem_take hj)
  cases hl : lineOf os a (ls.getD j L0).id with
  | none => rw [hl] at he; cases he
  | some n => rw [hl] at he; cases he; exact ⟨hj', hl⟩
theorem fm_fst {f : Nat → Option Nat} : ∀ l : List Nat, (l.filterMap fun j => (f j).map fun n => (j, n)).map Prod.fst = l.filter (fun j => (f j).isSome)
  | [] => rfl
  | j :: l => by
    have ih := fm_fst (f := f) l
    cases h : f j with
    | none => rw [List.filterMap_cons_none (by rw [h]; rfl), List.filter_cons_of_neg (by rw [h]; simp)]; exact ih
    | some n => rw [List.filterMap_cons_some (b := (j, n)) (by rw [h]; rfl), List.filter_cons_of_pos (by rw [h]; rfl), List.map_cons, ih]
theorem endQ_fst (os : List O) (a : Nat) (ls : List L) (i : Nat) : ((endQ os a ls i).map Prod.fst).Nodup := by
  unfold endQ
  rw [fm_fst (f := fun j => lineOf os a (ls.getD j L0).id)]
  exact ((byN_nodup ls).sublist (List.take_sublist _ _)).filter _
theorem endQ_has {os : List O} {a : Nat} {ls : List L} {i n : Nat} (h : lineOf os a (ls.getD i L0).id = some n) (hm : i < ls.length) : (i, n) ∈ endQ os a ls ls.length := by
  unfold endQ
  refine List.mem_filterMap.2 ⟨i, ?_, by rw [h]; rfl⟩
  rw [List.take_of_length_le (by rw [byN_len]; exact Nat.le_refl _)]
  exact byN_mem.2 hm
/-- The orders, without some of an order's lines; and the lots, Held no longer for it. -/
def delLs (os : List O) (a : Nat) (ls : List L) (l : List (Nat × Nat)) : List O := l.foldl (fun os p => delLine os a (ls.getD p.1 L0).id) os
def decH (l : L) (n : Nat) : L := { l with held := l.held - n }
theorem delLs_snoc (os : List O) (a : Nat) (ls : List L) (l : List (Nat × Nat)) (p : Nat × Nat) : delLs os a ls (l ++ [p]) = delLine (delLs os a ls l) a (ls.getD p.1 L0).id := by
  unfold delLs; rw [List.foldl_append]; rfl
theorem dec_all (os : List O) (a : Nat) (ls : List L) : updS decH ls (endQ os a ls ls.length) = ls.map (endL os a) := by
  apply ext_getD
  · rw [updS_len]; simp
  · intro i hi
    rw [updS_len] at hi
    rw [getD_map hi]
    cases h : lineOf os a (ls.getD i L0).id with
    | some n =>
      rw [updS_in decH _ _ (endQ_fst os a ls _) (endQ_has h hi) hi]
      unfold decH endL; rw [h]; rfl
    | none =>
      rw [updS_out]
      · unfold endL; rw [h]; rfl
      · intro hm
        obtain ⟨p, hp, rfl⟩ := List.mem_map.1 hm
        have := (endQ_mem hp).2
        rw [h] at this; cases this

theorem delLine_ids (os : List O) (a b : Nat) : (delLine os a b).map O.id = os.map O.id := by
  unfold delLine; rw [List.map_map]; congr 1; funext o; exact delO_id a b o
theorem delLine_keys {os : List O} {a b : Nat} (h : ∀ o ∈ os, (o.lines.map Prod.fst).Nodup) : ∀ o ∈ delLine os a b, (o.lines.map Prod.fst).Nodup := by
  intro o ho
  obtain ⟨o', ho', rfl⟩ := List.mem_map.1 ho
  unfold delO
  split
  · exact (h o' ho').sublist ((List.filter_sublist (l := o'.lines)).map _)
  · exact h o' ho'

/-- What holds of the orders while one is taken away. -/
structure Mid (os : List O) (a : Nat) (ls : List L) (l : List (Nat × Nat)) : Prop where
  ids : ((delLs os a ls l).map O.id) = os.map O.id
  keys : ∀ o ∈ delLs os a ls l, (o.lines.map Prod.fst).Nodup
  line : ∀ a' b', lineOf (delLs os a ls l) a' b' = if a' = a ∧ (∃ p ∈ l, (ls.getD p.1 L0).id = b') then none else lineOf os a' b'

theorem mid {ls : List L} (a : Nat) : ∀ (l : List (Nat × Nat)) {os : List O}, (∀ o ∈ os, (o.lines.map Prod.fst).Nodup) → Mid os a ls l
  | [], os, hk => ⟨rfl, hk, fun a' b' => by simp [delLs]⟩
  | q :: l, os, hk => by
    have ih := mid (ls := ls) a l (delLine_keys (a := a) (b := (ls.getD q.1 L0).id) hk)
    have e : delLs os a ls (q :: l) = delLs (delLine os a (ls.getD q.1 L0).id) a ls l := rfl
    refine ⟨by rw [e, ih.ids, delLine_ids], by rw [e]; exact ih.keys, fun a' b' => ?_⟩
    rw [e, ih.line, lineOf_del]
    by_cases h2 : a' = a ∧ ∃ p ∈ l, (ls.getD p.1 L0).id = b'
    · obtain ⟨q1, p, q2, q3⟩ := h2
      rw [if_pos ⟨q1, p, q2, q3⟩, if_pos ⟨q1, p, List.mem_cons_of_mem _ q2, q3⟩]
    · rw [if_neg h2]
      by_cases h1 : a' = a ∧ b' = (ls.getD q.1 L0).id
      · rw [if_pos h1, if_pos ⟨h1.1, q, by simp, h1.2.symm⟩]
      · rw [if_neg h1, if_neg]
        rintro ⟨q1, p, q2, q3⟩
        rcases List.mem_cons.1 q2 with rfl | q2
        · exact h1 ⟨q1, q3.symm⟩
        · exact h2 ⟨q1, p, q2, q3⟩

theorem filter_none {b : Nat} : ∀ {l : List (Nat × Nat)}, l.lookup b = none → l.filter (fun p => p.1 != b) = l
  | [], _ => rfl
  | (x, y) :: l, h => by
    have hx : b ∉ ((x, y) :: l).map Prod.fst := lookup_none_iff.1 h
    simp only [List.map_cons, List.mem_cons, not_or] at hx
    have hb : (x != b) = true := by simp; exact fun e => hx.1 e.symm
    simp only [List.filter, hb]
    rw [filter_none (lookup_none_iff.2 hx.2)]
theorem find_self {os : List O} (hn : (os.map O.id).Nodup) {o : O} (ho : o ∈ os) : os.find? (fun o' => o'.id == o.id) = some o := by
  induction os with
  | nil => simp at ho
  | cons x os ih =>
    simp only [List.map_cons, List.nodup_cons] at hn
    rcases List.mem_cons.1 ho with rfl | h
    · simp
    · have hne : (x.id == o.id) = false := by
        rw [beq_eq_false_iff_ne]; intro e; exact hn.1 (by rw [e]; exact List.mem_map_of_mem h)
      simp only [List.find?, hne]; exact ih hn.2 h
theorem delLine_none {os : List O} (hn : (os.map O.id).Nodup) {a b : Nat} (h : lineOf os a b = none) : delLine os a b = os := by
  unfold delLine
  conv => rhs; rw [← List.map_id os]
  apply List.map_congr_left
  intro o ho
  unfold delO
  split
  · rename_i hid
    have hf := find_self hn ho
    rw [hid] at hf
    have hl : o.lines.lookup b = none := by unfold lineOf at h; rw [hf] at h; simpa using h
    rw [filter_none hl]; rfl
  · rfl

/-- All lines of the order are gone. -/
theorem end_lines {os : List O} {ls : List L} (hg : Good os ls) (a : Nat) : ∀ o ∈ delLs os a ls (endQ os a ls ls.length), o.id = a → o.lines = [] := by
  intro o ho hid
  have hm := mid (ls := ls) a (endQ os a ls ls.length) hg.keys
  have hn : ((delLs os a ls (endQ os a ls ls.length)).map O.id).Nodup := by rw [hm.ids]; exact hg.oids
  have hf := find_self hn ho
  have hnone : ∀ b, o.lines.lookup b = none := fun b => by
    have hl := hm.line a b
    have e : lineOf (delLs os a ls (endQ os a ls ls.length)) a b = o.lines.lookup b := by unfold lineOf; rw [hid] at hf; rw [hf]; rfl
    rw [e] at hl
    rw [hl]
    by_cases hc : ∃ p ∈ endQ os a ls ls.length, (ls.getD p.1 L0).id = b
    · rw [if_pos ⟨rfl, hc⟩]
    · rw [if_neg (fun q => hc q.2)]
      cases hlo : lineOf os a b with
      | none => rfl
      | some n =>
        exfalso
        have hlo0 := hlo
        unfold lineOf at hlo
        cases hfo : os.find? (fun o => o.id == a) with
        | none => rw [hfo] at hlo; cases hlo
        | some o' =>
          rw [hfo] at hlo
          simp only [Option.bind_some] at hlo
          have hmem : b ∈ o'.lines.map Prod.fst := Decidable.byContradiction fun hno => by rw [lookup_none_iff.2 hno] at hlo; cases hlo
          obtain ⟨p, hp, hpe⟩ := List.mem_map.1 hmem
          obtain ⟨j, hj, hje⟩ := hg.mem o' (List.mem_of_find?_eq_some hfo) p hp
          have hjb : (ls.getD j L0).id = b := by rw [hje, hpe]
          exact hc ⟨(j, n), endQ_has (by rw [hjb]; exact hlo0) hj, hjb⟩
  cases hl : o.lines with
  | nil => rfl
  | cons p r =>
    have := hnone p.1
    rw [hl] at this
    simp [List.lookup] at this

theorem filter_delLine (os : List O) (a b : Nat) : (delLine os a b).filter (fun o => o.id != a) = os.filter (fun o => o.id != a) := by
  induction os with
  | nil => rfl
  | cons o os ih =>
    have ih' : (os.map (delO a b)).filter (fun o => o.id != a) = os.filter (fun o => o.id != a) := ih
    simp only [delLine, List.map_cons, List.filter, delO_id]
    by_cases h : o.id = a
    · simp [h, ih']
    · have hb : (o.id != a) = true := by simp [h]
      have hd : delO a b o = o := by unfold delO; rw [if_neg h]
      simp [hb, ih', hd]
theorem delLs_filter (a : Nat) (ls : List L) : ∀ (l : List (Nat × Nat)) (os : List O), (delLs os a ls l).filter (fun o => o.id != a) = os.filter (fun o => o.id != a)
  | [], os => rfl
  | p :: l, os => by
    show (delLs (delLine os a (ls.getD p.1 L0).id) a ls l).filter (fun o => o.id != a) = _
    rw [delLs_filter a ls l, filter_delLine]

theorem find_filter {a a' : Nat} (ha : ¬ a' = a) : ∀ os : List O, (os.filter (fun o => o.id != a)).find? (fun o => o.id == a') = os.find? (fun o => o.id == a')
  | [] => rfl
  | o :: os => by
    by_cases ho : o.id = a
    · have h1 : (o.id != a) = false := by simp [ho]
      have h2 : (o.id == a') = false := by simp; omega
      simp only [List.filter, List.find?, h1, h2]
      exact find_filter ha os
    · have h2 : (o.id != a) = true := by simp [ho]
      simp only [List.filter, h2, List.find?]
      cases hq : o.id == a' with
      | true => rfl
      | false => exact find_filter ha os
theorem any_filter {a n : Nat} (ha : ¬ n = a) : ∀ os : List O, os.any (fun o => o.id == n) = (os.filter (fun o => o.id != a)).any (fun o => o.id == n)
  | [] => rfl
  | o :: os => by
    by_cases ho : o.id = a
    · have h1 : (o.id != a) = false := by simp [ho]
      have h3 : (o.id == n) = false := by simp; omega
      simp only [List.any_cons, h3, Bool.false_or, List.filter, h1]
      exact any_filter ha os
    · have h2 : (o.id != a) = true := by simp [ho]
      simp only [List.any_cons, List.filter, h2]
      rw [any_filter ha os]

theorem HD.final {os : List O} {D : DataW Unit} (h : HD os D) {a : Nat} (he : ∀ o ∈ os, o.id = a → o.lines = []) : HD (os.filter (fun o => o.id != a)) D := by
  have hl : ∀ a' b', lineOf (os.filter (fun o => o.id != a)) a' b' = lineOf os a' b' := fun a' b' => by
    unfold lineOf
    by_cases ha : a' = a
    · subst ha
      have h1 : (os.filter (fun o => o.id != a')).find? (fun o => o.id == a') = none := by
        rw [List.find?_eq_none]; intro o ho hq
        have := List.mem_filter.1 ho
        simp at this hq
        exact this.2 hq
      rw [h1]
      cases hf : os.find? (fun o => o.id == a') with
      | none => rfl
      | some o =>
        have := he o (List.mem_of_find?_eq_some hf) (by simpa using List.find?_some hf)
        simp [this, List.lookup]
    · rw [find_filter ha]
  have hn : nLines (os.filter (fun o => o.id != a)) = nLines os := by
    clear h hl
    induction os with
    | nil => rfl
    | cons o os ih =>
      have ih' := ih (fun o' h' => he o' (by simp [h']))
      by_cases ho : o.id = a
      · have := he o (by simp) ho
        simp only [List.filter, ho, bne_self_eq_false]
        rw [ih']; simp [nLines, this]
      · have h2 : (o.id != a) = true := by simp [ho]
        simp only [List.filter, h2, nLines, List.map_cons, List.sum_cons] at ih' ⊢
        rw [ih']
  exact ⟨by rw [h.size, hn], fun a' b' h1 h2 => by rw [hl]; exact h.has a' b' h1 h2, fun a' b' h1 h2 => by rw [hl]; exact h.val a' b' h1 h2⟩

theorem OD.del {os : List O} {D : DataW Unit} (h : OD os D) (ht : Maps.Tidy D) (hn : (os.map O.id).Nodup) {a : Nat} (ha : a ≤ 2147483647) (hin : os.any (fun o => o.id == a) = true) : OD (os.filter (fun o => o.id != a)) (D.del (okey a)) := by
  have hlen : ∀ (os : List O), (os.map O.id).Nodup → (os.filter (fun o => o.id != a)).length + (if os.any (fun o => o.id == a) then 1 else 0) = os.length := by
    intro os
    induction os with
    | nil => intro _; rfl
    | cons o os ih =>
      intro hn
      simp only [List.map_cons, List.nodup_cons] at hn
      have ih' := ih hn.2
      by_cases ho : o.id = a
      · have hno : os.any (fun o => o.id == a) = false := by
          rw [List.any_eq_false]; intro x hx hq; exact hn.1 (by rw [ho]; have : x.id = a := by simpa using hq
                                                                rw [← this]; exact List.mem_map_of_mem hx)
        rw [hno] at ih'
        simp only [List.filter, ho, bne_self_eq_false, List.any_cons, beq_self_eq_true, Bool.true_or, if_true, List.length_cons]
        simp at ih'
        simpa using ih'
      · have h2 : (o.id != a) = true := by simp [ho]
        have h3 : (o.id == a) = false := by simp [ho]
        simp only [List.filter, h2, List.any_cons, h3, Bool.false_or, List.length_cons]
        omega
  refine ⟨?_, fun n hq => ?_, fun n hq => ?_, fun kl hk => ?_⟩
  · have q1 := Maps.size_del (k := okey a) ht
    rw [h.has a ha, hin, h.size] at q1
    have q2 := hlen os hn
    rw [hin] at q2
    simp only [if_true] at q1 q2
    omega
  · by_cases e : n = a
    · subst e
      rw [Maps.has_del_same, eq_comm, List.any_eq_false]
      intro o ho hc
      have := (List.mem_filter.1 ho).2
      simp at this hc
      exact this hc
    · rw [Maps.has_del_other (fun q => e (okey_inj q)), h.has n hq]
      exact any_filter e os
  · by_cases e : n = a
    · subst e
      rw [Maps.atKey_del_same]
      unfold goodsOf
      have : (os.filter (fun o => o.id != n)).find? (fun o => o.id == n) = none := by
        rw [List.find?_eq_none]; intro o ho hc
        have := (List.mem_filter.1 ho).2
        simp at this hc
        exact this hc
      rw [this]; rfl
    · rw [Maps.atKey_del_other (fun q => e (okey_inj q)), h.val n hq]
      unfold goodsOf
      rw [find_filter e]
  · by_cases hq : kl = okey a
    · subst hq; rw [Maps.has_del_same] at hk; cases hk
    · rw [Maps.has_del_other hq] at hk
      obtain ⟨o, ho, e⟩ := h.keys kl hk
      refine ⟨o, List.mem_filter.2 ⟨ho, ?_⟩, e⟩
      have : o.id ≠ a := fun x => hq (by rw [e, x])
      simpa using this
theorem OD.line {os : List O} {D : DataW Unit} (h : OD os D) (a b : Nat) : OD (delLine os a b) D := by
  have hg : ∀ n, goodsOf (delLine os a b) n = goodsOf os n := fun n => by
    unfold goodsOf delLine
    rw [List.find?_map]
    have e : ((fun o : O => o.id == n) ∘ delO a b) = fun o => o.id == n := by funext o; simp [delO_id]
    rw [e]
    cases os.find? (fun o => o.id == n) with
    | none => rfl
    | some o => simp only [Option.map_some]; unfold delO; split <;> rfl
  refine ⟨by rw [h.size]; simp [delLine], fun n hn => by rw [h.has n hn, any_del], fun n hn => by rw [hg]; exact h.val n hn, fun kl hk => ?_⟩
  obtain ⟨o, ho, e⟩ := h.keys kl hk
  exact ⟨delO a b o, List.mem_map_of_mem ho, by rw [delO_id]; exact e⟩

end Go.Proofs.YtgcedalggnmooabGreatDoor

namespace Go.Proofs.YtgcedalggnmooabGreatDoor
set_option linter.unusedSimpArgs false
set_option linter.unusedVariables false
open Go.RowKit
set_option maxRecDepth 100000

theorem heldBy_le_sum {os : List O} {o : O} (ho : o ∈ os) (b : Nat) : heldBy o b ≤ heldSum os b := by
  induction os with
  | nil => simp at ho
  | cons x os ih =>
    simp only [heldSum, List.map_cons, List.sum_cons] at ih ⊢
    rcases List.mem_cons.1 ho with rfl | h
    · omega
    · have := ih h; omega
theorem line_le {os : List O} {a b n : Nat} (h : lineOf os a b = some n) : n ≤ heldSum os b := by
  unfold lineOf at h
  cases hf : os.find? (fun o => o.id == a) with
  | none => rw [hf] at h; cases h
  | some o =>
    rw [hf] at h
    simp only [Option.bind_some] at h
    have := heldBy_le_sum (List.mem_of_find?_eq_some hf) b
    unfold heldBy at this
    rw [h] at this
    simpa using this
theorem endL_ok {l : L} (h : L.Ok l) (os : List O) (a : Nat) : L.Ok (endL os a l) := ⟨h.id, h.goods, h.expiry, h.place, (by have := h.sum; show l.free + (l.held - (lineOf os a l.id).getD 0) + l.shipped + l.scrapped + l.given ≤ 2147483647; omega), h.got, h.par⟩
theorem turned_kp {Z : Nat → Prop} {w w' : World} {b : Nat} (h : w.mapTurned w' b) (hz : Z b) : Kp Z w w' := grown_kp h.grown hz

/-- Neither maps nor what the store is made of have turned. -/
theorem PV.cellsTo {rcs : List (Nat × Nat)} {w w' : World} {S : Nat} {M : Mx} {v : Value} {td : Nat} {bs : List Nat} {pvs : List Value} {ls : List L} {os : List O} (h : PV os rcs w S M v td bs pvs ls) (hc : ∀ (b : Nat) (cs : Array Value) (t : TypeId), w.heap[b]? = some (.cells cs t (0, 0)) → t ≠ 163 → w'.heap[b]? = w.heap[b]?) (hm : ∀ (b : Nat) (es : Array MapEntry) (c : Nat), w.heap[b]? = some (.map es c) → w'.heap[b]? = w.heap[b]?) : PV os rcs w' S M v td bs pvs ls := {
  store := (hc _ _ _ h.store (by decide)).trans h.store
  maps := h.maps.congr hm
  row := own_congr h.row (fun g hg => by obtain ⟨cs, hcs⟩ := own_ty h.row hg; exact hc _ _ _ hcs (by decide))
  len := h.len
  plen := h.plen
  lot := fun i hi => (hc _ _ _ (h.lot i hi) (by decide)).trans (h.lot i hi)
  par := fun i hi => (h.par i hi).congr (fun q hq' => by
    obtain ⟨cs, h3⟩ := (h.par i hi).blk hq'
    exact hc _ _ _ h3 (by decide))
  nodup := h.nodup
  today := h.today
  ok := h.ok
  room := h.room }

theorem dec_ok {l : L} (h : L.Ok l) (n : Nat) : L.Ok (decH l n) := ⟨h.id, h.goods, h.expiry, h.place, (by have := h.sum; show l.free + (l.held - n) + l.shipped + l.scrapped + l.given ≤ 2147483647; omega), h.got, h.par⟩
theorem drw (w : World) : Below w.heap.size w w.drew := (Below.refl _ _).drew
theorem own_lower {w : World} {B B' : Nat} {e : TypeId} {size : Nat} {v : Value} {n : Nat} {xs : List Value} (h : w.ownsRow B e size v n xs) (hb : B' ≤ B) : w.ownsRow B' e size v n xs := by
  refine ⟨h.1, ?_⟩
  rcases h.2 with h | ⟨g, cap, cur, h1, h2, h3⟩
  · exact Or.inl h
  · exact Or.inr ⟨g, cap, cur, h1, Nat.le_trans hb h2, h3⟩

set_option maxHeartbeats 3200000 in
theorem linesOf_any {rcs : List (Nat × Nat)} {w : World} {S : Nat} {M : Mx} {v : Value} {td : Nat} {bs : List Nat} {pvs : List Value} {ls : List L} {os : List O} (h : PV os rcs w S M v td bs pvs ls) (hids : ∀ i j, i < ls.length → j < ls.length → (ls.getD i L0).id = (ls.getD j L0).id → i = j) (a : Nat) (ha : a ≤ 2147483647) :
    Calls Tryz.prog 70 #[.pointer (some ⟨S, 0, none⟩), .int .i64 (a : Int)] w fun e w' => Below w.heap.size w w' ∧ ∃ lv, e = .returned lv ∧ w'.ownsRow w.heap.size 163 2 lv (endQ os a ls ls.length).length (lineCells bs (endQ os a ls ls.length)) := by
  obtain ⟨i0, hi, hz0, hz1, hz2⟩ := info_parts infoLine
  have hroom := h.room
  have HBN := hide (byNumber_any h hids)
  have HP0 := hide h
  clear h hids
  go_enter Tryz.func70, Tryz.ntmps70
  go_wp2_with (go_at_call 65; refine (HBN.out).mono ?_; rintro e w1 ⟨hb1, pa, pcap, rfl, hat⟩)
  have HB1 := hide hb1
  have HAT := hide hat
  clear hb1 hat HBN
  go_wp2_with fail
  go_loopw [5, 7, 8, 9, 13] (fun lv _ _ _ ii wr => ∃ k : Nat, ii = .int .i64 k ∧ k ≤ ls.length ∧ Below w1.heap.size w1 wr ∧ wr.ownsRow w1.heap.size 163 2 lv (endQ os a ls k).length (lineCells bs (endQ os a ls k))) (fun _ _ _ _ ii _ => ls.length - (intOf ii).toNat)
  case atStart => exact ⟨0, rfl, by omega, Below.refl _ _, World.ownsRow_nil _ _ _ _⟩
  case round =>
    obtain ⟨k, rfl, hk, hb, hown⟩ := hrel
    obtain ⟨la, lcap, hlv⟩ := own_shapeS hown
    subst hlv
    have hql := endQ_len os a ls k
    by_cases hlt : k < ls.length
    · have hb0 : Below w.heap.size w wr := HB1.out.trans (hb.mono HB1.out.size)
      have hPr := HP0.out.below hb0
      obtain ⟨G, rfl, _, hGlt, hck⟩ := (HAT.out.below hb) k (by rw [byN_len]; exact hlt)
      have hj := byN_get hlt
      have HHit := hide (fun n => endQ_hit (os := os) (a := a) (n := n) hlt)
      have HMiss := hide (endQ_miss (os := os) (a := a) hlt)
      generalize (byN ls).getD k 0 = j at *
      have hlot := hPr.lot j hj
      have hok := hPr.ok _ (mem_getD hj)
      have hid := hok.id
      have hS3 := hPr.c3
      obtain ⟨Dh, hDh, hHD⟩ := hPr.maps.h
      have hlk := look_h (w := wr.drew) (owns_congr hDh ((drw wr).block M.h (World.ownsMap.lt hDh))) hHD a (ls.getD j L0).id ha hid
      have c0 : wr.cell? ⟨bs.getD j 0, 0, none⟩ = some (.int .i64 ((ls.getD j L0).id : Int)) := by rw [blk_cell hlot]; rfl
      have HB := hide hb
      have HO := hide hown
      cases hl : lineOf os a (ls.getD j L0).id with
      | none =>
        rw [hl] at hlk
        have HE := hide (HMiss.out hl)
        generalize (ls.getD j L0).id = idk at *
        generalize bs.getD j 0 = bk at *
        clear hlot hok hDh hHD hl hPr hown hb hb0 HHit HMiss
        go_wp2_with fail
        go_region
        go_wp2_with fail
        go_roundw
        case rel => exact ⟨k + 1, by go_num, by omega, HB.out.trans ((drw wr).mono HB.out.size), by rw [HE.out]; exact own_below HO.out (drw wr)⟩
        case measure => simp [intOf]; omega
      | some n =>
        rw [hl] at hlk
        have HE := hide (HHit.out n hl)
        generalize (ls.getD j L0).id = idk at *
        obtain ⟨bk, HBK⟩ : ∃ bk, Hid (bk = bs.getD j 0) := ⟨_, rfl⟩
        rw [← HBK.out] at hck c0
        obtain ⟨ql, HQL⟩ : ∃ ql, Hid (ql = (endQ os a ls k).length) := ⟨_, rfl⟩
        rw [← HQL.out] at HO hql
        rw [show (Value.slice la (endQ os a ls k).length lcap) = Value.slice la ql lcap by rw [HQL.out]]
        clear hlot hok hDh hHD hl hPr hown hb hb0 HHit HMiss
        go_wp2_with fail
        go_region
        clear hlk
        have hws : w1.heap.size ≤ wr.heap.size := HB.out.size
        go_wp2_with (at_builtin; refine wpList_append_own _ rfl _ _ 135 rfl w1.heap.size 163 i0 (.agg #[.pointer none, .int .i64 0]) 2 16 tULines hi hz0 hz1 hz2 rfl (by decide) _ ql (lineCells bs (endQ os a ls k)) rfl ((own_below HO.out (drw wr)).alloc _) ⟨wr.heap.size, 0, none⟩ 1 1 [.pointer (some ⟨bk, 0, none⟩), .int .i64 (n : Int)] rfl rfl ?c1 ?c2 ?c3 ?c4 ?c5 ?_)
        case c1 => intro q u hu; have := cell_two_new wr (.pointer (some ⟨bk, 0, none⟩)) (.int .i64 (n : Int)) 163 q u hu; simpa using this
        case c2 => intro u hu; simp at hu; rcases hu with rfl | rfl <;> rfl
        case c3 => unfold maxLen; omega
        case c4 => omega
        case c5 => simp; omega
        intro lv2 w6 hown6 hgrow hnn
        have q1 : Below w1.heap.size w1 wr.drew := HB.out.trans ((drw wr).mono HB.out.size)
        have hbb : Below w1.heap.size w1 w6 := (q1.alloc q1.size _).grown hgrow (by have := q1.size; simp at *; omega) (fun q hq => (HO.out.lt q hq).1)
        have HO6 : Hid (w6.ownsRow w1.heap.size 163 2 lv2 (endQ os a ls (k + 1)).length (lineCells bs (endQ os a ls (k + 1)))) := by
          unfold Hid
          rw [HE.out, lineCells_snoc, List.length_append, List.length_singleton, ← HQL.out, ← HBK.out]
          exact hown6
        have HBB := hide hbb
        clear hown6 hgrow hnn hbb
        go_wp2_with fail
        go_roundw
        case rel => exact ⟨k + 1, by go_num, by omega, HBB.out, HO6.out⟩
        case measure => simp [intOf]; omega
    · obtain rfl : k = ls.length := by omega
      have HB := hide (HB1.out.trans (hb.mono HB1.out.size))
      have HO := hide hown
      clear hb hown hlt
      go_wp2_with fail
      go_ret
      exact ⟨HB.out, _, rfl, own_lower HO.out HB1.out.size⟩

set_option maxHeartbeats 3200000 in
theorem end_any {rcs : List (Nat × Nat)} {w : World} {S : Nat} {M : Mx} {v : Value} {td : Nat} {bs : List Nat} {pvs : List Value} {ls : List L} {os : List O} (h : PV os rcs w S M v td bs pvs ls) (hgo : Good os ls) (a : Nat) (ha : a ≤ 2147483647) (hany : os.any (fun o => o.id == a) = true) :
    Calls Tryz.prog 83 #[.pointer (some ⟨S, 0, none⟩), .int .i64 (a : Int)] w fun e w' => Kp (fun k => k = M.o ∨ k = M.h ∨ k ∈ bs) w w' ∧ PV (os.filter (fun o => o.id != a)) rcs w' S M v td bs pvs (ls.map (endL os a)) ∧ ∃ lv, e = .returned lv ∧ w'.ownsRow 0 163 2 lv (endQ os a ls ls.length).length (lineCells bs (endQ os a ls ls.length)) := by
  have hroom := h.room
  have HLO := hide (linesOf_any h hgo.ids a ha)
  have HP0 := hide h
  have HGO := hide hgo
  have HANY := hide hany
  clear h hgo hany
  go_enter Tryz.func83, Tryz.ntmps83
  go_wp2_with (go_at_call 70; refine (HLO.out).mono ?_; rintro e w1 ⟨hb1, lv, rfl, ho1⟩; obtain ⟨la, lcap, hlv⟩ := own_shapeS ho1; subst hlv)
  have HQM : Hid (∀ p ∈ endQ os a ls ls.length, p.1 < ls.length ∧ lineOf os a (ls.getD p.1 L0).id = some p.2) := fun p hp => endQ_mem hp
  have HQN : Hid (((endQ os a ls ls.length).map Prod.fst).Nodup) := endQ_fst os a ls _
  have hqlen : (endQ os a ls ls.length).length ≤ 30 := Nat.le_trans (endQ_len os a ls _) hroom
  obtain ⟨l, HL⟩ : ∃ l, Hid (l = endQ os a ls ls.length) := ⟨_, rfl⟩
  rw [← HL.out] at HQM HQN ho1 hqlen
  rw [← HL.out]
  have HP1 := hide (HP0.out.below hb1)
  have HK1 : Hid (Kp (fun k => k = M.o ∨ k = M.h ∨ k ∈ bs) w w1) := kpB hb1
  have HO1 := hide (own_base ho1)
  clear hb1 ho1 HLO HP0
  go_wp2_with fail
  go_loopw [7, 13] (fun _ ii wr => ∃ k : Nat, ii = .int .i64 k ∧ k ≤ l.length ∧ Kp (fun k => k = M.o ∨ k = M.h ∨ k ∈ bs) w wr ∧ PV (delLs os a ls (l.take k)) rcs wr S M v td bs pvs (updS decH ls (l.take k)) ∧ wr.ownsRow 0 163 2 (.slice la l.length lcap) l.length (lineCells bs l)) (fun _ ii _ => l.length - (intOf ii).toNat)
  case atStart => exact ⟨0, rfl, by omega, HK1.out, HP1.out, HO1.out⟩
  case round =>
    clear HP1 HO1 HK1
    obtain ⟨k, rfl, hk, hkp, hP, hown⟩ := hrel
    by_cases hlt : k < l.length
    · obtain ⟨G, rfl, hGlt, g1, g2⟩ := lines_cells hown k hlt
      have hpm : l.getD k (0, 0) ∈ l := by simp [List.getD_eq_getElem?_getD, hlt]
      have et : l.take (k + 1) = l.take k ++ [l.getD k (0, 0)] := by
        rw [List.take_succ_eq_append_getElem hlt]; simp [List.getD_eq_getElem?_getD, hlt]
      obtain ⟨hc, hln⟩ := HQM.out _ hpm
      have hnotin : (l.getD k (0, 0)).1 ∉ (l.take k).map Prod.fst := by
        have := HQN.out
        have e2 : l.map Prod.fst = ((l.take k).map Prod.fst ++ [(l.getD k (0, 0)).1]) ++ (l.drop (k + 1)).map Prod.fst := by
          conv => lhs; rw [← List.take_append_drop (k + 1) l, et]
          simp
        rw [e2] at this
        have := (List.nodup_append.1 (List.nodup_append.1 this).1).2.2
        intro hm
        exact this _ hm _ (by simp) rfl
      generalize hpk : l.getD k (0, 0) = p at *
      obtain ⟨c, n⟩ := p
      simp only at *
      clear hpk hpm
      have hlk : (updS decH ls (l.take k)).length = ls.length := updS_len _ _ _
      have hout : (updS decH ls (l.take k)).getD c L0 = ls.getD c L0 := updS_out decH _ _ hnotin
      have hcl0 := hP.lot c (by rw [hlk]; exact hc)
      rw [hout] at hcl0
      have hok := hP.ok _ (mem_getD (k := c) (by rw [hlk]; exact hc))
      rw [hout] at hok
      have hid := hok.id
      have hsum := hok.sum
      have hbmem : bs.getD c 0 ∈ bs := getD_mem_nat (by rw [hP.len, hlk]; exact hc)
      have hmid := mid (ls := ls) a (l.take k) HGO.out.keys
      have hn : n ≤ (ls.getD c L0).held := by rw [HGO.out.held c hc]; exact line_le hln
      have hB := al1 wr (.cells #[.pointer (some ⟨bs.getD c 0, 0, none⟩), .int .i64 (n : Int)] 163)
      have hbox := heap_alloc_new wr (.cells #[.pointer (some ⟨bs.getD c 0, 0, none⟩), .int .i64 (n : Int)] 163)
      have hblt := blk_lt hcl0
      have hcl1 := (hB.block _ hblt).trans hcl0
      have hS3 := hP.c3
      have hm := hP.maps
      obtain ⟨Dh, hDh, hHD⟩ := hP.maps.h
      have hDh1 : OwnsH (wr.alloc (.cells #[.pointer (some ⟨bs.getD c 0, 0, none⟩), .int .i64 (n : Int)] 163)).drew M.h (Maps.size Dh) Dh := owns_congr hDh (hB.block M.h (World.ownsMap.lt hDh))
      obtain ⟨w4, hrun, hown4, hturn⟩ := World.ownsMap.drop hDh1 kHold tUHm (key_h ha hid) 0
      have hgr4 := hturn.grown
      have htid : Maps.Tidy Dh := World.ownsMap.tidy hDh kHold
      have hHD4 := hHD.del htid ha hid (by rw [hmid.ids]; exact HGO.out.oids) hmid.keys
      have hdl : delLs os a ls (l.take (k + 1)) = delLine (delLs os a ls (l.take k)) a (ls.getD c L0).id := by rw [et, delLs_snoc]
      rw [← hdl] at hHD4
      have hP1 := hP.below hB.drew
      have hM4 : Mp (delLs os a ls (l.take (k + 1))) rcs w4 M := by
        have hm1 := hP1.maps
        obtain ⟨Dr, hDr, hRDr⟩ := hm1.r
        obtain ⟨Do, hDo, hOD⟩ := hm1.o
        exact ⟨⟨Dr, owns_congr hDr (hgr4.block M.r (World.ownsMap.lt hDr) (fun e => hm.rh (Option.some.inj e))), hRDr⟩, hm.rc, ⟨Do, owns_congr hDo (hgr4.block M.o (World.ownsMap.lt hDo) (fun e => hm.oh (Option.some.inj e))), by rw [hdl]; exact hOD.line a _⟩, ⟨_, owns_exact hown4, hHD4⟩, hm.ro, hm.rh, hm.oh⟩
      have hP4 : PV (delLs os a ls (l.take (k + 1))) rcs w4 S M v td bs pvs (updS decH ls (l.take k)) := hP1.mapsTo (fun q hq h1 h2 => hgr4.block q hq (fun e => h2 (Option.some.inj e))) hM4
      have hlot4 := hP4.lot c (by rw [hlk]; exact hc)
      rw [hout] at hlot4
      have hself : (w4.setCell ⟨bs.getD c 0, 7, none⟩ (.int .i64 (((ls.getD c L0).held : Int) - (n : Int)))).heap[bs.getD c 0]? = some (.cells (lotCells (decH (ls.getD c L0) n) (pvs.getD c default)) 153 (0, 0)) := by
        have e : (((ls.getD c L0).held : Int) - (n : Int)) = (((ls.getD c L0).held - n : Nat) : Int) := by omega
        rw [e]
        exact heap_setCell_same w4 (bs.getD c 0) 7 _ 153 (.int .i64 (((ls.getD c L0).held - n : Nat) : Int)) hlot4
      have hls : updS decH ls (l.take (k + 1)) = (updS decH ls (l.take k)).set c (decH (ls.getD c L0) n) := by rw [et, updS_snoc, hout]
      have hP5 : PV (delLs os a ls (l.take (k + 1))) rcs (w4.setCell ⟨bs.getD c 0, 7, none⟩ (.int .i64 (((ls.getD c L0).held : Int) - (n : Int)))) S M v td bs pvs (updS decH ls (l.take (k + 1))) := by
        rw [hls]
        exact hP4.lotset (i := c) (by rw [hlk]; exact hc) (dec_ok hok n) (by rw [hout]; rfl) hself (fun q _ hq => Below.heap_setCell _ _ _ _ hq)
      have hk5 : Kp (fun k => k = M.o ∨ k = M.h ∨ k ∈ bs) w (w4.setCell ⟨bs.getD c 0, 7, none⟩ (.int .i64 (((ls.getD c L0).held : Int) - (n : Int)))) :=
        (hkp.trans (Kp.before hB.drew (turned_kp hturn (Or.inl (Or.inl (Or.inr (Or.inl rfl))))))).setCell (p := ⟨bs.getD c 0, 7, none⟩) (Or.inl (Or.inr (Or.inr hbmem))) _
      have hown1 := own_below hown hB.drew
      have ho5 : (w4.setCell ⟨bs.getD c 0, 7, none⟩ (.int .i64 (((ls.getD c L0).held : Int) - (n : Int)))).ownsRow 0 163 2 (.slice (some ⟨G, 0, none⟩) l.length lcap) l.length (lineCells bs l) := own_congr hown1 (fun b hb => by
        obtain ⟨cs, hcs⟩ := own_ty hown1 hb
        obtain ⟨es, c2, hmm⟩ := owns_map hDh1
        have q1 := hgr4.block b (blk_lt hcs) (fun e => map_ne hcs hmm (Option.some.inj e))
        rw [Below.heap_setCell _ _ _ _ (ty_ne (q1.trans hcs) hlot4 (by decide)), q1])
      have hbox4 : w4.heap[wr.heap.size]? = some (.cells #[.pointer (some ⟨bs.getD c 0, 0, none⟩), .int .i64 (n : Int)] 163) := by
        obtain ⟨es, c2, hmm⟩ := owns_map hDh1
        exact (hgr4.block wr.heap.size (by have := blk_lt hbox; exact this) (fun e => map_ne hbox hmm (Option.some.inj e))).trans hbox
      have d0 : (wr.alloc (.cells #[.pointer (some ⟨bs.getD c 0, 0, none⟩), .int .i64 (n : Int)] 163)).cell? ⟨wr.heap.size, 0, none⟩ = some (.pointer (some ⟨bs.getD c 0, 0, none⟩)) := by rw [blk_cell hbox]; rfl
      have d4 : w4.cell? ⟨wr.heap.size, 0, none⟩ = some (.pointer (some ⟨bs.getD c 0, 0, none⟩)) := by rw [blk_cell hbox4]; rfl
      have d5 : w4.cell? ⟨wr.heap.size, 1, none⟩ = some (.int .i64 (n : Int)) := by rw [blk_cell hbox4]; rfl
      have e0 : (wr.alloc (.cells #[.pointer (some ⟨bs.getD c 0, 0, none⟩), .int .i64 (n : Int)] 163)).cell? ⟨bs.getD c 0, 0, none⟩ = some (.int .i64 ((ls.getD c L0).id : Int)) := by rw [blk_cell hcl1]; rfl
      have xS : (wr.alloc (.cells #[.pointer (some ⟨bs.getD c 0, 0, none⟩), .int .i64 (n : Int)] 163)).cell? ⟨S, 3, none⟩ = some (.map (some M.h)) := (hB.cell (by exact blk_lt hP.store)).trans hS3
      have c7 : w4.cell? ⟨bs.getD c 0, 7, none⟩ = some (.int .i64 ((ls.getD c L0).held : Int)) := by rw [blk_cell hlot4]; rfl
      have f7 := blk_free hlot4 7
      have HP5 := hide hP5
      have HK5 := hide hk5
      have HO5 := hide ho5
      have hhl : (ls.getD c L0).held ≤ 2147483647 := by omega
      generalize (ls.getD c L0).id = idk at *
      generalize (ls.getD c L0).held = hdk at *
      generalize bs.getD c 0 = bc at *
      clear hmid hcl0 hok hsum hbmem hln hnotin hlk hout hDh hHD hP hown hkp hm hDh1 hown4 hturn hgr4 htid hHD4 hdl hP1 hM4 hP4 hlot4 hself hls hP5 hk5 hown1 ho5 hcl1 hS3 et hc hbox4
      have hBne : ¬ wr.heap.size = bc := by omega
      go_wp2_with fail
      generalize (wr.alloc (.cells #[.pointer (some ⟨bc, 0, none⟩), .int .i64 (n : Int)] 163)) = wb at *
      clear hbox hB
      go_region
      go_wp2_with fail
      go_region
      go_wp2_with fail
      go_roundw
      case rel => exact ⟨k + 1, by go_num, by omega, HK5.out.after ((Below.refl _ _).drew), HP5.out.below ((Below.refl _ _).drew), own_below HO5.out ((Below.refl _ _).drew)⟩
      case measure => simp [intOf]; omega
    · obtain rfl : k = l.length := by omega
      rw [List.take_length, HL.out, dec_all] at hP
      rw [HL.out] at hown ⊢
      obtain ⟨Do, hDo, hOD⟩ := hP.maps.o
      obtain ⟨w4, hrun, hown4, hturn⟩ := World.ownsMap.drop hDo kInt tUOm (key_o ha) 0
      have hgr4 := hturn.grown
      have htid : Maps.Tidy Do := World.ownsMap.tidy hDo kInt
      have hmid := mid (ls := ls) a (endQ os a ls ls.length) HGO.out.keys
      have hnd : ((delLs os a ls (endQ os a ls ls.length)).map O.id).Nodup := by rw [hmid.ids]; exact HGO.out.oids
      have hany2 : (delLs os a ls (endQ os a ls ls.length)).any (fun o => o.id == a) = true := by
        have e : ∀ (l m : List O), l.map O.id = m.map O.id → l.any (fun o => o.id == a) = m.any (fun o => o.id == a) := fun l m he => by
          have : ∀ x : List O, x.any (fun o => o.id == a) = (x.map O.id).any (fun n => n == a) := fun x => by rw [List.any_map]; rfl
          rw [this, this, he]
        rw [e _ _ hmid.ids]; exact HANY.out
      have hOD4 := hOD.del htid hnd ha hany2
      rw [delLs_filter a ls (endQ os a ls ls.length) os] at hOD4
      have hM4 : Mp (os.filter (fun o => o.id != a)) rcs w4 M := by
        have hm := hP.maps
        obtain ⟨Dr, hDr, hRDr⟩ := hm.r
        obtain ⟨Dh, hDh, hHD⟩ := hm.h
        have hHD4 := hHD.final (end_lines HGO.out a)
        rw [delLs_filter a ls (endQ os a ls ls.length) os] at hHD4
        exact ⟨⟨Dr, owns_congr hDr (hgr4.block M.r (World.ownsMap.lt hDr) (fun e => hm.ro (Option.some.inj e))), hRDr⟩, hm.rc, ⟨_, owns_exact hown4, hOD4⟩, ⟨Dh, owns_congr hDh (hgr4.block M.h (World.ownsMap.lt hDh) (fun e => hm.oh (Option.some.inj e).symm)), hHD4⟩, hm.ro, hm.rh, hm.oh⟩
      have hP4 : PV (os.filter (fun o => o.id != a)) rcs w4 S M v td bs pvs (ls.map (endL os a)) := hP.mapsTo (fun q hq h1 h2 => hgr4.block q hq (fun e => h1 (Option.some.inj e))) hM4
      have ho4 : w4.ownsRow 0 163 2 (.slice la (endQ os a ls ls.length).length lcap) (endQ os a ls ls.length).length (lineCells bs (endQ os a ls ls.length)) := own_base (own_congr hown (fun b hb => by
        obtain ⟨cs, hcs⟩ := own_ty hown hb
        obtain ⟨es, c2, hmm⟩ := owns_map hDo
        exact hgr4.block b (blk_lt hcs) (fun e => map_ne hcs hmm (Option.some.inj e))))
      have hk4 : Kp (fun k => k = M.o ∨ k = M.h ∨ k ∈ bs) w w4 := hkp.trans (turned_kp hturn (Or.inl (Or.inl rfl)))
      have s2 := hP.c2
      have HP4 := hide hP4
      have HO4 := hide ho4
      have HK4 := hide hk4
      clear hlt hP hDo hOD hown4 hturn hgr4 htid hmid hnd hany2 hOD4 hM4 hP4 ho4 hk4 hown hkp
      go_wp2_with fail
      go_ret
      exact ⟨HK4.out, HP4.out, _, rfl, HO4.out⟩

end Go.Proofs.YtgcedalggnmooabGreatDoor

namespace Go.Proofs.YtgcedalggnmooabGreatDoor
set_option linter.unusedSimpArgs false
set_option linter.unusedVariables false
open Go.RowKit
set_option maxRecDepth 100000

def freeL (l : L) (n : Nat) : L := { l with free := l.free + n }
def shipL (l : L) (n : Nat) : L := { l with shipped := l.shipped + n }

/-- What an order's end makes of a lot. -/
def finL (g : L → Nat → L) (os : List O) (a : Nat) (l : L) : L :=
  match lineOf os a l.id with
  | some n => g { l with held := l.held - n } n
  | none => l

theorem upd_fin (g : L → Nat → L) (os : List O) (a : Nat) (ls : List L) : updS g (ls.map (endL os a)) (endQ os a ls ls.length) = ls.map (finL g os a) := by
  apply ext_getD
  · rw [updS_len]; simp
  · intro i hi
    rw [updS_len, List.length_map] at hi
    rw [getD_map hi]
    cases h : lineOf os a (ls.getD i L0).id with
    | some n =>
      rw [updS_in g _ _ (endQ_fst os a ls _) (endQ_has h hi) (by simpa using hi), getD_map hi]
      unfold finL endL; rw [h]; rfl
    | none =>
      rw [updS_out, getD_map hi]
      · unfold finL endL; rw [h]; rfl
      · intro hm
        obtain ⟨p, hp, rfl⟩ := List.mem_map.1 hm
        have := (endQ_mem hp).2
        rw [h] at this; cases this
theorem fin_none {os : List O} {a : Nat} (h : os.any (fun o => o.id == a) = false) (g : L → Nat → L) (ls : List L) : ls.map (finL g os a) = ls ∧ os.filter (fun o => o.id != a) = os := by
  have hf : os.find? (fun o => o.id == a) = none := by
    rw [List.find?_eq_none]; intro o ho; exact List.any_eq_false.1 h o ho
  have hl : ∀ b, lineOf os a b = none := fun b => by unfold lineOf; rw [hf]; rfl
  constructor
  · conv => rhs; rw [← List.map_id ls]
    apply List.map_congr_left
    intro l _
    unfold finL; rw [hl]; rfl
  · rw [List.filter_eq_self]
    intro o ho
    have := List.any_eq_false.1 h o ho
    simpa using this

/-- The error of an order's end. -/
def endC (os : List O) (a : Nat) : Nat := if os.any (fun o => o.id == a) then 0 else 9

theorem free_ok {l : L} (h : L.Ok l) {os : List O} {a n : Nat} (hl : lineOf os a l.id = some n) (hn : n ≤ l.held) : L.Ok (freeL (endL os a l) n) := ⟨h.id, h.goods, h.expiry, h.place, (by have := h.sum; show l.free + n + (l.held - (lineOf os a l.id).getD 0) + l.shipped + l.scrapped + l.given ≤ 2147483647; rw [hl]; show l.free + n + (l.held - n) + l.shipped + l.scrapped + l.given ≤ 2147483647; omega), h.got, h.par⟩
theorem ship_ok {l : L} (h : L.Ok l) {os : List O} {a n : Nat} (hl : lineOf os a l.id = some n) (hn : n ≤ l.held) : L.Ok (shipL (endL os a l) n) := ⟨h.id, h.goods, h.expiry, h.place, (by have := h.sum; show l.free + (l.held - (lineOf os a l.id).getD 0) + (l.shipped + n) + l.scrapped + l.given ≤ 2147483647; rw [hl]; show l.free + (l.held - n) + (l.shipped + n) + l.scrapped + l.given ≤ 2147483647; omega), h.got, h.par⟩

end Go.Proofs.YtgcedalggnmooabGreatDoor
