import Derived.Test.YtgcedalggnmooabGreatDoorKQ
import Derived.Test.YtgcedalggnmooabGreatDoorKE
namespace Go.Proofs.YtgcedalggnmooabGreatDoor
set_option linter.unusedSimpArgs false
set_option linter.unusedVariables false
set_option maxRecDepth 100000

/-- Lots turned, and new ones with numbers 1 to 12. -/
structure Gr (ls ls' : List L) : Prop where
  len : ls.length ≤ ls'.length
  old : ∀ i, i < ls.length → (ls'.getD i L0).id = (ls.getD i L0).id ∧ (ls'.getD i L0).goods = (ls.getD i L0).goods
  new : ∀ i, ls.length ≤ i → i < ls'.length → 1 ≤ (ls'.getD i L0).id ∧ (ls'.getD i L0).id ≤ 12

theorem Gr.refl (ls : List L) : Gr ls ls := ⟨Nat.le_refl _, fun _ _ => ⟨rfl, rfl⟩, fun i h1 h2 => by omega⟩
theorem Gr.same {ls ls' : List L} (hl : ls'.length = ls.length) (h : ∀ i, i < ls.length → (ls'.getD i L0).id = (ls.getD i L0).id ∧ (ls'.getD i L0).goods = (ls.getD i L0).goods) : Gr ls ls' := ⟨by omega, h, fun i h1 h2 => by omega⟩
theorem Gr.set (ls : List L) (j : Nat) (l : L) (h : j < ls.length → l.id = (ls.getD j L0).id ∧ l.goods = (ls.getD j L0).goods) : Gr ls (ls.set j l) :=
  Gr.same (List.length_set ..) (fun i hi => by
    by_cases hij : i = j
    · subst hij; rw [gset_eq hi]; exact h hi
    · rw [gset_ne hij]; exact ⟨rfl, rfl⟩)
theorem Gr.snoc {ls ls' : List L} (h : Gr ls ls') {l : L} (h1 : 1 ≤ l.id) (h2 : l.id ≤ 12) : Gr ls (ls' ++ [l]) := by
  have hlt : ∀ i, i < ls'.length → (ls' ++ [l]).getD i L0 = ls'.getD i L0 := fun i hi => by simp [List.getD_eq_getElem?_getD, List.getElem?_append_left hi]
  have heq : (ls' ++ [l]).getD ls'.length L0 = l := by simp [List.getD_eq_getElem?_getD]
  refine ⟨by rw [List.length_append]; have := h.len; omega, fun i hi => ?_, fun i hi hi2 => ?_⟩
  · rw [hlt i (Nat.lt_of_lt_of_le hi h.len)]; exact h.old i hi
  · rw [List.length_append, List.length_singleton] at hi2
    by_cases hb : i < ls'.length
    · rw [hlt i hb]; exact h.new i hi hb
    · obtain rfl : i = ls'.length := by omega
      rw [heq]; exact ⟨h1, h2⟩
theorem Gr.trans2 {ls ls' ls'' : List L} (h : Gr ls ls') (k : Gr ls' ls'') (hl : ls'.length = ls.length) : Gr ls ls'' :=
  ⟨Nat.le_trans h.len k.len, fun i hi => ⟨(k.old i (by omega)).1.trans (h.old i hi).1, (k.old i (by omega)).2.trans (h.old i hi).2⟩, fun i h1 h2 => k.new i (by omega) h2⟩

theorem holdS_goods (ls : List L) (l : List (Nat × Nat)) : ∀ i, ((holdS ls l).getD i L0).goods = (ls.getD i L0).goods := by
  induction l generalizing ls with
  | nil => intro i; rfl
  | cons p r ih =>
    intro i
    simp only [holdS]
    rw [ih]
    by_cases h : i = p.1
    · subst h
      by_cases hl : p.1 < ls.length
      · rw [gset_eq hl]; rfl
      · simp [List.set_eq_of_length_le (show ls.length ≤ p.1 by omega)]
    · rw [gset_ne h]

theorem gr_fin (g : L → Nat → L) (hg : ∀ l n, (g l n).id = l.id ∧ (g l n).goods = l.goods) (os : List O) (a : Nat) (ls : List L) : Gr ls (ls.map (finL g os a)) :=
  Gr.same (List.length_map ..) (fun i hi => by
    rw [map_getD hi]; unfold finL; split
    · exact ⟨(hg _ _).1, (hg _ _).2⟩
    · exact ⟨rfl, rfl⟩)

theorem gr_step (s : Sv) (k a b c d : Int) : Gr s.ls (stepV s (.ok (sp k a b c d))).ls := by
  have h2 := pk_lt a (n := 12) (by omega)
  have h6 := pk_lt b (n := 12) (by omega)
  have h7 := pk_lt c (n := 12) (by omega)
  unfold sp
  split
  · show Gr s.ls (stepS s.rcs s.td s.ls (.ok (1, [pk a 40]))).2.2
    have e : (stepS s.rcs s.td s.ls (.ok (1, [pk a 40]))).2.2 = s.ls := by simp only [stepS]; split <;> rfl
    rw [e]; exact Gr.refl _
  · show Gr s.ls (if roomC s.ls (1 + pk a 12) = 0 then s.ls ++ [newL s.ls (1 + pk a 12) (1 + pk b 3) (1 + pk c 400) (pk d 40)] else s.ls)
    split
    · exact (Gr.refl _).snoc (by show 1 ≤ 1 + pk a 12; omega) (by show 1 + pk a 12 ≤ 12; omega)
    · exact Gr.refl _
  · show Gr s.ls (splitS s.ls (1 + pk a 12) (1 + pk b 12) (1 + pk c 400))
    unfold splitS
    split
    · refine Gr.snoc ?_ ?_ ?_
      · exact Gr.set _ _ _ (fun _ => ⟨rfl, rfl⟩)
      · show 1 ≤ 1 + pk b 12; omega
      · show 1 + pk b 12 ≤ 12; omega
    · exact Gr.refl _
  · show Gr s.ls (mergeS s.ls (1 + pk a 12) (1 + pk b 12) (1 + pk c 12))
    unfold mergeS
    split
    · rename_i h0
      obtain ⟨q1, q2, q3, _, _⟩ := mergeC_zero h0
      refine Gr.snoc ?_ ?_ ?_
      · refine Gr.trans2 (ls' := s.ls.set (idx (1 + pk a 12) s.ls) (gaveL (lotAt s.ls (1 + pk a 12)) (lotAt s.ls (1 + pk a 12)).free)) ?_ ?_ (List.length_set ..)
        · exact Gr.set _ _ _ (fun _ => ⟨rfl, rfl⟩)
        · refine Gr.set _ _ _ (fun _ => ?_)
          rw [gset_ne (Ne.symm q3)]; exact ⟨rfl, rfl⟩
      · show 1 ≤ 1 + pk c 12; omega
      · show 1 + pk c 12 ≤ 12; omega
    · exact Gr.refl _
  · show Gr s.ls (askL s.rcs s.os s.td s.ls (1 + pk a 4) (1 + pk b 3) (1 + pk c 400) (pk d 10) (pk (d.tdiv 16) 4))
    unfold askL
    split
    · exact Gr.same (holdS_len _ _) (fun i _ => ⟨holdS_id _ _ i, holdS_goods _ _ i⟩)
    · exact Gr.refl _
  · exact gr_fin freeL (fun _ _ => ⟨rfl, rfl⟩) _ _ _
  · exact gr_fin shipL (fun _ _ => ⟨rfl, rfl⟩) _ _ _
  · exact Gr.refl _
  · exact Gr.refl _
  · show Gr s.ls (scrapS s.ls (1 + pk a 12) (1 + pk c 400))
    unfold scrapS
    split
    · exact Gr.set _ _ _ (fun _ => ⟨rfl, rfl⟩)
    · exact Gr.refl _
  · show Gr s.ls (stepS s.rcs s.td s.ls (.ok (11, [1 + pk a 12]))).2.2
    have e : (stepS s.rcs s.td s.ls (.ok (11, [1 + pk a 12]))).2.2 = s.ls := by simp only [stepS]; split <;> rfl
    rw [e]; exact Gr.refl _
  · exact Gr.refl _

theorem os_step (s : Sv) (h : ∀ o ∈ s.os, o.id ≤ 4) (k a b c d : Int) : ∀ o ∈ (stepV s (.ok (sp k a b c d))).os, o.id ≤ 4 := by
  have h2 := pk_lt a (n := 4) (by omega)
  have hf : ∀ n : Nat, ∀ o ∈ s.os.filter (fun o => o.id != n), o.id ≤ 4 := fun n o ho => h o (List.mem_filter.1 ho).1
  unfold sp
  split
  · exact h
  · exact h
  · exact h
  · exact h
  · show ∀ o ∈ askO s.rcs s.os s.td s.ls (1 + pk a 4) (1 + pk b 3) (1 + pk c 400) (pk d 10) (pk (d.tdiv 16) 4), o.id ≤ 4
    unfold askO
    split
    · intro o ho
      rcases List.mem_append.1 ho with ho | ho
      · exact h o ho
      · simp at ho; subst ho; show 1 + pk a 4 ≤ 4; omega
    · exact h
  · exact hf _
  · exact hf _
  · exact h
  · exact h
  · exact h
  · exact h
  · exact h

/-- What scripts leave: lots of goods 1 to 3 have numbers 1 to 12, orders have numbers up to 4. -/
structure Sc (s : Sv) : Prop where
  lots : ∀ i, i < s.ls.length → (1 ≤ (s.ls.getD i L0).id ∧ (s.ls.getD i L0).id ≤ 12) ∨ (s.ls.getD i L0).goods = 9
  os : ∀ o ∈ s.os, o.id ≤ 4

theorem Sc.step {s : Sv} (h : Sc s) (k a b c d : Int) : Sc (stepV s (.ok (sp k a b c d))) := by
  refine ⟨fun i hi => ?_, os_step s h.os k a b c d⟩
  have hg := gr_step s k a b c d
  by_cases hl : i < s.ls.length
  · obtain ⟨e1, e2⟩ := hg.old i hl
    rw [e1, e2]; exact h.lots i hl
  · exact Or.inl (hg.new i (by omega) hi)

theorem sc_s2 : Sc s2 := ⟨fun i hi => by
  rcases (show i = 0 ∨ i = 1 by have : i < 2 := hi; omega) with rfl | rfl <;> exact Or.inr rfl, fun o ho => by cases ho⟩

/-- The order 77. -/
def oV (ls : List L) (g : Nat) (q : List (Nat × Nat)) : O := ⟨77, g, linesId ls q⟩

theorem any77 {os : List O} (h : ∀ o ∈ os, o.id ≤ 4) : os.any (fun o => o.id == 77) = false := by
  rw [List.any_eq_false]
  intro o ho he
  have := h o ho
  have : o.id = 77 := by simpa using he
  omega
theorem filter77 {os : List O} (h : ∀ o ∈ os, o.id ≤ 4) : os.filter (fun o => o.id != 77) = os := by
  rw [List.filter_eq_self]
  intro o ho
  have := h o ho
  simp; omega
theorem filter77' {os : List O} (h : ∀ o ∈ os, o.id ≤ 4) (ls : List L) (g : Nat) (q : List (Nat × Nat)) : (os ++ [oV ls g q]).filter (fun o => o.id != 77) = os := by
  rw [List.filter_append, filter77 h]; simp [oV]
theorem find77 {os : List O} (h : ∀ o ∈ os, o.id ≤ 4) : os.find? (fun o => o.id == 77) = none := by
  rw [List.find?_eq_none]
  intro o ho he
  have := h o ho
  have : o.id = 77 := by simpa using he
  omega
theorem line77 {os : List O} (h : ∀ o ∈ os, o.id ≤ 4) (n : Nat) : lineOf os 77 n = none := by unfold lineOf; rw [find77 h]; rfl
theorem line77' {os : List O} (h : ∀ o ∈ os, o.id ≤ 4) (ls : List L) (g : Nat) (q : List (Nat × Nat)) (n : Nat) : lineOf (os ++ [oV ls g q]) 77 n = (linesId ls q).lookup n := by
  unfold lineOf
  rw [List.find?_append, find77 h]; simp [oV]

/-- What ends the order 77, lot by lot. -/
theorem fin77 {os : List O} {ls : List L} (hgo : Good os ls) (ho : ∀ o ∈ os, o.id ≤ 4) (gf : L → Nat → L) (g : Nat) (q : List (Nat × Nat)) (hn : (q.map Prod.fst).Nodup) (hin : ∀ p ∈ q, p.1 < ls.length) (i : Nat) (hi : i < ls.length) :
    ((holdS ls q).map (finL gf (os ++ [oV ls g q]) 77)).getD i L0 = match q.lookup i with | some n => gf { ls.getD i L0 with free := (ls.getD i L0).free - n } n | none => ls.getD i L0 := by
  rw [map_getD (by rw [holdS_len]; exact hi)]
  unfold finL
  rw [holdS_id, line77' ho, linesId_lookup hgo.ids q hin i hi]
  by_cases hm : i ∈ q.map Prod.fst
  · obtain ⟨p, hp, rfl⟩ := List.mem_map.1 hm
    rw [lookup_of_mem hn (n := p.2) hp, holdS_in q ls hn (n := p.2) hp hi]
    simp only [holdL]
    rw [show (ls.getD p.1 L0).held + p.2 - p.2 = (ls.getD p.1 L0).held by omega]
  · rw [lookup_none_iff.2 hm, holdS_out q ls hm]

theorem undo_ls {os : List O} {ls : List L} (hgo : Good os ls) (ho : ∀ o ∈ os, o.id ≤ 4) (g : Nat) (q : List (Nat × Nat)) (hn : (q.map Prod.fst).Nodup) (hin : ∀ p ∈ q, p.1 < ls.length) (hle : ∀ p ∈ q, p.2 ≤ (ls.getD p.1 L0).free) :
    (holdS ls q).map (finL freeL (os ++ [oV ls g q]) 77) = ls := by
  refine ext_getD (by rw [List.length_map, holdS_len]) (fun i hi => ?_)
  rw [List.length_map, holdS_len] at hi
  rw [fin77 hgo ho freeL g q hn hin i hi]
  by_cases hm : i ∈ q.map Prod.fst
  · obtain ⟨p, hp, rfl⟩ := List.mem_map.1 hm
    rw [lookup_of_mem hn (n := p.2) hp]
    have := hle p hp
    simp only [freeL]
    rw [show (ls.getD p.1 L0).free - p.2 + p.2 = (ls.getD p.1 L0).free by omega]
  · rw [lookup_none_iff.2 hm]

theorem idx_of {os : List O} {ls : List L} (hgo : Good os ls) {i : Nat} (hi : i < ls.length) : idx (ls.getD i L0).id ls = i := by
  have hlt : idx (ls.getD i L0).id ls < ls.length := by
    apply Nat.lt_of_not_le
    intro hge
    exact idx_fresh (show ¬ idx (ls.getD i L0).id ls < ls.length by omega) i hi rfl
  exact hgo.ids _ _ hlt hi (idx_id hlt)

end Go.Proofs.YtgcedalggnmooabGreatDoor
