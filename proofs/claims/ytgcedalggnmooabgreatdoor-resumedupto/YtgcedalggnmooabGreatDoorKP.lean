import Derived.Test.YtgcedalggnmooabGreatDoorKD
namespace Go.Proofs.YtgcedalggnmooabGreatDoor
set_option linter.unusedSimpArgs false
set_option linter.unusedVariables false
set_option maxRecDepth 100000

def sumF (f : L → Nat) (ls : List L) : Nat := (ls.map f).sum
theorem sumF_app (f : L → Nat) (a : List L) (l : L) : sumF f (a ++ [l]) = sumF f a + f l := by simp [sumF]
theorem sumF_set (f : L → Nat) : ∀ (ls : List L) (i : Nat) (l : L), i < ls.length → sumF f (ls.set i l) + f (ls.getD i L0) = sumF f ls + f l
  | [], i, l, h => by simp at h
  | x :: r, 0, l, _ => by simp [sumF]; omega
  | x :: r, i + 1, l, h => by
    have := sumF_set f r i l (by simpa using h)
    simp only [sumF, List.set_cons_succ, List.map_cons, List.sum_cons, List.getD_cons_succ] at this ⊢
    omega
theorem sumF_eq (f : L → Nat) {a b : List L} (hl : a.length = b.length) (h : ∀ i, i < a.length → f (a.getD i L0) = f (b.getD i L0)) : sumF f a = sumF f b := by
  unfold sumF
  congr 1
  apply List.ext_getElem (by simp [hl])
  intro i h1 h2
  have := h i (by simpa using h1)
  simpa [List.getD_eq_getElem?_getD, show i < a.length by simpa using h1, show i < b.length by simpa using h2] using this

/-- A lot as it must be. -/
def Lw (l : L) : Prop := 1 ≤ l.got ∧ l.got = l.free + l.held + l.shipped + l.scrapped + l.given ∧ 1 ≤ l.id ∧ l.id ≤ 14
/-- A lot turned within. -/
def Lk (l l' : L) : Prop := l'.id = l.id ∧ l'.got = l.got ∧ l'.given = l.given ∧ l'.free + l'.held + l'.shipped + l'.scrapped = l.free + l.held + l.shipped + l.scrapped
theorem Lk.refl (l : L) : Lk l l := ⟨rfl, rfl, rfl, rfl⟩
theorem Lk.lw {l l' : L} (h : Lk l l') (hl : Lw l) : Lw l' := by
  obtain ⟨h1, h2, h3, h4⟩ := h
  obtain ⟨k1, k2, k3, k4⟩ := hl
  unfold Lw; omega

structure Cn (ls : List L) (R : Nat) : Prop where
  each : ∀ i, i < ls.length → Lw (ls.getD i L0)
  sum : sumF L.got ls = sumF L.given ls + R

theorem Cn.keep {ls ls' : List L} {R : Nat} (h : Cn ls R) (hl : ls'.length = ls.length) (hk : ∀ i, i < ls.length → Lk (ls.getD i L0) (ls'.getD i L0)) : Cn ls' R := by
  refine ⟨fun i hi => (hk i (by omega)).lw (h.each i (by omega)), ?_⟩
  rw [sumF_eq L.got hl (fun i hi => (hk i (by omega)).2.1), sumF_eq L.given hl (fun i hi => (hk i (by omega)).2.2.1)]
  exact h.sum
theorem Cn.app {ls : List L} {R n : Nat} {l : L} (h : ∀ i, i < ls.length → Lw (ls.getD i L0)) (hl : Lw l) (hg : l.given = 0) (hs : sumF L.got ls + l.got = sumF L.given ls + R) : Cn (ls ++ [l]) R := by
  refine ⟨fun i hi => ?_, by rw [sumF_app, sumF_app, hg]; omega⟩
  rw [List.length_append, List.length_singleton] at hi
  by_cases hlt : i < ls.length
  · have e : (ls ++ [l]).getD i L0 = ls.getD i L0 := by simp [List.getD_eq_getElem?_getD, List.getElem?_append_left hlt]
    rw [e]; exact h i hlt
  · have : i = ls.length := by omega
    subst this
    have e : (ls ++ [l]).getD ls.length L0 = l := by simp [List.getD_eq_getElem?_getD]
    rw [e]; exact hl

theorem gaveL_lw {l : L} (h : Lw l) {n : Nat} (hn : n ≤ l.free) : Lw (gaveL l n) := by
  obtain ⟨k1, k2, k3, k4⟩ := h
  refine ⟨k1, ?_, k3, k4⟩
  show l.got = l.free - n + l.held + l.shipped + l.scrapped + (l.given + n); omega

theorem set_lw {ls : List L} (h : ∀ i, i < ls.length → Lw (ls.getD i L0)) {j : Nat} (hj : j < ls.length) {l : L} (hl : Lw l) : ∀ i, i < (ls.set j l).length → Lw ((ls.set j l).getD i L0) := fun i hi => by
  rw [List.length_set] at hi
  by_cases hij : i = j
  · subst hij; rw [gset_eq hj]; exact hl
  · rw [gset_ne hij]; exact h i hi

theorem Cn.split {ls : List L} {R : Nat} (h : Cn ls R) {a b c : Nat} (hb : 1 ≤ b ∧ b ≤ 14) (hc : 1 ≤ c) : Cn (splitS ls a b c) R := by
  unfold splitS
  by_cases h0 : splitC ls a b c = 0
  · rw [if_pos h0]
    unfold splitC at h0
    by_cases hi : idx a ls < ls.length
    · rw [if_pos hi] at h0
      by_cases hr : roomC ls b = 0
      · rw [if_pos hr] at h0
        by_cases hf : (ls.getD (idx a ls) L0).free < c
        · rw [if_pos hf] at h0; omega
        · have hw := h.each _ hi
          refine Cn.app (n := 0) (set_lw h.each hi (gaveL_lw hw (by omega))) ⟨hc, by show c = c + 0 + 0 + 0 + 0; omega, hb.1, hb.2⟩ rfl ?_
          have s1 := sumF_set L.got ls (idx a ls) (gaveL (ls.getD (idx a ls) L0) c) hi
          have s2 := sumF_set L.given ls (idx a ls) (gaveL (ls.getD (idx a ls) L0) c) hi
          have s3 := h.sum
          have e1 : (gaveL (ls.getD (idx a ls) L0) c).got = (ls.getD (idx a ls) L0).got := rfl
          have e2 : (gaveL (ls.getD (idx a ls) L0) c).given = (ls.getD (idx a ls) L0).given + c := rfl
          rw [e1] at s1
          rw [e2] at s2
          show sumF L.got (ls.set (idx a ls) (gaveL (ls.getD (idx a ls) L0) c)) + c = _
          omega
      · rw [if_neg hr] at h0; exact absurd h0 hr
    · rw [if_neg hi] at h0; omega
  · rw [if_neg h0]; exact h

theorem mergeC_zero {ls : List L} {a b m : Nat} (h : mergeC ls a b m = 0) : idx a ls < ls.length ∧ idx b ls < ls.length ∧ idx a ls ≠ idx b ls ∧ roomC ls m = 0 ∧ (lotAt ls a).free + (lotAt ls b).free ≠ 0 := by
  unfold mergeC at h
  by_cases hi : idx a ls < ls.length ∧ idx b ls < ls.length
  · rw [if_pos hi] at h
    by_cases h1 : idx a ls = idx b ls ∨ (lotAt ls a).goods ≠ (lotAt ls b).goods
    · rw [if_pos h1] at h; omega
    · rw [if_neg h1] at h
      by_cases h2 : roomC ls m = 0
      · rw [if_pos h2] at h
        by_cases h3 : (lotAt ls a).free + (lotAt ls b).free = 0
        · rw [if_pos h3] at h; omega
        · exact ⟨hi.1, hi.2, fun e => h1 (Or.inl e), h2, h3⟩
      · rw [if_neg h2] at h; exact absurd h h2
  · rw [if_neg hi] at h; omega

theorem Cn.merge {ls : List L} {R : Nat} (h : Cn ls R) {a b m : Nat} (hb : 1 ≤ m ∧ m ≤ 14) : Cn (mergeS ls a b m) R := by
  unfold mergeS
  by_cases h0 : mergeC ls a b m = 0
  · rw [if_pos h0]
    obtain ⟨h1, h2, h3, h4, h5⟩ := mergeC_zero h0
    have w1 := h.each _ h1
    have w2 := h.each _ h2
    have hset : idx b ls < (ls.set (idx a ls) (gaveL (lotAt ls a) (lotAt ls a).free)).length := by rw [List.length_set]; exact h2
    refine Cn.app (n := 0) (set_lw (set_lw h.each h1 (gaveL_lw w1 (Nat.le_refl _))) hset (gaveL_lw w2 (Nat.le_refl _))) ⟨by show 1 ≤ (lotAt ls a).free + (lotAt ls b).free; omega, by show (lotAt ls a).free + (lotAt ls b).free = (lotAt ls a).free + (lotAt ls b).free + 0 + 0 + 0 + 0; omega, hb.1, hb.2⟩ rfl ?_
    have s1 := sumF_set L.got ls (idx a ls) (gaveL (lotAt ls a) (lotAt ls a).free) h1
    have s2 := sumF_set L.given ls (idx a ls) (gaveL (lotAt ls a) (lotAt ls a).free) h1
    have t1 := sumF_set L.got _ (idx b ls) (gaveL (lotAt ls b) (lotAt ls b).free) hset
    have t2 := sumF_set L.given _ (idx b ls) (gaveL (lotAt ls b) (lotAt ls b).free) hset
    rw [gset_ne (Ne.symm h3)] at t1 t2
    have s3 := h.sum
    have e1 : (gaveL (lotAt ls a) (lotAt ls a).free).got = (ls.getD (idx a ls) L0).got := rfl
    have e2 : (gaveL (lotAt ls a) (lotAt ls a).free).given = (ls.getD (idx a ls) L0).given + (lotAt ls a).free := rfl
    have e3 : (gaveL (lotAt ls b) (lotAt ls b).free).got = (ls.getD (idx b ls) L0).got := rfl
    have e4 : (gaveL (lotAt ls b) (lotAt ls b).free).given = (ls.getD (idx b ls) L0).given + (lotAt ls b).free := rfl
    rw [e1] at s1
    rw [e2] at s2
    rw [e3] at t1
    rw [e4] at t2
    show sumF L.got ((ls.set (idx a ls) (gaveL (lotAt ls a) (lotAt ls a).free)).set (idx b ls) (gaveL (lotAt ls b) (lotAt ls b).free)) + ((lotAt ls a).free + (lotAt ls b).free) = _
    omega
  · rw [if_neg h0]; exact h

theorem Cn.scrap {ls : List L} {R : Nat} (h : Cn ls R) (a c : Nat) : Cn (scrapS ls a c) R := by
  unfold scrapS
  by_cases h0 : scrapC ls a c = 0
  · rw [if_pos h0]
    unfold scrapC at h0
    by_cases hi : idx a ls < ls.length
    · rw [if_pos hi] at h0
      by_cases hf : (ls.getD (idx a ls) L0).free < c
      · rw [if_pos hf] at h0; omega
      · refine h.keep (List.length_set ..) (fun i hil => ?_)
        by_cases hij : i = idx a ls
        · subst hij; rw [gset_eq hi]
          refine ⟨rfl, rfl, rfl, ?_⟩
          show (ls.getD (idx a ls) L0).free - c + (ls.getD (idx a ls) L0).held + (ls.getD (idx a ls) L0).shipped + ((ls.getD (idx a ls) L0).scrapped + c) = _
          omega
        · rw [gset_ne hij]; exact Lk.refl _
    · rw [if_neg hi] at h0; omega
  · rw [if_neg h0]; exact h

theorem holdS_lk {ls : List L} {q : List (Nat × Nat)} (hn : (q.map Prod.fst).Nodup) (hin : ∀ p ∈ q, p.1 < ls.length) (hle : ∀ p ∈ q, p.2 ≤ (ls.getD p.1 L0).free) : ∀ i, i < ls.length → Lk (ls.getD i L0) ((holdS ls q).getD i L0) := fun i hi => by
  by_cases hm : i ∈ q.map Prod.fst
  · obtain ⟨p, hp, he⟩ := List.mem_map.1 hm
    obtain ⟨j, n⟩ := p
    simp only at he; subst he
    rw [holdS_in q ls hn hp hi]
    have := hle _ hp
    simp only at this
    refine ⟨rfl, rfl, rfl, ?_⟩
    show (ls.getD j L0).free - n + ((ls.getD j L0).held + n) + (ls.getD j L0).shipped + (ls.getD j L0).scrapped = _
    omega
  · rw [holdS_out q ls hm]; exact Lk.refl _

theorem map_getD {ls : List L} {f : L → L} {i : Nat} (hi : i < ls.length) : (ls.map f).getD i L0 = f (ls.getD i L0) := by simp [List.getD_eq_getElem?_getD, hi]

theorem fin_lk {os : List O} {ls : List L} (hgo : Good os ls) (g : L → Nat → L) (hg : ∀ l n, (g l n).id = l.id ∧ (g l n).got = l.got ∧ (g l n).given = l.given ∧ (g l n).free + (g l n).held + (g l n).shipped + (g l n).scrapped = l.free + l.held + l.shipped + l.scrapped + n) (a : Nat) : ∀ i, i < ls.length → Lk (ls.getD i L0) ((ls.map (finL g os a)).getD i L0) := fun i hi => by
  rw [map_getD hi]
  unfold finL
  cases hl : lineOf os a (ls.getD i L0).id with
  | none => exact Lk.refl _
  | some n =>
    have hnh : n ≤ (ls.getD i L0).held := by rw [hgo.held i hi]; exact line_le hl
    obtain ⟨q1, q2, q3, q4⟩ := hg { ls.getD i L0 with held := (ls.getD i L0).held - n } n
    refine ⟨q1, q2, q3, ?_⟩
    rw [q4]
    show (ls.getD i L0).free + ((ls.getD i L0).held - n) + (ls.getD i L0).shipped + (ls.getD i L0).scrapped + n = _
    omega

/-- What a command brings. -/
def brings (s : Sv) : Nat × List Nat → Nat
  | (2, [a, b, c, d]) => if roomC s.ls a = 0 then c else 0
  | _ => 0

theorem Cn.step {s : Sv} {R : Nat} (h : Cn s.ls R) (hgo : Good s.os s.ls) (hroom : s.ls.length ≤ 30) (k a b c d : Int) : Cn (stepV s (.ok (sp k a b c d))).ls (R + brings s (sp k a b c d)) := by
  have h2 := pk_lt a (n := 12) (by omega)
  have h6 := pk_lt b (n := 12) (by omega)
  have h7 := pk_lt c (n := 12) (by omega)
  unfold sp
  split
  · show Cn (stepS s.rcs s.td s.ls (.ok (1, [pk a 40]))).2.2 _
    have e : (stepS s.rcs s.td s.ls (.ok (1, [pk a 40]))).2.2 = s.ls := by simp only [stepS]; split <;> rfl
    rw [e]; exact h
  · show Cn (if roomC s.ls (1 + pk a 12) = 0 then s.ls ++ [newL s.ls (1 + pk a 12) (1 + pk b 3) (1 + pk c 400) (pk d 40)] else s.ls) (R + if roomC s.ls (1 + pk a 12) = 0 then 1 + pk c 400 else 0)
    by_cases hr : roomC s.ls (1 + pk a 12) = 0
    · rw [if_pos hr, if_pos hr]
      refine Cn.app (n := 0) h.each ⟨by show 1 ≤ 1 + _; omega, by show 1 + pk c 400 = 1 + pk c 400 + 0 + 0 + 0 + 0; omega, by show 1 ≤ 1 + pk a 12; omega, by show 1 + pk a 12 ≤ 14; omega⟩ rfl ?_
      have := h.sum
      show sumF L.got s.ls + (1 + pk c 400) = _
      omega
    · rw [if_neg hr, if_neg hr]; exact h
  · exact h.split ⟨by omega, by omega⟩ (by omega)
  · exact h.merge ⟨by omega, by omega⟩
  · show Cn (askL s.rcs s.os s.td s.ls (1 + pk a 4) (1 + pk b 3) (1 + pk c 400) (pk d 10) (pk (d.tdiv 16) 4)) R
    unfold askL
    split
    · have hf := linesQ_facts (rcs := s.rcs) s.td (1 + pk b 3) (1 + pk c 400) (pk d 10) (pk (d.tdiv 16) 4) s.ls hroom
      exact h.keep (holdS_len _ _) (holdS_lk hf.2.1 hf.2.2.1 hf.2.2.2.1)
    · exact h
  · exact h.keep (List.length_map ..) (fin_lk hgo freeL (fun l n => ⟨rfl, rfl, rfl, by show l.free + n + l.held + l.shipped + l.scrapped = _; omega⟩) _)
  · exact h.keep (List.length_map ..) (fin_lk hgo shipL (fun l n => ⟨rfl, rfl, rfl, by show l.free + l.held + (l.shipped + n) + l.scrapped = _; omega⟩) _)
  · exact h
  · exact h
  · exact h.scrap _ _
  · show Cn (stepS s.rcs s.td s.ls (.ok (11, [1 + pk a 12]))).2.2 _
    have e : (stepS s.rcs s.td s.ls (.ok (11, [1 + pk a 12]))).2.2 = s.ls := by simp only [stepS]; split <;> rfl
    rw [e]; exact h
  · exact h

end Go.Proofs.YtgcedalggnmooabGreatDoor
