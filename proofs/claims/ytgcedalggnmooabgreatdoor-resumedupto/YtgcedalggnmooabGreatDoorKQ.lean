import Derived.Test.YtgcedalggnmooabGreatDoorKP
namespace Go.Proofs.YtgcedalggnmooabGreatDoor
set_option linter.unusedSimpArgs false
set_option linter.unusedVariables false
set_option maxRecDepth 100000

/-- Of the lots with numbers 1 to k. -/
def cntF (f : L → Nat) (ls : List L) (k : Nat) : Nat := sumF (fun l => if 1 ≤ l.id ∧ l.id ≤ k then f l else 0) ls
theorem sumF_zero (f : L → Nat) : ∀ (ls : List L), (∀ l ∈ ls, f l = 0) → sumF f ls = 0
  | [], _ => rfl
  | x :: r, h => by
    have := sumF_zero f r (fun l hl => h l (by simp [hl]))
    simp only [sumF, List.map_cons, List.sum_cons] at this ⊢
    rw [h x (by simp), this]
theorem sumF_add (f g h : L → Nat) : ∀ (ls : List L), (∀ l ∈ ls, f l = g l + h l) → sumF f ls = sumF g ls + sumF h ls
  | [], _ => rfl
  | x :: r, e => by
    have := sumF_add f g h r (fun l hl => e l (by simp [hl]))
    simp only [sumF, List.map_cons, List.sum_cons] at this ⊢
    rw [e x (by simp), this]; omega
theorem sumF_congr (f g : L → Nat) (ls : List L) (h : ∀ l ∈ ls, f l = g l) : sumF f ls = sumF g ls := by
  unfold sumF; rw [List.map_congr_left h]
theorem cntF_zero (f : L → Nat) (ls : List L) : cntF f ls 0 = 0 := sumF_zero _ _ (fun l _ => by rw [if_neg]; omega)
theorem cntF_all (f : L → Nat) (ls : List L) {k : Nat} (h : ∀ l ∈ ls, 1 ≤ l.id ∧ l.id ≤ k) : cntF f ls k = sumF f ls := sumF_congr _ _ _ (fun l hl => by rw [if_pos (h l hl)])

/-- Of a lot by its number. -/
def atF (f : L → Nat) (ls : List L) (n : Nat) : Nat := if idx n ls < ls.length then f (ls.getD (idx n ls) L0) else 0
theorem idx_cons (n : Nat) (x : L) (r : List L) : idx n (x :: r) = if x.id = n then 0 else idx n r + 1 := by
  unfold idx
  rw [List.findIdx_cons]
  by_cases h : x.id = n
  · simp [h]
  · rw [if_neg h, show (x.id == n) = false from beq_eq_false_iff_ne.2 h]; rfl
theorem one_sum (f : L → Nat) (n : Nat) : ∀ (ls : List L), (ls.map L.id).Nodup → sumF (fun l => if l.id = n then f l else 0) ls = atF f ls n
  | [], _ => rfl
  | x :: r, h => by
    rw [List.map_cons, List.nodup_cons] at h
    have ih := one_sum f n r h.2
    by_cases hx : x.id = n
    · have hz : sumF (fun l => if l.id = n then f l else 0) r = 0 := sumF_zero _ _ (fun l hl => by
        rw [if_neg]; intro e; exact h.1 (by rw [hx, ← e]; exact List.mem_map_of_mem hl))
      unfold atF
      rw [idx_cons, if_pos hx]
      simp only [sumF, List.map_cons, List.sum_cons] at hz ⊢
      rw [hz, if_pos hx]; simp
    · unfold atF at ih ⊢
      rw [idx_cons, if_neg hx]
      simp only [sumF, List.map_cons, List.sum_cons] at ih ⊢
      rw [if_neg hx, ih]
      simp
theorem cntF_succ (f : L → Nat) {ls : List L} (h : (ls.map L.id).Nodup) (k : Nat) : cntF f ls (k + 1) = cntF f ls k + atF f ls (k + 1) := by
  rw [← one_sum f (k + 1) ls h]
  refine sumF_add _ _ _ ls (fun l _ => ?_)
  by_cases h1 : 1 ≤ l.id ∧ l.id ≤ k
  · rw [if_pos h1, if_pos ⟨h1.1, by omega⟩, if_neg (by omega)]; omega
  · rw [if_neg h1]
    by_cases h2 : l.id = k + 1
    · rw [if_pos h2, if_pos ⟨by omega, by omega⟩]; omega
    · rw [if_neg h2, if_neg (by omega)]
theorem Good.nodup {os : List O} {ls : List L} (h : Good os ls) : (ls.map L.id).Nodup := by
  rw [List.nodup_iff_pairwise_ne, List.pairwise_map, List.pairwise_iff_getElem]
  intro i j hi hj hij e
  have := h.ids i j hi hj (by simpa [List.getD_eq_getElem?_getD, hi, hj] using e)
  omega
theorem sumF_le (f : L → Nat) (b : Nat) : ∀ (ls : List L), (∀ l ∈ ls, f l ≤ b) → sumF f ls ≤ ls.length * b
  | [], _ => by simp [sumF]
  | x :: r, h => by
    have := sumF_le f b r (fun l hl => h l (by simp [hl]))
    have h1 := h x (by simp)
    simp only [sumF, List.map_cons, List.sum_cons, List.length_cons] at this ⊢
    rw [Nat.add_mul]; omega
theorem sumF_mono (f g : L → Nat) : ∀ (ls : List L), (∀ l ∈ ls, f l ≤ g l) → sumF f ls ≤ sumF g ls
  | [], _ => by simp [sumF]
  | x :: r, h => by
    have := sumF_mono f g r (fun l hl => h l (by simp [hl]))
    have h1 := h x (by simp)
    simp only [sumF, List.map_cons, List.sum_cons] at this ⊢
    omega
theorem cntF_le (f : L → Nat) (ls : List L) (k : Nat) : cntF f ls k ≤ sumF f ls := sumF_mono _ _ ls (fun l _ => by split <;> omega)

/-- No reply is empty. -/
theorem rep_ne (s : Sv) (k a b c d : Int) : repV s (.ok (sp k a b c d)) ≠ [] := by
  unfold sp
  split
  · show (stepS s.rcs s.td s.ls (.ok (1, [pk a 40]))).1 ≠ []
    simp only [stepS]; split <;> simp
  · show [UInt8.ofNat (roomC s.ls (1 + pk a 12))] ≠ []
    simp
  · show [UInt8.ofNat (splitC s.ls (1 + pk a 12) (1 + pk b 12) (1 + pk c 400))] ≠ []
    simp
  · show [UInt8.ofNat (mergeC s.ls (1 + pk a 12) (1 + pk b 12) (1 + pk c 12))] ≠ []
    simp
  · show askR s.rcs s.os s.td s.ls (1 + pk a 4) (1 + pk b 3) (1 + pk c 400) (pk d 10) (pk (d.tdiv 16) 4) ≠ []
    unfold askR; split <;> simp
  · show [UInt8.ofNat (endC s.os (1 + pk a 4))] ≠ []
    simp
  · show [UInt8.ofNat (endC s.os (1 + pk a 4))] ≠ []
    simp
  · show recallR s.rcs s.ls (1 + pk a 12) (1 + pk b 2) ≠ []
    unfold recallR; split <;> simp
  · show [UInt8.ofNat (releaseC s.rcs (1 + pk a 12) (1 + pk b 2))] ≠ []
    simp
  · show [UInt8.ofNat (scrapC s.ls (1 + pk a 12) (1 + pk c 400))] ≠ []
    simp
  · show (stepS s.rcs s.td s.ls (.ok (11, [1 + pk a 12]))).1 ≠ []
    simp only [stepS]; split <;> simp
  · show (0 :: Pl.toldB (supL s.rcs s.td (1 + pk a 3) (pk d 10) s.ls)) ≠ []
    simp

/-- Code 2: what comes of it. -/
theorem sp_two {k a b c d : Int} (h : (sp k a b c d).1 = 2) : sp k a b c d = (2, [1 + pk a 12, 1 + pk b 3, 1 + pk c 400, pk d 40]) := by
  unfold sp at h ⊢
  split at h <;> first | rfl | (simp at h; done)

end Go.Proofs.YtgcedalggnmooabGreatDoor
