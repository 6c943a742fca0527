import Derived.Test.YtclipofifmajeaaGreatDoorSt0
namespace Go.Proofs.YtclipofifmajeaaGreatDoor
set_option linter.unusedSimpArgs false
set_option linter.unusedVariables false
set_option maxRecDepth 100000

/-- What an order holds of a lot; all orders together. -/
def heldBy (o : O) (n : Nat) : Nat := (o.lines.lookup n).getD 0
def heldSum (os : List O) (n : Nat) : Nat := (os.map fun o => heldBy o n).sum

/-- What holds of orders and lots together. -/
structure Good (os : List O) (ls : List L) : Prop where
  ids : ∀ i j, i < ls.length → j < ls.length → (ls.getD i L0).id = (ls.getD j L0).id → i = j
  place : ∀ i, i < ls.length → (ls.getD i L0).place = i + 1
  oids : (os.map O.id).Nodup
  oid : ∀ o ∈ os, o.id ≤ 2147483647
  olen : os.length ≤ 10
  keys : ∀ o ∈ os, (o.lines.map Prod.fst).Nodup
  mem : ∀ o ∈ os, ∀ p ∈ o.lines, ∃ i, i < ls.length ∧ (ls.getD i L0).id = p.1
  held : ∀ i, i < ls.length → (ls.getD i L0).held = heldSum os (ls.getD i L0).id

theorem good_nil : Good [] [] := ⟨fun i j h => absurd h (by simp), fun i h => absurd h (by simp), by simp, fun o h => absurd h (by simp), by simp, fun o h => absurd h (by simp), fun o h => absurd h (by simp), fun i h => absurd h (by simp)⟩

theorem gset_eq {ls : List L} {i : Nat} (hi : i < ls.length) (l : L) : (ls.set i l).getD i L0 = l := by simp [List.getD_eq_getElem?_getD, List.getElem?_set, hi]
theorem gset_ne {ls : List L} {i j : Nat} (hij : j ≠ i) (l : L) : (ls.set i l).getD j L0 = ls.getD j L0 := by simp [List.getD_eq_getElem?_getD, List.getElem?_set, Ne.symm hij]

theorem Good.set {os : List O} {ls : List L} (h : Good os ls) {i : Nat} (hi : i < ls.length) {l : L} (h1 : l.id = (ls.getD i L0).id) (h2 : l.place = (ls.getD i L0).place) (h3 : l.held = (ls.getD i L0).held) : Good os (ls.set i l) := by
  have hid : ∀ j, ((ls.set i l).getD j L0).id = (ls.getD j L0).id := fun j => by
    by_cases hj : j = i
    · subst hj; rw [gset_eq hi]; exact h1
    · rw [gset_ne hj]
  have hpl : ∀ j, ((ls.set i l).getD j L0).place = (ls.getD j L0).place := fun j => by
    by_cases hj : j = i
    · subst hj; rw [gset_eq hi]; exact h2
    · rw [gset_ne hj]
  have hhe : ∀ j, ((ls.set i l).getD j L0).held = (ls.getD j L0).held := fun j => by
    by_cases hj : j = i
    · subst hj; rw [gset_eq hi]; exact h3
    · rw [gset_ne hj]
  refine ⟨fun a b ha hb he => ?_, fun a ha => ?_, h.oids, h.oid, h.olen, h.keys, fun o ho p hp => ?_, fun a ha => ?_⟩
  · rw [List.length_set] at ha hb; rw [hid, hid] at he; exact h.ids a b ha hb he
  · rw [List.length_set] at ha; rw [hpl]; exact h.place a ha
  · obtain ⟨a, ha, he⟩ := h.mem o ho p hp
    exact ⟨a, by rw [List.length_set]; exact ha, by rw [hid]; exact he⟩
  · rw [List.length_set] at ha; rw [hhe, hid]; exact h.held a ha

theorem lookup_none {n : Nat} : ∀ {l : List (Nat × Nat)}, (∀ p ∈ l, p.1 ≠ n) → l.lookup n = none
  | [], _ => rfl
  | (a, b) :: l, h => by
    have h1 : (n == a) = false := by rw [beq_eq_false_iff_ne]; exact (h (a, b) (by simp)).symm
    simp only [List.lookup, h1]
    exact lookup_none (fun p hp => h p (by simp [hp]))

theorem heldSum_zero {os : List O} {n : Nat} (h : ∀ o ∈ os, ∀ p ∈ o.lines, p.1 ≠ n) : heldSum os n = 0 := by
  induction os with
  | nil => rfl
  | cons o os ih =>
    have := ih (fun o' ho' => h o' (by simp [ho']))
    simp only [heldSum, List.map_cons, List.sum_cons] at this ⊢
    rw [this]
    simp [heldBy, lookup_none (h o (by simp))]

theorem Good.snoc {os : List O} {ls : List L} (h : Good os ls) {l : L} (h1 : ∀ i, i < ls.length → (ls.getD i L0).id ≠ l.id) (h2 : l.place = ls.length + 1) (h3 : l.held = 0) : Good os (ls ++ [l]) := by
  have hlt : ∀ i, i < ls.length → (ls ++ [l]).getD i L0 = ls.getD i L0 := fun i hi => by simp [List.getD_eq_getElem?_getD, List.getElem?_append_left hi]
  have heq : (ls ++ [l]).getD ls.length L0 = l := by simp [List.getD_eq_getElem?_getD]
  have hlen : (ls ++ [l]).length = ls.length + 1 := by simp
  refine ⟨fun a b ha hb he => ?_, fun a ha => ?_, h.oids, h.oid, h.olen, h.keys, fun o ho p hp => ?_, fun a ha => ?_⟩
  · rw [hlen] at ha hb
    by_cases hal : a < ls.length
    · by_cases hbl : b < ls.length
      · rw [hlt a hal, hlt b hbl] at he; exact h.ids a b hal hbl he
      · obtain rfl : b = ls.length := by omega
        rw [hlt a hal, heq] at he; exact absurd he (h1 a hal)
    · obtain rfl : a = ls.length := by omega
      by_cases hbl : b < ls.length
      · rw [hlt b hbl, heq] at he; exact absurd he.symm (h1 b hbl)
      · omega
  · rw [hlen] at ha
    by_cases hal : a < ls.length
    · rw [hlt a hal]; exact h.place a hal
    · obtain rfl : a = ls.length := by omega
      rw [heq]; exact h2
  · obtain ⟨a, ha, he⟩ := h.mem o ho p hp
    exact ⟨a, by rw [hlen]; omega, by rw [hlt a ha]; exact he⟩
  · rw [hlen] at ha
    by_cases hal : a < ls.length
    · rw [hlt a hal]; exact h.held a hal
    · obtain rfl : a = ls.length := by omega
      rw [heq, h3, heldSum_zero]
      intro o ho p hp
      obtain ⟨i, hi, he⟩ := h.mem o ho p hp
      rw [← he]; exact h1 i hi

theorem idx_fresh {ls : List L} {n : Nat} (h : ¬ idx n ls < ls.length) : ∀ i, i < ls.length → (ls.getD i L0).id ≠ n := by
  intro i hi he
  have : idx n ls ≤ i := by
    unfold idx
    apply Nat.le_of_not_lt
    intro hlt
    have := List.not_of_lt_findIdx hlt
    simp only [List.getD_eq_getElem?_getD, List.getElem?_eq_getElem hi, Option.getD_some] at he
    simp [he] at this
  omega
theorem idx_id {ls : List L} {n : Nat} (h : idx n ls < ls.length) : (ls.getD (idx n ls) L0).id = n := by
  have h2 : (ls[idx n ls]'h).id = n := beq_iff_eq.1 (List.findIdx_getElem (xs := ls) (p := fun l : L => l.id == n) (w := h))
  simp only [List.getD_eq_getElem?_getD, List.getElem?_eq_getElem h, Option.getD_some]
  exact h2
theorem room_fresh {ls : List L} {n : Nat} (h : (if idx n ls < ls.length then 5 else if 30 ≤ ls.length then 6 else 0) = 0) : ∀ i, i < ls.length → (ls.getD i L0).id ≠ n := by
  apply idx_fresh
  intro hi
  rw [if_pos hi] at h
  omega

end Go.Proofs.YtclipofifmajeaaGreatDoor
