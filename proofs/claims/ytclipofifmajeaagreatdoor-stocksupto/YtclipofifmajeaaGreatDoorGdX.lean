import Derived.Test.YtclipofifmajeaaGreatDoorMp0X
import Derived.Test.YtclipofifmajeaaGreatDoorSt7X
namespace Go.Proofs.YtclipofifmajeaaGreatDoor
set_option linter.unusedSimpArgs false
set_option linter.unusedVariables false
set_option maxRecDepth 100000

/-- What an order holds of a lot; all orders together. -/
def heldBy (o : O) (n : Nat) : Nat := (o.lines.lookup n).getD 0
def heldSum (os : List O) (n : Nat) : Nat := (os.map fun o => heldBy o n).sum

/-- What holds of orders and lots together. -/
structure Good (os : List O) (ls : List L) : Prop where
  ids : ∀ i j, i < ls.length → j < ls.length → (ls.getD i L0).id = (ls.getD j L0).id → i = j
  place : ∀ i, i < ls.length → (ls.getD i L0).place = i + 1
  oids : (os.map O.id).Nodup
  oid : ∀ o ∈ os, o.id ≤ 2147483647
  olen : os.length ≤ 10
  keys : ∀ o ∈ os, (o.lines.map Prod.fst).Nodup
  mem : ∀ o ∈ os, ∀ p ∈ o.lines, ∃ i, i < ls.length ∧ (ls.getD i L0).id = p.1
  held : ∀ i, i < ls.length → (ls.getD i L0).held = heldSum os (ls.getD i L0).id

theorem good_nil : Good [] [] := ⟨fun i j h => absurd h (by simp), fun i h => absurd h (by simp), by simp, fun o h => absurd h (by simp), by simp, fun o h => absurd h (by simp), fun o h => absurd h (by simp), fun i h => absurd h (by simp)⟩

theorem gset_eq {ls : List L} {i : Nat} (hi : i < ls.length) (l : L) : (ls.set i l).getD i L0 = l := by simp [List.getD_eq_getElem?_getD, List.getElem?_set, hi]
theorem gset_ne {ls : List L} {i j : Nat} (hij : j ≠ i) (l : L) : (ls.set i l).getD j L0 = ls.getD j L0 := by simp [List.getD_eq_getElem?_getD, List.getElem?_set, Ne.symm hij]

theorem Good.set {os : List O} {ls : List L} (h : Good os ls) {i : Nat} (hi : i < ls.length) {l : L} (h1 : l.id = (ls.getD i L0).id) (h2 : l.place = (ls.getD i L0).place) (h3 : l.held = (ls.getD i L0).held) : Good os (ls.set i l) := by
  have hid : ∀ j, ((ls.set i l).getD j L0).id = (ls.getD j L0).id := fun j => by
    by_cases hj : j = i
    · subst hj; rw [gset_eq hi]; exact h1
    · rw [gset_ne hj]
  have hpl : ∀ j, ((ls.set i l).getD j L0).place = (ls.getD j L0).place := fun j => by
    by_cases hj : j = i
    · subst hj; rw [gset_eq hi]; exact h2
    · rw [gset_ne hj]
  have hhe : ∀ j, ((ls.set i l).getD j L0).held = (ls.getD j L0).held := fun j => by
    by_cases hj : j = i
    · subst hj; rw [gset_eq hi]; exact h3
    · rw [gset_ne hj]
  refine ⟨fun a b ha hb he => ?_, fun a ha => ?_, h.oids, h.oid, h.olen, h.keys, fun o ho p hp => ?_, fun a ha => ?_⟩
  · rw [List.length_set] at ha hb; rw [hid, hid] at he; exact h.ids a b ha hb he
  · rw [List.length_set] at ha; rw [hpl]; exact h.place a ha
  · obtain ⟨a, ha, he⟩ := h.mem o ho p hp
    exact ⟨a, by rw [List.length_set]; exact ha, by rw [hid]; exact he⟩
  · rw [List.length_set] at ha; rw [hhe, hid]; exact h.held a ha

theorem lookup_none {n : Nat} : ∀ {l : List (Nat × Nat)}, (∀ p ∈ l, p.1 ≠ n) → l.lookup n = none
  | [], _ => rfl
  | (a, b) :: l, h => by
    have h1 : (n == a) = false := by rw [beq_eq_false_iff_ne]; exact (h (a, b) (by simp)).symm
    simp only [List.lookup, h1]
    exact lookup_none (fun p hp => h p (by simp [hp]))

theorem heldSum_zero {os : List O} {n : Nat} (h : ∀ o ∈ os, ∀ p ∈ o.lines, p.1 ≠ n) : heldSum os n = 0 := by
  induction os with
  | nil => rfl
  | cons o os ih =>
    have := ih (fun o' ho' => h o' (by simp [ho']))
    simp only [heldSum, List.map_cons, List.sum_cons] at this ⊢
    rw [this]
    simp [heldBy, lookup_none (h o (by simp))]

theorem Good.snoc {os : List O} {ls : List L} (h : Good os ls) {l : L} (h1 : ∀ i, i < ls.length → (ls.getD i L0).id ≠ l.id) (h2 : l.place = ls.length + 1) (h3 : l.held = 0) : Good os (ls ++ [l]) := by
  have hlt : ∀ i, i < ls.length → (ls ++ [l]).getD i L0 = ls.getD i L0 := fun i hi => by simp [List.getD_eq_getElem?_getD, List.getElem?_append_left hi]
  have heq : (ls ++ [l]).getD ls.length L0 = l := by simp [List.getD_eq_getElem?_getD]
  have hlen : (ls ++ [l]).length = ls.length + 1 := by simp
  refine ⟨fun a b ha hb he => ?_, fun a ha => ?_, h.oids, h.oid, h.olen, h.keys, fun o ho p hp => ?_, fun a ha => ?_⟩
  · rw [hlen] at ha hb
    by_cases hal : a < ls.length
    · by_cases hbl : b < ls.length
      · rw [hlt a hal, hlt b hbl] at he; exact h.ids a b hal hbl he
      · obtain rfl : b = ls.length := by omega
        rw [hlt a hal, heq] at he; exact absurd he (h1 a hal)
    · obtain rfl : a = ls.length := by omega
      by_cases hbl : b < ls.length
      · rw [hlt b hbl, heq] at he; exact absurd he.symm (h1 b hbl)
      · omega
  · rw [hlen] at ha
    by_cases hal : a < ls.length
    · rw [hlt a hal]; exact h.place a hal
    · obtain rfl : a = ls.length := by omega
      rw [heq]; exact h2
  · obtain ⟨a, ha, he⟩ := h.mem o ho p hp
    exact ⟨a, by rw [hlen]; omega, by rw [hlt a ha]; exact he⟩
  · rw [hlen] at ha
    by_cases hal : a < ls.length
    · rw [hlt a hal]; exact h.held a hal
    · obtain rfl : a = ls.length := by omega
      rw [heq, h3, heldSum_zero]
      intro o ho p hp
      obtain ⟨i, hi, he⟩ := h.mem o ho p hp
      rw [← he]; exact h1 i hi

theorem idx_fresh {ls : List L} {n : Nat} (h : ¬ idx n ls < ls.length) : ∀ i, i < ls.length → (ls.getD i L0).id ≠ n := by
  intro i hi he
  have : idx n ls ≤ i := by
    unfold idx
    apply Nat.le_of_not_lt
    intro hlt
    have := List.not_of_lt_findIdx hlt
    simp only [List.getD_eq_getElem?_getD, List.getElem?_eq_getElem hi, Option.getD_some] at he
    simp [he] at this
  omega
theorem idx_id {ls : List L} {n : Nat} (h : idx n ls < ls.length) : (ls.getD (idx n ls) L0).id = n := by
  have h2 : (ls[idx n ls]'h).id = n := beq_iff_eq.1 (List.findIdx_getElem (xs := ls) (p := fun l : L => l.id == n) (w := h))
  simp only [List.getD_eq_getElem?_getD, List.getElem?_eq_getElem h, Option.getD_some]
  exact h2
theorem room_fresh {ls : List L} {n : Nat} (h : (if idx n ls < ls.length then 5 else if 30 ≤ ls.length then 6 else 0) = 0) : ∀ i, i < ls.length → (ls.getD i L0).id ≠ n := by
  apply idx_fresh
  intro hi
  rw [if_pos hi] at h
  omega

end Go.Proofs.YtclipofifmajeaaGreatDoor

namespace Go.Proofs.YtclipofifmajeaaGreatDoor
set_option linter.unusedSimpArgs false
set_option linter.unusedVariables false
set_option maxRecDepth 100000

/-- Does the lot a go ahead of b? -/
def bef (first : Bool) (a b : L) : Bool := if first then decide (a.place < b.place) else (decide (a.expiry < b.expiry) || (decide (a.expiry = b.expiry) && decide (a.id < b.id)))
def befI (first : Bool) (ls : List L) (i j : Nat) : Bool := bef first (ls.getD i L0) (ls.getD j L0)

theorem bef_trans {f : Bool} {a b c : L} (h1 : bef f b a = false) (h2 : bef f c b = false) : bef f c a = false := by
  cases f
  · simp [bef] at h1 h2 ⊢; omega
  · simp [bef] at h1 h2 ⊢; omega
theorem bef_asymm {f : Bool} {a b : L} (h : bef f a b = true) : bef f b a = false := by
  cases f
  · simp [bef] at h ⊢; omega
  · simp [bef] at h ⊢; omega
theorem bef_irrefl (f : Bool) (a : L) : bef f a a = false := by
  cases f <;> simp [bef]

theorem befI_anti {os : List O} {ls : List L} (h : Good os ls) {f : Bool} {i j : Nat} (hi : i < ls.length) (hj : j < ls.length) (h1 : befI f ls i j = false) (h2 : befI f ls j i = false) : i = j := by
  cases f
  · simp only [befI, bef, Bool.false_eq_true, if_false, Bool.or_eq_false_iff, decide_eq_false_iff_not, Bool.and_eq_false_imp, decide_eq_true_eq] at h1 h2
    apply h.ids i j hi hj
    have he : (ls.getD i L0).expiry = (ls.getD j L0).expiry := by omega
    have := h1.2 he
    have := h2.2 he.symm
    omega
  · simp only [befI, bef, if_true, decide_eq_false_iff_not] at h1 h2
    have := h.place i hi
    have := h.place j hj
    omega

/-- Numbers, sorted. -/
def insI (lt : Nat → Nat → Bool) (x : Nat) : List Nat → List Nat
  | [] => [x]
  | y :: r => if lt y x then y :: insI lt x r else x :: y :: r
def srtI (lt : Nat → Nat → Bool) : List Nat → List Nat
  | [] => []
  | x :: r => insI lt x (srtI lt r)

theorem insI_perm (lt : Nat → Nat → Bool) (x : Nat) : ∀ l : List Nat, (insI lt x l).Perm (x :: l)
  | [] => List.Perm.refl _
  | y :: r => by
    unfold insI
    split
    · exact ((insI_perm lt x r).cons y).trans (List.Perm.swap x y r)
    · exact List.Perm.refl _
theorem srtI_perm (lt : Nat → Nat → Bool) : ∀ l : List Nat, (srtI lt l).Perm l
  | [] => List.Perm.refl _
  | x :: r => (insI_perm lt x _).trans ((srtI_perm lt r).cons x)

/-- What is sorted: nothing goes ahead of what stands ahead. -/
def Srt (lt : Nat → Nat → Bool) (l : List Nat) : Prop := l.Pairwise fun a b => lt b a = false

theorem insI_srt (f : Bool) (ls : List L) (x : Nat) : ∀ l : List Nat, Srt (befI f ls) l → Srt (befI f ls) (insI (befI f ls) x l)
  | [], _ => by simp [insI, Srt]
  | y :: r, h => by
    have hy := List.pairwise_cons.1 h
    unfold insI
    split
    · rename_i hlt
      refine List.pairwise_cons.2 ⟨fun b hb => ?_, insI_srt f ls x r hy.2⟩
      rcases List.mem_cons.1 ((insI_perm _ x r).mem_iff.1 hb) with rfl | hb
      · exact bef_asymm hlt
      · exact hy.1 b hb
    · rename_i hlt
      have hxy : befI f ls y x = false := by simpa using hlt
      refine List.pairwise_cons.2 ⟨fun b hb => ?_, h⟩
      rcases List.mem_cons.1 hb with rfl | hb
      · exact hxy
      · exact bef_trans hxy (hy.1 b hb)
theorem srtI_srt (f : Bool) (ls : List L) : ∀ l : List Nat, Srt (befI f ls) (srtI (befI f ls) l)
  | [] => List.Pairwise.nil
  | x :: r => insI_srt f ls x _ (srtI_srt f ls r)

/-- Who can serve, what goes first ahead. -/
def queue (f : Bool) (td goods gate : Nat) (ls : List L) : List Nat := srtI (befI f ls) (srvI td goods gate ls ls.length)

theorem queue_perm (f : Bool) (td goods gate : Nat) (ls : List L) : (queue f td goods gate ls).Perm (srvI td goods gate ls ls.length) := srtI_perm _ _
theorem queue_srt (f : Bool) (td goods gate : Nat) (ls : List L) : Srt (befI f ls) (queue f td goods gate ls) := srtI_srt f ls _
theorem srvI_nodup (td goods gate : Nat) (ls : List L) (k : Nat) : (srvI td goods gate ls k).Nodup := (List.nodup_range).filter _
theorem queue_nodup (f : Bool) (td goods gate : Nat) (ls : List L) : (queue f td goods gate ls).Nodup := (queue_perm f td goods gate ls).nodup_iff.2 (srvI_nodup _ _ _ _ _)
theorem queue_mem {f : Bool} {td goods gate : Nat} {ls : List L} {i : Nat} : i ∈ queue f td goods gate ls ↔ i < ls.length ∧ srv td goods gate (ls.getD i L0) = true := by
  rw [(queue_perm f td goods gate ls).mem_iff]; simp [srvI]

/-- What goes first of those that are left: the head. -/
theorem head_first {os : List O} {ls : List L} (h : Good os ls) {f : Bool} {c m : Nat} {r : List Nat} (hs : Srt (befI f ls) (c :: r)) (hlt : ∀ i ∈ c :: r, i < ls.length) (hm : m ∈ c :: r) (hmin : ∀ i ∈ c :: r, befI f ls i m = false) : m = c := by
  rcases List.mem_cons.1 hm with rfl | hr
  · rfl
  · exact befI_anti h (hlt m hm) (hlt c (by simp)) ((List.pairwise_cons.1 hs).1 m hr) (hmin c (by simp))

/-- What the lots give, one behind the other. -/
def giveQ (ls : List L) : List Nat → Nat → List (Nat × Nat)
  | [], _ => []
  | c :: r, want => if want = 0 then [] else (c, min (ls.getD c L0).free want) :: giveQ ls r (want - min (ls.getD c L0).free want)

def sumQ (l : List (Nat × Nat)) : Nat := (l.map Prod.snd).sum

theorem giveQ_zero (ls : List L) (q : List Nat) : giveQ ls q 0 = [] := by cases q <;> simp [giveQ]
theorem giveQ_sum (ls : List L) : ∀ (q : List Nat) (want : Nat), sumQ (giveQ ls q want) ≤ want
  | [], want => by simp [giveQ, sumQ]
  | c :: r, want => by
    unfold giveQ
    by_cases h : want = 0
    · simp [h, sumQ]
    · have := giveQ_sum ls r (want - min (ls.getD c L0).free want)
      simp only [if_neg h, sumQ, List.map_cons, List.sum_cons] at this ⊢
      omega
theorem giveQ_sub (ls : List L) : ∀ (q : List Nat) (want : Nat), ((giveQ ls q want).map Prod.fst).Sublist q
  | [], want => by simp [giveQ]
  | c :: r, want => by
    unfold giveQ
    by_cases h : want = 0
    · simp [h]
    · simp only [if_neg h, List.map_cons]
      exact (giveQ_sub ls r _).cons_cons c
theorem giveQ_le (ls : List L) : ∀ (q : List Nat) (want : Nat), ∀ p ∈ giveQ ls q want, p.2 ≤ (ls.getD p.1 L0).free
  | [], want => by simp [giveQ]
  | c :: r, want => by
    unfold giveQ
    by_cases h : want = 0
    · simp [h]
    · simp only [if_neg h, List.mem_cons]
      rintro p (rfl | hp)
      · exact Nat.min_le_left _ _
      · exact giveQ_le ls r _ p hp

end Go.Proofs.YtclipofifmajeaaGreatDoor
