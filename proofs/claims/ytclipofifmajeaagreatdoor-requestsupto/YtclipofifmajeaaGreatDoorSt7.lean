import Derived.Test.YtclipofifmajeaaGreatDoorSt6
namespace Go.Proofs.YtclipofifmajeaaGreatDoor
set_option linter.unusedSimpArgs false
set_option linter.unusedVariables false
open Go.RowKit
set_option maxRecDepth 100000

def freeOf (ls : List L) (is : List Nat) : Nat := (is.map fun i => (ls.getD i L0).free).sum

theorem freeOf_snoc (ls : List L) (is : List Nat) (i : Nat) : freeOf ls (is ++ [i]) = freeOf ls is + (ls.getD i L0).free := by simp [freeOf]
theorem freeOf_take (ls : List L) (is : List Nat) (k : Nat) (h : k < is.length) : freeOf ls (is.take (k + 1)) = freeOf ls (is.take k) + (ls.getD (is.getD k 0) L0).free := by
  rw [List.take_succ_eq_append_getElem h, freeOf_snoc]; simp [List.getD_eq_getElem?_getD, h]
theorem freeOf_le (ls : List L) (hok : ∀ l ∈ ls, L.Ok l) : ∀ (is : List Nat), (∀ i ∈ is, i < ls.length) → freeOf ls is ≤ 2147483647 * is.length
  | [], _ => by simp [freeOf]
  | i :: r, h => by
    have h1 := freeOf_le ls hok r (fun j hj => h j (by simp [hj]))
    have h2 := (hok _ (mem_getD (h i (by simp)))).sum
    have e : freeOf ls (i :: r) = (ls.getD i L0).free + freeOf ls r := by simp [freeOf]
    rw [e, List.length_cons]; omega
theorem srvI_lt {td goods gate : Nat} {ls : List L} {k i : Nat} (h : i ∈ srvI td goods gate ls k) : i < k := by
  simp only [srvI, List.mem_filter, List.mem_range] at h; exact h.1

def supL (td goods gate : Nat) (ls : List L) : List Nat := [(srvI td goods gate ls ls.length).length, freeOf ls (srvI td goods gate ls ls.length)]

set_option maxHeartbeats 1600000 in
theorem supply_any {w : World} {S : Nat} {M : Mx} {v : Value} {td : Nat} {bs : List Nat} {pvs : List Value} {ls : List L} {os : List O} (h : PV os w S M v td bs pvs ls) (goods gate : Nat) (h1 : goods ≤ 2147483647) (h2 : gate ≤ 2147483647) :
    Calls Tryz.prog 72 #[.pointer (some ⟨S, 0, none⟩), .agg #[.int .i64 (goods : Int), .int .i64 (gate : Int)]] w fun e w' => Below w.heap.size w w' ∧ ∃ g, e = .returned (.slice (some ⟨g, 0, none⟩) 2 2) ∧ w'.heap[g]? = some (.cells (I (supL td goods gate ls)).toArray 2 (0, 0)) := by
  have ha := al1 w (Obj.cells #[.int .i64 (goods : Int), .int .i64 (gate : Int)] 137)
  have hP := h.below ha
  have HC := hide (canServe_any hP goods gate h1 h2)
  have HP := hide hP
  have hroom := h.room
  clear hP h
  go_enter Tryz.func72, Tryz.ntmps72
  go_wp2_with fail
  refine (HC.out).mono ?_
  rintro e w1 ⟨hb1, v', rfl, hown⟩
  obtain ⟨a, cap, hv⟩ := own_shape hown
  have hG : 0 < (sb bs (srvI td goods gate ls ls.length)).length → ∃ G, a = some ⟨G, 0, none⟩ := fun hp => by
    obtain ⟨g, c, hv', _, _⟩ := own_some hown hp
    rw [hv] at hv'; cases hv'; exact ⟨g, rfl⟩
  rw [hv] at hown
  rw [hv]
  obtain ⟨is, HI⟩ : ∃ is, Hid (is = srvI td goods gate ls ls.length) := ⟨_, rfl⟩
  rw [← HI.out] at hown hG
  rw [← HI.out]
  have hlen : (sb bs is).length = is.length := by simp [sb]
  have hil : is.length ≤ 30 := by rw [HI.out]; have := srvI_len td goods gate ls ls.length; omega
  have HLt : Hid (∀ i ∈ is, i < ls.length) := fun i hi => by rw [HI.out] at hi; exact srvI_lt hi
  rw [hlen] at hown hG
  rw [hlen]
  have hP1 := hide (HP.out.below hb1)
  have HO := hide hown
  clear hown hv hlen HC HP
  go_wp2_with fail
  go_loop [5, 6, 8, 16] (fun n f _ i => ∃ k : Nat, k ≤ is.length ∧ i = .int .i64 k ∧ n = .int .i64 k ∧ f = .int .i64 (freeOf ls (is.take k) : Nat)) (fun _ _ _ i => is.length - (intOf i).toNat)
  case atStart => exact ⟨0, by omega, rfl, rfl, rfl⟩
  case round =>
    obtain ⟨k, hk, rfl, rfl, rfl⟩ := hrel
    have hfl : freeOf ls (is.take k) ≤ 2147483647 * 30 := by
      have h3 := freeOf_le ls hP1.out.ok (is.take k) (fun i hi => HLt.out i (List.mem_of_mem_take hi))
      have h4 : (is.take k).length ≤ k := List.length_take_le _ _
      omega
    by_cases hlt : k < is.length
    · obtain ⟨G, hGe⟩ := hG (by omega)
      rw [hGe]
      have hik := HLt.out (is.getD k 0) (by simp [List.getD_eq_getElem?_getD, hlt])
      have hck : w1.cell? ⟨G, k, none⟩ = some (.pointer (some ⟨bs.getD (is.getD k 0) 0, 0, none⟩)) := by
        have ho := HO.out
        rw [hGe] at ho
        rw [ho.cellAt k (by omega)]
        simp [ptrs, sb, hlt]
      have hcl : w1.cell? ⟨bs.getD (is.getD k 0) 0, 6, none⟩ = some (.int .i64 ((ls.getD (is.getD k 0) L0).free : Int)) := by rw [hP1.out.cl _ hik 6]; rfl
      have hsum := (hP1.out.ok _ (mem_getD hik)).sum
      have HT := hide (freeOf_take ls is k hlt)
      generalize bs.getD (is.getD k 0) 0 = b at *
      obtain ⟨fr, HF⟩ : ∃ fr, Hid (fr = (ls.getD (is.getD k 0) L0).free) := ⟨_, rfl⟩
      rw [← HF.out] at hcl hsum HT
      clear hGe hG hik
      go_wp2_with fail
      go_round
      case rel => exact ⟨k + 1, by omega, by go_num, by go_num, by rw [HT.out]; go_num⟩
      case measure => simp [intOf]; omega
    · obtain rfl : k = is.length := by omega
      clear hG hlt
      go_wp2_with fail
      go_ret
      refine ⟨(ha.trans (hb1.mono ha.size)).alloc (by have := ha.size; have := hb1.size; omega) _, w1.heap.size, rfl, ?_⟩
      rw [heap_alloc_new, HI.out]
      rfl

end Go.Proofs.YtclipofifmajeaaGreatDoor
