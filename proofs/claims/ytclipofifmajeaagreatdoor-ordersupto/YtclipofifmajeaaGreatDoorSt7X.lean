import Derived.Test.YtclipofifmajeaaGreatDoorExtX
import Derived.Deep.RegionHeld3
namespace Go.Proofs.YtclipofifmajeaaGreatDoor
set_option linter.unusedSimpArgs false
set_option linter.unusedVariables false
open Go.RowKit
set_option maxRecDepth 100000

def freeOf (ls : List L) (is : List Nat) : Nat := (is.map fun i => (ls.getD i L0).free).sum

theorem freeOf_snoc (ls : List L) (is : List Nat) (i : Nat) : freeOf ls (is ++ [i]) = freeOf ls is + (ls.getD i L0).free := by simp [freeOf]
theorem freeOf_take (ls : List L) (is : List Nat) (k : Nat) (h : k < is.length) : freeOf ls (is.take (k + 1)) = freeOf ls (is.take k) + (ls.getD (is.getD k 0) L0).free := by
  rw [List.take_succ_eq_append_getElem h, freeOf_snoc]; simp [List.getD_eq_getElem?_getD, h]
theorem freeOf_le (ls : List L) (hok : ∀ l ∈ ls, L.Ok l) : ∀ (is : List Nat), (∀ i ∈ is, i < ls.length) → freeOf ls is ≤ 2147483647 * is.length
  | [], _ => by simp [freeOf]
  | i :: r, h => by
    have h1 := freeOf_le ls hok r (fun j hj => h j (by simp [hj]))
    have h2 := (hok _ (mem_getD (h i (by simp)))).sum
    have e : freeOf ls (i :: r) = (ls.getD i L0).free + freeOf ls r := by simp [freeOf]
    rw [e, List.length_cons]; omega
theorem srvI_lt {td goods gate : Nat} {ls : List L} {k i : Nat} (h : i ∈ srvI td goods gate ls k) : i < k := by
  simp only [srvI, List.mem_filter, List.mem_range] at h; exact h.1

def supL (td goods gate : Nat) (ls : List L) : List Nat := [(srvI td goods gate ls ls.length).length, freeOf ls (srvI td goods gate ls ls.length)]

set_option maxHeartbeats 1600000 in
theorem supply_any {w : World} {S : Nat} {M : Mx} {v : Value} {td : Nat} {bs : List Nat} {pvs : List Value} {ls : List L} {os : List O} (h : PV os w S M v td bs pvs ls) (goods gate : Nat) (h1 : goods ≤ 2147483647) (h2 : gate ≤ 2147483647) :
    Calls Tryz.prog 72 #[.pointer (some ⟨S, 0, none⟩), .agg #[.int .i64 (goods : Int), .int .i64 (gate : Int)]] w fun e w' => Below w.heap.size w w' ∧ ∃ g, e = .returned (.slice (some ⟨g, 0, none⟩) 2 2) ∧ w'.heap[g]? = some (.cells (I (supL td goods gate ls)).toArray 2 (0, 0)) := by
  have ha := al1 w (Obj.cells #[.int .i64 (goods : Int), .int .i64 (gate : Int)] 137)
  have hP := h.below ha
  have HC := hide (canServe_any hP goods gate h1 h2)
  have HP := hide hP
  have hroom := h.room
  clear hP h
  go_enter Tryz.func72, Tryz.ntmps72
  go_wp2_with fail
  refine (HC.out).mono ?_
  rintro e w1 ⟨hb1, v', rfl, hown⟩
  obtain ⟨a, cap, hv⟩ := own_shape hown
  have hG : 0 < (sb bs (srvI td goods gate ls ls.length)).length → ∃ G, a = some ⟨G, 0, none⟩ := fun hp => by
    obtain ⟨g, c, hv', _, _⟩ := own_some hown hp
    rw [hv] at hv'; cases hv'; exact ⟨g, rfl⟩
  rw [hv] at hown
  rw [hv]
  obtain ⟨is, HI⟩ : ∃ is, Hid (is = srvI td goods gate ls ls.length) := ⟨_, rfl⟩
  rw [← HI.out] at hown hG
  rw [← HI.out]
  have hlen : (sb bs is).length = is.length := by simp [sb]
  have hil : is.length ≤ 30 := by rw [HI.out]; have := srvI_len td goods gate ls ls.length; omega
  have HLt : Hid (∀ i ∈ is, i < ls.length) := fun i hi => by rw [HI.out] at hi; exact srvI_lt hi
  rw [hlen] at hown hG
  rw [hlen]
  have hP1 := hide (HP.out.below hb1)
  have HO := hide hown
  clear hown hv hlen HC HP
  go_wp2_with fail
  go_loop [5, 6, 8, 16] (fun n f _ i => ∃ k : Nat, k ≤ is.length ∧ i = .int .i64 k ∧ n = .int .i64 k ∧ f = .int .i64 (freeOf ls (is.take k) : Nat)) (fun _ _ _ i => is.length - (intOf i).toNat)
  case atStart => exact ⟨0, by omega, rfl, rfl, rfl⟩
  case round =>
    obtain ⟨k, hk, rfl, rfl, rfl⟩ := hrel
    have hfl : freeOf ls (is.take k) ≤ 2147483647 * 30 := by
      have h3 := freeOf_le ls hP1.out.ok (is.take k) (fun i hi => HLt.out i (List.mem_of_mem_take hi))
      have h4 : (is.take k).length ≤ k := List.length_take_le _ _
      omega
    by_cases hlt : k < is.length
    · obtain ⟨G, hGe⟩ := hG (by omega)
      rw [hGe]
      have hik := HLt.out (is.getD k 0) (by simp [List.getD_eq_getElem?_getD, hlt])
      have hck : w1.cell? ⟨G, k, none⟩ = some (.pointer (some ⟨bs.getD (is.getD k 0) 0, 0, none⟩)) := by
        have ho := HO.out
        rw [hGe] at ho
        rw [ho.cellAt k (by omega)]
        simp [ptrs, sb, hlt]
      have hcl : w1.cell? ⟨bs.getD (is.getD k 0) 0, 6, none⟩ = some (.int .i64 ((ls.getD (is.getD k 0) L0).free : Int)) := by rw [hP1.out.cl _ hik 6]; rfl
      have hsum := (hP1.out.ok _ (mem_getD hik)).sum
      have HT := hide (freeOf_take ls is k hlt)
      generalize bs.getD (is.getD k 0) 0 = b at *
      obtain ⟨fr, HF⟩ : ∃ fr, Hid (fr = (ls.getD (is.getD k 0) L0).free) := ⟨_, rfl⟩
      rw [← HF.out] at hcl hsum HT
      clear hGe hG hik
      go_wp2_with fail
      go_round
      case rel => exact ⟨k + 1, by omega, by go_num, by go_num, by rw [HT.out]; go_num⟩
      case measure => simp [intOf]; omega
    · obtain rfl : k = is.length := by omega
      clear hG hlt
      go_wp2_with fail
      go_ret
      refine ⟨(ha.trans (hb1.mono ha.size)).alloc (by have := ha.size; have := hb1.size; omega) _, w1.heap.size, rfl, ?_⟩
      rw [heap_alloc_new, HI.out]
      rfl

end Go.Proofs.YtclipofifmajeaaGreatDoor

namespace Go.Proofs.YtclipofifmajeaaGreatDoor
set_option linter.unusedSimpArgs false
set_option linter.unusedVariables false
open Go.RowKit
set_option maxRecDepth 100000

def lookL (l : L) : List Nat := [l.goods, l.expiry, l.place, l.got, l.free, l.held, l.shipped, l.scrapped, l.given, 0]

set_option maxHeartbeats 1600000 in
theorem look_hit {w : World} {S : Nat} {M : Mx} {v : Value} {td : Nat} {bs : List Nat} {pvs : List Value} {ls : List L} {os : List O} (h : PV os w S M v td bs pvs ls) (n : Nat) (hn : n ≤ 2147483647) (hi : idx n ls < ls.length) :
    Calls Tryz.prog 71 #[.pointer (some ⟨S, 0, none⟩), .agg #[.int .i64 (n : Int)]] w fun e w' => Below w.heap.size w w' ∧ ∃ g, e = .returned (.tuple #[.slice (some ⟨g, 0, none⟩) 10 10, .int .i64 0]) ∧ w'.heap[g]? = some (.cells (I (lookL (ls.getD (idx n ls) L0))).toArray 2 (0, 0)) := by
  have ha := al1 w (Obj.cells #[.int .i64 (n : Int)] 134)
  have hP := h.below ha
  have HF := hide (find_any hP n hn)
  have HR := hide (recalled_any hP)
  have hfv : findV bs ls n = .pointer (some ⟨bs.getD (idx n ls) 0, 0, none⟩) := by unfold findV; rw [if_pos hi]
  rw [hfv] at HF
  obtain ⟨b, HB⟩ : ∃ b, Hid (b = bs.getD (idx n ls) 0) := ⟨_, rfl⟩
  obtain ⟨l, HL⟩ : ∃ l, Hid (l = ls.getD (idx n ls) L0) := ⟨_, rfl⟩
  rw [← HL.out]
  rw [← HB.out] at HF
  have hlot := hP.lot _ hi
  rw [← HB.out, ← HL.out] at hlot
  generalize pvs.getD (idx n ls) default = pv at hlot
  have HH := hide hlot
  clear h hP hfv hlot
  go_enter Tryz.func71, Tryz.ntmps71
  go_wp2_with (first
    | (go_at_call 98; refine (HF.out).mono ?_; rintro e w1 ⟨rfl, rfl⟩)
    | fail)
  refine (HR.out).mono ?_
  rintro e w1 ⟨hb1, Mf, c, rfl, hmf, hmlt⟩
  have hlot1 := (hb1.block b (blk_lt HH.out)).trans HH.out
  have HA := hide (has_any Mf b l.id c w1 hmf (by rw [blk_cell hlot1]; rfl))
  go_wp2_with fail
  refine (HA.out).mono ?_
  rintro e w2 ⟨rfl, hb2⟩
  have hlot2 := (hb2.block b (blk_lt hlot1)).trans hlot1
  have k1 : w2.cell? ⟨b, 1, none⟩ = some (.int .i64 (l.goods : Int)) := by rw [blk_cell hlot2]; rfl
  have k2 : w2.cell? ⟨b, 2, none⟩ = some (.int .i64 (l.expiry : Int)) := by rw [blk_cell hlot2]; rfl
  have k3 : w2.cell? ⟨b, 3, none⟩ = some (.int .i64 (l.place : Int)) := by rw [blk_cell hlot2]; rfl
  have k5 : w2.cell? ⟨b, 5, none⟩ = some (.int .i64 (l.got : Int)) := by rw [blk_cell hlot2]; rfl
  have k6 : w2.cell? ⟨b, 6, none⟩ = some (.int .i64 (l.free : Int)) := by rw [blk_cell hlot2]; rfl
  have k7 : w2.cell? ⟨b, 7, none⟩ = some (.int .i64 (l.held : Int)) := by rw [blk_cell hlot2]; rfl
  have k8 : w2.cell? ⟨b, 8, none⟩ = some (.int .i64 (l.shipped : Int)) := by rw [blk_cell hlot2]; rfl
  have k9 : w2.cell? ⟨b, 9, none⟩ = some (.int .i64 (l.scrapped : Int)) := by rw [blk_cell hlot2]; rfl
  have k10 : w2.cell? ⟨b, 10, none⟩ = some (.int .i64 (l.given : Int)) := by rw [blk_cell hlot2]; rfl
  have hbb : Hid (Below w.heap.size w w2) := ha.trans ((hb1.trans (hb2.mono hb1.size)).mono ha.size)
  clear hlot1 hlot2 HA HF HR HH hb1 hb2 hmf hmlt ha hi hn
  go_wp2_with fail
  go_region_held3 (fun w' => w'.cell? ⟨b, 1, none⟩ = some (.int .i64 (l.goods : Int)) ∧ w'.cell? ⟨b, 2, none⟩ = some (.int .i64 (l.expiry : Int)) ∧ w'.cell? ⟨b, 3, none⟩ = some (.int .i64 (l.place : Int)) ∧ w'.cell? ⟨b, 5, none⟩ = some (.int .i64 (l.got : Int)) ∧ w'.cell? ⟨b, 6, none⟩ = some (.int .i64 (l.free : Int)) ∧ w'.cell? ⟨b, 7, none⟩ = some (.int .i64 (l.held : Int)) ∧ w'.cell? ⟨b, 8, none⟩ = some (.int .i64 (l.shipped : Int)) ∧ w'.cell? ⟨b, 9, none⟩ = some (.int .i64 (l.scrapped : Int)) ∧ w'.cell? ⟨b, 10, none⟩ = some (.int .i64 (l.given : Int))) (go_keep) (fail)
  go_wp2_with fail
  go_ret2
  exact ⟨(hbb.out.alloc hbb.out.size _).drew, w2.heap.size, rfl, heap_alloc_new w2 _⟩

set_option maxHeartbeats 1600000 in
theorem look_miss {w : World} {S : Nat} {M : Mx} {v : Value} {td : Nat} {bs : List Nat} {pvs : List Value} {ls : List L} {os : List O} (h : PV os w S M v td bs pvs ls) (n : Nat) (hn : n ≤ 2147483647) (hi : ¬ idx n ls < ls.length) :
    Calls Tryz.prog 71 #[.pointer (some ⟨S, 0, none⟩), .agg #[.int .i64 (n : Int)]] w fun e w' => Below w.heap.size w w' ∧ e = .returned (.tuple #[.slice none 0 0, .int .i64 4]) := by
  have ha := al1 w (Obj.cells #[.int .i64 (n : Int)] 134)
  have hP := h.below ha
  have HF := hide (find_any hP n hn)
  have hfv : findV bs ls n = .pointer none := by unfold findV; rw [if_neg hi]
  rw [hfv] at HF
  clear h hP hfv hi
  go_enter Tryz.func71, Tryz.ntmps71
  go_wp2_with (first
    | (go_at_call 98; refine (HF.out).mono ?_; rintro e w1 ⟨rfl, rfl⟩)
    | fail)
  go_ret2
  exact ⟨ha, rfl⟩

end Go.Proofs.YtclipofifmajeaaGreatDoor
