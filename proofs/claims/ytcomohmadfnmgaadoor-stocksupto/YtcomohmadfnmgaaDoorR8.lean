import Derived.Test.YtcomohmadfnmgaaDoorR7
import Derived.Test.YtcomohmadfnmgaaDoorSt12
namespace Go.Proofs.YtcomohmadfnmgaaDoor
set_option linter.unusedSimpArgs false
set_option linter.unusedVariables false
open Go.RowKit
set_option maxRecDepth 100000

set_option maxHeartbeats 1600000 in
theorem mergeR_none {w : World} {R td : Nat} {v : Value} {fs : List Value} {rec : ByteArray} {ls : List L} (hP : RV w R v td rec fs ls) (gn cap0 : Nat) (a b m : Nat) (hns : NS w gn [a, b, m]) (h2 : b ≤ 2147483647) (i : Nat) (hi : i < ls.length) (hj : ¬ idx b ls < ls.length) :
    Calls Tryd.prog 59 #[.pointer (some ⟨R, 0, none⟩), .int .i64 (i : Int), .slice (some ⟨gn, 0, none⟩) 3 cap0] w fun e w' => e = .returned (.int .i64 4) ∧ Below w.heap.size w w' := by
  have n1 : w.cell? ⟨gn, 1, none⟩ = some (.int .i64 (b : Int)) := hns.2 1 (by simp)
  have HB := hide (at_any hP b h2)
  have HV0 : Hid (atV ls b = -1) := by unfold Hid atV; rw [if_neg hj]
  rw [HV0.out] at HB
  have hroom := hP.room
  obtain ⟨len, HN⟩ : ∃ len, Hid (len = ls.length) := ⟨_, rfl⟩
  rw [← HN.out] at hi hroom
  clear hP hns HV0 hj
  go_enter Tryd.func59, Tryd.ntmps59
  go_wp2_with (go_at_call 58; refine (HB.out).mono ?_; rintro e w1 ⟨rfl, rfl⟩)
  go_ret
  exact ⟨rfl, Below.refl _ _⟩

set_option maxHeartbeats 1600000 in
theorem mergeR_goods {w : World} {R td : Nat} {v : Value} {fs : List Value} {rec : ByteArray} {ls : List L} (hP : RV w R v td rec fs ls) (gn cap0 : Nat) (a b m : Nat) (hns : NS w gn [a, b, m]) (h2 : b ≤ 2147483647) (i : Nat) (hi : i < ls.length) (hj : idx b ls < ls.length)
    (hx : i = idx b ls ∨ (ls.getD i L0).goods ≠ (ls.getD (idx b ls) L0).goods) :
    Calls Tryd.prog 59 #[.pointer (some ⟨R, 0, none⟩), .int .i64 (i : Int), .slice (some ⟨gn, 0, none⟩) 3 cap0] w fun e w' => e = .returned (.int .i64 8) ∧ Below w.heap.size w w' := by
  have n1 : w.cell? ⟨gn, 1, none⟩ = some (.int .i64 (b : Int)) := hns.2 1 (by simp)
  have HB := hide (at_any hP b h2)
  have HV0 : Hid (atV ls b = (idx b ls : Int)) := by unfold Hid atV; rw [if_pos hj]
  rw [HV0.out] at HB
  have hroom := hP.room
  obtain ⟨av, cap, hv, hrow⟩ := hP.shape
  obtain ⟨G, hG, hGlt, hcells⟩ := hrow (by omega)
  subst hG
  have c1 := hP.c1
  rw [hv] at c1
  have hoka := hP.ok _ (mem_getD hi)
  have hokb := hP.ok _ (mem_getD hj)
  obtain ⟨j, HJ⟩ : ∃ j, Hid (j = idx b ls) := ⟨_, rfl⟩
  rw [← HJ.out] at HB hj hx hokb
  have ca : w.cell? ⟨G, i * 11 + 1, none⟩ = some (.int .i64 ((ls.getD i L0).goods : Int)) := hcells i hi 1 (by omega)
  have cb : w.cell? ⟨G, j * 11 + 1, none⟩ = some (.int .i64 ((ls.getD j L0).goods : Int)) := hcells j hj 1 (by omega)
  generalize ls.getD i L0 = la at *
  generalize ls.getD j L0 = lb at *
  have hga := hoka.goods
  have hgb := hokb.goods
  obtain ⟨len, HN⟩ : ∃ len, Hid (len = ls.length) := ⟨_, rfl⟩
  rw [← HN.out] at hi hj hroom c1
  clear hP hns HV0 hv hcells hrow hoka hokb
  by_cases he : i = j
  · subst he
    clear hx
    go_enter Tryd.func59, Tryd.ntmps59
    go_wp2_with (go_at_call 58; refine (HB.out).mono ?_; rintro e w1 ⟨rfl, rfl⟩)
    go_region
    go_wp2_with fail
    go_ret
    exact ⟨rfl, drewB _⟩
  · have hg := bneN_t (hx.resolve_left he)
    have hij := beqN_f he
    clear hx
    go_enter Tryd.func59, Tryd.ntmps59
    go_wp2_with (go_at_call 58; refine (HB.out).mono ?_; rintro e w1 ⟨rfl, rfl⟩)
    go_region
    go_wp2_with fail
    go_ret
    exact ⟨rfl, drewB _⟩

set_option maxHeartbeats 3200000 in
theorem mergeR_late {w : World} {R td : Nat} {v : Value} {fs : List Value} {rec : ByteArray} {ls : List L} (hP : RV w R v td rec fs ls) (gn cap0 : Nat) (a b m : Nat) (hns : NS w gn [a, b, m]) (h2 : b ≤ 2147483647) (h3 : m ≤ 2147483647) (i : Nat) (hi : i < ls.length) (hj : idx b ls < ls.length)
    (he : i ≠ idx b ls) (hg : (ls.getD i L0).goods = (ls.getD (idx b ls) L0).goods) (rc : Nat) (hrc : 0 < rc)
    (hx : (roomC ls m ≠ 0 ∧ rc = roomC ls m) ∨ (roomC ls m = 0 ∧ (ls.getD i L0).free + (ls.getD (idx b ls) L0).free = 0 ∧ rc = 7) ∨ (roomC ls m = 0 ∧ 2147483647 < (ls.getD i L0).free + (ls.getD (idx b ls) L0).free ∧ rc = 2)) :
    Calls Tryd.prog 59 #[.pointer (some ⟨R, 0, none⟩), .int .i64 (i : Int), .slice (some ⟨gn, 0, none⟩) 3 cap0] w fun e w' => e = .returned (.int .i64 (rc : Int)) ∧ Below w.heap.size w w' := by
  have n1 : w.cell? ⟨gn, 1, none⟩ = some (.int .i64 (b : Int)) := hns.2 1 (by simp)
  have n2 : w.cell? ⟨gn, 2, none⟩ = some (.int .i64 (m : Int)) := hns.2 2 (by simp)
  have HB := hide (at_any hP b h2)
  have HM := hide (roomR_any (hP.below (drewB w)) m h3)
  have hrle := roomC_le ls m
  have HV0 : Hid (atV ls b = (idx b ls : Int)) := by unfold Hid atV; rw [if_pos hj]
  rw [HV0.out] at HB
  have hroom := hP.room
  obtain ⟨av, cap, hv, hrow⟩ := hP.shape
  obtain ⟨G, hG, hGlt, hcells⟩ := hrow (by omega)
  subst hG
  have c1 := hP.c1
  rw [hv] at c1
  have hoka := hP.ok _ (mem_getD hi)
  have hokb := hP.ok _ (mem_getD hj)
  obtain ⟨j, HJ⟩ : ∃ j, Hid (j = idx b ls) := ⟨_, rfl⟩
  rw [← HJ.out] at HB hj hx hokb he hg
  have ca : w.cell? ⟨G, i * 11 + 1, none⟩ = some (.int .i64 ((ls.getD i L0).goods : Int)) := hcells i hi 1 (by omega)
  have cb : w.cell? ⟨G, j * 11 + 1, none⟩ = some (.int .i64 ((ls.getD j L0).goods : Int)) := hcells j hj 1 (by omega)
  have ca5 : w.cell? ⟨G, i * 11 + 5, none⟩ = some (.int .i64 ((ls.getD i L0).free : Int)) := hcells i hi 5 (by omega)
  have cb5 : w.cell? ⟨G, j * 11 + 5, none⟩ = some (.int .i64 ((ls.getD j L0).free : Int)) := hcells j hj 5 (by omega)
  generalize ls.getD i L0 = la at *
  generalize ls.getD j L0 = lb at *
  have hga := hoka.goods
  have hgb := hokb.goods
  have hfa : la.free ≤ 2147483647 := by have := hoka.sum; omega
  have hfb : lb.free ≤ 2147483647 := by have := hokb.sum; omega
  have hg' := bneN_f hg
  have hij := beqN_f he
  obtain ⟨len, HN⟩ : ∃ len, Hid (len = ls.length) := ⟨_, rfl⟩
  rw [← HN.out] at hi hj hroom c1
  generalize roomC ls m = r at *
  clear hP hns HV0 hv hcells hrow hoka hokb hg
  rcases hx with ⟨hr, rfl⟩ | ⟨rfl, hz, rfl⟩ | ⟨rfl, hz, rfl⟩
  · have hrb : ((rc : Int) != 0) = true := by rw [bne_iff_ne]; omega
    go_enter Tryd.func59, Tryd.ntmps59
    go_wp2_with (go_at_call 58; refine (HB.out).mono ?_; rintro e w1 ⟨rfl, rfl⟩)
    go_region
    go_wp2_with (go_at_call 56; refine (HM.out).mono ?_; rintro e w1 ⟨rfl, rfl⟩)
    go_ret
    exact ⟨rfl, drewB _⟩
  · have hzb : (((la.free : Int) + (lb.free : Int)) == 0) = true := by rw [beq_iff_eq]; omega
    go_enter Tryd.func59, Tryd.ntmps59
    go_wp2_with (go_at_call 58; refine (HB.out).mono ?_; rintro e w1 ⟨rfl, rfl⟩)
    go_region
    go_wp2_with (go_at_call 56; refine (HM.out).mono ?_; rintro e w1 ⟨rfl, rfl⟩)
    go_ret
    exact ⟨rfl, drewB _⟩
  · have hzb : (((la.free : Int) + (lb.free : Int)) == 0) = false := by rw [beq_eq_false_iff_ne]; omega
    go_enter Tryd.func59, Tryd.ntmps59
    go_wp2_with (go_at_call 58; refine (HB.out).mono ?_; rintro e w1 ⟨rfl, rfl⟩)
    go_region
    go_wp2_with (go_at_call 56; refine (HM.out).mono ?_; rintro e w1 ⟨rfl, rfl⟩)
    go_ret
    exact ⟨rfl, drewB _⟩

end Go.Proofs.YtcomohmadfnmgaaDoor
