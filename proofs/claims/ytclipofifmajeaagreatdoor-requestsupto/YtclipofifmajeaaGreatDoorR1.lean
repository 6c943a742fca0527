import Derived.Test.YtclipofifmajeaaGreatDoorR0
import Derived.Test.YtclipofifmajeaaGreatDoorSt8
namespace Go.Proofs.YtclipofifmajeaaGreatDoor
set_option linter.unusedSimpArgs false
set_option linter.unusedVariables false
open Go.RowKit
set_option maxRecDepth 100000

theorem heap_alloc_new' (w : World) (o : Obj) (g : Nat) (hg : g = w.heap.size) : (w.alloc o).heap[g]? = some o := by subst hg; exact heap_alloc_new w o

set_option maxHeartbeats 1600000 in
theorem serves_any {w : World} {R : Nat} {v : Value} {td : Nat} {rec : ByteArray} {fs : List Value} {ls : List L} {os : List O} {ro : Ro} (h : RV os ro w R v td rec fs ls) (i goods gate : Nat) (hi : i < ls.length) (h1 : goods ≤ 2147483647) (h2 : gate ≤ 2147483647) :
    Calls Tryz.prog 84 #[.pointer (some ⟨R, 0, none⟩), .int .i64 (i : Int), .int .i64 (goods : Int), .int .i64 (gate : Int)] w fun e w' => e = .returned (.bool (srv td goods gate (ls.getD i L0))) ∧ Below w.heap.size w w' := by
  obtain ⟨a, cap, hv, hrow⟩ := h.shape
  obtain ⟨G, hG, hGlt, hcells⟩ := hrow (by omega)
  have c1 := h.c1
  rw [hv, hG] at c1
  have hroom := h.room
  have htd := h.today
  have hok := h.ok _ (mem_getD hi)
  obtain ⟨l, HL⟩ : ∃ l, Hid (l = ls.getD i L0) := ⟨_, rfl⟩
  have hfs : IsSl (fs.getD i default) := h.fsl _ (getD_mem_val (by rw [h.flen]; exact hi))
  obtain ⟨fa, fn, fc, hf⟩ := hfs
  rw [← HL.out] at hok
  rw [← HL.out]
  have k := hcells i hi
  rw [← HL.out, hf] at k
  have k0 : w.cell? ⟨G, i * 11, none⟩ = some (.int .i64 (l.id : Int)) := k 0 (by omega)
  have k1 : w.cell? ⟨G, i * 11 + 1, none⟩ = some (.int .i64 (l.goods : Int)) := k 1 (by omega)
  have k2 : w.cell? ⟨G, i * 11 + 2, none⟩ = some (.int .i64 (l.expiry : Int)) := k 2 (by omega)
  have k3 : w.cell? ⟨G, i * 11 + 3, none⟩ = some (.int .i64 (l.place : Int)) := k 3 (by omega)
  have k4 : w.cell? ⟨G, i * 11 + 4, none⟩ = some (.int .i64 (l.got : Int)) := k 4 (by omega)
  have k5 : w.cell? ⟨G, i * 11 + 5, none⟩ = some (.int .i64 (l.free : Int)) := k 5 (by omega)
  have k6 : w.cell? ⟨G, i * 11 + 6, none⟩ = some (.int .i64 (l.held : Int)) := k 6 (by omega)
  have k7 : w.cell? ⟨G, i * 11 + 7, none⟩ = some (.int .i64 (l.shipped : Int)) := k 7 (by omega)
  have k8 : w.cell? ⟨G, i * 11 + 8, none⟩ = some (.int .i64 (l.scrapped : Int)) := k 8 (by omega)
  have k9 : w.cell? ⟨G, i * 11 + 9, none⟩ = some (.int .i64 (l.given : Int)) := k 9 (by omega)
  have k10 : w.cell? ⟨G, i * 11 + 10, none⟩ = some (.slice fa fn fc) := k 10 (by omega)
  have HP := hide h
  clear h hv hG hcells hrow k hf
  go_enter Tryz.func84, Tryz.ntmps84
  go_wp2_with fail
  have ha := al1 w (.cells #[.int .i64 (l.id : Int), .int .i64 (l.goods : Int), .int .i64 (l.expiry : Int), .int .i64 (l.place : Int), .int .i64 (l.got : Int), .int .i64 (l.free : Int), .int .i64 (l.held : Int), .int .i64 (l.shipped : Int), .int .i64 (l.scrapped : Int), .int .i64 (l.given : Int), .slice fa fn fc] 94)
  have hb := heap_alloc_new w (.cells #[.int .i64 (l.id : Int), .int .i64 (l.goods : Int), .int .i64 (l.expiry : Int), .int .i64 (l.place : Int), .int .i64 (l.got : Int), .int .i64 (l.free : Int), .int .i64 (l.held : Int), .int .i64 (l.shipped : Int), .int .i64 (l.scrapped : Int), .int .i64 (l.given : Int), .slice fa fn fc] 94)
  generalize (w.alloc (.cells #[.int .i64 (l.id : Int), .int .i64 (l.goods : Int), .int .i64 (l.expiry : Int), .int .i64 (l.place : Int), .int .i64 (l.got : Int), .int .i64 (l.free : Int), .int .i64 (l.held : Int), .int .i64 (l.shipped : Int), .int .i64 (l.scrapped : Int), .int .i64 (l.given : Int), .slice fa fn fc] 94)) = w1 at *
  refine (recalledR_any (HP.out.below ha) l.id).mono ?_
  rintro e w2 ⟨rfl, rfl⟩
  have d1 : w2.cell? ⟨w.heap.size, 1, none⟩ = some (.int .i64 (l.goods : Int)) := by rw [blk_cell hb]; rfl
  have d2 : w2.cell? ⟨w.heap.size, 2, none⟩ = some (.int .i64 (l.expiry : Int)) := by rw [blk_cell hb]; rfl
  have d5 : w2.cell? ⟨w.heap.size, 5, none⟩ = some (.int .i64 (l.free : Int)) := by rw [blk_cell hb]; rfl
  have dR := (HP.out.below ha).c0
  have hle1 := hok.goods
  have hle2 := hok.expiry
  have hle3 := hok.sum
  clear k0 k1 k2 k3 k4 k5 k6 k7 k8 k9 k10 c1 hb hok
  obtain ⟨lgoods, lexpiry, lfree, hlgoods, hlexp, hlfree⟩ : ∃ b c d, Hid (b = l.goods) ∧ Hid (c = l.expiry) ∧ Hid (d = l.free) := ⟨_, _, _, rfl, rfl, rfl⟩
  rw [← hlgoods.out] at d1 hle1
  rw [← hlexp.out] at d2 hle2
  rw [← hlfree.out] at d5 hle3
  by_cases hA : lgoods = goods
  · have hAb := beqN_t hA
    have HA := hide hA
    clear hA
    by_cases hB : 0 < lfree
    · by_cases hC : td + gate + 1 ≤ lexpiry
      · have HN : Hid (srv td goods gate l = true) := by
          unfold Hid srv; rw [← hlexp.out, ← hlgoods.out, ← hlfree.out]; simp [HA.out, hB, hC]
        have hCb : decide ((td : Int) + (gate : Int) + 1 ≤ (lexpiry : Int)) = true := by simp; omega
        go_wp2_with fail
        go_quiet (fail)
        go_wp2_with fail
        go_ret
        exact ⟨ret_bool (by rw [HN.out]), below_drewN ha nq⟩
      · have HN : Hid (srv td goods gate l = false) := by
          unfold Hid srv; rw [← hlexp.out]; simp; intro _ _; omega
        have hCb : decide ((td : Int) + (gate : Int) + 1 ≤ (lexpiry : Int)) = false := by simp; omega
        go_wp2_with fail
        go_quiet (fail)
        go_wp2_with fail
        go_ret
        exact ⟨ret_bool (by rw [HN.out]), below_drewN ha nq⟩
    · have HN : Hid (srv td goods gate l = false) := by
        unfold Hid srv; rw [← hlfree.out]; simp [hB]
      have hBb : decide ((0 : Int) < (lfree : Int)) = false := by simp; omega
      go_wp2_with fail
      go_quiet (fail)
      go_wp2_with fail
      go_ret
      exact ⟨ret_bool (by rw [HN.out]), below_drewN ha nq⟩
  · have HN : Hid (srv td goods gate l = false) := by
      unfold Hid srv; rw [← hlgoods.out]; simp [hA]
    have hAb := beqN_f hA
    clear hA
    go_wp2_with fail
    go_quiet (fail)
    go_wp2_with fail
    go_ret
    exact ⟨ret_bool (by rw [HN.out]), below_drewN ha nq⟩

set_option maxHeartbeats 1600000 in
theorem lookR_hit {w : World} {R : Nat} {v : Value} {td : Nat} {rec : ByteArray} {fs : List Value} {ls : List L} {os : List O} {ro : Ro} (h : RV os ro w R v td rec fs ls) (n : Nat) (hn : n ≤ 2147483647) (hi : idx n ls < ls.length) :
    Calls Tryz.prog 44 #[.pointer (some ⟨R, 0, none⟩), .int .i64 (n : Int)] w fun e w' => Below w.heap.size w w' ∧ ∃ g, e = .returned (.tuple #[.slice (some ⟨g, 0, none⟩) 10 10, .int .i64 0]) ∧ w'.heap[g]? = some (.cells (I (lookL (ls.getD (idx n ls) L0))).toArray 3 (0, 0)) := by
  have H1 := hide (at_any h n hn)
  have hat : atV ls n = (idx n ls : Int) := by unfold atV; rw [if_pos hi]
  rw [hat] at H1
  obtain ⟨a, cap, hv, hrow⟩ := h.shape
  obtain ⟨G, hG, hGlt, hcells⟩ := hrow (by omega)
  have c1 := h.c1
  rw [hv, hG] at c1
  have hroom := h.room
  obtain ⟨l, HL⟩ : ∃ l, Hid (l = ls.getD (idx n ls) L0) := ⟨_, rfl⟩
  obtain ⟨fa, fn, fc, hf⟩ := h.fsl _ (getD_mem_val (show idx n ls < fs.length by rw [h.flen]; exact hi))
  rw [← HL.out]
  have k := hcells (idx n ls) hi
  rw [← HL.out, hf] at k
  generalize idx n ls = i at *
  have k0 : w.cell? ⟨G, i * 11, none⟩ = some (.int .i64 (l.id : Int)) := k 0 (by omega)
  have k1 : w.cell? ⟨G, i * 11 + 1, none⟩ = some (.int .i64 (l.goods : Int)) := k 1 (by omega)
  have k2 : w.cell? ⟨G, i * 11 + 2, none⟩ = some (.int .i64 (l.expiry : Int)) := k 2 (by omega)
  have k3 : w.cell? ⟨G, i * 11 + 3, none⟩ = some (.int .i64 (l.place : Int)) := k 3 (by omega)
  have k4 : w.cell? ⟨G, i * 11 + 4, none⟩ = some (.int .i64 (l.got : Int)) := k 4 (by omega)
  have k5 : w.cell? ⟨G, i * 11 + 5, none⟩ = some (.int .i64 (l.free : Int)) := k 5 (by omega)
  have k6 : w.cell? ⟨G, i * 11 + 6, none⟩ = some (.int .i64 (l.held : Int)) := k 6 (by omega)
  have k7 : w.cell? ⟨G, i * 11 + 7, none⟩ = some (.int .i64 (l.shipped : Int)) := k 7 (by omega)
  have k8 : w.cell? ⟨G, i * 11 + 8, none⟩ = some (.int .i64 (l.scrapped : Int)) := k 8 (by omega)
  have k9 : w.cell? ⟨G, i * 11 + 9, none⟩ = some (.int .i64 (l.given : Int)) := k 9 (by omega)
  have k10 : w.cell? ⟨G, i * 11 + 10, none⟩ = some (.slice fa fn fc) := k 10 (by omega)
  have HP := hide h
  clear h hv hG hcells hrow k hf hat
  go_enter Tryz.func44, Tryz.ntmps44
  go_wp2_with (go_at_call 75; refine (H1.out).mono ?_; rintro e w1 ⟨rfl, rfl⟩)
  refine (recalledR_any (HP.out.below ?_) n).mono ?_
  · exact ((Below.refl _ _).alloc (Nat.le_refl _) _).alloc (by simp) _
  rintro e w2 ⟨rfl, rfl⟩
  go_wp2_with fail
  go_ret2
  refine ⟨((Below.refl _ _).alloc (Nat.le_refl _) _).alloc (by simp) _, _, rfl, ?_⟩
  exact heap_alloc_new' _ _ _ (by simp)

set_option maxHeartbeats 1600000 in
theorem lookR_miss {w : World} {R : Nat} {v : Value} {td : Nat} {rec : ByteArray} {fs : List Value} {ls : List L} {os : List O} {ro : Ro} (h : RV os ro w R v td rec fs ls) (n : Nat) (hn : n ≤ 2147483647) (hi : ¬ idx n ls < ls.length) :
    Calls Tryz.prog 44 #[.pointer (some ⟨R, 0, none⟩), .int .i64 (n : Int)] w fun e w' => w' = w ∧ e = .returned (.tuple #[.slice none 0 0, .int .i64 4]) := by
  have H1 := hide (at_any h n hn)
  have hat : atV ls n = -1 := by unfold atV; rw [if_neg hi]
  rw [hat] at H1
  clear h hi hat
  go_enter Tryz.func44, Tryz.ntmps44
  go_wp2_with (go_at_call 75; refine (H1.out).mono ?_; rintro e w1 ⟨rfl, rfl⟩)
  go_ret2
  exact ⟨rfl, rfl⟩

end Go.Proofs.YtclipofifmajeaaGreatDoor
