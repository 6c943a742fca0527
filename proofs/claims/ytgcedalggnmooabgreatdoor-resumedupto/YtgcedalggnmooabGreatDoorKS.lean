import Derived.Test.YtgcedalggnmooabGreatDoorKAX
import Derived.Deep.RegionWith
import Derived.Deep.RegionHeld3
import Derived.Deep.CutRange
namespace Go.Proofs.YtgcedalggnmooabGreatDoor
set_option linter.unusedSimpArgs false
set_option linter.unusedVariables false
open Go.RowKit
set_option maxRecDepth 100000

theorem kcommand_lit (c : Nat) (hc : c < 256) (ns : List Nat) (hl : ns.length ≤ 1000) (hn : ∀ n ∈ ns, n < 9223372036854775808) (w : World) :
    Calls Tryz.prog 22 #[.int .i64 (c : Int), .slice (some ⟨w.heap.size, 0, none⟩) ns.length ns.length] (w.alloc (.cells (I ns).toArray 3)) fun e w' => e = .returned (.string ⟨(Pl.cmdB c ns).toArray⟩) ∧ Below w.heap.size w w' := by
  have hal : Below w.heap.size w (w.alloc (.cells (I ns).toArray 3)) := (Below.refl _ _).alloc (Nat.le_refl _) _
  have hcl : Cl (w.alloc (.cells (I ns).toArray 3)) w.heap.size ns := by
    refine ⟨by simp, fun j hj => ?_⟩
    rw [blk_cell (heap_alloc_new w _)]
    simp [I, List.getD_eq_getElem?_getD, hj]
  refine (kcommand_any c hc w.heap.size ns.length ns hl hn _ hcl).mono ?_
  rintro e w' ⟨he, hb⟩
  exact ⟨he, hal.trans (hb.mono (by simp))⟩

theorem kcommand_lit' (c : Nat) (hc : c < 256) (ns : List Nat) (hl : ns.length ≤ 1000) (hn : ∀ n ∈ ns, n < 9223372036854775808) (w : World) :
    Calls Tryz.prog 22 #[.int .i64 (c : Int), .slice (some ⟨w.heap.size, 0, none⟩) ns.length ns.length] (w.alloc (.cells (I ns).toArray 3)).drew fun e w' => e = .returned (.string ⟨(Pl.cmdB c ns).toArray⟩) ∧ Below w.heap.size w w' := by
  have hal : Below w.heap.size w (w.alloc (.cells (I ns).toArray 3)).drew := ((Below.refl _ _).alloc (Nat.le_refl _) _).drew
  have hcl : Cl (w.alloc (.cells (I ns).toArray 3)).drew w.heap.size ns := by
    refine ⟨by simp, fun j hj => ?_⟩
    show (w.alloc (.cells (I ns).toArray 3)).cell? _ = _
    rw [blk_cell (heap_alloc_new w _)]
    simp [I, List.getD_eq_getElem?_getD, hj]
  refine (kcommand_any c hc w.heap.size ns.length ns hl hn _ hcl).mono ?_
  rintro e w' ⟨he, hb⟩
  exact ⟨he, hal.trans (hb.mono (by simp))⟩

/-- The command that a step spells: its code and numbers. -/
def sp (k a b c d : Int) : Nat × List Nat :=
  match pk k 12 with
  | 0 => (1, [pk a 40])
  | 1 => (2, [1 + pk a 12, 1 + pk b 3, 1 + pk c 400, pk d 40])
  | 2 => (3, [1 + pk a 12, 1 + pk b 12, 1 + pk c 400])
  | 3 => (4, [1 + pk a 12, 1 + pk b 12, 1 + pk c 12])
  | 4 => (5, [1 + pk a 4, 1 + pk b 3, 1 + pk c 400, pk d 10, pk (d.tdiv 16) 4])
  | 5 => (6, [1 + pk a 4])
  | 6 => (7, [1 + pk a 4])
  | 7 => (8, [1 + pk a 12, 1 + pk b 2])
  | 8 => (9, [1 + pk a 12, 1 + pk b 2])
  | 9 => (10, [1 + pk a 12, 1 + pk c 400])
  | 10 => (11, [1 + pk a 12])
  | _ => (12, [1 + pk a 3, pk d 10])

set_option maxHeartbeats 3200000 in
theorem spelt_1 (k a b c d : Int) (hk : Raw k) (ha : Raw a) (hb : Raw b) (hc : Raw c) (hd : Raw d) (w : World) (hq0 : pk k 12 = 0) :
    Calls Tryz.prog 13 #[.agg #[.int .i64 k, .int .i64 a, .int .i64 b, .int .i64 c, .int .i64 d]] w fun e w' => e = .returned (.string ⟨(Pl.cmdB 1 [pk a 40]).toArray⟩) ∧ Below w.heap.size w w' := by
  have HK : Hid (∀ w, Calls Tryz.prog 14 #[.int .i64 k, .int .i64 12] w fun e w' => e = .returned (.int .i64 0) ∧ w' = w) := by
    have := pick_any k hk 12 (by omega) (by omega)
    rw [hq0] at this; exact this
  have HA12 : Hid (∀ w, Calls Tryz.prog 26 #[.int .i64 a, .int .i64 12] w fun e w' => e = .returned (.int .i64 ((1 + pk a 12 : Nat) : Int)) ∧ w' = w) := id_any a ha 12 (by omega) (by omega)
  have HB12 : Hid (∀ w, Calls Tryz.prog 26 #[.int .i64 b, .int .i64 12] w fun e w' => e = .returned (.int .i64 ((1 + pk b 12 : Nat) : Int)) ∧ w' = w) := id_any b hb 12 (by omega) (by omega)
  have HPA40 : Hid (∀ w, Calls Tryz.prog 14 #[.int .i64 a, .int .i64 40] w fun e w' => e = .returned (.int .i64 ((pk a 40 : Nat) : Int)) ∧ w' = w) := pick_any a ha 40 (by omega) (by omega)
  have bA12 := pk_lt a (n := 12) (by omega)
  have bB12 := pk_lt b (n := 12) (by omega)
  have bPA40 := pk_lt a (n := 40) (by omega)
  generalize xA12 : 1 + pk a 12 = nA12 at *
  generalize xB12 : 1 + pk b 12 = nB12 at *
  generalize xPA40 : pk a 40 = nPA40 at *
  have HC : Hid (∀ (w0 : World), w0.heap.size = w.heap.size + 1 → Calls Tryz.prog 22 #[.int .i64 1, .slice (some ⟨w.heap.size + 1, 0, none⟩) 1 1] (w0.alloc (.cells #[.int .i64 (nPA40 : Int)] 3)) fun e w' => e = .returned (.string ⟨(Pl.cmdB 1 [nPA40]).toArray⟩) ∧ Below w0.heap.size w0 w') := fun w0 h0 => by
    rw [← h0]
    exact kcommand_lit 1 (by omega) [nPA40] (by simp) (by intro n hn; simp at hn; omega) w0
  clear hk ha hb hc hq0
  have hal := al1 w (.cells #[.int .i64 k, .int .i64 a, .int .i64 b, .int .i64 c, .int .i64 d] 35)
  have hbk := heap_alloc_new w (.cells #[.int .i64 k, .int .i64 a, .int .i64 b, .int .i64 c, .int .i64 d] 35)
  have c0 : (w.alloc (.cells #[.int .i64 k, .int .i64 a, .int .i64 b, .int .i64 c, .int .i64 d] 35)).cell? ⟨w.heap.size, 0, none⟩ = some (.int .i64 k) := by rw [blk_cell hbk]; rfl
  have c1 : (w.alloc (.cells #[.int .i64 k, .int .i64 a, .int .i64 b, .int .i64 c, .int .i64 d] 35)).cell? ⟨w.heap.size, 1, none⟩ = some (.int .i64 a) := by rw [blk_cell hbk]; rfl
  have c2 : (w.alloc (.cells #[.int .i64 k, .int .i64 a, .int .i64 b, .int .i64 c, .int .i64 d] 35)).cell? ⟨w.heap.size, 2, none⟩ = some (.int .i64 b) := by rw [blk_cell hbk]; rfl
  have c3 : (w.alloc (.cells #[.int .i64 k, .int .i64 a, .int .i64 b, .int .i64 c, .int .i64 d] 35)).cell? ⟨w.heap.size, 3, none⟩ = some (.int .i64 c) := by rw [blk_cell hbk]; rfl
  have c4 : (w.alloc (.cells #[.int .i64 k, .int .i64 a, .int .i64 b, .int .i64 c, .int .i64 d] 35)).cell? ⟨w.heap.size, 4, none⟩ = some (.int .i64 d) := by rw [blk_cell hbk]; rfl
  have HAL := hide hal
  clear hal hbk
  go_enter Tryz.func13, Tryz.ntmps13
  go_wp2_with (first | (go_at_call 26; with_reducible refine (HA12.out _).mono ?_; rintro e w1 ⟨rfl, hw1⟩; have hw2 := hw1.symm; subst hw2) | (go_at_call 26; with_reducible refine (HB12.out _).mono ?_; rintro e w1 ⟨rfl, hw1⟩; have hw2 := hw1.symm; subst hw2) | (go_at_call 14; with_reducible refine (HPA40.out _).mono ?_; rintro e w1 ⟨rfl, hw1⟩; have hw2 := hw1.symm; subst hw2) | (go_at_call 14; with_reducible refine (HK.out _).mono ?_; rintro e w1 ⟨rfl, hw1⟩; have hw2 := hw1.symm; subst hw2) | (go_at_call 22; refine (HC.out _ (by simp)).mono ?_; rintro e w1 ⟨rfl, hb1⟩))
  go_ret
  exact ⟨rfl, HAL.out.trans (hb1.mono (by simp))⟩

set_option maxHeartbeats 3200000 in
theorem spelt_2 (k a b c d : Int) (hk : Raw k) (ha : Raw a) (hb : Raw b) (hc : Raw c) (hd : Raw d) (w : World) (hq0 : pk k 12 = 1) :
    Calls Tryz.prog 13 #[.agg #[.int .i64 k, .int .i64 a, .int .i64 b, .int .i64 c, .int .i64 d]] w fun e w' => e = .returned (.string ⟨(Pl.cmdB 2 [1 + pk a 12, 1 + pk b 3, 1 + pk c 400, pk d 40]).toArray⟩) ∧ Below w.heap.size w w' := by
  have HK : Hid (∀ w, Calls Tryz.prog 14 #[.int .i64 k, .int .i64 12] w fun e w' => e = .returned (.int .i64 1) ∧ w' = w) := by
    have := pick_any k hk 12 (by omega) (by omega)
    rw [hq0] at this; exact this
  have HA12 : Hid (∀ w, Calls Tryz.prog 26 #[.int .i64 a, .int .i64 12] w fun e w' => e = .returned (.int .i64 ((1 + pk a 12 : Nat) : Int)) ∧ w' = w) := id_any a ha 12 (by omega) (by omega)
  have HB12 : Hid (∀ w, Calls Tryz.prog 26 #[.int .i64 b, .int .i64 12] w fun e w' => e = .returned (.int .i64 ((1 + pk b 12 : Nat) : Int)) ∧ w' = w) := id_any b hb 12 (by omega) (by omega)
  have HB3 : Hid (∀ w, Calls Tryz.prog 26 #[.int .i64 b, .int .i64 3] w fun e w' => e = .returned (.int .i64 ((1 + pk b 3 : Nat) : Int)) ∧ w' = w) := id_any b hb 3 (by omega) (by omega)
  have HFC : Hid (∀ w, Calls Tryz.prog 27 #[.int .i64 c] w fun e w' => e = .returned (.int .i64 ((1 + pk c 400 : Nat) : Int)) ∧ w' = w) := few_any c hc
  have HPD40 : Hid (∀ w, Calls Tryz.prog 14 #[.int .i64 d, .int .i64 40] w fun e w' => e = .returned (.int .i64 ((pk d 40 : Nat) : Int)) ∧ w' = w) := pick_any d hd 40 (by omega) (by omega)
  have bA12 := pk_lt a (n := 12) (by omega)
  have bB12 := pk_lt b (n := 12) (by omega)
  have bB3 := pk_lt b (n := 3) (by omega)
  have bFC := pk_lt c (n := 400) (by omega)
  have bPD40 := pk_lt d (n := 40) (by omega)
  generalize xA12 : 1 + pk a 12 = nA12 at *
  generalize xB12 : 1 + pk b 12 = nB12 at *
  generalize xB3 : 1 + pk b 3 = nB3 at *
  generalize xFC : 1 + pk c 400 = nFC at *
  generalize xPD40 : pk d 40 = nPD40 at *
  have HC : Hid (∀ (w0 : World), w0.heap.size = w.heap.size + 1 → Calls Tryz.prog 22 #[.int .i64 2, .slice (some ⟨w.heap.size + 1, 0, none⟩) 4 4] (w0.alloc (.cells #[.int .i64 (nA12 : Int), .int .i64 (nB3 : Int), .int .i64 (nFC : Int), .int .i64 (nPD40 : Int)] 3)).drew fun e w' => e = .returned (.string ⟨(Pl.cmdB 2 [nA12, nB3, nFC, nPD40]).toArray⟩) ∧ Below w0.heap.size w0 w') := fun w0 h0 => by
    rw [← h0]
    exact kcommand_lit' 2 (by omega) [nA12, nB3, nFC, nPD40] (by simp) (by intro n hn; simp at hn; omega) w0
  clear hk ha hb hc hq0
  have hal := al1 w (.cells #[.int .i64 k, .int .i64 a, .int .i64 b, .int .i64 c, .int .i64 d] 35)
  have hbk := heap_alloc_new w (.cells #[.int .i64 k, .int .i64 a, .int .i64 b, .int .i64 c, .int .i64 d] 35)
  have c0 : (w.alloc (.cells #[.int .i64 k, .int .i64 a, .int .i64 b, .int .i64 c, .int .i64 d] 35)).cell? ⟨w.heap.size, 0, none⟩ = some (.int .i64 k) := by rw [blk_cell hbk]; rfl
  have c1 : (w.alloc (.cells #[.int .i64 k, .int .i64 a, .int .i64 b, .int .i64 c, .int .i64 d] 35)).cell? ⟨w.heap.size, 1, none⟩ = some (.int .i64 a) := by rw [blk_cell hbk]; rfl
  have c2 : (w.alloc (.cells #[.int .i64 k, .int .i64 a, .int .i64 b, .int .i64 c, .int .i64 d] 35)).cell? ⟨w.heap.size, 2, none⟩ = some (.int .i64 b) := by rw [blk_cell hbk]; rfl
  have c3 : (w.alloc (.cells #[.int .i64 k, .int .i64 a, .int .i64 b, .int .i64 c, .int .i64 d] 35)).cell? ⟨w.heap.size, 3, none⟩ = some (.int .i64 c) := by rw [blk_cell hbk]; rfl
  have c4 : (w.alloc (.cells #[.int .i64 k, .int .i64 a, .int .i64 b, .int .i64 c, .int .i64 d] 35)).cell? ⟨w.heap.size, 4, none⟩ = some (.int .i64 d) := by rw [blk_cell hbk]; rfl
  have HAL := hide hal
  clear hal hbk
  go_enter Tryz.func13, Tryz.ntmps13
  go_wp2_with (first | (go_at_call 26; with_reducible refine (HA12.out _).mono ?_; rintro e w1 ⟨rfl, hw1⟩; have hw2 := hw1.symm; subst hw2) | (go_at_call 26; with_reducible refine (HB12.out _).mono ?_; rintro e w1 ⟨rfl, hw1⟩; have hw2 := hw1.symm; subst hw2) | (go_at_call 26; with_reducible refine (HB3.out _).mono ?_; rintro e w1 ⟨rfl, hw1⟩; have hw2 := hw1.symm; subst hw2) | (go_at_call 27; with_reducible refine (HFC.out _).mono ?_; rintro e w1 ⟨rfl, hw1⟩; have hw2 := hw1.symm; subst hw2) | (go_at_call 14; with_reducible refine (HPD40.out _).mono ?_; rintro e w1 ⟨rfl, hw1⟩; have hw2 := hw1.symm; subst hw2) | (go_at_call 14; with_reducible refine (HK.out _).mono ?_; rintro e w1 ⟨rfl, hw1⟩; have hw2 := hw1.symm; subst hw2) | (go_at_call 22; refine (HC.out _ (by simp)).mono ?_; rintro e w1 ⟨rfl, hb1⟩))
  go_region_held3 (fun w' => w'.cell? ⟨w.heap.size, 2, none⟩ = some (.int .i64 b) ∧ w'.cell? ⟨w.heap.size, 3, none⟩ = some (.int .i64 c) ∧ w'.cell? ⟨w.heap.size, 4, none⟩ = some (.int .i64 d)) (go_keep)
    (first | (go_at_call 26; with_reducible refine (HA12.out _).mono ?_; rintro e w1 ⟨rfl, hw1⟩; have hw2 := hw1.symm; subst hw2) | (go_at_call 26; with_reducible refine (HB12.out _).mono ?_; rintro e w1 ⟨rfl, hw1⟩; have hw2 := hw1.symm; subst hw2) | (go_at_call 26; with_reducible refine (HB3.out _).mono ?_; rintro e w1 ⟨rfl, hw1⟩; have hw2 := hw1.symm; subst hw2) | (go_at_call 27; with_reducible refine (HFC.out _).mono ?_; rintro e w1 ⟨rfl, hw1⟩; have hw2 := hw1.symm; subst hw2) | (go_at_call 14; with_reducible refine (HPD40.out _).mono ?_; rintro e w1 ⟨rfl, hw1⟩; have hw2 := hw1.symm; subst hw2) | (go_at_call 14; with_reducible refine (HK.out _).mono ?_; rintro e w1 ⟨rfl, hw1⟩; have hw2 := hw1.symm; subst hw2) | (go_at_call 22; refine (HC.out _ (by simp)).mono ?_; rintro e w1 ⟨rfl, hb1⟩; have m2 := (hb1.cell (p := ⟨w.heap.size, 2, none⟩) (by simp)).trans c2; have m3 := (hb1.cell (p := ⟨w.heap.size, 3, none⟩) (by simp)).trans c3; have m4 := (hb1.cell (p := ⟨w.heap.size, 4, none⟩) (by simp)).trans c4))
  all_goals
    go_wp2_with fail
    go_ret
    exact ⟨rfl, HAL.out.trans (hb1.mono (by simp))⟩

set_option maxHeartbeats 3200000 in
theorem spelt_3 (k a b c d : Int) (hk : Raw k) (ha : Raw a) (hb : Raw b) (hc : Raw c) (hd : Raw d) (w : World) (hq0 : pk k 12 = 2) :
    Calls Tryz.prog 13 #[.agg #[.int .i64 k, .int .i64 a, .int .i64 b, .int .i64 c, .int .i64 d]] w fun e w' => e = .returned (.string ⟨(Pl.cmdB 3 [1 + pk a 12, 1 + pk b 12, 1 + pk c 400]).toArray⟩) ∧ Below w.heap.size w w' := by
  have HK : Hid (∀ w, Calls Tryz.prog 14 #[.int .i64 k, .int .i64 12] w fun e w' => e = .returned (.int .i64 2) ∧ w' = w) := by
    have := pick_any k hk 12 (by omega) (by omega)
    rw [hq0] at this; exact this
  have HA12 : Hid (∀ w, Calls Tryz.prog 26 #[.int .i64 a, .int .i64 12] w fun e w' => e = .returned (.int .i64 ((1 + pk a 12 : Nat) : Int)) ∧ w' = w) := id_any a ha 12 (by omega) (by omega)
  have HB12 : Hid (∀ w, Calls Tryz.prog 26 #[.int .i64 b, .int .i64 12] w fun e w' => e = .returned (.int .i64 ((1 + pk b 12 : Nat) : Int)) ∧ w' = w) := id_any b hb 12 (by omega) (by omega)
  have HFC : Hid (∀ w, Calls Tryz.prog 27 #[.int .i64 c] w fun e w' => e = .returned (.int .i64 ((1 + pk c 400 : Nat) : Int)) ∧ w' = w) := few_any c hc
  have bA12 := pk_lt a (n := 12) (by omega)
  have bB12 := pk_lt b (n := 12) (by omega)
  have bFC := pk_lt c (n := 400) (by omega)
  generalize xA12 : 1 + pk a 12 = nA12 at *
  generalize xB12 : 1 + pk b 12 = nB12 at *
  generalize xFC : 1 + pk c 400 = nFC at *
  have HC : Hid (∀ (w0 : World), w0.heap.size = w.heap.size + 1 → Calls Tryz.prog 22 #[.int .i64 3, .slice (some ⟨w.heap.size + 1, 0, none⟩) 3 3] (w0.alloc (.cells #[.int .i64 (nA12 : Int), .int .i64 (nB12 : Int), .int .i64 (nFC : Int)] 3)) fun e w' => e = .returned (.string ⟨(Pl.cmdB 3 [nA12, nB12, nFC]).toArray⟩) ∧ Below w0.heap.size w0 w') := fun w0 h0 => by
    rw [← h0]
    exact kcommand_lit 3 (by omega) [nA12, nB12, nFC] (by simp) (by intro n hn; simp at hn; omega) w0
  clear hk ha hb hc hq0
  have hal := al1 w (.cells #[.int .i64 k, .int .i64 a, .int .i64 b, .int .i64 c, .int .i64 d] 35)
  have hbk := heap_alloc_new w (.cells #[.int .i64 k, .int .i64 a, .int .i64 b, .int .i64 c, .int .i64 d] 35)
  have c0 : (w.alloc (.cells #[.int .i64 k, .int .i64 a, .int .i64 b, .int .i64 c, .int .i64 d] 35)).cell? ⟨w.heap.size, 0, none⟩ = some (.int .i64 k) := by rw [blk_cell hbk]; rfl
  have c1 : (w.alloc (.cells #[.int .i64 k, .int .i64 a, .int .i64 b, .int .i64 c, .int .i64 d] 35)).cell? ⟨w.heap.size, 1, none⟩ = some (.int .i64 a) := by rw [blk_cell hbk]; rfl
  have c2 : (w.alloc (.cells #[.int .i64 k, .int .i64 a, .int .i64 b, .int .i64 c, .int .i64 d] 35)).cell? ⟨w.heap.size, 2, none⟩ = some (.int .i64 b) := by rw [blk_cell hbk]; rfl
  have c3 : (w.alloc (.cells #[.int .i64 k, .int .i64 a, .int .i64 b, .int .i64 c, .int .i64 d] 35)).cell? ⟨w.heap.size, 3, none⟩ = some (.int .i64 c) := by rw [blk_cell hbk]; rfl
  have c4 : (w.alloc (.cells #[.int .i64 k, .int .i64 a, .int .i64 b, .int .i64 c, .int .i64 d] 35)).cell? ⟨w.heap.size, 4, none⟩ = some (.int .i64 d) := by rw [blk_cell hbk]; rfl
  have HAL := hide hal
  clear hal hbk
  go_enter Tryz.func13, Tryz.ntmps13
  go_wp2_with (first | (go_at_call 26; with_reducible refine (HA12.out _).mono ?_; rintro e w1 ⟨rfl, hw1⟩; have hw2 := hw1.symm; subst hw2) | (go_at_call 26; with_reducible refine (HB12.out _).mono ?_; rintro e w1 ⟨rfl, hw1⟩; have hw2 := hw1.symm; subst hw2) | (go_at_call 27; with_reducible refine (HFC.out _).mono ?_; rintro e w1 ⟨rfl, hw1⟩; have hw2 := hw1.symm; subst hw2) | (go_at_call 14; with_reducible refine (HK.out _).mono ?_; rintro e w1 ⟨rfl, hw1⟩; have hw2 := hw1.symm; subst hw2) | (go_at_call 22; refine (HC.out _ (by simp)).mono ?_; rintro e w1 ⟨rfl, hb1⟩))
  go_ret
  exact ⟨rfl, HAL.out.trans (hb1.mono (by simp))⟩

set_option maxHeartbeats 3200000 in
theorem spelt_4 (k a b c d : Int) (hk : Raw k) (ha : Raw a) (hb : Raw b) (hc : Raw c) (hd : Raw d) (w : World) (hq0 : pk k 12 = 3) :
    Calls Tryz.prog 13 #[.agg #[.int .i64 k, .int .i64 a, .int .i64 b, .int .i64 c, .int .i64 d]] w fun e w' => e = .returned (.string ⟨(Pl.cmdB 4 [1 + pk a 12, 1 + pk b 12, 1 + pk c 12]).toArray⟩) ∧ Below w.heap.size w w' := by
  have HK : Hid (∀ w, Calls Tryz.prog 14 #[.int .i64 k, .int .i64 12] w fun e w' => e = .returned (.int .i64 3) ∧ w' = w) := by
    have := pick_any k hk 12 (by omega) (by omega)
    rw [hq0] at this; exact this
  have HA12 : Hid (∀ w, Calls Tryz.prog 26 #[.int .i64 a, .int .i64 12] w fun e w' => e = .returned (.int .i64 ((1 + pk a 12 : Nat) : Int)) ∧ w' = w) := id_any a ha 12 (by omega) (by omega)
  have HB12 : Hid (∀ w, Calls Tryz.prog 26 #[.int .i64 b, .int .i64 12] w fun e w' => e = .returned (.int .i64 ((1 + pk b 12 : Nat) : Int)) ∧ w' = w) := id_any b hb 12 (by omega) (by omega)
  have HC12 : Hid (∀ w, Calls Tryz.prog 26 #[.int .i64 c, .int .i64 12] w fun e w' => e = .returned (.int .i64 ((1 + pk c 12 : Nat) : Int)) ∧ w' = w) := id_any c hc 12 (by omega) (by omega)
  have bA12 := pk_lt a (n := 12) (by omega)
  have bB12 := pk_lt b (n := 12) (by omega)
  have bC12 := pk_lt c (n := 12) (by omega)
  generalize xA12 : 1 + pk a 12 = nA12 at *
  generalize xB12 : 1 + pk b 12 = nB12 at *
  generalize xC12 : 1 + pk c 12 = nC12 at *
  have HC : Hid (∀ (w0 : World), w0.heap.size = w.heap.size + 1 → Calls Tryz.prog 22 #[.int .i64 4, .slice (some ⟨w.heap.size + 1, 0, none⟩) 3 3] (w0.alloc (.cells #[.int .i64 (nA12 : Int), .int .i64 (nB12 : Int), .int .i64 (nC12 : Int)] 3)) fun e w' => e = .returned (.string ⟨(Pl.cmdB 4 [nA12, nB12, nC12]).toArray⟩) ∧ Below w0.heap.size w0 w') := fun w0 h0 => by
    rw [← h0]
    exact kcommand_lit 4 (by omega) [nA12, nB12, nC12] (by simp) (by intro n hn; simp at hn; omega) w0
  clear hk ha hb hc hq0
  have hal := al1 w (.cells #[.int .i64 k, .int .i64 a, .int .i64 b, .int .i64 c, .int .i64 d] 35)
  have hbk := heap_alloc_new w (.cells #[.int .i64 k, .int .i64 a, .int .i64 b, .int .i64 c, .int .i64 d] 35)
  have c0 : (w.alloc (.cells #[.int .i64 k, .int .i64 a, .int .i64 b, .int .i64 c, .int .i64 d] 35)).cell? ⟨w.heap.size, 0, none⟩ = some (.int .i64 k) := by rw [blk_cell hbk]; rfl
  have c1 : (w.alloc (.cells #[.int .i64 k, .int .i64 a, .int .i64 b, .int .i64 c, .int .i64 d] 35)).cell? ⟨w.heap.size, 1, none⟩ = some (.int .i64 a) := by rw [blk_cell hbk]; rfl
  have c2 : (w.alloc (.cells #[.int .i64 k, .int .i64 a, .int .i64 b, .int .i64 c, .int .i64 d] 35)).cell? ⟨w.heap.size, 2, none⟩ = some (.int .i64 b) := by rw [blk_cell hbk]; rfl
  have c3 : (w.alloc (.cells #[.int .i64 k, .int .i64 a, .int .i64 b, .int .i64 c, .int .i64 d] 35)).cell? ⟨w.heap.size, 3, none⟩ = some (.int .i64 c) := by rw [blk_cell hbk]; rfl
  have c4 : (w.alloc (.cells #[.int .i64 k, .int .i64 a, .int .i64 b, .int .i64 c, .int .i64 d] 35)).cell? ⟨w.heap.size, 4, none⟩ = some (.int .i64 d) := by rw [blk_cell hbk]; rfl
  have HAL := hide hal
  clear hal hbk
  go_enter Tryz.func13, Tryz.ntmps13
  go_wp2_with (first | (go_at_call 26; with_reducible refine (HA12.out _).mono ?_; rintro e w1 ⟨rfl, hw1⟩; have hw2 := hw1.symm; subst hw2) | (go_at_call 26; with_reducible refine (HB12.out _).mono ?_; rintro e w1 ⟨rfl, hw1⟩; have hw2 := hw1.symm; subst hw2) | (go_at_call 26; with_reducible refine (HC12.out _).mono ?_; rintro e w1 ⟨rfl, hw1⟩; have hw2 := hw1.symm; subst hw2) | (go_at_call 14; with_reducible refine (HK.out _).mono ?_; rintro e w1 ⟨rfl, hw1⟩; have hw2 := hw1.symm; subst hw2) | (go_at_call 22; refine (HC.out _ (by simp)).mono ?_; rintro e w1 ⟨rfl, hb1⟩))
  go_ret
  exact ⟨rfl, HAL.out.trans (hb1.mono (by simp))⟩

set_option maxHeartbeats 3200000 in
theorem spelt_5 (k a b c d : Int) (hk : Raw k) (ha : Raw a) (hb : Raw b) (hc : Raw c) (hd : Raw d) (w : World) (hq0 : pk k 12 = 4) :
    Calls Tryz.prog 13 #[.agg #[.int .i64 k, .int .i64 a, .int .i64 b, .int .i64 c, .int .i64 d]] w fun e w' => e = .returned (.string ⟨(Pl.cmdB 5 [1 + pk a 4, 1 + pk b 3, 1 + pk c 400, pk d 10, pk (d.tdiv 16) 4]).toArray⟩) ∧ Below w.heap.size w w' := by
  have hq : Raw (d.tdiv 16) := by
    obtain ⟨q1, q2⟩ := hd
    have h1 : (d.tdiv 16).natAbs = d.natAbs / 16 := by rw [Int.natAbs_tdiv]; rfl
    generalize d.tdiv 16 = z at *
    refine ⟨?_, ?_⟩ <;> omega
  have hw1 : wrap64 (d.tdiv 16) = d.tdiv 16 := wrap64_in _ ⟨hq.1, hq.2⟩
  have hw2 : IntKind.i64.wrap (d.tdiv 16) = d.tdiv 16 := by rw [IntWalk.i64_left]; exact hw1
  have hd1 : -9223372036854775808 ≤ d := hd.1
  have hd2 : d ≤ 9223372036854775807 := hd.2
  have HK : Hid (∀ w, Calls Tryz.prog 14 #[.int .i64 k, .int .i64 12] w fun e w' => e = .returned (.int .i64 4) ∧ w' = w) := by
    have := pick_any k hk 12 (by omega) (by omega)
    rw [hq0] at this; exact this
  have HA12 : Hid (∀ w, Calls Tryz.prog 26 #[.int .i64 a, .int .i64 12] w fun e w' => e = .returned (.int .i64 ((1 + pk a 12 : Nat) : Int)) ∧ w' = w) := id_any a ha 12 (by omega) (by omega)
  have HB12 : Hid (∀ w, Calls Tryz.prog 26 #[.int .i64 b, .int .i64 12] w fun e w' => e = .returned (.int .i64 ((1 + pk b 12 : Nat) : Int)) ∧ w' = w) := id_any b hb 12 (by omega) (by omega)
  have HA4 : Hid (∀ w, Calls Tryz.prog 26 #[.int .i64 a, .int .i64 4] w fun e w' => e = .returned (.int .i64 ((1 + pk a 4 : Nat) : Int)) ∧ w' = w) := id_any a ha 4 (by omega) (by omega)
  have HB3 : Hid (∀ w, Calls Tryz.prog 26 #[.int .i64 b, .int .i64 3] w fun e w' => e = .returned (.int .i64 ((1 + pk b 3 : Nat) : Int)) ∧ w' = w) := id_any b hb 3 (by omega) (by omega)
  have HFC : Hid (∀ w, Calls Tryz.prog 27 #[.int .i64 c] w fun e w' => e = .returned (.int .i64 ((1 + pk c 400 : Nat) : Int)) ∧ w' = w) := few_any c hc
  have HPD10 : Hid (∀ w, Calls Tryz.prog 14 #[.int .i64 d, .int .i64 10] w fun e w' => e = .returned (.int .i64 ((pk d 10 : Nat) : Int)) ∧ w' = w) := pick_any d hd 10 (by omega) (by omega)
  have HPQ4 : Hid (∀ w, Calls Tryz.prog 14 #[.int .i64 (d.tdiv 16), .int .i64 4] w fun e w' => e = .returned (.int .i64 ((pk (d.tdiv 16) 4 : Nat) : Int)) ∧ w' = w) := pick_any (d.tdiv 16) hq 4 (by omega) (by omega)
  have bA12 := pk_lt a (n := 12) (by omega)
  have bB12 := pk_lt b (n := 12) (by omega)
  have bA4 := pk_lt a (n := 4) (by omega)
  have bB3 := pk_lt b (n := 3) (by omega)
  have bFC := pk_lt c (n := 400) (by omega)
  have bPD10 := pk_lt d (n := 10) (by omega)
  have bPQ4 := pk_lt (d.tdiv 16) (n := 4) (by omega)
  generalize xA12 : 1 + pk a 12 = nA12 at *
  generalize xB12 : 1 + pk b 12 = nB12 at *
  generalize xA4 : 1 + pk a 4 = nA4 at *
  generalize xB3 : 1 + pk b 3 = nB3 at *
  generalize xFC : 1 + pk c 400 = nFC at *
  generalize xPD10 : pk d 10 = nPD10 at *
  generalize xPQ4 : pk (d.tdiv 16) 4 = nPQ4 at *
  have HC : Hid (∀ (w0 : World), w0.heap.size = w.heap.size + 1 → Calls Tryz.prog 22 #[.int .i64 5, .slice (some ⟨w.heap.size + 1, 0, none⟩) 5 5] (w0.alloc (.cells #[.int .i64 (nA4 : Int), .int .i64 (nB3 : Int), .int .i64 (nFC : Int), .int .i64 (nPD10 : Int), .int .i64 (nPQ4 : Int)] 3)).drew fun e w' => e = .returned (.string ⟨(Pl.cmdB 5 [nA4, nB3, nFC, nPD10, nPQ4]).toArray⟩) ∧ Below w0.heap.size w0 w') := fun w0 h0 => by
    rw [← h0]
    exact kcommand_lit' 5 (by omega) [nA4, nB3, nFC, nPD10, nPQ4] (by simp) (by intro n hn; simp at hn; omega) w0
  clear hk ha hb hc hq0
  have hal := al1 w (.cells #[.int .i64 k, .int .i64 a, .int .i64 b, .int .i64 c, .int .i64 d] 35)
  have hbk := heap_alloc_new w (.cells #[.int .i64 k, .int .i64 a, .int .i64 b, .int .i64 c, .int .i64 d] 35)
  have c0 : (w.alloc (.cells #[.int .i64 k, .int .i64 a, .int .i64 b, .int .i64 c, .int .i64 d] 35)).cell? ⟨w.heap.size, 0, none⟩ = some (.int .i64 k) := by rw [blk_cell hbk]; rfl
  have c1 : (w.alloc (.cells #[.int .i64 k, .int .i64 a, .int .i64 b, .int .i64 c, .int .i64 d] 35)).cell? ⟨w.heap.size, 1, none⟩ = some (.int .i64 a) := by rw [blk_cell hbk]; rfl
  have c2 : (w.alloc (.cells #[.int .i64 k, .int .i64 a, .int .i64 b, .int .i64 c, .int .i64 d] 35)).cell? ⟨w.heap.size, 2, none⟩ = some (.int .i64 b) := by rw [blk_cell hbk]; rfl
  have c3 : (w.alloc (.cells #[.int .i64 k, .int .i64 a, .int .i64 b, .int .i64 c, .int .i64 d] 35)).cell? ⟨w.heap.size, 3, none⟩ = some (.int .i64 c) := by rw [blk_cell hbk]; rfl
  have c4 : (w.alloc (.cells #[.int .i64 k, .int .i64 a, .int .i64 b, .int .i64 c, .int .i64 d] 35)).cell? ⟨w.heap.size, 4, none⟩ = some (.int .i64 d) := by rw [blk_cell hbk]; rfl
  have HAL := hide hal
  clear hal hbk
  go_enter Tryz.func13, Tryz.ntmps13
  go_wp2_with (first | (go_at_call 26; with_reducible refine (HA12.out _).mono ?_; rintro e w1 ⟨rfl, hw1⟩; have hw2 := hw1.symm; subst hw2) | (go_at_call 26; with_reducible refine (HB12.out _).mono ?_; rintro e w1 ⟨rfl, hw1⟩; have hw2 := hw1.symm; subst hw2) | (go_at_call 26; with_reducible refine (HA4.out _).mono ?_; rintro e w1 ⟨rfl, hw1⟩; have hw2 := hw1.symm; subst hw2) | (go_at_call 26; with_reducible refine (HB3.out _).mono ?_; rintro e w1 ⟨rfl, hw1⟩; have hw2 := hw1.symm; subst hw2) | (go_at_call 27; with_reducible refine (HFC.out _).mono ?_; rintro e w1 ⟨rfl, hw1⟩; have hw2 := hw1.symm; subst hw2) | (go_at_call 14; with_reducible refine (HPD10.out _).mono ?_; rintro e w1 ⟨rfl, hw1⟩; have hw2 := hw1.symm; subst hw2) | (go_at_call 14; with_reducible refine (HPQ4.out _).mono ?_; rintro e w1 ⟨rfl, hw1⟩; have hw2 := hw1.symm; subst hw2) | (go_at_call 14; with_reducible refine (HK.out _).mono ?_; rintro e w1 ⟨rfl, hw1⟩; have hw2 := hw1.symm; subst hw2) | (go_at_call 22; refine (HC.out _ (by simp)).mono ?_; rintro e w1 ⟨rfl, hb1⟩))
  go_region_held3 (fun w' => w'.cell? ⟨w.heap.size, 1, none⟩ = some (.int .i64 a) ∧ w'.cell? ⟨w.heap.size, 2, none⟩ = some (.int .i64 b) ∧ w'.cell? ⟨w.heap.size, 3, none⟩ = some (.int .i64 c) ∧ w'.cell? ⟨w.heap.size, 4, none⟩ = some (.int .i64 d)) (go_keep)
    (first | (go_at_call 26; with_reducible refine (HA12.out _).mono ?_; rintro e w1 ⟨rfl, hw1⟩; have hw2 := hw1.symm; subst hw2) | (go_at_call 26; with_reducible refine (HB12.out _).mono ?_; rintro e w1 ⟨rfl, hw1⟩; have hw2 := hw1.symm; subst hw2) | (go_at_call 26; with_reducible refine (HA4.out _).mono ?_; rintro e w1 ⟨rfl, hw1⟩; have hw2 := hw1.symm; subst hw2) | (go_at_call 26; with_reducible refine (HB3.out _).mono ?_; rintro e w1 ⟨rfl, hw1⟩; have hw2 := hw1.symm; subst hw2) | (go_at_call 27; with_reducible refine (HFC.out _).mono ?_; rintro e w1 ⟨rfl, hw1⟩; have hw2 := hw1.symm; subst hw2) | (go_at_call 14; with_reducible refine (HPD10.out _).mono ?_; rintro e w1 ⟨rfl, hw1⟩; have hw2 := hw1.symm; subst hw2) | (go_at_call 14; with_reducible refine (HPQ4.out _).mono ?_; rintro e w1 ⟨rfl, hw1⟩; have hw2 := hw1.symm; subst hw2) | (go_at_call 14; with_reducible refine (HK.out _).mono ?_; rintro e w1 ⟨rfl, hw1⟩; have hw2 := hw1.symm; subst hw2) | (go_at_call 22; refine (HC.out _ (by simp)).mono ?_; rintro e w1 ⟨rfl, hb1⟩; have m1 := (hb1.cell (p := ⟨w.heap.size, 1, none⟩) (by simp)).trans c1; have m2 := (hb1.cell (p := ⟨w.heap.size, 2, none⟩) (by simp)).trans c2; have m3 := (hb1.cell (p := ⟨w.heap.size, 3, none⟩) (by simp)).trans c3; have m4 := (hb1.cell (p := ⟨w.heap.size, 4, none⟩) (by simp)).trans c4))
  all_goals
    go_wp2_with fail
    go_ret
    exact ⟨rfl, HAL.out.trans (hb1.mono (by simp))⟩

set_option maxHeartbeats 3200000 in
theorem spelt_6 (k a b c d : Int) (hk : Raw k) (ha : Raw a) (hb : Raw b) (hc : Raw c) (hd : Raw d) (w : World) (hq0 : pk k 12 = 5) :
    Calls Tryz.prog 13 #[.agg #[.int .i64 k, .int .i64 a, .int .i64 b, .int .i64 c, .int .i64 d]] w fun e w' => e = .returned (.string ⟨(Pl.cmdB 6 [1 + pk a 4]).toArray⟩) ∧ Below w.heap.size w w' := by
  have HK : Hid (∀ w, Calls Tryz.prog 14 #[.int .i64 k, .int .i64 12] w fun e w' => e = .returned (.int .i64 5) ∧ w' = w) := by
    have := pick_any k hk 12 (by omega) (by omega)
    rw [hq0] at this; exact this
  have HA12 : Hid (∀ w, Calls Tryz.prog 26 #[.int .i64 a, .int .i64 12] w fun e w' => e = .returned (.int .i64 ((1 + pk a 12 : Nat) : Int)) ∧ w' = w) := id_any a ha 12 (by omega) (by omega)
  have HB12 : Hid (∀ w, Calls Tryz.prog 26 #[.int .i64 b, .int .i64 12] w fun e w' => e = .returned (.int .i64 ((1 + pk b 12 : Nat) : Int)) ∧ w' = w) := id_any b hb 12 (by omega) (by omega)
  have HA4 : Hid (∀ w, Calls Tryz.prog 26 #[.int .i64 a, .int .i64 4] w fun e w' => e = .returned (.int .i64 ((1 + pk a 4 : Nat) : Int)) ∧ w' = w) := id_any a ha 4 (by omega) (by omega)
  have bA12 := pk_lt a (n := 12) (by omega)
  have bB12 := pk_lt b (n := 12) (by omega)
  have bA4 := pk_lt a (n := 4) (by omega)
  generalize xA12 : 1 + pk a 12 = nA12 at *
  generalize xB12 : 1 + pk b 12 = nB12 at *
  generalize xA4 : 1 + pk a 4 = nA4 at *
  have HC : Hid (∀ (w0 : World), w0.heap.size = w.heap.size + 1 → Calls Tryz.prog 22 #[.int .i64 6, .slice (some ⟨w.heap.size + 1, 0, none⟩) 1 1] (w0.alloc (.cells #[.int .i64 (nA4 : Int)] 3)) fun e w' => e = .returned (.string ⟨(Pl.cmdB 6 [nA4]).toArray⟩) ∧ Below w0.heap.size w0 w') := fun w0 h0 => by
    rw [← h0]
    exact kcommand_lit 6 (by omega) [nA4] (by simp) (by intro n hn; simp at hn; omega) w0
  clear hk ha hb hc hq0
  have hal := al1 w (.cells #[.int .i64 k, .int .i64 a, .int .i64 b, .int .i64 c, .int .i64 d] 35)
  have hbk := heap_alloc_new w (.cells #[.int .i64 k, .int .i64 a, .int .i64 b, .int .i64 c, .int .i64 d] 35)
  have c0 : (w.alloc (.cells #[.int .i64 k, .int .i64 a, .int .i64 b, .int .i64 c, .int .i64 d] 35)).cell? ⟨w.heap.size, 0, none⟩ = some (.int .i64 k) := by rw [blk_cell hbk]; rfl
  have c1 : (w.alloc (.cells #[.int .i64 k, .int .i64 a, .int .i64 b, .int .i64 c, .int .i64 d] 35)).cell? ⟨w.heap.size, 1, none⟩ = some (.int .i64 a) := by rw [blk_cell hbk]; rfl
  have c2 : (w.alloc (.cells #[.int .i64 k, .int .i64 a, .int .i64 b, .int .i64 c, .int .i64 d] 35)).cell? ⟨w.heap.size, 2, none⟩ = some (.int .i64 b) := by rw [blk_cell hbk]; rfl
  have c3 : (w.alloc (.cells #[.int .i64 k, .int .i64 a, .int .i64 b, .int .i64 c, .int .i64 d] 35)).cell? ⟨w.heap.size, 3, none⟩ = some (.int .i64 c) := by rw [blk_cell hbk]; rfl
  have c4 : (w.alloc (.cells #[.int .i64 k, .int .i64 a, .int .i64 b, .int .i64 c, .int .i64 d] 35)).cell? ⟨w.heap.size, 4, none⟩ = some (.int .i64 d) := by rw [blk_cell hbk]; rfl
  have HAL := hide hal
  clear hal hbk
  go_enter Tryz.func13, Tryz.ntmps13
  go_wp2_with (first | (go_at_call 26; with_reducible refine (HA12.out _).mono ?_; rintro e w1 ⟨rfl, hw1⟩; have hw2 := hw1.symm; subst hw2) | (go_at_call 26; with_reducible refine (HB12.out _).mono ?_; rintro e w1 ⟨rfl, hw1⟩; have hw2 := hw1.symm; subst hw2) | (go_at_call 26; with_reducible refine (HA4.out _).mono ?_; rintro e w1 ⟨rfl, hw1⟩; have hw2 := hw1.symm; subst hw2) | (go_at_call 14; with_reducible refine (HK.out _).mono ?_; rintro e w1 ⟨rfl, hw1⟩; have hw2 := hw1.symm; subst hw2) | (go_at_call 22; refine (HC.out _ (by simp)).mono ?_; rintro e w1 ⟨rfl, hb1⟩))
  go_ret
  exact ⟨rfl, HAL.out.trans (hb1.mono (by simp))⟩

set_option maxHeartbeats 3200000 in
theorem spelt_7 (k a b c d : Int) (hk : Raw k) (ha : Raw a) (hb : Raw b) (hc : Raw c) (hd : Raw d) (w : World) (hq0 : pk k 12 = 6) :
    Calls Tryz.prog 13 #[.agg #[.int .i64 k, .int .i64 a, .int .i64 b, .int .i64 c, .int .i64 d]] w fun e w' => e = .returned (.string ⟨(Pl.cmdB 7 [1 + pk a 4]).toArray⟩) ∧ Below w.heap.size w w' := by
  have HK : Hid (∀ w, Calls Tryz.prog 14 #[.int .i64 k, .int .i64 12] w fun e w' => e = .returned (.int .i64 6) ∧ w' = w) := by
    have := pick_any k hk 12 (by omega) (by omega)
    rw [hq0] at this; exact this
  have HA12 : Hid (∀ w, Calls Tryz.prog 26 #[.int .i64 a, .int .i64 12] w fun e w' => e = .returned (.int .i64 ((1 + pk a 12 : Nat) : Int)) ∧ w' = w) := id_any a ha 12 (by omega) (by omega)
  have HB12 : Hid (∀ w, Calls Tryz.prog 26 #[.int .i64 b, .int .i64 12] w fun e w' => e = .returned (.int .i64 ((1 + pk b 12 : Nat) : Int)) ∧ w' = w) := id_any b hb 12 (by omega) (by omega)
  have HA4 : Hid (∀ w, Calls Tryz.prog 26 #[.int .i64 a, .int .i64 4] w fun e w' => e = .returned (.int .i64 ((1 + pk a 4 : Nat) : Int)) ∧ w' = w) := id_any a ha 4 (by omega) (by omega)
  have bA12 := pk_lt a (n := 12) (by omega)
  have bB12 := pk_lt b (n := 12) (by omega)
  have bA4 := pk_lt a (n := 4) (by omega)
  generalize xA12 : 1 + pk a 12 = nA12 at *
  generalize xB12 : 1 + pk b 12 = nB12 at *
  generalize xA4 : 1 + pk a 4 = nA4 at *
  have HC : Hid (∀ (w0 : World), w0.heap.size = w.heap.size + 1 → Calls Tryz.prog 22 #[.int .i64 7, .slice (some ⟨w.heap.size + 1, 0, none⟩) 1 1] (w0.alloc (.cells #[.int .i64 (nA4 : Int)] 3)) fun e w' => e = .returned (.string ⟨(Pl.cmdB 7 [nA4]).toArray⟩) ∧ Below w0.heap.size w0 w') := fun w0 h0 => by
    rw [← h0]
    exact kcommand_lit 7 (by omega) [nA4] (by simp) (by intro n hn; simp at hn; omega) w0
  clear hk ha hb hc hq0
  have hal := al1 w (.cells #[.int .i64 k, .int .i64 a, .int .i64 b, .int .i64 c, .int .i64 d] 35)
  have hbk := heap_alloc_new w (.cells #[.int .i64 k, .int .i64 a, .int .i64 b, .int .i64 c, .int .i64 d] 35)
  have c0 : (w.alloc (.cells #[.int .i64 k, .int .i64 a, .int .i64 b, .int .i64 c, .int .i64 d] 35)).cell? ⟨w.heap.size, 0, none⟩ = some (.int .i64 k) := by rw [blk_cell hbk]; rfl
  have c1 : (w.alloc (.cells #[.int .i64 k, .int .i64 a, .int .i64 b, .int .i64 c, .int .i64 d] 35)).cell? ⟨w.heap.size, 1, none⟩ = some (.int .i64 a) := by rw [blk_cell hbk]; rfl
  have c2 : (w.alloc (.cells #[.int .i64 k, .int .i64 a, .int .i64 b, .int .i64 c, .int .i64 d] 35)).cell? ⟨w.heap.size, 2, none⟩ = some (.int .i64 b) := by rw [blk_cell hbk]; rfl
  have c3 : (w.alloc (.cells #[.int .i64 k, .int .i64 a, .int .i64 b, .int .i64 c, .int .i64 d] 35)).cell? ⟨w.heap.size, 3, none⟩ = some (.int .i64 c) := by rw [blk_cell hbk]; rfl
  have c4 : (w.alloc (.cells #[.int .i64 k, .int .i64 a, .int .i64 b, .int .i64 c, .int .i64 d] 35)).cell? ⟨w.heap.size, 4, none⟩ = some (.int .i64 d) := by rw [blk_cell hbk]; rfl
  have HAL := hide hal
  clear hal hbk
  go_enter Tryz.func13, Tryz.ntmps13
  go_wp2_with (first | (go_at_call 26; with_reducible refine (HA12.out _).mono ?_; rintro e w1 ⟨rfl, hw1⟩; have hw2 := hw1.symm; subst hw2) | (go_at_call 26; with_reducible refine (HB12.out _).mono ?_; rintro e w1 ⟨rfl, hw1⟩; have hw2 := hw1.symm; subst hw2) | (go_at_call 26; with_reducible refine (HA4.out _).mono ?_; rintro e w1 ⟨rfl, hw1⟩; have hw2 := hw1.symm; subst hw2) | (go_at_call 14; with_reducible refine (HK.out _).mono ?_; rintro e w1 ⟨rfl, hw1⟩; have hw2 := hw1.symm; subst hw2) | (go_at_call 22; refine (HC.out _ (by simp)).mono ?_; rintro e w1 ⟨rfl, hb1⟩))
  go_ret
  exact ⟨rfl, HAL.out.trans (hb1.mono (by simp))⟩

set_option maxHeartbeats 3200000 in
theorem spelt_8 (k a b c d : Int) (hk : Raw k) (ha : Raw a) (hb : Raw b) (hc : Raw c) (hd : Raw d) (w : World) (hq0 : pk k 12 = 7) :
    Calls Tryz.prog 13 #[.agg #[.int .i64 k, .int .i64 a, .int .i64 b, .int .i64 c, .int .i64 d]] w fun e w' => e = .returned (.string ⟨(Pl.cmdB 8 [1 + pk a 12, 1 + pk b 2]).toArray⟩) ∧ Below w.heap.size w w' := by
  have HK : Hid (∀ w, Calls Tryz.prog 14 #[.int .i64 k, .int .i64 12] w fun e w' => e = .returned (.int .i64 7) ∧ w' = w) := by
    have := pick_any k hk 12 (by omega) (by omega)
    rw [hq0] at this; exact this
  have HA12 : Hid (∀ w, Calls Tryz.prog 26 #[.int .i64 a, .int .i64 12] w fun e w' => e = .returned (.int .i64 ((1 + pk a 12 : Nat) : Int)) ∧ w' = w) := id_any a ha 12 (by omega) (by omega)
  have HB12 : Hid (∀ w, Calls Tryz.prog 26 #[.int .i64 b, .int .i64 12] w fun e w' => e = .returned (.int .i64 ((1 + pk b 12 : Nat) : Int)) ∧ w' = w) := id_any b hb 12 (by omega) (by omega)
  have HB2 : Hid (∀ w, Calls Tryz.prog 26 #[.int .i64 b, .int .i64 2] w fun e w' => e = .returned (.int .i64 ((1 + pk b 2 : Nat) : Int)) ∧ w' = w) := id_any b hb 2 (by omega) (by omega)
  have bA12 := pk_lt a (n := 12) (by omega)
  have bB12 := pk_lt b (n := 12) (by omega)
  have bB2 := pk_lt b (n := 2) (by omega)
  generalize xA12 : 1 + pk a 12 = nA12 at *
  generalize xB12 : 1 + pk b 12 = nB12 at *
  generalize xB2 : 1 + pk b 2 = nB2 at *
  have HC : Hid (∀ (w0 : World), w0.heap.size = w.heap.size + 1 → Calls Tryz.prog 22 #[.int .i64 8, .slice (some ⟨w.heap.size + 1, 0, none⟩) 2 2] (w0.alloc (.cells #[.int .i64 (nA12 : Int), .int .i64 (nB2 : Int)] 3)) fun e w' => e = .returned (.string ⟨(Pl.cmdB 8 [nA12, nB2]).toArray⟩) ∧ Below w0.heap.size w0 w') := fun w0 h0 => by
    rw [← h0]
    exact kcommand_lit 8 (by omega) [nA12, nB2] (by simp) (by intro n hn; simp at hn; omega) w0
  clear hk ha hb hc hq0
  have hal := al1 w (.cells #[.int .i64 k, .int .i64 a, .int .i64 b, .int .i64 c, .int .i64 d] 35)
  have hbk := heap_alloc_new w (.cells #[.int .i64 k, .int .i64 a, .int .i64 b, .int .i64 c, .int .i64 d] 35)
  have c0 : (w.alloc (.cells #[.int .i64 k, .int .i64 a, .int .i64 b, .int .i64 c, .int .i64 d] 35)).cell? ⟨w.heap.size, 0, none⟩ = some (.int .i64 k) := by rw [blk_cell hbk]; rfl
  have c1 : (w.alloc (.cells #[.int .i64 k, .int .i64 a, .int .i64 b, .int .i64 c, .int .i64 d] 35)).cell? ⟨w.heap.size, 1, none⟩ = some (.int .i64 a) := by rw [blk_cell hbk]; rfl
  have c2 : (w.alloc (.cells #[.int .i64 k, .int .i64 a, .int .i64 b, .int .i64 c, .int .i64 d] 35)).cell? ⟨w.heap.size, 2, none⟩ = some (.int .i64 b) := by rw [blk_cell hbk]; rfl
  have c3 : (w.alloc (.cells #[.int .i64 k, .int .i64 a, .int .i64 b, .int .i64 c, .int .i64 d] 35)).cell? ⟨w.heap.size, 3, none⟩ = some (.int .i64 c) := by rw [blk_cell hbk]; rfl
  have c4 : (w.alloc (.cells #[.int .i64 k, .int .i64 a, .int .i64 b, .int .i64 c, .int .i64 d] 35)).cell? ⟨w.heap.size, 4, none⟩ = some (.int .i64 d) := by rw [blk_cell hbk]; rfl
  have HAL := hide hal
  clear hal hbk
  go_enter Tryz.func13, Tryz.ntmps13
  go_wp2_with (first | (go_at_call 26; with_reducible refine (HA12.out _).mono ?_; rintro e w1 ⟨rfl, hw1⟩; have hw2 := hw1.symm; subst hw2) | (go_at_call 26; with_reducible refine (HB12.out _).mono ?_; rintro e w1 ⟨rfl, hw1⟩; have hw2 := hw1.symm; subst hw2) | (go_at_call 26; with_reducible refine (HB2.out _).mono ?_; rintro e w1 ⟨rfl, hw1⟩; have hw2 := hw1.symm; subst hw2) | (go_at_call 14; with_reducible refine (HK.out _).mono ?_; rintro e w1 ⟨rfl, hw1⟩; have hw2 := hw1.symm; subst hw2) | (go_at_call 22; refine (HC.out _ (by simp)).mono ?_; rintro e w1 ⟨rfl, hb1⟩))
  go_ret
  exact ⟨rfl, HAL.out.trans (hb1.mono (by simp))⟩

set_option maxHeartbeats 3200000 in
theorem spelt_9 (k a b c d : Int) (hk : Raw k) (ha : Raw a) (hb : Raw b) (hc : Raw c) (hd : Raw d) (w : World) (hq0 : pk k 12 = 8) :
    Calls Tryz.prog 13 #[.agg #[.int .i64 k, .int .i64 a, .int .i64 b, .int .i64 c, .int .i64 d]] w fun e w' => e = .returned (.string ⟨(Pl.cmdB 9 [1 + pk a 12, 1 + pk b 2]).toArray⟩) ∧ Below w.heap.size w w' := by
  have HK : Hid (∀ w, Calls Tryz.prog 14 #[.int .i64 k, .int .i64 12] w fun e w' => e = .returned (.int .i64 8) ∧ w' = w) := by
    have := pick_any k hk 12 (by omega) (by omega)
    rw [hq0] at this; exact this
  have HA12 : Hid (∀ w, Calls Tryz.prog 26 #[.int .i64 a, .int .i64 12] w fun e w' => e = .returned (.int .i64 ((1 + pk a 12 : Nat) : Int)) ∧ w' = w) := id_any a ha 12 (by omega) (by omega)
  have HB12 : Hid (∀ w, Calls Tryz.prog 26 #[.int .i64 b, .int .i64 12] w fun e w' => e = .returned (.int .i64 ((1 + pk b 12 : Nat) : Int)) ∧ w' = w) := id_any b hb 12 (by omega) (by omega)
  have HB2 : Hid (∀ w, Calls Tryz.prog 26 #[.int .i64 b, .int .i64 2] w fun e w' => e = .returned (.int .i64 ((1 + pk b 2 : Nat) : Int)) ∧ w' = w) := id_any b hb 2 (by omega) (by omega)
  have bA12 := pk_lt a (n := 12) (by omega)
  have bB12 := pk_lt b (n := 12) (by omega)
  have bB2 := pk_lt b (n := 2) (by omega)
  generalize xA12 : 1 + pk a 12 = nA12 at *
  generalize xB12 : 1 + pk b 12 = nB12 at *
  generalize xB2 : 1 + pk b 2 = nB2 at *
  have HC : Hid (∀ (w0 : World), w0.heap.size = w.heap.size + 1 → Calls Tryz.prog 22 #[.int .i64 9, .slice (some ⟨w.heap.size + 1, 0, none⟩) 2 2] (w0.alloc (.cells #[.int .i64 (nA12 : Int), .int .i64 (nB2 : Int)] 3)) fun e w' => e = .returned (.string ⟨(Pl.cmdB 9 [nA12, nB2]).toArray⟩) ∧ Below w0.heap.size w0 w') := fun w0 h0 => by
    rw [← h0]
    exact kcommand_lit 9 (by omega) [nA12, nB2] (by simp) (by intro n hn; simp at hn; omega) w0
  clear hk ha hb hc hq0
  have hal := al1 w (.cells #[.int .i64 k, .int .i64 a, .int .i64 b, .int .i64 c, .int .i64 d] 35)
  have hbk := heap_alloc_new w (.cells #[.int .i64 k, .int .i64 a, .int .i64 b, .int .i64 c, .int .i64 d] 35)
  have c0 : (w.alloc (.cells #[.int .i64 k, .int .i64 a, .int .i64 b, .int .i64 c, .int .i64 d] 35)).cell? ⟨w.heap.size, 0, none⟩ = some (.int .i64 k) := by rw [blk_cell hbk]; rfl
  have c1 : (w.alloc (.cells #[.int .i64 k, .int .i64 a, .int .i64 b, .int .i64 c, .int .i64 d] 35)).cell? ⟨w.heap.size, 1, none⟩ = some (.int .i64 a) := by rw [blk_cell hbk]; rfl
  have c2 : (w.alloc (.cells #[.int .i64 k, .int .i64 a, .int .i64 b, .int .i64 c, .int .i64 d] 35)).cell? ⟨w.heap.size, 2, none⟩ = some (.int .i64 b) := by rw [blk_cell hbk]; rfl
  have c3 : (w.alloc (.cells #[.int .i64 k, .int .i64 a, .int .i64 b, .int .i64 c, .int .i64 d] 35)).cell? ⟨w.heap.size, 3, none⟩ = some (.int .i64 c) := by rw [blk_cell hbk]; rfl
  have c4 : (w.alloc (.cells #[.int .i64 k, .int .i64 a, .int .i64 b, .int .i64 c, .int .i64 d] 35)).cell? ⟨w.heap.size, 4, none⟩ = some (.int .i64 d) := by rw [blk_cell hbk]; rfl
  have HAL := hide hal
  clear hal hbk
  go_enter Tryz.func13, Tryz.ntmps13
  go_wp2_with (first | (go_at_call 26; with_reducible refine (HA12.out _).mono ?_; rintro e w1 ⟨rfl, hw1⟩; have hw2 := hw1.symm; subst hw2) | (go_at_call 26; with_reducible refine (HB12.out _).mono ?_; rintro e w1 ⟨rfl, hw1⟩; have hw2 := hw1.symm; subst hw2) | (go_at_call 26; with_reducible refine (HB2.out _).mono ?_; rintro e w1 ⟨rfl, hw1⟩; have hw2 := hw1.symm; subst hw2) | (go_at_call 14; with_reducible refine (HK.out _).mono ?_; rintro e w1 ⟨rfl, hw1⟩; have hw2 := hw1.symm; subst hw2) | (go_at_call 22; refine (HC.out _ (by simp)).mono ?_; rintro e w1 ⟨rfl, hb1⟩))
  go_ret
  exact ⟨rfl, HAL.out.trans (hb1.mono (by simp))⟩

set_option maxHeartbeats 3200000 in
theorem spelt_10 (k a b c d : Int) (hk : Raw k) (ha : Raw a) (hb : Raw b) (hc : Raw c) (hd : Raw d) (w : World) (hq0 : pk k 12 = 9) :
    Calls Tryz.prog 13 #[.agg #[.int .i64 k, .int .i64 a, .int .i64 b, .int .i64 c, .int .i64 d]] w fun e w' => e = .returned (.string ⟨(Pl.cmdB 10 [1 + pk a 12, 1 + pk c 400]).toArray⟩) ∧ Below w.heap.size w w' := by
  have HK : Hid (∀ w, Calls Tryz.prog 14 #[.int .i64 k, .int .i64 12] w fun e w' => e = .returned (.int .i64 9) ∧ w' = w) := by
    have := pick_any k hk 12 (by omega) (by omega)
    rw [hq0] at this; exact this
  have HA12 : Hid (∀ w, Calls Tryz.prog 26 #[.int .i64 a, .int .i64 12] w fun e w' => e = .returned (.int .i64 ((1 + pk a 12 : Nat) : Int)) ∧ w' = w) := id_any a ha 12 (by omega) (by omega)
  have HB12 : Hid (∀ w, Calls Tryz.prog 26 #[.int .i64 b, .int .i64 12] w fun e w' => e = .returned (.int .i64 ((1 + pk b 12 : Nat) : Int)) ∧ w' = w) := id_any b hb 12 (by omega) (by omega)
  have HFC : Hid (∀ w, Calls Tryz.prog 27 #[.int .i64 c] w fun e w' => e = .returned (.int .i64 ((1 + pk c 400 : Nat) : Int)) ∧ w' = w) := few_any c hc
  have bA12 := pk_lt a (n := 12) (by omega)
  have bB12 := pk_lt b (n := 12) (by omega)
  have bFC := pk_lt c (n := 400) (by omega)
  generalize xA12 : 1 + pk a 12 = nA12 at *
  generalize xB12 : 1 + pk b 12 = nB12 at *
  generalize xFC : 1 + pk c 400 = nFC at *
  have HC : Hid (∀ (w0 : World), w0.heap.size = w.heap.size + 1 → Calls Tryz.prog 22 #[.int .i64 10, .slice (some ⟨w.heap.size + 1, 0, none⟩) 2 2] (w0.alloc (.cells #[.int .i64 (nA12 : Int), .int .i64 (nFC : Int)] 3)) fun e w' => e = .returned (.string ⟨(Pl.cmdB 10 [nA12, nFC]).toArray⟩) ∧ Below w0.heap.size w0 w') := fun w0 h0 => by
    rw [← h0]
    exact kcommand_lit 10 (by omega) [nA12, nFC] (by simp) (by intro n hn; simp at hn; omega) w0
  clear hk ha hb hc hq0
  have hal := al1 w (.cells #[.int .i64 k, .int .i64 a, .int .i64 b, .int .i64 c, .int .i64 d] 35)
  have hbk := heap_alloc_new w (.cells #[.int .i64 k, .int .i64 a, .int .i64 b, .int .i64 c, .int .i64 d] 35)
  have c0 : (w.alloc (.cells #[.int .i64 k, .int .i64 a, .int .i64 b, .int .i64 c, .int .i64 d] 35)).cell? ⟨w.heap.size, 0, none⟩ = some (.int .i64 k) := by rw [blk_cell hbk]; rfl
  have c1 : (w.alloc (.cells #[.int .i64 k, .int .i64 a, .int .i64 b, .int .i64 c, .int .i64 d] 35)).cell? ⟨w.heap.size, 1, none⟩ = some (.int .i64 a) := by rw [blk_cell hbk]; rfl
  have c2 : (w.alloc (.cells #[.int .i64 k, .int .i64 a, .int .i64 b, .int .i64 c, .int .i64 d] 35)).cell? ⟨w.heap.size, 2, none⟩ = some (.int .i64 b) := by rw [blk_cell hbk]; rfl
  have c3 : (w.alloc (.cells #[.int .i64 k, .int .i64 a, .int .i64 b, .int .i64 c, .int .i64 d] 35)).cell? ⟨w.heap.size, 3, none⟩ = some (.int .i64 c) := by rw [blk_cell hbk]; rfl
  have c4 : (w.alloc (.cells #[.int .i64 k, .int .i64 a, .int .i64 b, .int .i64 c, .int .i64 d] 35)).cell? ⟨w.heap.size, 4, none⟩ = some (.int .i64 d) := by rw [blk_cell hbk]; rfl
  have HAL := hide hal
  clear hal hbk
  go_enter Tryz.func13, Tryz.ntmps13
  go_wp2_with (first | (go_at_call 26; with_reducible refine (HA12.out _).mono ?_; rintro e w1 ⟨rfl, hw1⟩; have hw2 := hw1.symm; subst hw2) | (go_at_call 26; with_reducible refine (HB12.out _).mono ?_; rintro e w1 ⟨rfl, hw1⟩; have hw2 := hw1.symm; subst hw2) | (go_at_call 27; with_reducible refine (HFC.out _).mono ?_; rintro e w1 ⟨rfl, hw1⟩; have hw2 := hw1.symm; subst hw2) | (go_at_call 14; with_reducible refine (HK.out _).mono ?_; rintro e w1 ⟨rfl, hw1⟩; have hw2 := hw1.symm; subst hw2) | (go_at_call 22; refine (HC.out _ (by simp)).mono ?_; rintro e w1 ⟨rfl, hb1⟩))
  go_ret
  exact ⟨rfl, HAL.out.trans (hb1.mono (by simp))⟩

set_option maxHeartbeats 3200000 in
theorem spelt_11 (k a b c d : Int) (hk : Raw k) (ha : Raw a) (hb : Raw b) (hc : Raw c) (hd : Raw d) (w : World) (hq0 : pk k 12 = 10) :
    Calls Tryz.prog 13 #[.agg #[.int .i64 k, .int .i64 a, .int .i64 b, .int .i64 c, .int .i64 d]] w fun e w' => e = .returned (.string ⟨(Pl.cmdB 11 [1 + pk a 12]).toArray⟩) ∧ Below w.heap.size w w' := by
  have HK : Hid (∀ w, Calls Tryz.prog 14 #[.int .i64 k, .int .i64 12] w fun e w' => e = .returned (.int .i64 10) ∧ w' = w) := by
    have := pick_any k hk 12 (by omega) (by omega)
    rw [hq0] at this; exact this
  have HA12 : Hid (∀ w, Calls Tryz.prog 26 #[.int .i64 a, .int .i64 12] w fun e w' => e = .returned (.int .i64 ((1 + pk a 12 : Nat) : Int)) ∧ w' = w) := id_any a ha 12 (by omega) (by omega)
  have HB12 : Hid (∀ w, Calls Tryz.prog 26 #[.int .i64 b, .int .i64 12] w fun e w' => e = .returned (.int .i64 ((1 + pk b 12 : Nat) : Int)) ∧ w' = w) := id_any b hb 12 (by omega) (by omega)
  have bA12 := pk_lt a (n := 12) (by omega)
  have bB12 := pk_lt b (n := 12) (by omega)
  generalize xA12 : 1 + pk a 12 = nA12 at *
  generalize xB12 : 1 + pk b 12 = nB12 at *
  have HC : Hid (∀ (w0 : World), w0.heap.size = w.heap.size + 1 → Calls Tryz.prog 22 #[.int .i64 11, .slice (some ⟨w.heap.size + 1, 0, none⟩) 1 1] (w0.alloc (.cells #[.int .i64 (nA12 : Int)] 3)) fun e w' => e = .returned (.string ⟨(Pl.cmdB 11 [nA12]).toArray⟩) ∧ Below w0.heap.size w0 w') := fun w0 h0 => by
    rw [← h0]
    exact kcommand_lit 11 (by omega) [nA12] (by simp) (by intro n hn; simp at hn; omega) w0
  clear hk ha hb hc hq0
  have hal := al1 w (.cells #[.int .i64 k, .int .i64 a, .int .i64 b, .int .i64 c, .int .i64 d] 35)
  have hbk := heap_alloc_new w (.cells #[.int .i64 k, .int .i64 a, .int .i64 b, .int .i64 c, .int .i64 d] 35)
  have c0 : (w.alloc (.cells #[.int .i64 k, .int .i64 a, .int .i64 b, .int .i64 c, .int .i64 d] 35)).cell? ⟨w.heap.size, 0, none⟩ = some (.int .i64 k) := by rw [blk_cell hbk]; rfl
  have c1 : (w.alloc (.cells #[.int .i64 k, .int .i64 a, .int .i64 b, .int .i64 c, .int .i64 d] 35)).cell? ⟨w.heap.size, 1, none⟩ = some (.int .i64 a) := by rw [blk_cell hbk]; rfl
  have c2 : (w.alloc (.cells #[.int .i64 k, .int .i64 a, .int .i64 b, .int .i64 c, .int .i64 d] 35)).cell? ⟨w.heap.size, 2, none⟩ = some (.int .i64 b) := by rw [blk_cell hbk]; rfl
  have c3 : (w.alloc (.cells #[.int .i64 k, .int .i64 a, .int .i64 b, .int .i64 c, .int .i64 d] 35)).cell? ⟨w.heap.size, 3, none⟩ = some (.int .i64 c) := by rw [blk_cell hbk]; rfl
  have c4 : (w.alloc (.cells #[.int .i64 k, .int .i64 a, .int .i64 b, .int .i64 c, .int .i64 d] 35)).cell? ⟨w.heap.size, 4, none⟩ = some (.int .i64 d) := by rw [blk_cell hbk]; rfl
  have HAL := hide hal
  clear hal hbk
  go_enter Tryz.func13, Tryz.ntmps13
  go_wp2_with (first | (go_at_call 26; with_reducible refine (HA12.out _).mono ?_; rintro e w1 ⟨rfl, hw1⟩; have hw2 := hw1.symm; subst hw2) | (go_at_call 26; with_reducible refine (HB12.out _).mono ?_; rintro e w1 ⟨rfl, hw1⟩; have hw2 := hw1.symm; subst hw2) | (go_at_call 14; with_reducible refine (HK.out _).mono ?_; rintro e w1 ⟨rfl, hw1⟩; have hw2 := hw1.symm; subst hw2) | (go_at_call 22; refine (HC.out _ (by simp)).mono ?_; rintro e w1 ⟨rfl, hb1⟩))
  go_ret
  exact ⟨rfl, HAL.out.trans (hb1.mono (by simp))⟩

set_option maxHeartbeats 3200000 in
theorem spelt_12 (k a b c d : Int) (hk : Raw k) (ha : Raw a) (hb : Raw b) (hc : Raw c) (hd : Raw d) (w : World) (hq0 : pk k 12 = 11) :
    Calls Tryz.prog 13 #[.agg #[.int .i64 k, .int .i64 a, .int .i64 b, .int .i64 c, .int .i64 d]] w fun e w' => e = .returned (.string ⟨(Pl.cmdB 12 [1 + pk a 3, pk d 10]).toArray⟩) ∧ Below w.heap.size w w' := by
  have HK : Hid (∀ w, Calls Tryz.prog 14 #[.int .i64 k, .int .i64 12] w fun e w' => e = .returned (.int .i64 11) ∧ w' = w) := by
    have := pick_any k hk 12 (by omega) (by omega)
    rw [hq0] at this; exact this
  have HA12 : Hid (∀ w, Calls Tryz.prog 26 #[.int .i64 a, .int .i64 12] w fun e w' => e = .returned (.int .i64 ((1 + pk a 12 : Nat) : Int)) ∧ w' = w) := id_any a ha 12 (by omega) (by omega)
  have HB12 : Hid (∀ w, Calls Tryz.prog 26 #[.int .i64 b, .int .i64 12] w fun e w' => e = .returned (.int .i64 ((1 + pk b 12 : Nat) : Int)) ∧ w' = w) := id_any b hb 12 (by omega) (by omega)
  have HA3 : Hid (∀ w, Calls Tryz.prog 26 #[.int .i64 a, .int .i64 3] w fun e w' => e = .returned (.int .i64 ((1 + pk a 3 : Nat) : Int)) ∧ w' = w) := id_any a ha 3 (by omega) (by omega)
  have HPD10 : Hid (∀ w, Calls Tryz.prog 14 #[.int .i64 d, .int .i64 10] w fun e w' => e = .returned (.int .i64 ((pk d 10 : Nat) : Int)) ∧ w' = w) := pick_any d hd 10 (by omega) (by omega)
  have bA12 := pk_lt a (n := 12) (by omega)
  have bB12 := pk_lt b (n := 12) (by omega)
  have bA3 := pk_lt a (n := 3) (by omega)
  have bPD10 := pk_lt d (n := 10) (by omega)
  generalize xA12 : 1 + pk a 12 = nA12 at *
  generalize xB12 : 1 + pk b 12 = nB12 at *
  generalize xA3 : 1 + pk a 3 = nA3 at *
  generalize xPD10 : pk d 10 = nPD10 at *
  have HC : Hid (∀ (w0 : World), w0.heap.size = w.heap.size + 1 → Calls Tryz.prog 22 #[.int .i64 12, .slice (some ⟨w.heap.size + 1, 0, none⟩) 2 2] (w0.alloc (.cells #[.int .i64 (nA3 : Int), .int .i64 (nPD10 : Int)] 3)).drew fun e w' => e = .returned (.string ⟨(Pl.cmdB 12 [nA3, nPD10]).toArray⟩) ∧ Below w0.heap.size w0 w') := fun w0 h0 => by
    rw [← h0]
    exact kcommand_lit' 12 (by omega) [nA3, nPD10] (by simp) (by intro n hn; simp at hn; omega) w0
  clear hk ha hb hc hq0
  have hal := al1 w (.cells #[.int .i64 k, .int .i64 a, .int .i64 b, .int .i64 c, .int .i64 d] 35)
  have hbk := heap_alloc_new w (.cells #[.int .i64 k, .int .i64 a, .int .i64 b, .int .i64 c, .int .i64 d] 35)
  have c0 : (w.alloc (.cells #[.int .i64 k, .int .i64 a, .int .i64 b, .int .i64 c, .int .i64 d] 35)).cell? ⟨w.heap.size, 0, none⟩ = some (.int .i64 k) := by rw [blk_cell hbk]; rfl
  have c1 : (w.alloc (.cells #[.int .i64 k, .int .i64 a, .int .i64 b, .int .i64 c, .int .i64 d] 35)).cell? ⟨w.heap.size, 1, none⟩ = some (.int .i64 a) := by rw [blk_cell hbk]; rfl
  have c2 : (w.alloc (.cells #[.int .i64 k, .int .i64 a, .int .i64 b, .int .i64 c, .int .i64 d] 35)).cell? ⟨w.heap.size, 2, none⟩ = some (.int .i64 b) := by rw [blk_cell hbk]; rfl
  have c3 : (w.alloc (.cells #[.int .i64 k, .int .i64 a, .int .i64 b, .int .i64 c, .int .i64 d] 35)).cell? ⟨w.heap.size, 3, none⟩ = some (.int .i64 c) := by rw [blk_cell hbk]; rfl
  have c4 : (w.alloc (.cells #[.int .i64 k, .int .i64 a, .int .i64 b, .int .i64 c, .int .i64 d] 35)).cell? ⟨w.heap.size, 4, none⟩ = some (.int .i64 d) := by rw [blk_cell hbk]; rfl
  have HAL := hide hal
  clear hal hbk
  go_enter Tryz.func13, Tryz.ntmps13
  go_wp2_with (first | (go_at_call 26; with_reducible refine (HA12.out _).mono ?_; rintro e w1 ⟨rfl, hw1⟩; have hw2 := hw1.symm; subst hw2) | (go_at_call 26; with_reducible refine (HB12.out _).mono ?_; rintro e w1 ⟨rfl, hw1⟩; have hw2 := hw1.symm; subst hw2) | (go_at_call 26; with_reducible refine (HA3.out _).mono ?_; rintro e w1 ⟨rfl, hw1⟩; have hw2 := hw1.symm; subst hw2) | (go_at_call 14; with_reducible refine (HPD10.out _).mono ?_; rintro e w1 ⟨rfl, hw1⟩; have hw2 := hw1.symm; subst hw2) | (go_at_call 14; with_reducible refine (HK.out _).mono ?_; rintro e w1 ⟨rfl, hw1⟩; have hw2 := hw1.symm; subst hw2) | (go_at_call 22; refine (HC.out _ (by simp)).mono ?_; rintro e w1 ⟨rfl, hb1⟩))
  go_region_held3 (fun w' => w'.cell? ⟨w.heap.size, 1, none⟩ = some (.int .i64 a) ∧ w'.cell? ⟨w.heap.size, 4, none⟩ = some (.int .i64 d)) (go_keep)
    (first | (go_at_call 26; with_reducible refine (HA12.out _).mono ?_; rintro e w1 ⟨rfl, hw1⟩; have hw2 := hw1.symm; subst hw2) | (go_at_call 26; with_reducible refine (HB12.out _).mono ?_; rintro e w1 ⟨rfl, hw1⟩; have hw2 := hw1.symm; subst hw2) | (go_at_call 26; with_reducible refine (HA3.out _).mono ?_; rintro e w1 ⟨rfl, hw1⟩; have hw2 := hw1.symm; subst hw2) | (go_at_call 14; with_reducible refine (HPD10.out _).mono ?_; rintro e w1 ⟨rfl, hw1⟩; have hw2 := hw1.symm; subst hw2) | (go_at_call 14; with_reducible refine (HK.out _).mono ?_; rintro e w1 ⟨rfl, hw1⟩; have hw2 := hw1.symm; subst hw2) | (go_at_call 22; refine (HC.out _ (by simp)).mono ?_; rintro e w1 ⟨rfl, hb1⟩; have m1 := (hb1.cell (p := ⟨w.heap.size, 1, none⟩) (by simp)).trans c1; have m4 := (hb1.cell (p := ⟨w.heap.size, 4, none⟩) (by simp)).trans c4))
  all_goals
    go_wp2_with fail
    go_ret
    exact ⟨rfl, HAL.out.trans (hb1.mono (by simp))⟩

theorem sp_code (k a b c d : Int) : 1 ≤ (sp k a b c d).1 ∧ (sp k a b c d).1 ≤ 12 ∧ (sp k a b c d).2.length = (Pl.kindsL (sp k a b c d).1).length ∧ (∀ n ∈ (sp k a b c d).2, n ≤ 400) ∧ Pl.mays (Pl.kindsL (sp k a b c d).1) (sp k a b c d).2 = true := by
  have h := pk_lt k (n := 12) (by omega)
  have h1 := pk_lt a (n := 40) (by omega)
  have h2 := pk_lt a (n := 12) (by omega)
  have h3 := pk_lt b (n := 3) (by omega)
  have h4 := pk_lt c (n := 400) (by omega)
  have h5 := pk_lt d (n := 40) (by omega)
  have h6 := pk_lt b (n := 12) (by omega)
  have h7 := pk_lt c (n := 12) (by omega)
  have h8 := pk_lt a (n := 4) (by omega)
  have h9 := pk_lt d (n := 10) (by omega)
  have h10 := pk_lt (d.tdiv 16) (n := 4) (by omega)
  have h11 := pk_lt b (n := 2) (by omega)
  have h12 := pk_lt a (n := 3) (by omega)
  unfold sp
  split <;> (refine ⟨by simp, by simp, rfl, ?_, ?_⟩ <;> simp [Pl.mays, Pl.kindsL, Pl.mayB] <;> omega)

theorem spelt_any (k a b c d : Int) (hk : Raw k) (ha : Raw a) (hb : Raw b) (hc : Raw c) (hd : Raw d) (w : World) :
    Calls Tryz.prog 13 #[.agg #[.int .i64 k, .int .i64 a, .int .i64 b, .int .i64 c, .int .i64 d]] w fun e w' => e = .returned (.string ⟨(Pl.cmdB (sp k a b c d).1 (sp k a b c d).2).toArray⟩) ∧ Below w.heap.size w w' := by
  have h := pk_lt k (n := 12) (by omega)
  have hs : ∀ q, pk k 12 = q → sp k a b c d = (match q with
    | 0 => (1, [pk a 40])
    | 1 => (2, [1 + pk a 12, 1 + pk b 3, 1 + pk c 400, pk d 40])
    | 2 => (3, [1 + pk a 12, 1 + pk b 12, 1 + pk c 400])
    | 3 => (4, [1 + pk a 12, 1 + pk b 12, 1 + pk c 12])
    | 4 => (5, [1 + pk a 4, 1 + pk b 3, 1 + pk c 400, pk d 10, pk (d.tdiv 16) 4])
    | 5 => (6, [1 + pk a 4])
    | 6 => (7, [1 + pk a 4])
    | 7 => (8, [1 + pk a 12, 1 + pk b 2])
    | 8 => (9, [1 + pk a 12, 1 + pk b 2])
    | 9 => (10, [1 + pk a 12, 1 + pk c 400])
    | 10 => (11, [1 + pk a 12])
    | _ => (12, [1 + pk a 3, pk d 10])
    ) := fun q e => by subst e; rfl
  rcases (show pk k 12 = 0 ∨ pk k 12 = 1 ∨ pk k 12 = 2 ∨ pk k 12 = 3 ∨ pk k 12 = 4 ∨ pk k 12 = 5 ∨ pk k 12 = 6 ∨ pk k 12 = 7 ∨ pk k 12 = 8 ∨ pk k 12 = 9 ∨ pk k 12 = 10 ∨ pk k 12 = 11 by omega) with e | e | e | e | e | e | e | e | e | e | e | e <;> rw [hs _ e]
  · exact spelt_1 k a b c d hk ha hb hc hd w e
  · exact spelt_2 k a b c d hk ha hb hc hd w e
  · exact spelt_3 k a b c d hk ha hb hc hd w e
  · exact spelt_4 k a b c d hk ha hb hc hd w e
  · exact spelt_5 k a b c d hk ha hb hc hd w e
  · exact spelt_6 k a b c d hk ha hb hc hd w e
  · exact spelt_7 k a b c d hk ha hb hc hd w e
  · exact spelt_8 k a b c d hk ha hb hc hd w e
  · exact spelt_9 k a b c d hk ha hb hc hd w e
  · exact spelt_10 k a b c d hk ha hb hc hd w e
  · exact spelt_11 k a b c d hk ha hb hc hd w e
  · exact spelt_12 k a b c d hk ha hb hc hd w e

end Go.Proofs.YtgcedalggnmooabGreatDoor
