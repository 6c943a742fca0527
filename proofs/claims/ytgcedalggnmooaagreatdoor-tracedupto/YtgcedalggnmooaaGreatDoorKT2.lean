import Derived.Test.YtgcedalggnmooaaGreatDoorHl2X
import Derived.Test.YtgcedalggnmooaaGreatDoorKV
namespace Go.Proofs.YtgcedalggnmooaaGreatDoor
set_option linter.unusedSimpArgs false
set_option linter.unusedVariables false
open Go.RowKit
set_option maxRecDepth 100000

set_option maxHeartbeats 3200000 in
theorem helds_any {B : Nat} {w0 w : World} {Z : Nat → Prop} {Lb : Nat} {s : Sv} (h : Kv B w0 w Z Lb s) :
    Calls Tryz.prog 35 #[.pointer (some ⟨Lb, 0, none⟩)] w fun e w' => ∃ Z' b, e = .returned (.slice (some ⟨b, 0, none⟩) 14 14) ∧ Kv B w0 w' Z' Lb s ∧ Kn Z w Z' w' ∧ R14 3 w' b (upF 13 (fun i => .int .i64 ((heldF s i : Int))) (.int .i64 0)) ∧ ¬ Z' b ∧ w.heap.size ≤ b := by
  have hmk := mk14
  have HINI : Hid (Kv B w0 (w.alloc (.cells (z14 (.int .i64 0)) 3)) Z Lb s ∧ Kn Z w Z (w.alloc (.cells (z14 (.int .i64 0)) 3)) ∧ R14 3 (w.alloc (.cells (z14 (.int .i64 0)) 3)) w.heap.size (upF 0 (fun i => .int .i64 ((heldF s i : Int))) (.int .i64 0)) ∧ ¬ Z w.heap.size) := ⟨h.below (al1 w _), Kn.below (al1 w _), by rw [upF_zero]; exact mk14_row w, fun hz => by have := (h.zin _ hz).2; omega⟩
  have HB := hide h.size
  clear h
  go_enter Tryz.func35, Tryz.ntmps35
  go_wp2_with fail
  go_loopw [4, 5, 6] (fun ii _ _ wr => ∃ (k : Nat) (Z' : Nat → Prop), ii = .int .i64 ((k + 1 : Nat) : Int) ∧ k ≤ 13 ∧ Kv B w0 wr Z' Lb s ∧ Kn Z w Z' wr ∧ R14 3 wr w.heap.size (upF k (fun i => .int .i64 ((heldF s i : Int))) (.int .i64 0)) ∧ ¬ Z' w.heap.size) (fun ii _ _ _ => 14 - (intOf ii).toNat)
  case atStart => exact ⟨0, Z, rfl, by omega, HINI.out.1, HINI.out.2.1, HINI.out.2.2.1, HINI.out.2.2.2⟩
  case round =>
    clear HINI
    obtain ⟨k, Z1, rfl, hk, hkv, hkn, hr, hz⟩ := hrel
    by_cases hlt : k < 13
    · by_cases he : lookE s (k + 1) = 0
      · have HLK : Hid (Calls Tryz.prog 25 #[.pointer (some ⟨Lb, 0, none⟩), .int .i64 11, .slice (some ⟨wr.heap.size, 0, none⟩) 1 1] (wr.alloc (.cells #[.int .i64 ((k + 1 : Nat) : Int)] 3)) fun e w' => ∃ Z' q qc, e = .returned (.tuple #[.int .i64 0, .slice (some ⟨q, 0, none⟩) 10 qc]) ∧ Kv B w0 w' Z' Lb s ∧ Kn Z1 wr Z' w' ∧ w.heap.size < q ∧ w'.cell? ⟨q, 5, none⟩ = some (.int .i64 ((lookN s (k + 1)).getD 5 0 : Int))) := (look_num hkv (k + 1) (by omega) (by omega) he).mono (fun e w' hh => by obtain ⟨Z', q, qc, q1, q2, q3, q4, q5, q6⟩ := hh; exact ⟨Z', q, qc, q1, q2, q3, Nat.lt_of_lt_of_le hr.lt q4, q6 5 (by omega)⟩)
        have hF : (heldF s (k + 1) : Int) = ((lookN s (k + 1)).getD 5 0 : Int) := by unfold heldF; rw [if_pos he]
        have HNX : Hid (∀ (w2 : World) (Z2 : Nat → Prop), Kv B w0 w2 Z2 Lb s → Kn Z1 wr Z2 w2 → Kv B w0 (w2.setCell ⟨w.heap.size, k + 1, none⟩ (.int .i64 ((lookN s (k + 1)).getD 5 0 : Int))) Z2 Lb s ∧ Kn Z w Z2 (w2.setCell ⟨w.heap.size, k + 1, none⟩ (.int .i64 ((lookN s (k + 1)).getD 5 0 : Int))) ∧ R14 3 (w2.setCell ⟨w.heap.size, k + 1, none⟩ (.int .i64 ((lookN s (k + 1)).getD 5 0 : Int))) w.heap.size (upF (k + 1) (fun i => .int .i64 ((heldF s i : Int))) (.int .i64 0)) ∧ ¬ Z2 w.heap.size) := fun w2 Z2 h2 hn2 => by
          obtain ⟨r2, z2⟩ := hr.kn hz hn2
          refine ⟨h2.setC z2 HB.out _ _, (hkn.trans hn2).setC (Nat.le_refl _) _ _, ?_, z2⟩
          have := r2.set (k + 1) (by omega) (.int .i64 ((lookN s (k + 1)).getD 5 0 : Int))
          rw [← upF_succ]
          show R14 3 _ _ (fun j => if j = k + 1 then Value.int .i64 ((heldF s (k + 1) : Int)) else _)
          rw [hF]; exact this
        have HFR : Hid (∀ (w2 : World) (Z2 : Nat → Prop), Kn Z1 wr Z2 w2 → (∃ x, w2.cell? ⟨w.heap.size, k + 1, none⟩ = some x) ∧ ∃ cs, w2.heap[w.heap.size]? = some (.cells cs 3 (0, 0)) ∧ cs.size = 14) := fun w2 Z2 hn2 => by
          have r2 := (hr.kn hz hn2).1
          have c2 := r2.cell (k + 1) (by omega)
          obtain ⟨cs, q1, q2, _⟩ := r2
          exact ⟨⟨_, c2⟩, cs, q1, q2⟩
        have hxb := lookN_lt hkv (k + 1) 5
        generalize (lookN s (k + 1)).getD 5 0 = x at *
        clear hkv hkn hr hz hF
        go_wp2_with (go_at_call 25; refine (HLK.out).mono ?_; rintro e w2 ⟨Z2, q, qc, rfl, hk2, hn2, hwq, c5⟩; have HQF := hide (HFR.out w2 Z2 hn2); have HK2 := hide (HNX.out w2 Z2 hk2 hn2); clear hk2 hn2 HNX HFR; obtain ⟨⟨x0, hx0⟩, cs, hcs, hcz⟩ := HQF.out; have f0 := blk_free hcs (k + 1); clear HQF hcs hcz hwq)
        go_roundw
        case rel => exact ⟨k + 1, Z2, by go_num, by omega, HK2.out.1, HK2.out.2.1, HK2.out.2.2.1, HK2.out.2.2.2⟩
        case measure => simp [intOf]; omega
      · have HLK := hide (look_no hkv (k + 1) (by omega) (by omega) he)
        have hF : Value.int .i64 ((heldF s (k + 1) : Int)) = .int .i64 0 := by unfold heldF; rw [if_neg he]; rfl
        have HNX : Hid (∀ (w2 : World) (Z2 : Nat → Prop), Kv B w0 w2 Z2 Lb s → Kn Z1 wr Z2 w2 → Kv B w0 w2 Z2 Lb s ∧ Kn Z w Z2 w2 ∧ R14 3 w2 w.heap.size (upF (k + 1) (fun i => .int .i64 ((heldF s i : Int))) (.int .i64 0)) ∧ ¬ Z2 w.heap.size) := fun w2 Z2 h2 hn2 => by
          obtain ⟨r2, z2⟩ := hr.kn hz hn2
          refine ⟨h2, hkn.trans hn2, ?_, z2⟩
          rw [← upF_skip (f := (fun i => .int .i64 ((heldF s i : Int)))) hF]; exact r2
        clear hkv hkn hr hz hF
        go_wp2_with (go_at_call 25; refine (HLK.out).mono ?_; rintro e w2 ⟨Z2, v2, rfl, hk2, hn2⟩; have HK2 := hide (HNX.out w2 Z2 hk2 hn2); clear hk2 hn2 HNX)
        go_wp2_with fail
        go_roundw
        case rel => exact ⟨k + 1, Z2, by go_num, by omega, HK2.out.1, HK2.out.2.1, HK2.out.2.2.1, HK2.out.2.2.2⟩
        case measure => simp [intOf]; omega
    · obtain rfl : k = 13 := by omega
      have HK2 := hide (show Kv B w0 wr Z1 Lb s ∧ Kn Z w Z1 wr ∧ R14 3 wr w.heap.size (upF 13 (fun i => .int .i64 ((heldF s i : Int))) (.int .i64 0)) ∧ ¬ Z1 w.heap.size from ⟨hkv, hkn, hr, hz⟩)
      clear hkv hkn hr hz hlt
      go_wp2_with fail
      go_ret
      exact ⟨Z1, w.heap.size, rfl, HK2.out.1, HK2.out.2.1, HK2.out.2.2.1, HK2.out.2.2.2, Nat.le_refl _⟩

set_option maxHeartbeats 3200000 in
theorem marked_any {B : Nat} {w0 w : World} {Z : Nat → Prop} {Lb : Nat} {s : Sv} (h : Kv B w0 w Z Lb s) :
    Calls Tryz.prog 34 #[.pointer (some ⟨Lb, 0, none⟩)] w fun e w' => ∃ Z' b, e = .returned (.slice (some ⟨b, 0, none⟩) 14 14) ∧ Kv B w0 w' Z' Lb s ∧ Kn Z w Z' w' ∧ R14 3 w' b (upF 13 (fun i => .int .i64 (markF s i)) (.int .i64 0)) ∧ ¬ Z' b ∧ w.heap.size ≤ b := by
  have hmk := mk14
  have HINI : Hid (Kv B w0 (w.alloc (.cells (z14 (.int .i64 0)) 3)) Z Lb s ∧ Kn Z w Z (w.alloc (.cells (z14 (.int .i64 0)) 3)) ∧ R14 3 (w.alloc (.cells (z14 (.int .i64 0)) 3)) w.heap.size (upF 0 (fun i => .int .i64 (markF s i)) (.int .i64 0)) ∧ ¬ Z w.heap.size) := ⟨h.below (al1 w _), Kn.below (al1 w _), by rw [upF_zero]; exact mk14_row w, fun hz => by have := (h.zin _ hz).2; omega⟩
  have HB := hide h.size
  clear h
  go_enter Tryz.func34, Tryz.ntmps34
  go_wp2_with fail
  go_loopw [4, 5, 6] (fun ii _ _ wr => ∃ (k : Nat) (Z' : Nat → Prop), ii = .int .i64 ((k + 1 : Nat) : Int) ∧ k ≤ 13 ∧ Kv B w0 wr Z' Lb s ∧ Kn Z w Z' wr ∧ R14 3 wr w.heap.size (upF k (fun i => .int .i64 (markF s i)) (.int .i64 0)) ∧ ¬ Z' w.heap.size) (fun ii _ _ _ => 14 - (intOf ii).toNat)
  case atStart => exact ⟨0, Z, rfl, by omega, HINI.out.1, HINI.out.2.1, HINI.out.2.2.1, HINI.out.2.2.2⟩
  case round =>
    clear HINI
    obtain ⟨k, Z1, rfl, hk, hkv, hkn, hr, hz⟩ := hrel
    by_cases hlt : k < 13
    · by_cases he : lookE s (k + 1) = 0
      · have HLK : Hid (Calls Tryz.prog 25 #[.pointer (some ⟨Lb, 0, none⟩), .int .i64 11, .slice (some ⟨wr.heap.size, 0, none⟩) 1 1] (wr.alloc (.cells #[.int .i64 ((k + 1 : Nat) : Int)] 3)) fun e w' => ∃ Z' q qc, e = .returned (.tuple #[.int .i64 0, .slice (some ⟨q, 0, none⟩) 10 qc]) ∧ Kv B w0 w' Z' Lb s ∧ Kn Z1 wr Z' w' ∧ w.heap.size < q ∧ w'.cell? ⟨q, 9, none⟩ = some (.int .i64 ((lookN s (k + 1)).getD 9 0 : Int))) := (look_num hkv (k + 1) (by omega) (by omega) he).mono (fun e w' hh => by obtain ⟨Z', q, qc, q1, q2, q3, q4, q5, q6⟩ := hh; exact ⟨Z', q, qc, q1, q2, q3, Nat.lt_of_lt_of_le hr.lt q4, q6 9 (by omega)⟩)
        have hF : markF s (k + 1) = ((lookN s (k + 1)).getD 9 0 : Int) := by unfold markF; rw [if_pos he]
        have HNX : Hid (∀ (w2 : World) (Z2 : Nat → Prop), Kv B w0 w2 Z2 Lb s → Kn Z1 wr Z2 w2 → Kv B w0 ((w2.setCell ⟨w.heap.size, k + 1, none⟩ (.int .i64 (-1))).setCell ⟨w.heap.size, k + 1, none⟩ (.int .i64 ((lookN s (k + 1)).getD 9 0 : Int))) Z2 Lb s ∧ Kn Z w Z2 ((w2.setCell ⟨w.heap.size, k + 1, none⟩ (.int .i64 (-1))).setCell ⟨w.heap.size, k + 1, none⟩ (.int .i64 ((lookN s (k + 1)).getD 9 0 : Int))) ∧ R14 3 ((w2.setCell ⟨w.heap.size, k + 1, none⟩ (.int .i64 (-1))).setCell ⟨w.heap.size, k + 1, none⟩ (.int .i64 ((lookN s (k + 1)).getD 9 0 : Int))) w.heap.size (upF (k + 1) (fun i => .int .i64 (markF s i)) (.int .i64 0)) ∧ ¬ Z2 w.heap.size) := fun w2 Z2 h2 hn2 => by
          obtain ⟨r2, z2⟩ := hr.kn hz hn2
          refine ⟨(h2.setC z2 HB.out _ _).setC z2 HB.out _ _, ((hkn.trans hn2).setC (Nat.le_refl _) _ _).setC (Nat.le_refl _) _ _, ?_, z2⟩
          have := (r2.set (k + 1) (by omega) (.int .i64 (-1))).set (k + 1) (by omega) (.int .i64 ((lookN s (k + 1)).getD 9 0 : Int))
          rw [← upF_succ]
          refine this.congr (fun j hj => ?_)
          show (if j = k + 1 then (Value.int .i64 ((lookN s (k + 1)).getD 9 0 : Int)) else if j = k + 1 then _ else _) = if j = k + 1 then Value.int .i64 (markF s (k + 1)) else _
          rw [hF]
          by_cases hj2 : j = k + 1
          · rw [if_pos hj2, if_pos hj2]
          · rw [if_neg hj2, if_neg hj2, if_neg hj2]
        have HFR : Hid (∀ (w2 : World) (Z2 : Nat → Prop), Kn Z1 wr Z2 w2 → (∃ x, w2.cell? ⟨w.heap.size, k + 1, none⟩ = some x) ∧ ∃ cs, w2.heap[w.heap.size]? = some (.cells cs 3 (0, 0)) ∧ cs.size = 14) := fun w2 Z2 hn2 => by
          have r2 := (hr.kn hz hn2).1
          have c2 := r2.cell (k + 1) (by omega)
          obtain ⟨cs, q1, q2, _⟩ := r2
          exact ⟨⟨_, c2⟩, cs, q1, q2⟩
        have hxb := lookN_lt hkv (k + 1) 9
        generalize (lookN s (k + 1)).getD 9 0 = x at *
        clear hkv hkn hr hz hF
        go_wp2_with (go_at_call 25; refine (HLK.out).mono ?_; rintro e w2 ⟨Z2, q, qc, rfl, hk2, hn2, hwq, c5⟩; have HQF := hide (HFR.out w2 Z2 hn2); have HK2 := hide (HNX.out w2 Z2 hk2 hn2); clear hk2 hn2 HNX HFR; obtain ⟨⟨x0, hx0⟩, cs, hcs, hcz⟩ := HQF.out; have f0 := blk_free hcs (k + 1); have hne : q ≠ w.heap.size := (by omega); have c5' : (w2.setCell ⟨w.heap.size, k + 1, none⟩ (.int .i64 (-1))).cell? ⟨q, 9, none⟩ = some (.int .i64 (x : Int)) := (World.cell?_of_block (a := ⟨q, 9, none⟩) (Below.heap_setCell _ _ _ _ hne)).trans c5; have hx1 : ∃ x1, (w2.setCell ⟨w.heap.size, k + 1, none⟩ (.int .i64 (-1))).cell? ⟨w.heap.size, k + 1, none⟩ = some x1 := (by rw [blk_cell (heap_setCell_same w2 w.heap.size (k + 1) cs 3 _ hcs)]; exact ⟨_, Array.getElem?_eq_getElem (by simp [hcz]; omega)⟩); have f1 := blk_free (heap_setCell_same w2 w.heap.size (k + 1) cs 3 (.int .i64 (-1)) hcs) (k + 1); obtain ⟨x1, hx1'⟩ := hx1; clear HQF hcs hcz hwq)
        go_roundw
        case rel => exact ⟨k + 1, Z2, by go_num, by omega, HK2.out.1, HK2.out.2.1, HK2.out.2.2.1, HK2.out.2.2.2⟩
        case measure => simp [intOf]; omega
      · have HLK := hide (look_no hkv (k + 1) (by omega) (by omega) he)
        have hF : markF s (k + 1) = -1 := by unfold markF; rw [if_neg he]
        have HNX : Hid (∀ (w2 : World) (Z2 : Nat → Prop), Kv B w0 w2 Z2 Lb s → Kn Z1 wr Z2 w2 → Kv B w0 (w2.setCell ⟨w.heap.size, k + 1, none⟩ (.int .i64 (-1))) Z2 Lb s ∧ Kn Z w Z2 (w2.setCell ⟨w.heap.size, k + 1, none⟩ (.int .i64 (-1))) ∧ R14 3 (w2.setCell ⟨w.heap.size, k + 1, none⟩ (.int .i64 (-1))) w.heap.size (upF (k + 1) (fun i => .int .i64 (markF s i)) (.int .i64 0)) ∧ ¬ Z2 w.heap.size) := fun w2 Z2 h2 hn2 => by
          obtain ⟨r2, z2⟩ := hr.kn hz hn2
          refine ⟨h2.setC z2 HB.out _ _, (hkn.trans hn2).setC (Nat.le_refl _) _ _, ?_, z2⟩
          have := r2.set (k + 1) (by omega) (.int .i64 (-1))
          rw [← upF_succ]
          show R14 3 _ _ (fun j => if j = k + 1 then Value.int .i64 (markF s (k + 1)) else _)
          rw [hF]; exact this
        have HFR : Hid (∀ (w2 : World) (Z2 : Nat → Prop), Kn Z1 wr Z2 w2 → (∃ x, w2.cell? ⟨w.heap.size, k + 1, none⟩ = some x) ∧ ∃ cs, w2.heap[w.heap.size]? = some (.cells cs 3 (0, 0)) ∧ cs.size = 14) := fun w2 Z2 hn2 => by
          have r2 := (hr.kn hz hn2).1
          have c2 := r2.cell (k + 1) (by omega)
          obtain ⟨cs, q1, q2, _⟩ := r2
          exact ⟨⟨_, c2⟩, cs, q1, q2⟩
        clear hkv hkn hr hz hF
        go_wp2_with (go_at_call 25; refine (HLK.out).mono ?_; rintro e w2 ⟨Z2, v2, rfl, hk2, hn2⟩; have HQF := hide (HFR.out w2 Z2 hn2); have HK2 := hide (HNX.out w2 Z2 hk2 hn2); clear hk2 hn2 HNX HFR; obtain ⟨⟨x0, hx0⟩, cs, hcs, hcz⟩ := HQF.out; have f0 := blk_free hcs (k + 1); clear HQF hcs hcz)
        go_roundw
        case rel => exact ⟨k + 1, Z2, by go_num, by omega, HK2.out.1, HK2.out.2.1, HK2.out.2.2.1, HK2.out.2.2.2⟩
        case measure => simp [intOf]; omega
    · obtain rfl : k = 13 := by omega
      have HK2 := hide (show Kv B w0 wr Z1 Lb s ∧ Kn Z w Z1 wr ∧ R14 3 wr w.heap.size (upF 13 (fun i => .int .i64 (markF s i)) (.int .i64 0)) ∧ ¬ Z1 w.heap.size from ⟨hkv, hkn, hr, hz⟩)
      clear hkv hkn hr hz hlt
      go_wp2_with fail
      go_ret
      exact ⟨Z1, w.heap.size, rfl, HK2.out.1, HK2.out.2.1, HK2.out.2.2.1, HK2.out.2.2.2, Nat.le_refl _⟩

theorem helds_x {j B : Nat} {w0 w : World} {Z : Nat → Prop} {Lb : Nat} {s : Sv} (h : Kx j B w0 w Z Lb s) :
    Calls Tryz.prog 35 #[.pointer (some ⟨Lb, 0, none⟩)] w fun e w' => ∃ Z' b, e = .returned (.slice (some ⟨b, 0, none⟩) 14 14) ∧ Kx j B w0 w' Z' Lb s ∧ Kn Z w Z' w' ∧ R14 3 w' b (upF 13 (fun i => .int .i64 ((heldF s i : Int))) (.int .i64 0)) ∧ ¬ Z' b ∧ w.heap.size ≤ b := by
  obtain ⟨lg, hlg, hk⟩ := h
  refine (helds_any hk).mono ?_
  rintro e w' ⟨Z', b, he, hkv, hr⟩
  exact ⟨Z', b, he, ⟨lg, hlg, hkv⟩, hr⟩
theorem marked_x {j B : Nat} {w0 w : World} {Z : Nat → Prop} {Lb : Nat} {s : Sv} (h : Kx j B w0 w Z Lb s) :
    Calls Tryz.prog 34 #[.pointer (some ⟨Lb, 0, none⟩)] w fun e w' => ∃ Z' b, e = .returned (.slice (some ⟨b, 0, none⟩) 14 14) ∧ Kx j B w0 w' Z' Lb s ∧ Kn Z w Z' w' ∧ R14 3 w' b (upF 13 (fun i => .int .i64 (markF s i)) (.int .i64 0)) ∧ ¬ Z' b ∧ w.heap.size ≤ b := by
  obtain ⟨lg, hlg, hk⟩ := h
  refine (marked_any hk).mono ?_
  rintro e w' ⟨Z', b, he, hkv, hr⟩
  exact ⟨Z', b, he, ⟨lg, hlg, hkv⟩, hr⟩

end Go.Proofs.YtgcedalggnmooaaGreatDoor
