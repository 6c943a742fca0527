import Derived.Test.YtcomohmadfnmgaaDoorR4
import Derived.Test.YtcomohmadfnmgaaDoorSt11
namespace Go.Proofs.YtcomohmadfnmgaaDoor
set_option linter.unusedSimpArgs false
set_option linter.unusedVariables false
open Go.RowKit
set_option maxRecDepth 100000

theorem flat_set2 (a b : Value) (j k : Nat) (hj : j < 11) (hk : k < 11) (l' : L) : ∀ (ls : List L) (fs : List Value) (i : Nat), fs.length = ls.length → i < ls.length → (∀ f, ((refCells (ls.getD i L0) f).set j a).set k b = refCells l' f) →
    ((flat ls fs).set (i * 11 + j) a).set (i * 11 + k) b = flat (ls.set i l') fs
  | [], _, _, _, h, _ => by simp at h
  | _ :: _, [], _, h, _, _ => by simp at h
  | l :: ls, f :: fs, 0, _, _, hc => by
    have hl : (refCells l f).length = 11 := rfl
    simp only [flat, Nat.zero_mul, Nat.zero_add, List.set_cons_zero]
    rw [List.set_append_left _ _ (by omega), List.set_append_left _ _ (by rw [List.length_set]; omega)]
    have := hc f
    simp only [List.getD_cons_zero] at this
    rw [this]
  | l :: ls, f :: fs, i + 1, h, hi, hc => by
    have ih := flat_set2 a b j k hj hk l' ls fs i (by simpa using h) (by simpa using hi) (fun f => by have := hc f; simpa using this)
    have hl : (refCells l f).length = 11 := rfl
    simp only [flat, List.set_cons_succ]
    rw [List.set_append_right _ _ (by omega), List.set_append_right _ _ (by omega), hl, show (i + 1) * 11 + j - 11 = i * 11 + j by omega, show (i + 1) * 11 + k - 11 = i * 11 + k by omega, ih]

/-- One lot has turned. -/
theorem RV.lotset {w : World} {R : Nat} {v : Value} {td : Nat} {rec : ByteArray} {fs : List Value} {ls : List L} (h : RV w R v td rec fs ls) {G cap : Nat} (hv : v = .slice (some ⟨G, 0, none⟩) ls.length cap) {i : Nat} (hi : i < ls.length) {l' : L} (hl : L.Ok l') (a b : Value) (j k : Nat) (hj : j < 11) (hk : k < 11)
    (hc : ∀ f, ((refCells (ls.getD i L0) f).set j a).set k b = refCells l' f) :
    RV ((w.setCell ⟨G, i * 11 + j, none⟩ a).setCell ⟨G, i * 11 + k, none⟩ b) R v td rec fs (ls.set i l') := by
  have hrow := h.row
  rw [hv] at hrow
  have hRG : R ≠ G := by
    obtain ⟨cs, hcs⟩ := own_ty hrow rfl
    exact ty_ne h.store hcs (by decide)
  have h1 := (hrow.stored (i * 11 + j) a).1
  have h2 := (h1.stored (i * 11 + k) b).1
  refine ⟨?_, ?_, ?_, h.fsl, h.today, ?_, ?_⟩
  · rw [Below.heap_setCell _ _ _ _ hRG, Below.heap_setCell _ _ _ _ hRG]; exact h.store
  · rw [List.length_set, ← flat_set2 a b j k hj hk l' ls fs i h.flen hi hc, hv]
    exact h2
  · rw [List.length_set]; exact h.flen
  · intro l hm
    rcases List.mem_or_eq_of_mem_set hm with h1 | h1
    · exact h.ok l h1
    · subst h1; exact hl
  · rw [List.length_set]; exact h.room

set_option maxHeartbeats 1600000 in
theorem givesR_any {w : World} {R : Nat} {v : Value} {td : Nat} {rec : ByteArray} {fs : List Value} {ls : List L} (h : RV w R v td rec fs ls) (i n : Nat) (hi : i < ls.length) (hn : n ≤ (ls.getD i L0).free) :
    Calls Tryd.prog 60 #[.pointer (some ⟨R, 0, none⟩), .int .i64 (i : Int), .int .i64 (n : Int)] w fun e w' => e = .returned (.tuple #[]) ∧ Kp (fun k => v.ownBlock = some k) w w' ∧ RV w' R v td rec fs (ls.set i (gaveL (ls.getD i L0) n)) := by
  obtain ⟨a, cap, hv, hrow⟩ := h.shape
  obtain ⟨G, hG, hGlt, hcells⟩ := hrow (by omega)
  subst hG
  have c1 := h.c1
  rw [hv] at c1
  have hroom := h.room
  have hRlt := blk_lt h.store
  have hok := h.ok _ (mem_getD hi)
  have hsum := hok.sum
  have c5 : w.cell? ⟨G, i * 11 + 5, none⟩ = some (.int .i64 ((ls.getD i L0).free : Int)) := hcells i hi 5 (by omega)
  have c9 : w.cell? ⟨G, i * 11 + 9, none⟩ = some (.int .i64 ((ls.getD i L0).given : Int)) := hcells i hi 9 (by omega)
  have hr := h.row
  rw [hv] at hr
  obtain ⟨cs, hcs⟩ := own_ty hr rfl
  have f5 := blk_free hcs (i * 11 + 5)
  have f9 := blk_free hcs (i * 11 + 9)
  have hRG : ¬ R = G := ty_ne h.store hcs (by decide)
  have HP := hide h
  have HV := hide hv
  have HOK := hide hok
  obtain ⟨l, HL⟩ : ∃ l, Hid (l = ls.getD i L0) := ⟨_, rfl⟩
  rw [← HL.out] at c5 c9 hn hsum HOK ⊢
  have hfr : l.free ≤ 2147483647 := by omega
  have hgv : l.given + n ≤ 2147483647 := by omega
  obtain ⟨len, HN⟩ : ∃ len, Hid (len = ls.length) := ⟨_, rfl⟩
  have hi' := hi
  rw [← HN.out] at c1 hi hroom
  have HI := hide hi'
  have hnn : n ≤ 2147483647 := by omega
  clear h hv hr hcs hcells hrow hok hsum hi'
  go_enter Tryd.func60, Tryd.ntmps60
  go_wp2_with fail
  go_region
  go_wp2_with fail
  go_region
  go_wp2_with fail
  go_end0
  have hcell : ∀ f, ((refCells (ls.getD i L0) f).set 5 (.int .i64 ((l.free : Int) - (n : Int)))).set 9 (.int .i64 ((l.given : Int) + (n : Int))) = refCells (gaveL l n) f := fun f => by
    rw [← HL.out]
    have e1 : ((l.free - n : Nat) : Int) = (l.free : Int) - (n : Int) := by omega
    have e2 : ((l.given + n : Nat) : Int) = (l.given : Int) + (n : Int) := by omega
    simp [refCells, gaveL, e1, e2]
  have hset := HP.out.lotset HV.out HI.out (gaveL_ok HOK.out hn) _ _ 5 9 (by omega) (by omega) hcell
  refine ⟨rfl, ?_, hset.below (drewB _).drew⟩
  have hvb : v.ownBlock = some G := by rw [HV.out]; rfl
  refine Kp.after (Kp.setCell (Kp.setCell (Kp.refl _ w) ?_ _) ?_ _) (drewB _).drew
  · exact Or.inl hvb
  · exact Or.inl hvb

set_option maxHeartbeats 1600000 in
theorem scrapR_any {Z : Nat → Prop} {w : World} {R td : Nat} {rec : ByteArray} {ls : List L} (h : RI Z w R td rec ls) (gn cap0 : Nat) (n c : Nat) (hns : NS w gn [n, c]) (h1 : n ≤ 2147483647) (h2 : c ≤ 2147483647) :
    Calls Tryd.prog 34 #[.pointer (some ⟨R, 0, none⟩), .slice (some ⟨gn, 0, none⟩) 2 cap0] w fun e w' => Kp Z w w' ∧ e = .returned (.int .i64 (scrapC ls n c : Int)) ∧ RI (Zn Z w) w' R td rec (scrapS ls n c) := by
  obtain ⟨v, fs, hP, hZ, hZv⟩ := h
  obtain ⟨⟨cs, hcs⟩, hcl⟩ := hns
  have n0 : w.cell? ⟨gn, 0, none⟩ = some (.int .i64 (n : Int)) := hcl 0 (by simp)
  have n1 : w.cell? ⟨gn, 1, none⟩ = some (.int .i64 (c : Int)) := hcl 1 (by simp)
  have HA := hide (at_any hP n h1)
  by_cases hi : idx n ls < ls.length
  · have HV0 : Hid (atV ls n = (idx n ls : Int)) := by unfold Hid atV; rw [if_pos hi]
    rw [HV0.out] at HA
    obtain ⟨a, cap, hv, hrow⟩ := hP.shape
    obtain ⟨G, hG, hGlt, hcells⟩ := hrow (by omega)
    subst hG
    have c1 := hP.c1
    rw [hv] at c1
    have hroom := hP.room
    have hRlt := blk_lt hP.store
    have hok := hP.ok _ (mem_getD hi)
    have hsum := hok.sum
    obtain ⟨i, HI0⟩ : ∃ i, Hid (i = idx n ls) := ⟨_, rfl⟩
    have HI := hide hi
    rw [← HI0.out] at HA hi HI hok hsum
    have c5 : w.cell? ⟨G, i * 11 + 5, none⟩ = some (.int .i64 ((ls.getD i L0).free : Int)) := hcells i hi 5 (by omega)
    have c8 : w.cell? ⟨G, i * 11 + 8, none⟩ = some (.int .i64 ((ls.getD i L0).scrapped : Int)) := hcells i hi 8 (by omega)
    have hr := hP.row
    rw [hv] at hr
    obtain ⟨ds, hds⟩ := own_ty hr rfl
    have f5 := blk_free hds (i * 11 + 5)
    have f8 := blk_free hds (i * 11 + 8)
    have hRG : ¬ R = G := ty_ne hP.store hds (by decide)
    have hgG : ¬ gn = G := ty_ne hcs hds (by decide)
    have HV := hide hv
    have HOK := hide hok
    have hZG : Hid (Z G) := hZv G (by rw [hv]; rfl)
    obtain ⟨l, HL⟩ : ∃ l, Hid (l = ls.getD i L0) := ⟨_, rfl⟩
    rw [← HL.out] at c5 c8 hsum HOK
    have hfr : l.free ≤ 2147483647 := by omega
    obtain ⟨len, HN⟩ : ∃ len, Hid (len = ls.length) := ⟨_, rfl⟩
    rw [← HN.out] at c1 hi hroom
    by_cases hs : l.free < c
    · have HC : Hid (scrapC ls n c = 7) := by unfold Hid scrapC; rw [← HI0.out, if_pos HI.out, ← HL.out, if_pos hs]
      have HS : Hid (scrapS ls n c = ls) := by unfold Hid scrapS; rw [HC.out]; rfl
      rw [HC.out, HS.out]
      have HP := hide hP
      clear hP hv hr hds hcells hrow hok hsum hcs hcl HC HS HV0 HOK
      go_enter Tryd.func34, Tryd.ntmps34
      go_wp2_with (go_at_call 58; refine (HA.out).mono ?_; rintro e w1 ⟨rfl, rfl⟩)
      go_region
      go_wp2_with fail
      go_ret
      exact ⟨kpB (drewB _), rfl, v, fs, HP.out.below (drewB _), Or.inl hZ, fun g hg => Or.inl (hZv g hg)⟩
    · have hsc : l.scrapped + c ≤ 2147483647 := by omega
      have HC : Hid (scrapC ls n c = 0) := by unfold Hid scrapC; rw [← HI0.out, if_pos HI.out, ← HL.out, if_neg hs]
      have HS : Hid (scrapS ls n c = ls.set i (scrapL l c)) := by unfold Hid scrapS; rw [HC.out, ← HI0.out, ← HL.out]; rfl
      rw [HC.out, HS.out]
      have HP := hide hP
      clear hP hv hr hds hcells hrow hok hsum hcs hcl HC HS HV0
      go_enter Tryd.func34, Tryd.ntmps34
      go_wp2_with (go_at_call 58; refine (HA.out).mono ?_; rintro e w1 ⟨rfl, rfl⟩)
      go_region
      go_wp2_with fail
      go_region
      go_wp2_with fail
      go_region
      go_wp2_with fail
      go_ret
      have hcell : ∀ f, ((refCells (ls.getD i L0) f).set 5 (.int .i64 ((l.free : Int) - (c : Int)))).set 8 (.int .i64 ((l.scrapped : Int) + (c : Int))) = refCells (scrapL l c) f := fun f => by
        rw [← HL.out]
        have e1 : ((l.free - c : Nat) : Int) = (l.free : Int) - (c : Int) := by omega
        have e2 : ((l.scrapped + c : Nat) : Int) = (l.scrapped : Int) + (c : Int) := by omega
        simp [refCells, scrapL, e1, e2]
      have hset := HP.out.lotset HV.out HI.out (scrapL_ok HOK.out (by omega)) _ _ 5 8 (by omega) (by omega) hcell
      refine ⟨?_, rfl, v, fs, hset.below (drewB _).drew.drew, Or.inl hZ, fun g hg => Or.inl (hZv g hg)⟩
      refine Kp.after (Kp.setCell (Kp.setCell (Kp.refl _ _) ?_ _) ?_ _) (drewB _).drew.drew
      · exact Or.inl hZG.out
      · exact Or.inl hZG.out
  · have HV0 : Hid (atV ls n = -1) := by unfold Hid atV; rw [if_neg hi]
    have HC : Hid (scrapC ls n c = 4) := by unfold Hid scrapC; rw [if_neg hi]
    have HS : Hid (scrapS ls n c = ls) := by unfold Hid scrapS; rw [HC.out]; rfl
    rw [HV0.out] at HA
    rw [HC.out, HS.out]
    have HP := hide hP
    clear hP hi HV0 HC HS hcs hcl
    go_enter Tryd.func34, Tryd.ntmps34
    go_wp2_with (go_at_call 58; refine (HA.out).mono ?_; rintro e w1 ⟨rfl, rfl⟩)
    go_ret
    exact ⟨Kp.refl _ _, rfl, v, fs, HP.out, Or.inl hZ, fun g hg => Or.inl (hZv g hg)⟩

end Go.Proofs.YtcomohmadfnmgaaDoor
