import Derived.Test.YtclipofifmajeaaGreatDoorR0X
import Derived.Deep.RegionLaw
import Derived.Deep.AppendLies
namespace Go.Proofs.YtclipofifmajeaaGreatDoor
set_option linter.unusedSimpArgs false
set_option linter.unusedVariables false
open Go.RowKit
set_option maxRecDepth 100000

set_option maxHeartbeats 1600000 in
theorem supplyR_any {w : World} {R : Nat} {v : Value} {td : Nat} {rec : ByteArray} {fs : List Value} {ls : List L} {os : List O} {ro : Ro} (h : RV os ro w R v td rec fs ls) (goods gate : Nat) (h1 : goods ≤ 2147483647) (h2 : gate ≤ 2147483647) :
    Calls Tryz.prog 45 #[.pointer (some ⟨R, 0, none⟩), .int .i64 (goods : Int), .int .i64 (gate : Int)] w fun e w' => Below w.heap.size w w' ∧ ∃ g, e = .returned (.slice (some ⟨g, 0, none⟩) 2 2) ∧ w'.heap[g]? = some (.cells (I (supL td goods gate ls)).toArray 3 (0, 0)) := by
  obtain ⟨a, cap, hv, hrow⟩ := h.shape
  have c1 := h.c1
  rw [hv] at c1
  have hroom := h.room
  have hRlt := blk_lt h.store
  have HP := hide h
  clear h hv
  go_enter Tryz.func45, Tryz.ntmps45
  go_wp2_with fail
  go_loopw [8, 9] (fun i _ wr => ∃ k : Nat, k ≤ ls.length ∧ i = .int .i64 k ∧ wr.heap[w.heap.size]? = some (.cells #[.int .i64 ((srvI td goods gate ls k).length : Nat), .int .i64 (freeOf ls (srvI td goods gate ls k) : Nat)] 3 (0, 0)) ∧ Below w.heap.size w wr) (fun i _ _ => ls.length - (intOf i).toNat)
  case atStart => exact ⟨0, by omega, rfl, heap_alloc_new w _, al1 w _⟩
  case round =>
    obtain ⟨k, hk, rfl, hg, hb⟩ := hrel
    have hPr := HP.out.below hb
    have c1' : wr.cell? ⟨R, 1, none⟩ = some (.slice a ls.length cap) := (hb.cell (by exact hRlt)).trans c1
    by_cases hlt : k < ls.length
    · obtain ⟨G, hG, hGlt, hcells⟩ := hrow (by omega)
      have HS := hide (serves_any hPr k goods gate hlt h1 h2)
      rw [hG] at c1' c1
      have hfree := (hPr.ok _ (mem_getD hlt)).sum
      have hlen := srvI_len td goods gate ls k
      have hfl : freeOf ls (srvI td goods gate ls k) ≤ 2147483647 * 30 := by
        have h3 := freeOf_le ls hPr.ok (srvI td goods gate ls k) (fun i hi => Nat.lt_trans (srvI_lt hi) hlt)
        have : 2147483647 * (srvI td goods gate ls k).length ≤ 2147483647 * 30 := Nat.mul_le_mul_left _ (by omega)
        omega
      have hc5 : w.cell? ⟨G, k * 11 + 5, none⟩ = some (.int .i64 ((ls.getD k L0).free : Int)) := hcells k hlt 5 (by omega)
      have hglt : w.heap.size < wr.heap.size := blk_lt hg
      clear hcells hrow hPr
      cases hs : srv td goods gate (ls.getD k L0) with
      | false =>
        have HN := hide (srvI_no hs)
        rw [hs] at HS
        have HG := hide hg
        clear hs hg
        go_wp2_with (go_at_call 84; refine (HS.out).mono ?_; rintro e w1 ⟨rfl, hb1⟩)
        go_roundw
        case rel => exact ⟨k + 1, by omega, by go_num, (by rw [HN.out, hb1.block _ hglt]; exact HG.out), hb.trans (hb1.mono hb.size)⟩
        case measure => simp [intOf]; omega
      | true =>
        have HN := hide (srvI_yes hs)
        rw [hs] at HS
        have HG := hide hg
        obtain ⟨cn, HCn⟩ : ∃ cn, Hid (cn = (srvI td goods gate ls k).length) := ⟨_, rfl⟩
        obtain ⟨cf, HCf⟩ : ∃ cf, Hid (cf = freeOf ls (srvI td goods gate ls k)) := ⟨_, rfl⟩
        obtain ⟨fr, HFr⟩ : ∃ fr, Hid (fr = (ls.getD k L0).free) := ⟨_, rfl⟩
        rw [← HCn.out, ← HCf.out] at HG
        rw [← HCn.out] at hlen
        rw [← HCf.out] at hfl
        rw [← HFr.out] at hc5 hfree
        have HE : Hid ((srvI td goods gate ls (k + 1)).length = cn + 1 ∧ freeOf ls (srvI td goods gate ls (k + 1)) = cf + fr) := by
          constructor
          · rw [HN.out, HCn.out]; simp
          · rw [HN.out, freeOf_snoc, HCf.out, HFr.out]
        clear hs hg HN HCn HCf HFr
        go_wp2_with fail
        refine (HS.out).mono ?_
        rintro e w1 ⟨rfl, hb1⟩
        have hg1 := (hb1.block _ hglt).trans HG.out
        have g0 : w1.cell? ⟨w.heap.size, 0, none⟩ = some (.int .i64 (cn : Int)) := by rw [blk_cell hg1]; rfl
        have g1 : w1.cell? ⟨w.heap.size, 1, none⟩ = some (.int .i64 (cf : Int)) := by rw [blk_cell hg1]; rfl
        have gf0 := blk_free hg1 0
        have gf1 := blk_free hg1 1
        have hbb := hb.trans (hb1.mono hb.size)
        have gR : w1.cell? ⟨R, 1, none⟩ = some (.slice (some ⟨G, 0, none⟩) ls.length cap) := (hbb.cell (by exact hRlt)).trans c1
        have gG : w1.cell? ⟨G, k * 11 + 5, none⟩ = some (.int .i64 (fr : Int)) := (hbb.cell (by exact hGlt)).trans hc5
        have hne1 : ¬ R = w.heap.size := by omega
        have hne2 : ¬ G = w.heap.size := by omega
        clear c1 c1' hc5 HS HG hb hb1
        go_wp2_with fail
        go_region
        go_wp2_with fail
        have hs1 := heap_setCell_same w1 w.heap.size 0 _ 3 (.int .i64 ((cn : Int) + 1)) hg1
        have hs2 := heap_setCell_same _ w.heap.size 1 _ 3 (.int .i64 ((cf : Int) + (fr : Int))) hs1
        go_roundw
        case rel =>
          refine ⟨k + 1, by omega, by go_num, ?_, ((hbb.setCell (by simp) _).setCell (by simp) _).drew⟩
          rw [HE.out.1, HE.out.2]
          refine Eq.trans hs2 ?_
          simp
        case measure => simp [intOf]; omega
    · obtain rfl : k = ls.length := by omega
      clear hrow hlt
      go_wp2_with fail
      go_ret
      exact ⟨hb, w.heap.size, rfl, hg⟩

theorem tU35 : Tryz.prog.underlying 37 = some (.slice 94) := by kernel_rfl
theorem info82 : (Tryz.prog.info? 94).map (fun i => (i.zero, i.size, i.bytes)) = some (some (.agg #[.int .i64 0, .int .i64 0, .int .i64 0, .int .i64 0, .int .i64 0, .int .i64 0, .int .i64 0, .int .i64 0, .int .i64 0, .int .i64 0, .slice none 0 0]), 11, 104) := by kernel_rfl

theorem RV.added {w W1 W2 : World} {R : Nat} {v v' : Value} {td : Nat} {rec : ByteArray} {fs : List Value} {ls : List L} {os : List O} {ro : Ro} (h : RV os ro w R v td rec fs ls) {l : L} {f : Value}
    (hW1 : ∀ k, k < w.heap.size → W1.heap[k]? = w.heap[k]?) (hg : W1.grownBy W2 v.ownBlock) (hsz : w.heap.size ≤ W1.heap.size) (hown : W2.ownsRow 0 94 11 v' (ls.length + 1) (flat ls fs ++ refCells l f)) (hl : L.Ok l) (hf : IsSl f) (hlen : ls.length < 30) :
    RV os ro (W2.setCell ⟨R, 1, none⟩ v') R v' td rec (fs ++ [f]) (ls ++ [l]) := by
  have hR := blk_lt h.store
  have hrowR : v.ownBlock ≠ some R := fun e => by
    obtain ⟨cs, hc⟩ := own_ty h.row e
    exact ty_ne h.store hc (by decide) rfl
  have hR2 := ((hg.block R (by omega) (fun e => hrowR e.symm)).trans (hW1 R hR)).trans h.store
  refine ⟨?_, ?_, by simp [h.flen], ?_, ?_, h.today, ?_, by simp; omega⟩
  · have := heap_setCell_same W2 R 1 _ 41 v' hR2
    simpa using this
  · have hk := hown.kept (grownBy_setCell W2 ⟨R, 1, none⟩ v') (Or.inr (fun e => by
      obtain ⟨cs, hc⟩ := own_ty hown (g := R) e
      exact ty_ne hR2 hc (by decide) rfl))
    rw [flat_snoc ls fs l f h.flen, List.length_append]; exact hk
  · intro x hx
    rcases List.mem_append.1 hx with hx | hx
    · exact h.fsl x hx
    · simp at hx; subst hx; exact hf
  · refine h.ord.congr (fun g hgo => ?_)
    have hlt := h.ord.lt hgo
    have hgR : g ≠ R := h.ord.ne hgo h.store (by decide) (by decide)
    have hgv : some g ≠ v.ownBlock := fun e => by
      obtain ⟨cs, hc⟩ := own_ty h.row e.symm
      exact h.ord.ne hgo hc (by decide) (by decide) rfl
    rw [Below.heap_setCell _ _ _ _ hgR, hg.block g (by omega) hgv, hW1 g hlt]
  · intro x hx
    rcases List.mem_append.1 hx with hx | hx
    · exact h.ok x hx
    · simp at hx; subst hx; exact hl

set_option maxHeartbeats 1600000 in
theorem addR_any {w : World} {R : Nat} {v : Value} {td : Nat} {rec : ByteArray} {fs : List Value} {ls : List L} {os : List O} {ro : Ro} (h : RV os ro w R v td rec fs ls) (id goods expiry n : Nat) (fa : Option Addr) (fl fc : Nat) (hlen : ls.length < 30) (h1 : id ≤ 2147483647) (h2 : goods ≤ 2147483647) (h3 : expiry ≤ 2147483647) (h4 : n ≤ 2147483647) :
    Calls Tryz.prog 74 #[.pointer (some ⟨R, 0, none⟩), .int .i64 (id : Int), .int .i64 (goods : Int), .int .i64 (expiry : Int), .int .i64 (n : Int), .slice fa fl fc] w fun e w' => e = .returned (.tuple #[]) ∧ Kp (fun k => k = R ∨ v.ownBlock = some k) w w' ∧
      ∃ v', RV os ro w' R v' td rec (fs ++ [.slice fa fl fc]) (ls ++ [{ id := id, goods := goods, expiry := expiry, place := ls.length + 1, got := n, free := n, held := 0, shipped := 0, scrapped := 0, given := 0 }]) ∧ (∀ g, v'.ownBlock = some g → v.ownBlock = some g ∨ w.heap.size ≤ g) := by
  obtain ⟨i0, hi, hz0, hz1, hz2⟩ := info_parts info82
  obtain ⟨a, cap, hv, _⟩ := h.shape
  have hR := blk_lt h.store
  have c1 := h.c1
  have f1 := blk_free h.store 1
  have hrow := h.row
  rw [hv] at c1 hrow
  have HP := hide h
  obtain ⟨m, HN⟩ : ∃ m, Hid (m = ls.length) := ⟨_, rfl⟩
  rw [← HN.out] at c1 hrow hlen
  have HV := hide hv
  have hvR : (Value.slice a m cap).ownBlock ≠ some R := fun e => by
    obtain ⟨cs, hc⟩ := own_ty hrow e
    exact ty_ne h.store hc (by decide) rfl
  obtain ⟨o, HO⟩ : ∃ o, Hid (o = Obj.cells #[.int .i64 (id : Int), .int .i64 (goods : Int), .int .i64 (expiry : Int), .int .i64 ((m : Int) + 1), .int .i64 (n : Int), .int .i64 (n : Int), .int .i64 0, .int .i64 0, .int .i64 0, .int .i64 0, .slice fa fl fc] 94) := ⟨_, rfl⟩
  have hbl : Below w.heap.size w (w.alloc (Obj.cells #[.int .i64 (id : Int), .int .i64 (goods : Int), .int .i64 (expiry : Int), .int .i64 ((m : Int) + 1), .int .i64 (n : Int), .int .i64 (n : Int), .int .i64 0, .int .i64 0, .int .i64 0, .int .i64 0, .slice fa fl fc] 94)).drew := (al1 w _).drew
  have hbk : (w.alloc (Obj.cells #[.int .i64 (id : Int), .int .i64 (goods : Int), .int .i64 (expiry : Int), .int .i64 ((m : Int) + 1), .int .i64 (n : Int), .int .i64 (n : Int), .int .i64 0, .int .i64 0, .int .i64 0, .int .i64 0, .slice fa fl fc] 94)).drew.heap[w.heap.size]? = some (Obj.cells #[.int .i64 (id : Int), .int .i64 (goods : Int), .int .i64 (expiry : Int), .int .i64 ((m : Int) + 1), .int .i64 (n : Int), .int .i64 (n : Int), .int .i64 0, .int .i64 0, .int .i64 0, .int .i64 0, .slice fa fl fc] 94) := heap_alloc_new w _
  have hone : ∀ u ∈ ([.int .i64 (id : Int), .int .i64 (goods : Int), .int .i64 (expiry : Int), .int .i64 (m + 1), .int .i64 (n : Int), .int .i64 (n : Int), .int .i64 0, .int .i64 0, .int .i64 0, .int .i64 0, .slice fa fl fc] : List Value), u.oneCell' = true := by
    intro u hu
    simp only [List.mem_cons, List.not_mem_nil, or_false] at hu
    rcases hu with rfl | rfl | rfl | rfl | rfl | rfl | rfl | rfl | rfl | rfl | rfl <;> rfl
  have HVR := hide (Ne.symm hvR)
  have hcA : (w.alloc (Obj.cells #[.int .i64 (id : Int), .int .i64 (goods : Int), .int .i64 (expiry : Int), .int .i64 ((m : Int) + 1), .int .i64 (n : Int), .int .i64 (n : Int), .int .i64 0, .int .i64 0, .int .i64 0, .int .i64 0, .slice fa fl fc] 94)).drew.cell? ⟨R, 1, none⟩ = some (.slice a m cap) := (hbl.cell (by exact hR)).trans c1
  have hfA : (w.alloc (Obj.cells #[.int .i64 (id : Int), .int .i64 (goods : Int), .int .i64 (expiry : Int), .int .i64 ((m : Int) + 1), .int .i64 (n : Int), .int .i64 (n : Int), .int .i64 0, .int .i64 0, .int .i64 0, .int .i64 0, .slice fa fl fc] 94)).drew.frozen? ⟨R, 1, none⟩ = false := (hbl.frozen (by exact hR)).trans f1
  have HszA : Hid (R < (w.alloc (Obj.cells #[.int .i64 (id : Int), .int .i64 (goods : Int), .int .i64 (expiry : Int), .int .i64 ((m : Int) + 1), .int .i64 (n : Int), .int .i64 (n : Int), .int .i64 0, .int .i64 0, .int .i64 0, .int .i64 0, .slice fa fl fc] 94)).drew.heap.size) := Nat.lt_of_lt_of_le hR hbl.size
  have HbA := hide hbl
  clear hvR
  have hwr : IntKind.i64.wrap ((m : Int) + 1) = (m : Int) + 1 := by rw [IntWalk.i64_left]; exact wrap64_in _ ⟨by omega, by omega⟩
  clear h hv
  go_enter Tryz.func74, Tryz.ntmps74
  go_wp2_with fail
  go_region_law (refine step_append_lies _ rfl _ _ 37 rfl 0 94 i0 (.agg #[.int .i64 0, .int .i64 0, .int .i64 0, .int .i64 0, .int .i64 0, .int .i64 0, .int .i64 0, .int .i64 0, .int .i64 0, .int .i64 0, .slice none 0 0]) 11 104 tU35 hi hz0 hz1 hz2 rfl (by decide) (.slice a m cap) m (flat ls fs) rfl (own_below hrow hbl) ⟨w.heap.size, 0, none⟩ 1 1 [.int .i64 (id : Int), .int .i64 (goods : Int), .int .i64 (expiry : Int), .int .i64 (m + 1), .int .i64 (n : Int), .int .i64 (n : Int), .int .i64 0, .int .i64 0, .int .i64 0, .int .i64 0, .slice fa fl fc] rfl rfl (World.news_of_block hbk) hone (by decide) (by unfold maxLen; omega) (by omega) (Nat.zero_le _) (w.heap.size + 1) (by simp) ?_; intro g cap' w1 hown2 hgrow hat hlt; have hcw := (hgrow.cell_far ⟨R, 1, none⟩ HszA.out HVR.out).trans hcA; have hfw := (hgrow.frozen_far ⟨R, 1, none⟩ HszA.out HVR.out).trans hfA)
  all_goals
    clear hcA hfA hcw hfw
    have hvb : v.ownBlock = (Value.slice a m cap).ownBlock := by rw [HV.out, HN.out]
    have hgr : ((w.alloc (Obj.cells #[.int .i64 (id : Int), .int .i64 (goods : Int), .int .i64 (expiry : Int), .int .i64 ((m : Int) + 1), .int .i64 (n : Int), .int .i64 (n : Int), .int .i64 0, .int .i64 0, .int .i64 0, .int .i64 0, .slice fa fl fc] 94)).drew).grownBy w1 v.ownBlock := by rw [hvb]; exact hgrow
    have hnew := HP.out.added (l := { id := id, goods := goods, expiry := expiry, place := ls.length + 1, got := n, free := n, held := 0, shipped := 0, scrapped := 0, given := 0 }) (f := .slice fa fl fc) (v' := .slice (some ⟨g, 0, none⟩) (m + 1) cap') (fun k hk => HbA.out.block k hk) hgr HbA.out.size (by rw [← HN.out]; exact hown2) ⟨h1, h2, h3, (by show ls.length + 1 ≤ 30; have := HN.out; omega), (by simp; omega), h4⟩ ⟨_, _, _, rfl⟩ (by have := HN.out; omega)
    have hkp : Kp (fun k => k = R ∨ v.ownBlock = some k) w (w1.setCell ⟨R, 1, none⟩ (.slice (some ⟨g, 0, none⟩) (m + 1) cap')) := by
      refine Kp.setCell ?_ (Or.inl (Or.inl rfl)) _
      exact Kp.grown (kpB HbA.out) hgr (fun k hk => Or.inl (Or.inr hk))
    have hat' : ∀ g', (Value.slice (some ⟨g, 0, none⟩) (m + 1) cap').ownBlock = some g' → v.ownBlock = some g' ∨ w.heap.size ≤ g' := fun g' hg' => by
      cases hg'
      rcases hat with h | h
      · left; rw [hvb]; exact h
      · right; simp at h ⊢; omega
    have HNew := hide hnew
    have HK := hide hkp
    have HA := hide hat'
    clear hnew hkp hat' hgr hvb hgrow hat hlt hown2 hbk hbl hone hwr c1 f1 hrow
    go_wp2_with fail
    go_end0
    exact ⟨rfl, HK.out, _, HNew.out, HA.out⟩

end Go.Proofs.YtclipofifmajeaaGreatDoor
