import Derived.Test.YtlmafelclgeccaaGreatDoorDc3X
import Derived.Test.YtlmafelclgeccaaGreatDoorQ8
import Derived.Deep.CutRange
namespace Go.Proofs.YtlmafelclgeccaaGreatDoor
set_option linter.unusedSimpArgs false
set_option linter.unusedVariables false
open Go.RowKit
set_option maxRecDepth 100000

/-- Where the loop of 'recalls' stands: what it has told; the sorted numbers; the store. -/
structure RecI (w6 w8 : World) (os : List O) (rcs : List (Nat × Nat)) (ro : Ro) (R : Nat) (v : Value) (td : Nat) (rec : ByteArray) (fs : List Value) (ls : List L) (s : List Nat) (sg sc : Nat) (wr : World) (k g oc : Nat) : Prop where
  rv : RV os rcs ro wr R v td rec fs ls
  row : wr.ownsRow 0 3 1 (.slice (some ⟨sg, 0, none⟩) s.length sc) s.length (I s)
  out : wr.ownsRow w6.heap.size 3 1 (.slice (some ⟨g, 0, none⟩) (1 + (hN ls (s.take k)).length * 2) oc) (1 + (hN ls (s.take k)).length * 2) (I ((hN ls (s.take k)).length :: tN ls (hN ls (s.take k))))
  at' : g = w6.heap.size ∨ w8.heap.size ≤ g
  below : Below w6.heap.size w6 wr
  sz : w8.heap.size ≤ wr.heap.size

set_option maxHeartbeats 6400000 in
theorem recallsR_ok {rcs : List (Nat × Nat)} {w : World} {R : Nat} {v : Value} {td : Nat} {rec : ByteArray} {fs : List Value} {ls : List L} {os : List O} {ro : Ro} (h : RV os rcs ro w R v td rec fs ls) (gn cap0 : Nat) (a m : Nat) (hns : NS w gn [a, m]) (h1 : a ≤ 2147483647) (h2 : m ≤ 2147483647) (hi : idx a ls < ls.length) (hc : rcs.contains (a, m) = false) (h10 : ¬ 10 ≤ rcs.length) :
    Calls Tryz.prog 63 #[.pointer (some ⟨R, 0, none⟩), .slice (some ⟨gn, 0, none⟩) 2 cap0] w fun e w' => Kp (fun b => b = R ∨ ro.rv.ownBlock = some b) w w' ∧ (∃ ro', RV os (rcs ++ [(a, m)]) ro' w' R v td rec fs ls ∧ ∀ b, OB ro' b → OB ro b ∨ w.heap.size ≤ b) ∧ ∃ g c, e = .returned (.tuple #[.slice (some ⟨g, 0, none⟩) (toldQ ls (heldQ ls a)).length c, .int .i64 0]) ∧ g ≠ R ∧ Rw w' g (toldQ ls (heldQ ls a)) := by
  obtain ⟨i3, hi3, hy0, hy1, hy2⟩ := info_parts info3
  obtain ⟨ip, hip, hp0, hp1, hp2⟩ := info_parts infoPart
  obtain ⟨⟨cs, hcs⟩, hcl⟩ := hns
  have n0 : w.cell? ⟨gn, 0, none⟩ = some (.int .i64 (a : Int)) := hcl 0 (by simp)
  have n1 : w.cell? ⟨gn, 1, none⟩ = some (.int .i64 (m : Int)) := hcl 1 (by simp)
  have hgn := blk_lt hcs
  have HA := hide (at_any h a h1)
  have HX : Hid (∀ n, Calls Tryz.prog 104 #[.pointer (some ⟨R, 0, none⟩), .int .i64 (a : Int), .int .i64 (m : Int)] (w.drewN n) fun e w' => e = .returned (.int .i64 (rixV rcs a m)) ∧ w' = w.drewN n) := fun n => recallIx_any (h.below (below_drewN (Below.refl _ _) n)) a m
  have HV0 : Hid (atV ls a = (idx a ls : Int)) := by unfold Hid atV; rw [if_pos hi]
  rw [HV0.out] at HA
  have HV : Hid (rixV rcs a m = -1) := by unfold Hid rixV; rw [if_neg (fun q => by rw [rix_has.1 q] at hc; cases hc)]
  rw [HV.out] at HX
  have HI := hide hi
  have HRC := hide (h.rc.put h1 h2 hc h10)
  have HCS := hide hcs
  obtain ⟨ix, HIX⟩ : ∃ ix, Hid (ix = idx a ls) := ⟨_, rfl⟩
  rw [← HIX.out] at HA
  obtain ⟨ra, rcap, hrv, _⟩ := h.rshape
  have c3 := h.c3
  rw [hrv] at c3
  have hrow := h.ord.fd.rrow
  rw [hrv] at hrow
  have HRVs := hide hrv
  have f3 := blk_free h.store 3
  have hRlt := blk_lt h.store
  have HP := hide h
  obtain ⟨rn, HRN⟩ : ∃ rn, Hid (rn = rcs.length) := ⟨_, rfl⟩
  rw [← HRN.out] at c3 h10 hrow
  have hrn : rn < 10 := by omega
  have hrR : (Value.slice ra rn rcap).ownBlock ≠ some R := own_ne_lot hrow h.store (by decide)
  clear h hcl hcs HV HV0 hc hi hrv h10
  go_enter Tryz.func63, Tryz.ntmps63
  go_wp2_with (go_at_call 99; refine (HA.out).mono ?_; rintro e w1 ⟨rfl, rfl⟩)
  go_quiet ((go_at_call 104; exact Calls.quiet_of_same (HX.out _)))
  go_wp2_with fail
  obtain ⟨wq, HWQ⟩ : ∃ wq, Hid (wq = w1.drewN nq) := ⟨_, rfl⟩
  have HB0 : Hid (Below w1.heap.size w1 wq) := by unfold Hid; rw [HWQ.out]; exact below_drewN (Below.refl _ _) nq
  have HSZ : Hid (wq.heap.size = w1.heap.size) := by unfold Hid; rw [HWQ.out]; rfl
  have hrow0 := own_below hrow HB0.out
  have x0 := (HB0.out.cell (p := ⟨gn, 0, none⟩) hgn).trans n0
  have x1 := (HB0.out.cell (p := ⟨gn, 1, none⟩) hgn).trans n1
  have x3 := (HB0.out.cell (p := ⟨R, 3, none⟩) hRlt).trans c3
  have xf := (HB0.out.frozen (p := ⟨R, 3, none⟩) hRlt).trans f3
  have hRq : R < wq.heap.size := by rw [HSZ.out]; exact hRlt
  have hgq : gn < wq.heap.size := by rw [HSZ.out]; exact hgn
  have HPq := hide (HP.out.below HB0.out)
  rw [← HWQ.out]
  clear HWQ n0 n1 c3 f3 HX HA hrow
  have hbl : Below wq.heap.size wq (wq.alloc (.cells #[.int .i64 (a : Int), .int .i64 (m : Int)] 170)).drew := (al1 wq _).drew
  have hbk : (wq.alloc (.cells #[.int .i64 (a : Int), .int .i64 (m : Int)] 170)).drew.heap[wq.heap.size]? = some (.cells #[.int .i64 (a : Int), .int .i64 (m : Int)] 170 (0, 0)) := heap_alloc_new wq _
  have hone : ∀ u ∈ ([.int .i64 (a : Int), .int .i64 (m : Int)] : List Value), u.oneCell' = true := by
    intro u hu; simp at hu; rcases hu with rfl | rfl <;> rfl
  have hcA : (wq.alloc (.cells #[.int .i64 (a : Int), .int .i64 (m : Int)] 170)).drew.cell? ⟨R, 3, none⟩ = some (.slice ra rn rcap) := (hbl.cell (by exact hRq)).trans x3
  have hfA : (wq.alloc (.cells #[.int .i64 (a : Int), .int .i64 (m : Int)] 170)).drew.frozen? ⟨R, 3, none⟩ = false := (hbl.frozen (by exact hRq)).trans xf
  have HszA : Hid (R < (wq.alloc (.cells #[.int .i64 (a : Int), .int .i64 (m : Int)] 170)).drew.heap.size) := Nat.lt_of_lt_of_le hRq hbl.size
  have HVR := hide (Ne.symm hrR)
  have HBL := hide hbl
  have hrow' := own_below hrow0 hbl
  have hrvb : (Value.slice ra rn rcap).ownBlock = ro.rv.ownBlock := by rw [HRVs.out, HRN.out]
  have HFN : Hid (∀ (g2 cap2 : Nat) (w5 : World), (wq.alloc (.cells #[.int .i64 (a : Int), .int .i64 (m : Int)] 170)).drew.grownBy w5 (Value.slice ra rn rcap).ownBlock → w5.ownsRow 0 170 2 (.slice (some ⟨g2, 0, none⟩) (rn + 1) cap2) (rn + 1) (lflat rcs ++ [.int .i64 (a : Int), .int .i64 (m : Int)]) → ((Value.slice ra rn rcap).ownBlock = some g2 ∨ g2 = wq.heap.size + 1) →
      RV os (rcs ++ [(a, m)]) { ro with rv := .slice (some ⟨g2, 0, none⟩) (rn + 1) cap2 } (w5.setCell ⟨R, 3, none⟩ (.slice (some ⟨g2, 0, none⟩) (rn + 1) cap2)) R v td rec fs ls ∧ (∀ b, OB { ro with rv := .slice (some ⟨g2, 0, none⟩) (rn + 1) cap2 } b → OB ro b ∨ w1.heap.size ≤ b) ∧ Kp (fun b => b = R ∨ ro.rv.ownBlock = some b) w1 (w5.setCell ⟨R, 3, none⟩ (.slice (some ⟨g2, 0, none⟩) (rn + 1) cap2)) ∧ gn < (w5.setCell ⟨R, 3, none⟩ (.slice (some ⟨g2, 0, none⟩) (rn + 1) cap2)).heap.size ∧ (w5.setCell ⟨R, 3, none⟩ (.slice (some ⟨g2, 0, none⟩) (rn + 1) cap2)).cell? ⟨gn, 0, none⟩ = some (.int .i64 (a : Int))) := fun g2 cap2 w5 hgrow hown5 hat => by
    have hat' : ∀ g, (Value.slice (some ⟨g2, 0, none⟩) (rn + 1) cap2).ownBlock = some g → ro.rv.ownBlock = some g ∨ wq.heap.size ≤ g := fun g hg => by
      cases hg
      rcases hat with q | q
      · left; rw [← hrvb]; exact q
      · right; show wq.heap.size ≤ g2; omega
    have hgn5 : w5.heap[gn]? = w1.heap[gn]? := by
      rw [hgrow.block gn (by have := hbl.size; omega) (fun e => by
        obtain ⟨cs', hc'⟩ := own_ty hrow0 e.symm
        exact ty_ne ((HB0.out.block gn hgn).trans HCS.out) hc' (by decide) rfl), hbl.block gn hgq, HB0.out.block gn hgn]
    have hgR : gn ≠ R := ty_ne HCS.out HP.out.store (by decide)
    refine ⟨HPq.out.recl (fun k hk => hbl.block k hk) hbl.size (by rw [← hrvb]; exact hgrow) (by rw [lflat_app, List.length_append, List.length_singleton, ← HRN.out]; exact hown5) hat' HRC.out, fun b hb => ?_, ?_, ?_, ?_⟩
    · rcases OB_recl hat' b hb with q | q
      · exact Or.inl q
      · right; rw [HSZ.out] at q; exact q
    · refine Kp.setCell (Z := fun b => b = R ∨ ro.rv.ownBlock = some b) ?_ (p := ⟨R, 3, none⟩) (Or.inl (Or.inl rfl)) _
      refine Kp.grown (kpB (HB0.out.trans (hbl.mono (by rw [HSZ.out]; exact Nat.le_refl _)))) hgrow (fun k hk => Or.inl (Or.inr (by rw [← hrvb]; exact hk)))
    · have hs5 := hgrow.size; have hs6 := hbl.size; simp [World.setCell]; omega
    · have hq : (w5.setCell ⟨R, 3, none⟩ (.slice (some ⟨g2, 0, none⟩) (rn + 1) cap2)).heap[gn]? = w1.heap[gn]? := by rw [Below.heap_setCell _ _ _ _ hgR]; exact hgn5
      exact (World.cell?_of_block (a := ⟨gn, 0, none⟩) hq).trans ((HB0.out.cell (p := ⟨gn, 0, none⟩) hgn).symm.trans x0)
  go_cut [] from 12 (fun w6 => ∃ ro', RV os (rcs ++ [(a, m)]) ro' w6 R v td rec fs ls ∧ (∀ b, OB ro' b → OB ro b ∨ w1.heap.size ≤ b) ∧ Kp (fun b => b = R ∨ ro.rv.ownBlock = some b) w1 w6 ∧ gn < w6.heap.size ∧ w6.cell? ⟨gn, 0, none⟩ = some (.int .i64 (a : Int)))
  case first =>
    go_region_law (refine step_append_lies _ (by rfl) _ _ _ (by rfl) 0 170 ip (.agg #[.int .i64 0, .int .i64 0]) 2 16 tUParts hip hp0 hp1 hp2 rfl (by decide) (.slice ra rn rcap) rn (lflat rcs) (by rfl) hrow' ⟨wq.heap.size, 0, none⟩ 1 1 [.int .i64 (a : Int), .int .i64 (m : Int)] (by rfl) (by rfl) (World.news_of_block hbk) hone (by decide) (by unfold maxLen; omega) (by omega) (Nat.zero_le _) (wq.heap.size + 1) (by simp) ?_; intro g2 cap2 w5 hown5 hgrow hat hlt5; have hcw := (hgrow.cell_far ⟨R, 3, none⟩ HszA.out HVR.out).trans hcA; have hfw := (hgrow.frozen_far ⟨R, 3, none⟩ HszA.out HVR.out).trans hfA)
    all_goals
      have HFI := hide (HFN.out g2 cap2 w5 hgrow hown5 hat)
      clear hown5 hgrow hat hlt5 hcw hfw hcA hfA x0 x1 x3 xf hbl hbk hone hrow' hrow0 HFN
      go_wp2_with fail
      go_meet
      case rel => exact ⟨_, HFI.out⟩
  case rest =>
    obtain ⟨ro', hrv6, hob6, hkp6, hgn6, y0⟩ := hcut
    obtain ⟨w6, rfl⟩ : ∃ w6, w6 = wc := ⟨wc, rfl⟩
    have HRV6 := hide hrv6
    have HOB6 := hide hob6
    have HKP6 := hide hkp6
    clear hrv6 hob6 hkp6 x0 x1 x3 xf hbl hbk hone hrow' hrow0 HFN hcA hfA HszA HVR HBL hrvb
    have hA1 : Below w6.heap.size w6 (w6.alloc (.cells #[.int .i64 0] 3)) := al1 w6 _
    have HCM := hide (comes_any (HRV6.out.below hA1) a h1)
    have HOUT0 : Hid ((w6.alloc (.cells #[.int .i64 0] 3)).ownsRow w6.heap.size 3 1 (.slice (some ⟨w6.heap.size, 0, none⟩) 1 1) 1 (I [0])) := World.ownsRow_lit w6 #[.int .i64 0] 1 (Nat.le_refl _) (by unfold maxLen; omega) rfl
    have HA1 := hide hA1
    have HCL : Hid ((comL ls a).length ≤ 31) := by
      have q1 := comL_len ls a
      have q2 := HRV6.out.room
      unfold Hid; omega
    have HCB : Hid (∀ n ∈ comL ls a, n ≤ 2147483647) := fun n hn => by
      obtain ⟨q1, q2⟩ := comL_idx HI.out hn
      have := (HRV6.out.ok _ (mem_getD q1)).id
      rw [q2] at this; exact this
    clear hA1
    go_wp2_with (first
      | (go_at_call 106; refine (HCM.out).mono ?_; rintro e w7 ⟨hb7, v7, rfl, hrow7⟩; have HB7 := hide hb7; have HSO := hide (sorted_any hrow7 HCL.out (comL_nodup ls a) HCB.out); clear hb7 hrow7)
      | (go_at_call 105; refine (HSO.out).mono ?_; rintro e w8 ⟨hb8, v8, s, rfl, hperm, hsrt, hrow8⟩))
    have hspos : 0 < s.length := by
      rw [hperm.length_eq]
      have := comP_ge ls [a] ls.length (Nat.le_refl _)
      rw [List.take_length] at this
      unfold comL; exact this
    obtain ⟨sg, sc, hsv, hsgb, hsglt⟩ := own_some hrow8 hspos
    subst hsv
    have hA7 : w6.heap.size + 1 ≤ w7.heap.size := by have := HB7.out.size; simp at this; exact this
    have hb68 : Below w6.heap.size w6 w8 := HA1.out.trans ((HB7.out.mono HA1.out.size).trans (hb8.mono (Nat.le_trans HA1.out.size HB7.out.size)))
    have HINI : Hid (RecI w6 w8 os (rcs ++ [(a, m)]) ro' R v td rec fs ls s sg sc w8 0 w6.heap.size 1) := ⟨HRV6.out.below hb68, own_base hrow8, own_below HOUT0.out (HB7.out.trans (hb8.mono HB7.out.size)), Or.inl rfl, hb68, Nat.le_refl _⟩
    have HPM := hide hperm
    have HSR := hide hsrt
    have HSL : Hid (s.length ≤ 31) := by unfold Hid; rw [hperm.length_eq]; exact HCL.out
    have hsl31 : s.length ≤ 31 := HSL.out
    have hs68 := hb68.size
    have HSG : Hid (w6.heap.size < sg ∧ sg < w8.heap.size) := ⟨by omega, hsglt⟩
    have hlspos : 0 < ls.length := by have := HI.out; omega
    clear hperm hsrt hrow8 hb8 hb68 hsgb hA7 HSO HB7 HCM HOUT0 HA1 y0 hsglt hs68
    go_loopw [8, 10, 11] (fun oo ii _ wr => ∃ (k g c : Nat), ii = .int .i64 k ∧ k ≤ s.length ∧ oo = .slice (some ⟨g, 0, none⟩) (1 + (hN ls (s.take k)).length * 2) c ∧ RecI w6 w8 os (rcs ++ [(a, m)]) ro' R v td rec fs ls s sg sc wr k g c) (fun _ ii _ _ => s.length - (intOf ii).toNat)
    case atStart => exact ⟨0, w6.heap.size, 1, rfl, by omega, rfl, HINI.out⟩
    case round =>
      clear HINI
      obtain ⟨k, g, oc, rfl, hk, rfl, hI⟩ := hrel
      have hql : (hN ls (s.take k)).length ≤ 31 := by
        have q1 := hN_len ls (s.take k)
        rw [List.length_take] at q1; omega
      by_cases hlt : k < s.length
      · have hmem : s.getD k 0 ∈ comL ls a := HPM.out.mem_iff.1 (by simp [List.getD_eq_getElem?_getD, hlt])
        obtain ⟨hc, hcid⟩ := comL_idx HI.out hmem
        have hck := ownInts_cell hI.row k hlt
        have hxb := HCB.out _ hmem
        have HAT := hide (at_any hI.rv (s.getD k 0) hxb)
        have hatv : atV ls (s.getD k 0) = (idx (s.getD k 0) ls : Int) := by unfold atV; rw [if_pos hc]
        rw [hatv] at HAT
        obtain ⟨va, vcap, hv, hcells⟩ := hI.rv.shape
        obtain ⟨G, hG, hGlt, hcl⟩ := hcells hlspos
        subst hG
        have cR := hI.rv.c1
        rw [hv] at cR
        have e6 : wr.cell? ⟨G, idx (s.getD k 0) ls * 11 + 6, none⟩ = some (.int .i64 (heldOfN ls (s.getD k 0) : Int)) := hcl _ hc 6 (by omega)
        have hok := hI.rv.ok _ (mem_getD hc)
        have hhb : heldOfN ls (s.getD k 0) ≤ 2147483647 := by have := hok.sum; unfold heldOfN; omega
        have HN1 : Hid (0 < heldOfN ls (s.getD k 0) → hN ls (s.take (k + 1)) = hN ls (s.take k) ++ [s.getD k 0] ∧ tN ls (hN ls (s.take (k + 1))) = tN ls (hN ls (s.take k)) ++ [s.getD k 0, heldOfN ls (s.getD k 0)]) := fun hp => by
          have e := hN_take (ls := ls) hlt
          rw [if_pos hp] at e
          exact ⟨e, by rw [e, tN_snoc]⟩
        have HN0 : Hid (¬ 0 < heldOfN ls (s.getD k 0) → hN ls (s.take (k + 1)) = hN ls (s.take k)) := fun hp => by
          rw [hN_take (ls := ls) hlt, if_neg hp]
        generalize heldOfN ls (s.getD k 0) = hd at *
        generalize hx : s.getD k 0 = x at *
        generalize idx x ls = c at *
        have HII := hide hI
        have HVV := hide hv
        clear hx hmem hcid hatv hcells hcl hok hI hv
        by_cases hpos : 0 < hd
        · obtain ⟨HN, HT⟩ : Hid (hN ls (s.take (k + 1)) = hN ls (s.take k) ++ [x]) ∧ Hid (tN ls (hN ls (s.take (k + 1))) = tN ls (hN ls (s.take k)) ++ [x, hd]) := HN1.out hpos
          obtain ⟨qn, HQN⟩ : ∃ qn, Hid (qn = (hN ls (s.take k)).length) := ⟨_, rfl⟩
          rw [← HQN.out] at hql
          rw [← HQN.out]
          have hout := HII.out.out
          rw [← HQN.out] at hout
          have hc0 : wr.cell? ⟨g, 0, none⟩ = some (.int .i64 (qn : Int)) := by rw [hout.cellAt 0 (by omega)]; rfl
          have hf0 := hout.frozenAt 0
          have hg1 := (hout.lt g rfl).1
          have HO := hide hout
          clear HN1 HN0 hout
          go_wp2_with (go_at_call 99; with_reducible refine (HAT.out).mono ?_; rintro e w3 ⟨rfl, hw3⟩; have hw4 := hw3.symm; subst hw4)
          have hgs : ¬ sg = g := by
            have q1 := HSG.out
            rcases HII.out.at' with q | q <;> omega
          have hgsw : ∀ b, b ≠ g → (wr.setCell ⟨g, 0, none⟩ (.int .i64 ((qn : Int) + 1))).heap[b]? = wr.heap[b]? := fun b hb => Below.heap_setCell _ _ _ _ hb
          have hty : ∀ (b : Nat) (cs : Array Value) (t : TypeId), wr.heap[b]? = some (.cells cs t (0, 0)) → t ≠ 3 → b ≠ g := fun b cs t hb ht => by
            obtain ⟨cs', hc'⟩ := own_ty HO.out (g := g) rfl
            exact ty_ne hb hc' ht
          have HRT : Hid (RV os (rcs ++ [(a, m)]) ro' (wr.setCell ⟨g, 0, none⟩ (.int .i64 ((qn : Int) + 1))) R v td rec fs ls) := HII.out.rv.typed (fun b cs t hb ht => hgsw b (hty b cs t hb ht))
          have HWT : Hid ((wr.setCell ⟨g, 0, none⟩ (.int .i64 ((qn : Int) + 1))).ownsRow 0 3 1 (.slice (some ⟨sg, 0, none⟩) s.length sc) s.length (I s)) := own_congr HII.out.row (fun b hb => hgsw b (by cases hb; exact hgs))
          have HOT : Hid ((wr.setCell ⟨g, 0, none⟩ (.int .i64 ((qn : Int) + 1))).ownsRow w6.heap.size 3 1 (.slice (some ⟨g, 0, none⟩) (1 + qn * 2) oc) (1 + qn * 2) (I ((qn + 1) :: tN ls (hN ls (s.take k))))) := (HO.out.stored 0 (.int .i64 ((qn : Int) + 1))).1
          have HBT : Hid (Below w6.heap.size w6 (wr.setCell ⟨g, 0, none⟩ (.int .i64 ((qn : Int) + 1)))) := HII.out.below.setCell (p := ⟨g, 0, none⟩) hg1 _
          have HST : Hid (w8.heap.size ≤ (wr.setCell ⟨g, 0, none⟩ (.int .i64 ((qn : Int) + 1))).heap.size) := by have := HII.out.sz; unfold Hid; simp; exact this
          have hRg : ¬ R = g := hty _ _ _ HII.out.rv.store (by decide)
          have hGg : ¬ G = g := by
            have hrowv := HII.out.rv.row
            rw [HVV.out] at hrowv
            obtain ⟨csG, hcsG⟩ := own_ty hrowv rfl
            exact hty _ _ _ hcsG (by decide)
          have z1 : (wr.setCell ⟨g, 0, none⟩ (.int .i64 ((qn : Int) + 1))).cell? ⟨sg, k, none⟩ = some (.int .i64 (x : Int)) := (World.cell?_of_block (a := ⟨sg, k, none⟩) (hgsw _ hgs)).trans hck
          have z2 : (wr.setCell ⟨g, 0, none⟩ (.int .i64 ((qn : Int) + 1))).cell? ⟨R, 1, none⟩ = some (.slice (some ⟨G, 0, none⟩) ls.length vcap) := (World.cell?_of_block (a := ⟨R, 1, none⟩) (hgsw _ hRg)).trans cR
          have z3 : (wr.setCell ⟨g, 0, none⟩ (.int .i64 ((qn : Int) + 1))).cell? ⟨G, c * 11 + 6, none⟩ = some (.int .i64 (hd : Int)) := (World.cell?_of_block (a := ⟨G, c * 11 + 6, none⟩) (hgsw _ hGg)).trans e6
          have HAT' := hide HII.out.at'
          clear hgsw hty hck cR e6 hc0 hf0 HII HO hgs hRg hGg
          generalize wr.setCell ⟨g, 0, none⟩ (.int .i64 ((qn : Int) + 1)) = wt at *
          have hszT : w6.heap.size ≤ wt.heap.size := HBT.out.size
          have hbl : Below wt.heap.size wt (wt.alloc (.cells #[.int .i64 (x : Int), .int .i64 (hd : Int)] 3)).drew := (al1 wt _).drew
          have hbk : (wt.alloc (.cells #[.int .i64 (x : Int), .int .i64 (hd : Int)] 3)).drew.heap[wt.heap.size]? = some (.cells #[.int .i64 (x : Int), .int .i64 (hd : Int)] 3 (0, 0)) := heap_alloc_new wt _
          have hone : ∀ u ∈ ([.int .i64 (x : Int), .int .i64 (hd : Int)] : List Value), u.oneCell' = true := by
            intro u hu; simp at hu; rcases hu with rfl | rfl <;> rfl
          have hout3 := own_below HOT.out hbl
          have HBL := hide hbl
          go_region_law (refine step_append_lies _ (by rfl) _ _ _ (by rfl) w6.heap.size 3 i3 (.int .i64 0) 1 8 tUInts hi3 hy0 hy1 hy2 rfl (by decide) (.slice (some ⟨g, 0, none⟩) (1 + qn * 2) oc) (1 + qn * 2) (I ((qn + 1) :: tN ls (hN ls (s.take k)))) (by rfl) hout3 ⟨wt.heap.size, 0, none⟩ 2 2 [.int .i64 (x : Int), .int .i64 (hd : Int)] (by rfl) (by rfl) (World.news_of_block hbk) hone (by decide) (by unfold maxLen; omega) (by omega) (by simp; omega) (wt.heap.size + 1) (by simp) ?_; intro g2 cap2 w5 hown5 hgrow hat hlt5)
          all_goals
            have hnl : (hN ls (s.take (k + 1))).length = qn + 1 := by rw [HN.out, List.length_append, List.length_singleton, ← HQN.out]
            have e1 : I ((qn + 1) :: tN ls (hN ls (s.take k))) ++ [.int .i64 (x : Int), .int .i64 (hd : Int)] = I ((hN ls (s.take (k + 1))).length :: tN ls (hN ls (s.take (k + 1)))) := by rw [hnl, HT.out]; simp [I]
            rw [e1] at hown5
            have hb5 : ∀ b, b < wt.heap.size → b ≠ g → w5.heap[b]? = wt.heap[b]? := fun b hb hne => (hgrow.block b (Nat.lt_of_lt_of_le hb HBL.out.size) (fun e => hne (by injection e))).trans (HBL.out.block b hb)
            have hne3 : ∀ (b : Nat) (cs : Array Value) (t : TypeId), wt.heap[b]? = some (.cells cs t (0, 0)) → t ≠ 3 → w5.heap[b]? = wt.heap[b]? := fun b cs t hb ht => hb5 b (blk_lt hb) (by
              obtain ⟨cs', hc'⟩ := own_ty HOT.out (g := g) rfl
              exact ty_ne hb hc' ht)
            have hsgne : sg ≠ g := by
              have q1 := HSG.out
              rcases HAT'.out with q | q <;> omega
            have hsgl : sg < wt.heap.size := Nat.lt_of_lt_of_le HSG.out.2 HST.out
            have HI5 : Hid (RecI w6 w8 os (rcs ++ [(a, m)]) ro' R v td rec fs ls s sg sc w5 (k + 1) g2 cap2) := by
              refine ⟨HRT.out.typed hne3, own_congr HWT.out (fun b hb => by cases hb; exact hb5 sg hsgl hsgne), ?_, ?_, ?_, ?_⟩
              · rw [show 1 + (hN ls (s.take (k + 1))).length * 2 = 1 + qn * 2 + 2 by rw [hnl]; omega]; exact hown5
              · rcases hat with q | q
                · injection q with q; rw [← q]; exact HAT'.out
                · right; have := HST.out; omega
              · exact (HBT.out.trans (HBL.out.mono hszT)).grown hgrow (Nat.le_trans hszT HBL.out.size) (fun b hb => by injection hb with hb; rw [← hb]; exact hg1)
              · exact Nat.le_trans HST.out (Nat.le_trans HBL.out.size hgrow.size)
            have HNL := hide hnl
            clear hnl e1 hown5 hgrow hat hlt5 hb5 hne3 hsgne hsgl hbl hbk hone hout3 z1 z2 z3
            go_wp2_with fail
            go_roundw
            case rel => exact ⟨k + 1, g2, cap2, by go_num, by omega, by rw [HNL.out, show 1 + (qn + 1) * 2 = 1 + qn * 2 + 2 by omega], HI5.out⟩
            case measure => simp [intOf]; omega
        · have HN := hide (HN0.out hpos)
          clear HN1 HN0
          go_wp2_with (go_at_call 99; with_reducible refine (HAT.out).mono ?_; rintro e w3 ⟨rfl, hw3⟩; have hw4 := hw3.symm; subst hw4)
          go_roundw
          case rel => exact ⟨k + 1, g, oc, by go_num, by omega, by rw [HN.out], ⟨HII.out.rv, HII.out.row, by rw [HN.out]; exact HII.out.out, HII.out.at', HII.out.below, HII.out.sz⟩⟩
          case measure => simp [intOf]; omega
      · obtain rfl : k = s.length := by omega
        have HII := hide hI
        have hout := hI.out
        rw [List.take_length] at hout
        have HTD := hide (held_told HRV6.out.fam.ids HI.out HPM.out HSR.out)
        have HTL : Hid ((toldQ ls (heldQ ls a)).length = 1 + (hN ls (s.take s.length)).length * 2) := by
          unfold Hid; rw [← HTD.out, List.take_length, List.length_cons, tN_len]; omega
        have HRW : Hid (Rw wr g (toldQ ls (heldQ ls a))) := by
          have hlt' := (hout.lt g rfl).2
          rw [HTD.out] at hout
          have hl2 := HTL.out
          rw [List.take_length] at hl2
          rw [← hl2] at hout
          exact ⟨hlt', fun j hj => ownInts_cell hout j hj⟩
        have HKF : Hid (Kp (fun b => b = R ∨ ro.rv.ownBlock = some b) w1 wr) := HKP6.out.after hI.below
        have HGR : Hid (g ≠ R) := by
          have q1 := (hI.out.lt g rfl).1
          have q2 := HKP6.out.size
          unfold Hid; omega
        clear hI hout hlt
        go_wp2_with fail
        go_ret2
        exact ⟨HKF.out, ⟨ro', HII.out.rv, HOB6.out⟩, g, oc, by rw [HTL.out]; rfl, HGR.out, HRW.out⟩

end Go.Proofs.YtlmafelclgeccaaGreatDoor
