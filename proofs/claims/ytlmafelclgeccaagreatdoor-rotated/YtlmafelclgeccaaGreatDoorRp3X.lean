import Derived.Test.YtlmafelclgeccaaGreatDoorHlX
import Derived.Test.YtlmafelclgeccaaGreatDoorOd4X
namespace Go.Proofs.YtlmafelclgeccaaGreatDoor
set_option linter.unusedSimpArgs false
set_option linter.unusedVariables false
open Go.RowKit
set_option maxRecDepth 100000

set_option maxHeartbeats 1600000 in
theorem told_line {w : World} {a : Option Addr} {cap : Nat} {bs : List Nat} {ls : List L} {l : List (Nat × Nat)} (h : LineAt w bs a l) (hl : l.length ≤ 30) (hs : ∀ k, k < l.length → (l.getD k (0, 0)).2 ≤ 2147483647) (hlo : LotsOK w bs ls) (hok : ∀ x ∈ ls, L.Ok x) (hin : ∀ p ∈ l, p.1 < ls.length) :
    Calls Tryz.prog 128 #[.slice a l.length cap] w fun e w' => Below w.heap.size w w' ∧ ∃ g c, e = .returned (.slice (some ⟨g, 0, none⟩) (toldQ ls l).length c) ∧ w'.ownsRow w.heap.size 2 1 (.slice (some ⟨g, 0, none⟩) (toldQ ls l).length c) (toldQ ls l).length (I (toldQ ls l)) := by
  obtain ⟨i0, hi, hz0, hz1, hz2⟩ := info_parts info2
  have HC := hide (fun k hk => h k hk)
  have HLO := hide hlo
  have HOK := hide hok
  have HIN := hide hin
  have HS := hide hs
  have HL0 : Hid ((w.alloc (.cells #[.int .i64 (l.length : Int)] 2)).ownsRow w.heap.size 2 1 (.slice (some ⟨w.heap.size, 0, none⟩) 1 1) 1 (I (l.length :: toldL ls (l.take 0)))) := World.ownsRow_lit w #[.int .i64 (l.length : Int)] 1 (Nat.le_refl _) (by unfold maxLen; omega) rfl
  clear h hlo hok hin hs
  go_enter Tryz.func128, Tryz.ntmps128
  go_wp2_with fail
  go_loopw [3, 5, 11] (fun nn _ ii wr => ∃ (k g c : Nat), ii = .int .i64 k ∧ k ≤ l.length ∧ nn = .slice (some ⟨g, 0, none⟩) (1 + k * 2) c ∧ wr.ownsRow w.heap.size 2 1 (.slice (some ⟨g, 0, none⟩) (1 + k * 2) c) (1 + k * 2) (I (l.length :: toldL ls (l.take k))) ∧ Below w.heap.size w wr) (fun _ _ ii _ => l.length - (intOf ii).toNat)
  case atStart => exact ⟨0, _, _, rfl, by omega, rfl, HL0.out, al1 w _⟩
  case round =>
    clear HL0
    obtain ⟨k, g, c, rfl, hk, rfl, hown, hb⟩ := hrel
    by_cases hlt : k < l.length
    · obtain ⟨G, rfl, hGlt, g1, g2⟩ := HC.out k hlt
      have c1 := (hb.cell (p := ⟨G, k * 2, none⟩) (by exact hGlt)).trans g1
      have c2 := (hb.cell (p := ⟨G, k * 2 + 1, none⟩) (by exact hGlt)).trans g2
      have hpm : l.getD k (0, 0) ∈ l := by simp [List.getD_eq_getElem?_getD, hlt]
      have hc := HIN.out _ hpm
      obtain ⟨pv, hcl⟩ := (HLO.out.below hb) _ hc
      have hok1 := HOK.out _ (mem_getD hc)
      have HT : Hid (toldL ls (l.take (k + 1)) = toldL ls (l.take k) ++ [(ls.getD (l.getD k (0, 0)).1 L0).id, (l.getD k (0, 0)).2]) := by
        have e : l.take (k + 1) = l.take k ++ [l.getD k (0, 0)] := by
          rw [List.take_succ_eq_append_getElem hlt]; simp [List.getD_eq_getElem?_getD, hlt]
        unfold Hid; rw [e, toldL_snoc]
      have hxb : (l.getD k (0, 0)).2 ≤ 2147483647 := HS.out k hlt
      have hid := hok1.id
      have hc0 : wr.cell? ⟨bs.getD (l.getD k (0, 0)).1 0, 0, none⟩ = some (.int .i64 ((ls.getD (l.getD k (0, 0)).1 L0).id : Int)) := by rw [blk_cell hcl]; rfl
      have hblt := blk_lt hcl
      generalize (l.getD k (0, 0)).2 = x at *
      generalize (ls.getD (l.getD k (0, 0)).1 L0).id = id at *
      generalize bs.getD (l.getD k (0, 0)).1 0 = bk at *
      have hB := al1 wr (.cells #[.pointer (some ⟨bk, 0, none⟩), .int .i64 (x : Int)] 212)
      have hbox := heap_alloc_new wr (.cells #[.pointer (some ⟨bk, 0, none⟩), .int .i64 (x : Int)] 212)
      clear g1 g2 hcl hok1 hpm hc
      go_wp2_with fail
      have d0 : (wr.alloc (.cells #[.pointer (some ⟨bk, 0, none⟩), .int .i64 (x : Int)] 212)).cell? ⟨wr.heap.size, 0, none⟩ = some (.pointer (some ⟨bk, 0, none⟩)) := by rw [blk_cell hbox]; rfl
      have d1 : (wr.alloc (.cells #[.pointer (some ⟨bk, 0, none⟩), .int .i64 (x : Int)] 212)).cell? ⟨wr.heap.size, 1, none⟩ = some (.int .i64 (x : Int)) := by rw [blk_cell hbox]; rfl
      have e0 : (wr.alloc (.cells #[.pointer (some ⟨bk, 0, none⟩), .int .i64 (x : Int)] 212)).cell? ⟨bk, 0, none⟩ = some (.int .i64 (id : Int)) := (hB.cell (by exact hblt)).trans hc0
      have hown1 := own_below hown hB
      have hbb := hb.trans (hB.mono hb.size)
      have hszb : w.heap.size ≤ (wr.alloc (.cells #[.pointer (some ⟨bk, 0, none⟩), .int .i64 (x : Int)] 212)).heap.size := hbb.size
      generalize (wr.alloc (.cells #[.pointer (some ⟨bk, 0, none⟩), .int .i64 (x : Int)] 212)) = wb at *
      have hbl : Below wb.heap.size wb (wb.alloc (.cells #[.int .i64 (id : Int), .int .i64 (x : Int)] 2)).drew := (al1 wb _).drew
      have hbk : (wb.alloc (.cells #[.int .i64 (id : Int), .int .i64 (x : Int)] 2)).drew.heap[wb.heap.size]? = some (.cells #[.int .i64 (id : Int), .int .i64 (x : Int)] 2 (0, 0)) := heap_alloc_new wb _
      have hone : ∀ u ∈ ([.int .i64 (id : Int), .int .i64 (x : Int)] : List Value), u.oneCell' = true := by
        intro u hu; simp at hu; rcases hu with rfl | rfl <;> rfl
      have HBB := hide hbb
      have HON := hide hown1
      have HBL := hide hbl
      clear hc0 c1 c2 hown hb hbox hB hbb
      go_region_law (refine step_append_lies _ rfl _ _ 100 rfl w.heap.size 2 i0 (.int .i64 0) 1 8 tUIs hi hz0 hz1 hz2 rfl (by decide) (.slice (some ⟨g, 0, none⟩) (1 + k * 2) c) (1 + k * 2) (I (l.length :: toldL ls (l.take k))) rfl (own_below hown1 hbl) ⟨wb.heap.size, 0, none⟩ 2 2 [.int .i64 (id : Int), .int .i64 (x : Int)] rfl rfl (World.news_of_block hbk) hone (by decide) (by unfold maxLen; omega) (by omega) (by simp; omega) (wb.heap.size + 1) (by simp) ?_; intro g2 cap2 w2 hown2 hgrow hat hlt2)
      all_goals
        have e1 : I (l.length :: toldL ls (l.take k)) ++ [.int .i64 (id : Int), .int .i64 (x : Int)] = I (l.length :: toldL ls (l.take (k + 1))) := by rw [HT.out]; simp [I]
        rw [e1] at hown2
        have hbw : Below w.heap.size w w2 := (HBB.out.trans (HBL.out.mono HBB.out.size)).grown hgrow (by simp; omega) (fun q hq => (HON.out.lt q hq).1)
        have HO2 := hide hown2
        have HBW := hide hbw
        clear hown2 hgrow hat hlt2 hbw e1 hbl hbk hone hown1 d0 d1 e0
        go_wp2_with fail
        go_roundw
        case rel => exact ⟨k + 1, g2, cap2, by go_num, by omega, by rw [show 1 + (k + 1) * 2 = 1 + k * 2 + 2 by omega], by rw [show 1 + (k + 1) * 2 = 1 + k * 2 + 2 by omega]; exact HO2.out, HBW.out⟩
        case measure => simp [intOf]; omega
    · obtain rfl : k = l.length := by omega
      rw [List.take_length] at hown
      have hlen : (toldQ ls l).length = 1 + l.length * 2 := by simp [toldQ, toldL_len]; omega
      have HO := hide hown
      have HLN := hide hlen
      clear hlt hown hlen
      go_wp2_with fail
      go_ret
      exact ⟨hb, g, c, by rw [HLN.out]; rfl, by rw [HLN.out]; exact HO.out⟩


/-- The error of a recall; the recalls behind it. -/
def recallC (rcs : List (Nat × Nat)) (ls : List L) (a m : Nat) : Nat := if idx a ls < ls.length then (if rcs.contains (a, m) then 5 else if 10 ≤ rcs.length then 6 else 0) else 4
def recallS (rcs : List (Nat × Nat)) (ls : List L) (a m : Nat) : List (Nat × Nat) := if recallC rcs ls a m = 0 then rcs ++ [(a, m)] else rcs

theorem LineAt.below {w w' : World} {bs : List Nat} {a : Option Addr} {l : List (Nat × Nat)} (h : LineAt w bs a l) (hb : Below w.heap.size w w') : LineAt w' bs a l := fun k hk => by
  obtain ⟨G, h1, h2, h3, h4⟩ := h k hk
  exact ⟨G, h1, Nat.lt_of_lt_of_le h2 hb.size, (hb.cell (p := ⟨G, k * 2, none⟩) h2).trans h3, (hb.cell (p := ⟨G, k * 2 + 1, none⟩) h2).trans h4⟩

set_option maxHeartbeats 1600000 in
theorem recall_no {rcs : List (Nat × Nat)} {w : World} {S : Nat} {M : Mx} {v : Value} {td : Nat} {bs : List Nat} {pvs : List Value} {ls : List L} {os : List O} (h : PV os rcs w S M v td bs pvs ls) (a m : Nat) (h1 : a ≤ 2147483647) (h2 : m ≤ 2147483647) (hc0 : recallC rcs ls a m ≠ 0) :
    Calls Tryz.prog 92 #[.pointer (some ⟨S, 0, none⟩), .agg #[.int .i64 (a : Int), .int .i64 (m : Int)]] w fun e w' => Below w.heap.size w w' ∧ e = .returned (.tuple #[.slice none 0 0, .int .i64 (recallC rcs ls a m : Int)]) := by
  have ha := al1 w (Obj.cells #[.int .i64 (a : Int), .int .i64 (m : Int)] 153)
  have ha2 := ha.alloc (by simp) (Obj.cells #[.int .i64 (a : Int), .int .i64 (m : Int)] 214)
  have hP := h.below ha
  have hP2 := h.below ha2
  have HF := hide (find_any hP a h1)
  have HH := hide (hasRecall_any hP2 a m h1 h2)
  by_cases hi : idx a ls < ls.length
  · have hfv : findV bs ls a = .pointer (some ⟨bs.getD (idx a ls) 0, 0, none⟩) := by unfold findV; rw [if_pos hi]
    rw [hfv] at HF
    generalize bs.getD (idx a ls) 0 = bb at *
    cases hc : rcs.contains (a, m) with
    | true =>
      have HC : Hid (recallC rcs ls a m = 5) := by unfold Hid recallC; rw [if_pos hi, hc]; rfl
      rw [hc] at HH
      rw [HC.out]
      have HA2 := hide ha2
      clear hc h hP hP2 hi hfv hc0 ha ha2
      go_enter Tryz.func92, Tryz.ntmps92
      go_wp2_with (first
        | (go_at_call 122; refine (HF.out).mono ?_; rintro e w1 ⟨rfl, rfl⟩)
        | (go_at_call 130; refine (HH.out).mono ?_; rintro e w2 ⟨rfl, hb2⟩))
      go_ret2
      exact ⟨HA2.out.trans (hb2.mono HA2.out.size), rfl⟩
    | false =>
      have h10 : 10 ≤ rcs.length := by
        unfold recallC at hc0; rw [if_pos hi, hc] at hc0
        by_cases q : 10 ≤ rcs.length
        · exact q
        · rw [if_neg q] at hc0; simp at hc0
      have HC : Hid (recallC rcs ls a m = 6) := by unfold Hid recallC; rw [if_pos hi, hc, if_pos h10]; rfl
      rw [hc] at HH
      rw [HC.out]
      have HA2 := hide ha2
      have hrl := h.maps.rc.len
      have HP2 := hide hP2
      obtain ⟨n, HN⟩ : ∃ n, Hid (n = rcs.length) := ⟨_, rfl⟩
      rw [← HN.out] at h10 hrl
      clear hc h hP hP2 hi hfv hc0 ha ha2
      go_enter Tryz.func92, Tryz.ntmps92
      go_wp2_with (first | (go_at_call 122; refine (HF.out).mono ?_; rintro e w1 ⟨rfl, rfl⟩) | fail)
      refine (HH.out).mono ?_
      rintro e w2 ⟨rfl, hb2⟩
      have hP3 := HP2.out.below hb2
      have c4 := hP3.c4
      obtain ⟨D, hD, hRD⟩ := hP3.maps.r
      have hlen := World.ownsMap.len hD tU56
      rw [hRD.size, ← HN.out] at hlen
      clear hP3 hD hRD
      go_wp2_with fail
      go_ret2
      exact ⟨HA2.out.trans (hb2.mono HA2.out.size), rfl⟩
  · have hfv : findV bs ls a = .pointer none := by unfold findV; rw [if_neg hi]
    rw [hfv] at HF
    have HC : Hid (recallC rcs ls a m = 4) := by unfold Hid recallC; rw [if_neg hi]
    rw [HC.out]
    clear h hP hP2 hi hfv hc0 HH ha2
    go_enter Tryz.func92, Tryz.ntmps92
    go_wp2_with (go_at_call 122; refine (HF.out).mono ?_; rintro e w1 ⟨rfl, rfl⟩)
    go_ret2
    exact ⟨ha, rfl⟩

end Go.Proofs.YtlmafelclgeccaaGreatDoor

namespace Go.Proofs.YtlmafelclgeccaaGreatDoor
set_option linter.unusedSimpArgs false
set_option linter.unusedVariables false
open Go.RowKit
set_option maxRecDepth 100000

theorem heldQ_facts {ls : List L} (hl : ls.length ≤ 30) (hok : ∀ x ∈ ls, L.Ok x) (n : Nat) : (heldQ ls n).length ≤ 30 ∧ (∀ p ∈ heldQ ls n, p.1 < ls.length ∧ p.2 ≤ 2147483647) ∧ (∀ k, k < (heldQ ls n).length → ((heldQ ls n).getD k (0, 0)).2 ≤ 2147483647) := by
  have h1 : ∀ p ∈ heldQ ls n, p.1 < ls.length ∧ p.2 ≤ 2147483647 := fun p hp => by
    obtain ⟨i, hi, rfl⟩ := List.mem_map.1 hp
    have hil := (heldI_mem.1 hi).1
    have := (hok _ (mem_getD hil)).sum
    exact ⟨hil, by show (ls.getD i L0).held ≤ _; omega⟩
  refine ⟨?_, h1, fun k hk => (h1 _ ?_).2⟩
  · unfold heldQ; rw [withHeld_len]; exact Nat.le_trans (heldI_len ls n) hl
  · simp [List.getD_eq_getElem?_getD, hk]

set_option maxHeartbeats 3200000 in
theorem recall_ok {rcs : List (Nat × Nat)} {w : World} {S : Nat} {M : Mx} {v : Value} {td : Nat} {bs : List Nat} {pvs : List Value} {ls : List L} {os : List O} (h : PV os rcs w S M v td bs pvs ls) (hids : ∀ i j, i < ls.length → j < ls.length → (ls.getD i L0).id = (ls.getD j L0).id → i = j) (a m : Nat) (h1 : a ≤ 2147483647) (h2 : m ≤ 2147483647) (hi : idx a ls < ls.length) (hc : rcs.contains (a, m) = false) (h10 : ¬ 10 ≤ rcs.length) :
    Calls Tryz.prog 92 #[.pointer (some ⟨S, 0, none⟩), .agg #[.int .i64 (a : Int), .int .i64 (m : Int)]] w fun e w' => Kp (fun k => k = M.r) w w' ∧ PV os (rcs ++ [(a, m)]) w' S M v td bs pvs ls ∧
      ∃ g c, e = .returned (.tuple #[.slice (some ⟨g, 0, none⟩) (toldQ ls (heldQ ls a)).length c, .int .i64 0]) ∧ w'.ownsRow 0 2 1 (.slice (some ⟨g, 0, none⟩) (toldQ ls (heldQ ls a)).length c) (toldQ ls (heldQ ls a)).length (I (toldQ ls (heldQ ls a))) := by
  have ha := al1 w (Obj.cells #[.int .i64 (a : Int), .int .i64 (m : Int)] 153)
  have ha2 := ha.alloc (by simp) (Obj.cells #[.int .i64 (a : Int), .int .i64 (m : Int)] 214)
  have hP := h.below ha
  have hP2 := h.below ha2
  have HF := hide (find_any hP a h1)
  have HH := hide (hasRecall_any hP2 a m h1 h2)
  have hfv : findV bs ls a = .pointer (some ⟨bs.getD (idx a ls) 0, 0, none⟩) := by unfold findV; rw [if_pos hi]
  rw [hfv] at HF
  rw [hc] at HH
  generalize bs.getD (idx a ls) 0 = bb at *
  have HCon := hide hc
  have HA2 := hide ha2
  have HP2 := hide hP2
  have HRC := hide h.maps.rc
  have HIDS := hide hids
  have HQF := hide (heldQ_facts h.room h.ok a)
  have hpos : 0 < ls.length := by omega
  have hbx := (Below.heap_alloc (w.alloc (Obj.cells #[.int .i64 (a : Int), .int .i64 (m : Int)] 153)) (Obj.cells #[.int .i64 (a : Int), .int .i64 (m : Int)] 214) w.heap.size (by simp)).trans (heap_alloc_new w (Obj.cells #[.int .i64 (a : Int), .int .i64 (m : Int)] 153))
  have hbk := heap_alloc_new (w.alloc (Obj.cells #[.int .i64 (a : Int), .int .i64 (m : Int)] 153)) (Obj.cells #[.int .i64 (a : Int), .int .i64 (m : Int)] 214)
  have HBX := hide hbx
  have HBK := hide hbk
  have hn10 : rcs.length < 10 := by omega
  have HL10 := hide h10
  obtain ⟨n, HN⟩ : ∃ n, Hid (n = rcs.length) := ⟨_, rfl⟩
  rw [← HN.out] at hn10
  obtain ⟨hq, HHQ⟩ : ∃ hq, Hid (hq = heldQ ls a) := ⟨_, rfl⟩
  rw [← HHQ.out] at HQF ⊢
  clear hc h hP hP2 hi hfv ha ha2 hbx hbk h10 hids
  go_enter Tryz.func92, Tryz.ntmps92
  go_wp2_with (first | (go_at_call 122; refine (HF.out).mono ?_; rintro e w1 ⟨rfl, rfl⟩) | fail)
  refine (HH.out).mono ?_
  rintro e w2 ⟨rfl, hb2⟩
  have hP3 := HP2.out.below hb2
  have c4 := hP3.c4
  obtain ⟨D, hD, hRD⟩ := hP3.maps.r
  have hlen := World.ownsMap.len hD tU56
  rw [hRD.size, ← HN.out] at hlen
  have hbx2 := (hb2.block _ (blk_lt HBX.out)).trans HBX.out
  have hbk2 := (hb2.block _ (blk_lt HBK.out)).trans HBK.out
  simp only [World.size_alloc] at hbk2
  have k0 : w2.cell? ⟨w.heap.size + 1, 0, none⟩ = some (.int .i64 (a : Int)) := by rw [blk_cell hbk2]; rfl
  have k1 : w2.cell? ⟨w.heap.size + 1, 1, none⟩ = some (.int .i64 (m : Int)) := by rw [blk_cell hbk2]; rfl
  obtain ⟨w4, hrun, hown4, hgr4⟩ := World.ownsMap.update (w := w2.drew) hD kRec tU56 (by rw [hRD.size, ← HN.out]; unfold maxLen; omega) (key_r h1 h2) (unitElem_mk (H := Unit))
  have hP4 := (hP3.below (Below.refl _ _).drew).rmap hgr4 hown4 (hRD.put (World.ownsMap.tidy hD kRec) h1 h2 HCon.out _) (HRC.out.put h1 h2 HCon.out HL10.out)
  have hbx4 : w4.heap[w.heap.size]? = some (Obj.cells #[.int .i64 (a : Int), .int .i64 (m : Int)] 153 (0, 0)) := by
    refine (hgr4.block _ (blk_lt hbx2) (fun e => ?_)).trans hbx2
    obtain ⟨_, _, hmr⟩ := hP3.maps.mr
    exact map_ne hbx2 hmr (Option.some.inj e)
  have j0 : w4.cell? ⟨w.heap.size, 0, none⟩ = some (.int .i64 (a : Int)) := by rw [blk_cell hbx4]; rfl
  have HHO := hide (heldOf_any sortOK hP4 HIDS.out a h1 hpos)
  rw [← HHQ.out] at HHO
  have HP4 := hide hP4
  have HK4 : Hid (Kp (fun k => k = M.r) w w4) := (kpB ((HA2.out.trans (hb2.mono HA2.out.size)).drew)).trans (grown_kp hgr4 (Or.inl rfl))
  clear hP3 hD hRD hbx2 hbk2 hown4 hgr4 hP4 hbx4 hb2 HH HF
  go_wp2_with fail
  go_region
  go_wp2_with fail
  refine (HHO.out).mono ?_
  rintro e w5 ⟨hb5, la, lc, rfl, hat⟩
  have HT := hide (told_line (ls := ls) (cap := lc) hat HQF.out.1 HQF.out.2.2 (HP4.out.below hb5).lots HP4.out.ok (fun p hp => (HQF.out.2.1 p hp).1))
  have HP5 := hide (HP4.out.below hb5)
  have HB5 := hide hb5
  clear hat hb5 HHO
  go_wp2_with fail
  refine (HT.out).mono ?_
  rintro e w6 ⟨hb6, g, c, rfl, ho6⟩
  have HO6 := hide ho6
  clear ho6
  go_wp2_with fail
  go_ret2
  exact ⟨(HK4.out.after HB5.out).after hb6, HP5.out.below hb6, g, c, rfl, own_base HO6.out⟩

end Go.Proofs.YtlmafelclgeccaaGreatDoor
