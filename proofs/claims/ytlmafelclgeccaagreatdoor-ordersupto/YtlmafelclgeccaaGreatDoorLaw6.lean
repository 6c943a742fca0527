import Derived.Test.YtlmafelclgeccaaGreatDoorQ13X
import Derived.Deep.RegionHeld3
namespace Go.Proofs.YtlmafelclgeccaaGreatDoor
set_option linter.unusedSimpArgs false
set_option linter.unusedVariables false
open Go.RowKit
set_option maxRecDepth 100000

set_option maxHeartbeats 1600000 in
theorem playO_any {B Q N : Nat} {w0 w : World} (h : Inv B w0 w Q N) (hN : N ≤ 1000000000000000) (s : ByteArray) (hs : s.size ≤ 2097143) (hp : PlayedO (Pl.cmd s.data.toList)) :
    Calls Tryz.prog 15 #[.pointer (some ⟨Q, 0, none⟩), .agg #[.int .i64 1, .int .i64 0, .int .i64 0, .string s]] w fun e w' => e = .returned (.bool true) ∧ Inv B w0 w' Q (N + (s.size + 13)) := by
  have ha := al1 w (.cells #[.int .i64 1, .int .i64 0, .int .i64 0, .string s] 29)
  have hop := heap_alloc_new w (.cells #[.int .i64 1, .int .i64 0, .int .i64 0, .string s] 29)
  obtain ⟨hold0, hsz0, htwo, hgl0, hQ, Lb, R, Zp, Zr, td, ls, os, rcs, rec, hqo, hpl0, hri0, h40, h50, hrec, hgo⟩ := h
  have hab : Below w.heap.size w (w.alloc (.cells #[.int .i64 1, .int .i64 0, .int .i64 0, .string s] 29)).drew := ha.drew
  have hq := (hab.block Q (blk_lt hqo)).trans hqo
  have hpl := hpl0.below hab
  have hri := hri0.below hab
  have hgl := hgl0.below hab
  have hold := hold0.trans (hab.mono hsz0)
  have hsz := Nat.le_trans hsz0 hab.size
  have h4 : ∀ k, Zp k → B ≤ k ∧ k < (w.alloc (.cells #[.int .i64 1, .int .i64 0, .int .i64 0, .string s] 29)).drew.heap.size ∧ k ≠ Q ∧ ¬ Zr k := fun k hk => ⟨(h40 k hk).1, Nat.lt_of_lt_of_le (h40 k hk).2.1 hab.size, (h40 k hk).2.2⟩
  have h5 : ∀ k, Zr k → B ≤ k ∧ k < (w.alloc (.cells #[.int .i64 1, .int .i64 0, .int .i64 0, .string s] 29)).drew.heap.size ∧ k ≠ Q := fun k hk => ⟨(h50 k hk).1, Nat.lt_of_lt_of_le (h50 k hk).2.1 hab.size, (h50 k hk).2.2⟩
  have hzw1 : ¬ Zp w.heap.size := fun h => Nat.lt_irrefl _ (h40 _ h).2.1
  have hzw2 : ¬ Zr w.heap.size := fun h => Nat.lt_irrefl _ (h50 _ h).2.1
  have hnw : ¬ Zp w.heap.size := hzw1
  have HH := hide (handlePO_any hpl hgo hgl s (by omega) hp)
  have q0 : (w.alloc (.cells #[.int .i64 1, .int .i64 0, .int .i64 0, .string s] 29)).cell? ⟨Q, 0, none⟩ = some (.pointer (some ⟨Lb, 0, none⟩)) := by
    have : (w.alloc (.cells #[.int .i64 1, .int .i64 0, .int .i64 0, .string s] 29)).heap[Q]? = _ := hq
    rw [blk_cell this]; rfl
  have o3 : (w.alloc (.cells #[.int .i64 1, .int .i64 0, .int .i64 0, .string s] 29)).cell? ⟨w.heap.size, 3, none⟩ = some (.string s) := by rw [blk_cell hop]; rfl
  have o0 : (w.alloc (.cells #[.int .i64 1, .int .i64 0, .int .i64 0, .string s] 29)).cell? ⟨w.heap.size, 0, none⟩ = some (.int .i64 1) := by rw [blk_cell hop]; rfl
  go_enter Tryz.func15, Tryz.ntmps15
  go_wp2_with fail
  have hQlt : Q < (w.alloc (.cells #[.int .i64 1, .int .i64 0, .int .i64 0, .string s] 29)).heap.size := blk_lt hq
  have hwlt : w.heap.size < (w.alloc (.cells #[.int .i64 1, .int .i64 0, .int .i64 0, .string s] 29)).heap.size := by simp
  have hnQ : Hid (¬ Zp Q) := fun h => (h4 Q h).2.2.1 rfl
  have hnW : Hid (¬ Zp w.heap.size) := hnw
  have hq1 : (w.alloc (.cells #[.int .i64 1, .int .i64 0, .int .i64 0, .string s] 29)).cell? ⟨Q, 1, none⟩ = some (.pointer (some ⟨R, 0, none⟩)) := by
    have : (w.alloc (.cells #[.int .i64 1, .int .i64 0, .int .i64 0, .string s] 29)).heap[Q]? = _ := hq
    rw [blk_cell this]; rfl
  go_region_held3 (fun w' => w'.cell? ⟨Q, 0, none⟩ = some (.pointer (some ⟨Lb, 0, none⟩)) ∧ w'.cell? ⟨w.heap.size, 3, none⟩ = some (.string s)) (go_keep)
    (first
      | (go_at_call 20; refine (HH.out).mono ?_; rintro e w3 ⟨hk3, rfl, hpl3⟩; have hqq := hk3.block Q hQlt hnQ.out; have hqw := hk3.block w.heap.size hwlt hnW.out; have m0 := (World.cell?_of_block (a := ⟨Q, 0, none⟩) hqq).trans q0; have m1 := (World.cell?_of_block (a := ⟨w.heap.size, 3, none⟩) hqw).trans o3; have m2 := (World.cell?_of_block (a := ⟨Q, 1, none⟩) hqq).trans hq1))
  have hroom : ls.length ≤ 30 := by obtain ⟨v, fs, ro, hP, _⟩ := hri; exact hP.room
  have hri3 : RI os rcs Zr w3.drew R td rec ls := (hri.congr (fun k hk => hk3.block k (h5 k hk).2.1 (fun hz => (h4 k hz).2.2.2 hk))).below (drewB w3)
  have HR := hide (handleRO_any hri3 hgo (by omega) s hs hp)
  have hs3 : Hid ((w.alloc (.cells #[.int .i64 1, .int .i64 0, .int .i64 0, .string s] 29)).drew.heap.size ≤ w3.heap.size) := hk3.size
  have hQ3 : Hid (Q < w3.heap.size) := Nat.lt_of_lt_of_le hQlt hs3.out
  have hW3 : Hid (w.heap.size < w3.heap.size) := Nat.lt_of_lt_of_le hwlt hs3.out
  have hnQr : Hid (¬ Zr Q) := fun h => (h5 Q h).2.2 rfl
  have hnWr : Hid (¬ Zr w.heap.size) := hzw2
  have HK3 := hide hk3
  have HPL := hide hpl3
  have H4 := hide h4
  have H5 := hide h5
  have HGO := hide (good_stepO (rcs := rcs) (td := td) hgo hroom s.data.toList hp)
  generalize stepO rcs td os ls (Pl.cmd s.data.toList) = st at HR HPL HGO ⊢
  obtain ⟨sb, td', os', ls'⟩ := st
  clear hqq hqw q0 o3 o0 hq1 hri3 hk3 hpl3 h4 h5 h40 h50 HH m0 hp hroom
  go_wp2_with fail
  go_region_held3 (fun w' => w'.cell? ⟨Q, 1, none⟩ = some (.pointer (some ⟨R, 0, none⟩)) ∧ w'.cell? ⟨w.heap.size, 3, none⟩ = some (.string s)) (go_keep)
    (first
      | (go_at_call 34; refine (HR.out).mono ?_; rintro e w5 ⟨rfl, hk5, rec', hr5, hri5⟩; have hqq := hk5.block Q hQ3.out hnQr.out; have hqw := hk5.block w.heap.size hW3.out hnWr.out; have r1 := (World.cell?_of_block (a := ⟨Q, 1, none⟩) hqq).trans m2; have r2 := (World.cell?_of_block (a := ⟨w.heap.size, 3, none⟩) hqw).trans m1))
  clear hqq hqw r1 r2 m1 m2
  go_wp2_with fail
  go_ret
  refine ⟨rfl, ?_⟩
  exact Inv.step hold hsz htwo hgl hQ hq H4.out H5.out HK3.out HPL.out (Kp.before (drewB w3) (hk5.mono (fun k h => Or.inl h))) hri5 (by omega) HGO.out

theorem playedO_of (l : List UInt8) (h : allowB l [1, 2, 3, 4, 10, 11, 12, 5, 6, 7] = true) : PlayedO (Pl.cmd l) := by
  intro n ns hc
  cases l with
  | nil => cases hc
  | cons c r =>
    have hcf := cmd_form (c :: r)
    rw [hc] at hcf
    cases hform : formOf (c :: r) with
    | none => rw [hform] at hcf; cases hcf
    | some p =>
      obtain ⟨m, ms⟩ := p
      rw [hform] at hcf
      have hf := form_facts hform
      have hm : m = c.toNat := by
        simp only [formOf] at hform
        by_cases hk : Pl.kindsL c.toNat = []
        · simp [hk] at hform
        · simp only [hk, if_false] at hform
          cases hn : Pl.nums r with
          | none => rw [hn] at hform; cases hform
          | some xs =>
            rw [hn] at hform
            by_cases hl : xs.length = (Pl.kindsL c.toNat).length
            · simp only [hl, if_true, Option.some.injEq, Prod.mk.injEq] at hform
              exact hform.1.symm
            · simp [hl] at hform
      have hn : n = m := by
        cases hq : Pl.mays (Pl.kindsL m) ms
        · simp [hq] at hcf
        · simp [hq] at hcf; exact hcf.1
      rw [hn, hm]
      simp only [allowB, List.any_cons, List.any_nil, Bool.or_false, Bool.or_eq_true, beq_iff_eq] at h
      rcases h with rfl | rfl | rfl | rfl | rfl | rfl | rfl | rfl | rfl | rfl <;> decide

set_option maxHeartbeats 1600000 in
theorem answersO_any (b off len cap : Nat) (ss : List ByteArray) (hl : len ≤ ss.length) (hlen : len ≤ 2097152) (hss : ∀ j, j < len → (ss.getD j ByteArray.empty).size ≤ 2097143) (w : World) (hg : Gl w) (hb : b < w.heap.size)
    (hc : ∀ j, j < len → w.cell? ⟨b, off + j, none⟩ = some (.string (ss.getD j ByteArray.empty))) :
    Calls Tryz.prog 16 #[.slice (some ⟨b, off, none⟩) len cap, .string ⟨#[1, 2, 3, 4, 10, 11, 12, 5, 6, 7]⟩] w fun e w' => e = .returned (.bool true) ∧ Below w.heap.size w w' := by
  go_enter Tryz.func16, Tryz.ntmps16
  go_wp2_with (go_at_call 13; refine (begun_any _ hg).mono ?_; rintro e w1 ⟨Q, rfl, hinv⟩)
  go_loopw [6, 7, 8] (fun ok i _ wr => ∃ k : Nat, k ≤ len ∧ ok = .bool true ∧ i = .int .i64 k ∧ Inv w.heap.size w wr Q (k * 4000000)) (fun _ i _ _ => len - (intOf i).toNat)
  case atStart => exact ⟨0, by omega, rfl, rfl, by simpa using hinv⟩
  case round =>
    clear hinv
    obtain ⟨k, hk, rfl, rfl, hinv⟩ := hrel
    by_cases hlt : k < len
    · obtain ⟨s, HS⟩ : ∃ s, Hid (s = ss.getD k ByteArray.empty) := ⟨_, rfl⟩
      have hcx : wr.cell? ⟨b, off + k, none⟩ = some (.string s) := by rw [HS.out]; exact (hinv.old.cell (by exact hb)).trans (hc k hlt)
      have hsz : s.size ≤ 2097143 := by rw [HS.out]; exact hss k hlt
      have HI := hide hinv
      have HHA := hide (allowed_any s ⟨#[1, 2, 3, 4, 10, 11, 12, 5, 6, 7]⟩ (by omega) (by decide) wr)
      clear hc hss hinv
      cases hal : allowB s.data.toList [1, 2, 3, 4, 10, 11, 12, 5, 6, 7] with
      | true =>
        have HPY := hide (fun w2 (hb2 : Below wr.heap.size wr w2) => playO_any (HI.out.below hb2) (by omega) s hsz (playedO_of _ hal))
        have HHB : Hid (Calls Tryz.prog 14 #[.string s, .string ⟨#[1, 2, 3, 4, 10, 11, 12, 5, 6, 7]⟩] wr fun e w' => e = .returned (.bool true) ∧ Below wr.heap.size wr w') := HHA.out.mono fun e w' ⟨q1, q2⟩ => ⟨q1.trans (ret_bool hal), q2⟩
        clear hal HHA
        go_wp2_with fail
        refine (HHB.out).mono ?_
        rintro e w2 ⟨rfl, hb2⟩
        have hcx2 : w2.cell? ⟨b, off + k, none⟩ = some (.string s) := (hb2.cell (by exact Nat.lt_of_lt_of_le hb HI.out.old.size)).trans hcx
        have HP2 := hide (HPY.out w2 hb2)
        go_wp2_with (go_at_call 15; refine (HP2.out).mono ?_; rintro e w3 ⟨rfl, hinv3⟩)
        go_roundw
        case rel => exact ⟨k + 1, by omega, rfl, by go_num, hinv3.grow (by omega)⟩
        case measure => simp [intOf]; omega
      | false =>
        have HHB : Hid (Calls Tryz.prog 14 #[.string s, .string ⟨#[1, 2, 3, 4, 10, 11, 12, 5, 6, 7]⟩] wr fun e w' => e = .returned (.bool false) ∧ Below wr.heap.size wr w') := HHA.out.mono fun e w' ⟨q1, q2⟩ => ⟨q1.trans (ret_bool hal), q2⟩
        clear hal HHA
        go_wp2_with fail
        refine (HHB.out).mono ?_
        rintro e w2 ⟨rfl, hb2⟩
        go_wp2_with fail
        go_roundw
        case rel => exact ⟨k + 1, by omega, rfl, by go_num, (HI.out.below hb2).grow (by omega)⟩
        case measure => simp [intOf]; omega
    · obtain rfl : k = len := by omega
      have HI := hide hinv.old
      clear hc hss hlt hinv
      go_wp2_with fail
      go_ret
      exact ⟨rfl, HI.out⟩

set_option maxHeartbeats 1600000 in
theorem answersO_zero (ao : Option Addr) (cap : Nat) (w : World) (hg : Gl w) :
    Calls Tryz.prog 16 #[.slice ao 0 cap, .string ⟨#[1, 2, 3, 4, 10, 11, 12, 5, 6, 7]⟩] w fun e w' => e = .returned (.bool true) ∧ Below w.heap.size w w' := by
  go_enter Tryz.func16, Tryz.ntmps16
  go_wp2_with (go_at_call 13; refine (begun_any _ hg).mono ?_; rintro e w1 ⟨Q, rfl, hinv⟩)
  refine wp_loop_rounds 1 ?_; rw [rounds_succ]
  have HI := hide hinv.old
  clear hinv
  go_wp2_with fail
  go_ret
  exact ⟨rfl, HI.out⟩

set_option maxHeartbeats 800000 in
theorem orders_of {v : Value} {w : World} (ha : Hid (Calls Tryz.prog 16 #[v, .string ⟨#[1, 2, 3, 4, 10, 11, 12, 5, 6, 7]⟩] w fun e w' => e = .returned (.bool true) ∧ Below w.heap.size w w')) :
    Calls Tryz.prog 5 #[v] w fun e w' => e = .returned (.bool true) ∧ Below w.heap.size w w' := by
  go_enter Tryz.func5, Tryz.ntmps5
  go_wp2_with (go_at_call 16; refine (ha.out).mono ?_; rintro e w1 ⟨rfl, hb1⟩)
  go_ret
  exact ⟨rfl, hb1⟩

end Go.Proofs.YtlmafelclgeccaaGreatDoor
