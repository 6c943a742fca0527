import Derived.Test.YtlmafelclgeccaaGreatDoorTop1X
namespace Go.Proofs.YtlmafelclgeccaaGreatDoor
set_option linter.unusedSimpArgs false
set_option linter.unusedVariables false
open Go.RowKit
set_option maxRecDepth 100000

/-- What 'Requests' plays. -/
def playB (l : List UInt8) : Bool := allowB l [1, 2, 11, 12] || (match l with
  | [] => true
  | c :: _ => decide (c.toNat = 0) || decide (12 < c.toNat))

theorem played_of (l : List UInt8) (h : playB l = true) : Played (Pl.cmd l) := by
  intro n ns hc
  cases l with
  | nil => cases hc
  | cons c r =>
    have hcf := cmd_form (c :: r)
    rw [hc] at hcf
    cases hform : formOf (c :: r) with
    | none => rw [hform] at hcf; cases hcf
    | some p =>
      obtain ⟨m, ms⟩ := p
      rw [hform] at hcf
      have hf := form_facts hform
      have hm : m = c.toNat := by
        simp only [formOf] at hform
        by_cases hk : Pl.kindsL c.toNat = []
        · simp [hk] at hform
        · simp only [hk, if_false] at hform
          cases hn : Pl.nums r with
          | none => rw [hn] at hform; cases hform
          | some xs =>
            rw [hn] at hform
            by_cases hl : xs.length = (Pl.kindsL c.toNat).length
            · simp only [hl, if_true, Option.some.injEq, Prod.mk.injEq] at hform
              exact hform.1.symm
            · simp [hl] at hform
      have hn : n = m := by
        cases hq : Pl.mays (Pl.kindsL m) ms
        · simp [hq] at hcf
        · simp [hq] at hcf; exact hcf.1
      simp only [playB, allowB, List.any_cons, List.any_nil, Bool.or_false, Bool.or_eq_true, beq_iff_eq, decide_eq_true_eq] at h
      rcases h with (rfl | rfl | rfl | rfl) | h
      · left; rw [hn, hm]; rfl
      · right; left; rw [hn, hm]; rfl
      · right; right; left; rw [hn, hm]; rfl
      · right; right; right; rw [hn, hm]; rfl
      · omega

theorem Inv.grow {B Q N N' : Nat} {w0 w : World} (h : Inv B w0 w Q N) (hN : N ≤ N') : Inv B w0 w Q N' := by
  obtain ⟨a, b, c, d, e, Lb, R, Zp, Zr, td, ls, os, rcs, rec, h1, h2, h3, h4, h5, h6, h7⟩ := h
  exact ⟨a, b, c, d, e, Lb, R, Zp, Zr, td, ls, os, rcs, rec, h1, h2, h3, h4, h5, Nat.le_trans h6 hN, h7⟩

set_option maxHeartbeats 1600000 in
theorem requests_any (b off len cap : Nat) (ss : List ByteArray) (hl : len ≤ ss.length) (hlen : len ≤ 2097152) (hss : ∀ j, j < len → (ss.getD j ByteArray.empty).size ≤ 2097143) (w : World) (hg : Gl w) (hb : b < w.heap.size)
    (hc : ∀ j, j < len → w.cell? ⟨b, off + j, none⟩ = some (.string (ss.getD j ByteArray.empty))) :
    Calls Tryz.prog 3 #[.slice (some ⟨b, off, none⟩) len cap] w fun e w' => e = .returned (.bool true) ∧ Below w.heap.size w w' := by
  go_enter Tryz.func3, Tryz.ntmps3
  go_wp2_with (go_at_call 13; refine (begun_any _ hg).mono ?_; rintro e w1 ⟨Q, rfl, hinv⟩)
  go_loopw [4, 5, 6, 7] (fun ok i _ _ wr => ∃ k : Nat, k ≤ len ∧ ok = .bool true ∧ i = .int .i64 k ∧ Inv w.heap.size w wr Q (k * 4000000)) (fun _ i _ _ _ => len - (intOf i).toNat)
  case atStart => exact ⟨0, by omega, rfl, rfl, by simpa using hinv⟩
  case round =>
    clear hinv
    obtain ⟨k, hk, rfl, rfl, hinv⟩ := hrel
    by_cases hlt : k < len
    · obtain ⟨s, HS⟩ : ∃ s, Hid (s = ss.getD k ByteArray.empty) := ⟨_, rfl⟩
      have hcx : wr.cell? ⟨b, off + k, none⟩ = some (.string s) := by rw [HS.out]; exact (hinv.old.cell (by exact hb)).trans (hc k hlt)
      have hsz : s.size ≤ 2097143 := by rw [HS.out]; exact hss k hlt
      have HI := hide hinv
      have HHA := hide (allowed_any s ⟨#[1, 2, 11, 12]⟩ (by omega) (by decide) wr)
      clear hc hss hinv
      by_cases h0 : 0 < s.size
      · have hne := not_empty s h0
        have hl0 : s.data.toList = s[0] :: s.data.toList.drop 1 := by
          have h1 : 0 < s.data.toList.length := by simpa using h0
          have h2 : s.data.toList[0] :: s.data.toList.drop (0 + 1) = s.data.toList.drop 0 := List.getElem_cons_drop h1
          rw [List.drop_zero] at h2
          exact h2.symm
        have hc256 : s[0].toNat < 256 := UInt8.toNat_lt _
        by_cases hz : s[0].toNat = 0 ∨ 12 < s[0].toNat
        · have hpl : playB s.data.toList = true := by
            rw [hl0]; simp only [playB, Bool.or_eq_true, decide_eq_true_eq]; right; exact hz
          have HPY := hide (fun w2 (hb2 : Below wr.heap.size wr w2) => play_any (HI.out.below hb2) (by omega) s hsz (played_of _ hpl))
          generalize allowB s.data.toList [1, 2, 11, 12] = al at HHA
          clear hl0 hpl
          rcases hz with hz | hz
          · have hzb : ((s[0].toNat : Int) == 0) = true := by rw [beq_iff_eq]; omega
            have HZ := hide hz
            clear hz
            cases al
            all_goals
              go_wp2_with fail
              refine (HHA.out).mono ?_
              rintro e w2 ⟨rfl, hb2⟩
              have hcx2 : w2.cell? ⟨b, off + k, none⟩ = some (.string s) := (hb2.cell (by exact Nat.lt_of_lt_of_le hb HI.out.old.size)).trans hcx
              have HP2 := hide (HPY.out w2 hb2)
              go_wp2_with (go_at_call 15; refine (HP2.out).mono ?_; rintro e w3 ⟨rfl, hinv3⟩)
              go_roundw
              case rel => exact ⟨k + 1, by omega, rfl, by go_num, hinv3.grow (by omega)⟩
              case measure => simp [intOf]; omega
          · have hzb : ((s[0].toNat : Int) == 0) = false := by rw [beq_eq_false_iff_ne]; omega
            have hzc : decide ((12 : Int) < (s[0].toNat : Int)) = true := by simp; omega
            cases al
            all_goals
              go_wp2_with fail
              refine (HHA.out).mono ?_
              rintro e w2 ⟨rfl, hb2⟩
              have hcx2 : w2.cell? ⟨b, off + k, none⟩ = some (.string s) := (hb2.cell (by exact Nat.lt_of_lt_of_le hb HI.out.old.size)).trans hcx
              have HP2 := hide (HPY.out w2 hb2)
              go_wp2_with (go_at_call 15; refine (HP2.out).mono ?_; rintro e w3 ⟨rfl, hinv3⟩)
              go_roundw
              case rel => exact ⟨k + 1, by omega, rfl, by go_num, hinv3.grow (by omega)⟩
              case measure => simp [intOf]; omega
        · have hzb : ((s[0].toNat : Int) == 0) = false := by rw [beq_eq_false_iff_ne]; omega
          have hzc : decide ((12 : Int) < (s[0].toNat : Int)) = false := by simp; omega
          have hzl : ¬ (12 : Int) < (s[0].toNat : Int) := by omega
          cases hal : allowB s.data.toList [1, 2, 11, 12] with
          | true =>
            have hpl : playB s.data.toList = true := by simp only [playB, hal, Bool.true_or]
            have HPY := hide (fun w2 (hb2 : Below wr.heap.size wr w2) => play_any (HI.out.below hb2) (by omega) s hsz (played_of _ hpl))
            have HHB : Hid (Calls Tryz.prog 14 #[.string s, .string ⟨#[1, 2, 11, 12]⟩] wr fun e w' => e = .returned (.bool true) ∧ Below wr.heap.size wr w') := HHA.out.mono fun e w' ⟨q1, q2⟩ => ⟨q1.trans (ret_bool hal), q2⟩
            clear hl0 hpl hal hz HHA
            go_wp2_with fail
            refine (HHB.out).mono ?_
            rintro e w2 ⟨rfl, hb2⟩
            have hcx2 : w2.cell? ⟨b, off + k, none⟩ = some (.string s) := (hb2.cell (by exact Nat.lt_of_lt_of_le hb HI.out.old.size)).trans hcx
            have HP2 := hide (HPY.out w2 hb2)
            go_wp2_with (go_at_call 15; refine (HP2.out).mono ?_; rintro e w3 ⟨rfl, hinv3⟩)
            go_roundw
            case rel => exact ⟨k + 1, by omega, rfl, by go_num, hinv3.grow (by omega)⟩
            case measure => simp [intOf]; omega
          | false =>
            have HHB : Hid (Calls Tryz.prog 14 #[.string s, .string ⟨#[1, 2, 11, 12]⟩] wr fun e w' => e = .returned (.bool false) ∧ Below wr.heap.size wr w') := HHA.out.mono fun e w' ⟨q1, q2⟩ => ⟨q1.trans (ret_bool hal), q2⟩
            clear hl0 hal hz HHA
            go_wp2_with fail
            refine (HHB.out).mono ?_
            rintro e w2 ⟨rfl, hb2⟩
            go_wp2_with fail
            go_roundw
            case rel => exact ⟨k + 1, by omega, rfl, by go_num, (HI.out.below hb2).grow (by omega)⟩
            case measure => simp [intOf]; omega
      · have he : s = ⟨#[]⟩ := by
          apply ByteArray.ext
          apply Array.eq_empty_of_size_eq_zero
          have : s.data.size = s.size := rfl
          omega
        have hpl : playB s.data.toList = true := by rw [he]; rfl
        have HPY := hide (fun w2 (hb2 : Below wr.heap.size wr w2) => play_any (HI.out.below hb2) (by omega) s hsz (played_of _ hpl))
        have hal : allowB s.data.toList [1, 2, 11, 12] = true := by rw [he]; rfl
        have HHB : Hid (Calls Tryz.prog 14 #[.string s, .string ⟨#[1, 2, 11, 12]⟩] wr fun e w' => e = .returned (.bool true) ∧ Below wr.heap.size wr w') := HHA.out.mono fun e w' ⟨q1, q2⟩ => ⟨q1.trans (ret_bool hal), q2⟩
        clear hpl hal HHA h0 HS
        subst he
        go_wp2_with fail
        refine (HHB.out).mono ?_
        rintro e w2 ⟨rfl, hb2⟩
        have hcx2 : w2.cell? ⟨b, off + k, none⟩ = some (.string ⟨#[]⟩) := (hb2.cell (by exact Nat.lt_of_lt_of_le hb HI.out.old.size)).trans hcx
        have HP2 := hide (HPY.out w2 hb2)
        go_wp2_with (go_at_call 15; refine (HP2.out).mono ?_; rintro e w3 ⟨rfl, hinv3⟩)
        go_roundw
        case rel => exact ⟨k + 1, by omega, rfl, by go_num, hinv3.grow (by omega)⟩
        case measure => simp [intOf]; omega
    · obtain rfl : k = len := by omega
      have HI := hide hinv.old
      clear hc hss hlt hinv
      go_wp2_with fail
      go_ret
      exact ⟨rfl, HI.out⟩

set_option maxHeartbeats 1600000 in
theorem requests_zero (ao : Option Addr) (cap : Nat) (w : World) (hg : Gl w) :
    Calls Tryz.prog 3 #[.slice ao 0 cap] w fun e w' => e = .returned (.bool true) ∧ Below w.heap.size w w' := by
  go_enter Tryz.func3, Tryz.ntmps3
  go_wp2_with (go_at_call 13; refine (begun_any _ hg).mono ?_; rintro e w1 ⟨Q, rfl, hinv⟩)
  refine wp_loop_rounds 1 ?_; rw [rounds_succ]
  have HI := hide hinv.old
  clear hinv
  go_wp2_with fail
  go_ret
  exact ⟨rfl, HI.out⟩

end Go.Proofs.YtlmafelclgeccaaGreatDoor
