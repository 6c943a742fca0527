import Derived.Test.YtclipofifmajeaaGreatDoorRefA
namespace Go.Proofs.YtclipofifmajeaaGreatDoor
set_option linter.unusedSimpArgs false
set_option linter.unusedVariables false
open Go.RowKit
set_option maxRecDepth 100000

theorem wrap64_in (n : Int) (h : -9223372036854775808 ≤ n ∧ n ≤ 9223372036854775807) : wrap64 n = n := by unfold wrap64; omega

theorem ret_ints {a b c d : Int} (h1 : a = c) (h2 : b = d) : Ending.returned (.tuple #[.int .i64 a, .int .i64 b]) = .returned (.tuple #[.int .i64 c, .int .i64 d]) := by rw [h1, h2]

theorem ba_getD (s : ByteArray) (k : Nat) (h : k < s.size) : s.data.toList.getD k 0 = s[k] := by
  have h' : k < s.data.toList.length := by simpa using h
  rw [List.getD_eq_getElem?_getD, List.getElem?_eq_getElem h']
  rfl

theorem extract_take (s : ByteArray) (n : Nat) : (s.extract 0 n).toList = s.data.toList.take n := by
  rw [ByteArray.toList_eq, ByteArray.data_extract]
  simp

theorem step_eq (s : ByteArray) (k : Nat) (h : k < s.size) (h9 : k < 9) :
    wrap64 (↑(Pl.val (List.take k s.data.toList)) + wrap64 ((wrap64 ↑s[k].toNat).tmod 128 * 2 ^ (7 * k))) = (Pl.val (s.data.toList.take (k + 1)) : Int) := by
  have hb : s[k].toNat < 256 := UInt8.toNat_lt _
  rw [wrap64_in (s[k].toNat : Int) ⟨by omega, by omega⟩]
  have e1 : (s[k].toNat : Int).tmod 128 = ((s[k].toNat % 128 : Nat) : Int) := by
    rw [Int.tmod_eq_emod_of_nonneg (by omega)]; omega
  have e2 : (2 : Int) ^ (7 * k) = ((128 ^ k : Nat) : Int) := by
    rw [Int.pow_mul]; norm_cast
  have hlt := Pl.val_take_lt s.data.toList (k + 1) (by omega)
  have hsn := Pl.take_snoc s.data.toList k (by simpa using h)
  have hlen : (s.data.toList.take k).length = k := by rw [List.length_take, show s.data.toList.length = s.size from by simp]; omega
  have hv := Pl.val_snoc (s.data.toList.getD k 0) (s.data.toList.take k)
  rw [← hsn, ba_getD s k h, hlen] at hv
  rw [e1, e2, ← Int.natCast_mul]
  have hle : s[k].toNat % 128 * 128 ^ k ≤ Pl.val (s.data.toList.take (k + 1)) := by rw [hv]; omega
  rw [wrap64_in ((s[k].toNat % 128 * 128 ^ k : Nat) : Int) ⟨by omega, by omega⟩, ← Int.natCast_add, ← hv, wrap64_in _ ⟨by omega, by omega⟩]

set_option maxHeartbeats 400000 in
theorem first_any (s : ByteArray) (hs : s.size ≤ 2097152) (w : World) :
    Calls Tryz.prog 52 #[.string s] w fun e w' => e = .returned (.tuple #[.int .i64 (Pl.fst s.data.toList), .int .i64 (Pl.snd s.data.toList)]) ∧ Below w.heap.size w w' := by
  go_enter Tryz.func52, Tryz.ntmps52
  go_wp2_with fail
  go_loopw [4, 5] (fun v i wr => ∃ k : Nat, k ≤ 9 ∧ k ≤ s.size ∧ i = .int .i64 k ∧ v = .int .i64 (Pl.val (s.data.toList.take k)) ∧ (∀ j, j < k → 128 ≤ (s.data.toList.getD j 0).toNat) ∧ Below w.heap.size w wr) (fun _ i _ => 9 - (intOf i).toNat)
  case atStart => exact ⟨0, by omega, by omega, rfl, rfl, fun j h => absurd h (by omega), Below.refl _ _⟩
  case round =>
    obtain ⟨k, h9, hk, rfl, rfl, hld, hb⟩ := hrel
    have hv := Pl.val_lt (s.data.toList.take k)
    have HO : Hid (k = 9 ∨ k = s.size → Pl.fst s.data.toList = 0 ∧ Pl.snd s.data.toList = 0) := fun h => Pl.first_out _ k h9 (by simpa using hk) hld (by simpa using h)
    by_cases h1 : k < s.size
    · by_cases h2 : k < 9
      · have HE : Hid (wrap64 (↑(Pl.val (List.take k s.data.toList)) + wrap64 ((wrap64 ↑s[k].toNat).tmod 128 * 2 ^ (7 * k))) = (Pl.val (s.data.toList.take (k + 1)) : Int)) := step_eq s k h1 h2
        have hlt := Pl.val_take_lt s.data.toList (k + 1) (by omega)
        go_wp2_with fail
        · rw [HE.out]
          refine (number_any _ _ (Nat.le_refl _) (by omega) (by omega) _).mono ?_
          rintro e w1 ⟨rfl, hb1⟩
          rw [Int.toNat_natCast]
          go_wp2_with fail
          · have hq : (Pl.num (Pl.val (List.take (k + 1) s.data.toList)) == (s.extract 0 (k + 1)).toList) = true := by assumption
            have hlow : (s[k].toNat : Int) < 128 := by assumption
            have hst := (Pl.first_stop s.data.toList k h2 (by simpa using h1) hld (by rw [ba_getD s k h1]; omega)).1 (by rw [extract_take] at hq; exact eq_of_beq hq)
            go_ret2
            exact ⟨ret_ints (by rw [hst.1]) (by rw [hst.2]; omega), hb.trans (hb1.mono hb.size)⟩
          · have hq : (Pl.num (Pl.val (List.take (k + 1) s.data.toList)) == (s.extract 0 (k + 1)).toList) = false := by assumption
            have hlow : (s[k].toNat : Int) < 128 := by assumption
            have hst := (Pl.first_stop s.data.toList k h2 (by simpa using h1) hld (by rw [ba_getD s k h1]; omega)).2 (by rw [extract_take] at hq; exact ne_of_beq_false hq)
            go_ret2
            exact ⟨ret_ints (by rw [hst.1]; rfl) (by rw [hst.2]; rfl), hb.trans (hb1.mono hb.size)⟩
        · rw [HE.out]
          refine ⟨⟨k + 1, by omega, by omega, by go_num, rfl, ?_, hb⟩, by simp [intOf]; omega⟩
          have hhi : 128 ≤ (s[k].toNat : Int) := by assumption
          intro j hj
          by_cases hjk : j = k
          · subst hjk; rw [ba_getD s j h1]; omega
          · exact hld j (by omega)
      · go_wp2_with fail
        go_ret2
        have := HO.out (Or.inl (by omega))
        exact ⟨ret_ints (by rw [this.1]; rfl) (by rw [this.2]; rfl), hb⟩
    · go_wp2_with fail
      go_ret2
      have := HO.out (Or.inr (by omega))
      exact ⟨ret_ints (by rw [this.1]; rfl) (by rw [this.2]; rfl), hb⟩

end Go.Proofs.YtclipofifmajeaaGreatDoor
