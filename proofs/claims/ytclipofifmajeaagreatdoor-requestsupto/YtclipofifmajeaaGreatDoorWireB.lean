import Derived.Test.YtclipofifmajeaaGreatDoorWireA
namespace Go.Proofs.YtclipofifmajeaaGreatDoor
set_option linter.unusedSimpArgs false
set_option linter.unusedVariables false
open Go.RowKit
set_option maxRecDepth 100000

/-- One byte, or a panic. -/
theorem byte_get (b : Nat) (s : ByteArray) (h0 : 0 < s.size) (w w' : World) (hr : Rd b w w' s) :
    Calls Tryz.prog 94 #[.pointer (some ⟨b, 0, none⟩)] w' fun e w'' => e = .returned (.int .u8 (s[0].toNat : Int)) ∧ Rd b w w'' (s.extract 1 s.size) :=
  (byte_ok b s h0 w' hr.cell hr.frozen).mono fun _ _ ⟨h1, h2⟩ => ⟨h1, h2 ▸ hr.set _⟩

theorem byte_break (b : Nat) (hb : 2 ≤ b) (s : ByteArray) (h0 : s.size = 0) (w w' : World) (hg : Gl w) (hr : Rd b w w' s) :
    Calls Tryz.prog 94 #[.pointer (some ⟨b, 0, none⟩)] w' (Broke b w) := by
  have he : s = ⟨#[]⟩ := by
    apply ByteArray.ext
    apply Array.eq_empty_of_size_eq_zero
    exact h0
  subst he
  obtain ⟨t1, v1, h1⟩ := (hg.rd hr hb).2.1
  exact (byte_no b w' hr.cell t1 v1 h1).mono fun _ _ ⟨h1, h2⟩ => ⟨⟨t1, v1, h1⟩, ⟨#[]⟩, h2 ▸ hr⟩

theorem ofInt_i64 (a : Nat) (ha : a < 9223372036854775808) : (BitVec.ofInt 64 (a : Int)).toNat = a := by
  rw [BitVec.ofInt_natCast, BitVec.toNat_ofNat]; exact Nat.mod_eq_of_lt (by omega)
theorem i64_or_nat (a b : Nat) (ha : a < 9223372036854775808) (hb : b < 9223372036854775808) : bits .or .i64 (a : Int) (b : Int) = ((a ||| b : Nat) : Int) := by
  have hx : a ||| b < 2 ^ 63 := Nat.or_lt_two_pow (by omega) (by omega)
  show IntKind.i64.wrap ((BitVec.ofInt 64 (a : Int) ||| BitVec.ofInt 64 (b : Int)).toNat : Int) = _
  rw [BitVec.toNat_or, ofInt_i64 a ha, ofInt_i64 b hb, IntWalk.i64_left, wrap64_in _ ⟨by omega, by omega⟩]

theorem step_or (s : ByteArray) (k : Nat) (h : k < s.size) (h9 : k < 9) :
    bits .or .i64 (Pl.val (List.take k s.data.toList) : Int) (wrap64 (wrap64 (bits .and .u8 (s[k].toNat : Int) 127) * 2 ^ (7 * k))) = (Pl.val (s.data.toList.take (k + 1)) : Int) := by
  have hb : s[k].toNat < 256 := UInt8.toNat_lt _
  have e0 : bits .and .u8 (s[k].toNat : Int) 127 = ((s[k].toNat % 128 : Nat) : Int) := by
    have := u8_and_nat s[k].toNat 127 hb (by omega)
    rw [show ((127 : Nat) : Int) = 127 from rfl] at this
    rw [this, show (127 : Nat) = 2 ^ 7 - 1 from rfl, Nat.and_two_pow_sub_one_eq_mod]
  rw [e0, wrap64_in ((s[k].toNat % 128 : Nat) : Int) ⟨by omega, by omega⟩]
  have e2 : (2 : Int) ^ (7 * k) = ((128 ^ k : Nat) : Int) := by
    rw [Int.pow_mul]; norm_cast
  have hlt := Pl.val_take_lt s.data.toList (k + 1) (by omega)
  have hsn := Pl.take_snoc s.data.toList k (by simpa using h)
  have hlen : (s.data.toList.take k).length = k := by rw [List.length_take, show s.data.toList.length = s.size from by simp]; omega
  have hv := Pl.val_snoc (s.data.toList.getD k 0) (s.data.toList.take k)
  have hvl := Pl.val_lt (s.data.toList.take k)
  rw [← hsn, ba_getD s k h, hlen] at hv
  rw [hlen] at hvl
  rw [e2, ← Int.natCast_mul]
  have hle : s[k].toNat % 128 * 128 ^ k ≤ Pl.val (s.data.toList.take (k + 1)) := by rw [hv]; omega
  rw [wrap64_in ((s[k].toNat % 128 * 128 ^ k : Nat) : Int) ⟨by omega, by omega⟩, i64_or_nat _ _ (by omega) (by omega)]
  have e3 : (128 : Nat) ^ k = 2 ^ (7 * k) := by rw [Nat.pow_mul]
  have e4 : Pl.val (s.data.toList.take k) ||| s[k].toNat % 128 * 128 ^ k = Pl.val (s.data.toList.take (k + 1)) := by
    rw [hv, Nat.or_comm, e3, Nat.mul_comm (s[k].toNat % 128) (2 ^ (7 * k)), ← Nat.two_pow_add_eq_or_of_lt (by rw [← e3]; exact hvl), Nat.add_comm]
  rw [e4]

theorem ret_int {k : IntKind} {a b : Int} (h : a = b) : Ending.returned (.int k a) = .returned (.int k b) := by rw [h]

theorem first_by (s : ByteArray) (k : Nat) (h9 : k < 9) (h : k < s.size) (hld : ∀ j, j < k → 128 ≤ (s.data.toList.getD j 0).toNat) (hlo : s[k].toNat < 128) :
    (¬ (0 < k ∧ s[k].toNat = 0) → Pl.fst s.data.toList = Pl.val (s.data.toList.take (k + 1)) ∧ Pl.snd s.data.toList = k + 1) ∧ (0 < k ∧ s[k].toNat = 0 → Pl.snd s.data.toList = 0) := by
  have hk : k < s.data.toList.length := by simpa using h
  have hlo' : (s.data.toList.getD k 0).toNat < 128 := by rw [ba_getD s k h]; exact hlo
  have hst := Pl.first_stop s.data.toList k h9 hk hld hlo'
  have hn := Pl.num_val (s.data.toList.getD k 0) hlo' (s.data.toList.take k) (Pl.all_lead _ k (by omega) hld)
  rw [← Pl.take_snoc _ k hk, ba_getD s k h] at hn
  have hlen : (s.data.toList.take k).length = k := by rw [List.length_take]; omega
  rw [hlen] at hn
  have hz : s[k] = 0 ↔ s[k].toNat = 0 := by rw [← UInt8.toNat_inj]; rfl
  rw [hz] at hn
  exact ⟨fun hh => hst.1 (hn.2 hh), fun hh => (hst.2 (fun he => hn.1 he hh)).2⟩

set_option maxHeartbeats 800000 in
theorem number_get (b : Nat) (hb : 2 ≤ b) (s : ByteArray) (hs : s.size ≤ 2097152) (w w0 : World) (hg : Gl w) (hr0 : Rd b w w0 s) :
    Calls Tryz.prog 95 #[.pointer (some ⟨b, 0, none⟩)] w0 fun e w' =>
      (Pl.snd s.data.toList ≠ 0 ∧ e = .returned (.int .i64 (Pl.fst s.data.toList : Nat)) ∧ Rd b w w' (s.extract (Pl.snd s.data.toList) s.size)) ∨ (Pl.snd s.data.toList = 0 ∧ Broke b w e w') := by
  go_enter Tryz.func95, Tryz.ntmps95
  go_wp2_with fail
  go_loopw [3, 4, 5, 6] (fun v _ _ i wr => ∃ k : Nat, k ≤ 9 ∧ k ≤ s.size ∧ i = .int .i64 k ∧ v = .int .i64 (Pl.val (s.data.toList.take k)) ∧ (∀ j, j < k → 128 ≤ (s.data.toList.getD j 0).toNat) ∧ Rd b w wr (s.extract k s.size)) (fun _ _ _ i _ => 9 - (intOf i).toNat)
  case atStart => exact ⟨0, by omega, by omega, rfl, rfl, fun j h => absurd h (by omega), by simpa using hr0⟩
  case round =>
    obtain ⟨k, h9, hk, rfl, rfl, hld, hr⟩ := hrel
    have HO : Hid (k = 9 ∨ k = s.size → Pl.fst s.data.toList = 0 ∧ Pl.snd s.data.toList = 0) := fun h => Pl.first_out _ k h9 (by simpa using hk) hld (by simpa using h)
    have hv := Pl.val_lt (s.data.toList.take k)
    by_cases h2 : k < 9
    · by_cases h1 : k < s.size
      · have hex : 0 < (s.extract k s.size).size := by rw [ByteArray.size_extract]; omega
        have H1 := hide (byte_get b (s.extract k s.size) hex w wr hr)
        rw [ba0 s k h1, ba1 s k h1] at H1
        have hbk : s[k].toNat < 256 := UInt8.toNat_lt _
        clear hv
        have HE := hide (step_or s k h1 h2)
        have HF : Hid (s[k].toNat < 128 → ((¬ (0 < k ∧ s[k].toNat = 0) → Pl.fst s.data.toList = Pl.val (s.data.toList.take (k + 1)) ∧ Pl.snd s.data.toList = k + 1) ∧ (0 < k ∧ s[k].toNat = 0 → Pl.snd s.data.toList = 0))) := fun hlo => first_by s k h2 h1 hld hlo
        go_wp2_with (go_at_call 94; refine (H1.out).mono ?_; rintro e w1 ⟨rfl, hr1⟩; obtain ⟨t1, v1, hg1⟩ := (hg.rd hr1 hb).2.1)
        · rw [HE.out]
          go_roundw
          case rel =>
            refine ⟨k + 1, by omega, by omega, by go_num, rfl, ?_, hr1⟩
            have hhi : 128 ≤ (s[k].toNat : Int) := by assumption
            intro j hj
            by_cases hjk : j = k
            · subst hjk; rw [ba_getD s j h1]; omega
            · exact hld j (by omega)
          case measure => simp [intOf]; omega
        · have hz : s[k].toNat = 0 := by assumption
          have hkp : 0 < k := by assumption
          refine ⟨rfl, Or.inr ⟨(HF.out (by omega)).2 ⟨hkp, hz⟩, ⟨t1, v1, rfl⟩, _, hr1⟩⟩
        · have hz : s[k].toNat = 0 := by assumption
          have hkp : ¬ 0 < k := by assumption
          obtain ⟨f1, f2⟩ := (HF.out (by omega)).1 (fun h => hkp h.1)
          have HE' := HE.out
          rw [hz, show ((0 : Nat) : Int) = 0 from rfl] at HE'
          rw [HE']
          go_ret
          exact Or.inl ⟨by omega, ret_int (by rw [f1]), by rw [f2]; exact hr1⟩
        · have hz : ¬ s[k].toNat = 0 := by assumption
          have hlo : (s[k].toNat : Int) < 128 := by assumption
          obtain ⟨f1, f2⟩ := (HF.out (by omega)).1 (fun h => hz h.2)
          rw [HE.out]
          go_ret
          exact Or.inl ⟨by omega, ret_int (by rw [f1]), by rw [f2]; exact hr1⟩
      · have H1 := hide (byte_break b hb (s.extract k s.size) (by rw [ByteArray.size_extract]; omega) w wr hg hr)
        have hz := HO.out (Or.inr (by omega))
        have HZ := hide hz.2
        clear hz
        go_wp2_with (go_at_call 94; refine (H1.out).mono ?_; rintro e w1 ⟨⟨t1, v1, rfl⟩, s1, hr1⟩)
        exact ⟨rfl, Or.inr ⟨HZ.out, ⟨t1, v1, rfl⟩, s1, hr1⟩⟩
    · have HZ := hide (HO.out (Or.inl (by omega))).2
      obtain ⟨t1, v1, hg1⟩ := (hg.rd hr hb).2.1
      go_wp2_with fail
      exact ⟨rfl, Or.inr ⟨HZ.out, ⟨t1, v1, rfl⟩, _, hr⟩⟩

end Go.Proofs.YtclipofifmajeaaGreatDoor
