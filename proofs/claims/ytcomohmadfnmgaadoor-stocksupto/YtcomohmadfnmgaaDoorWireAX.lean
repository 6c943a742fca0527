import Derived.Test.YtcomohmadfnmgaaDoorRefAX
namespace Go.Proofs.YtcomohmadfnmgaaDoor
set_option linter.unusedSimpArgs false
set_option linter.unusedVariables false
open Go.RowKit
set_option maxRecDepth 100000

/-- The two sentinel errors hold something that is not nil. -/
def Gl (w : World) : Prop := (∃ t v, w.cell? ⟨0, 0, none⟩ = some (.iface t v)) ∧ (∃ t v, w.cell? ⟨1, 0, none⟩ = some (.iface t v)) ∧ 2 ≤ w.heap.size

set_option maxHeartbeats 400000 in
theorem byte_ok (b : Nat) (s : ByteArray) (h0 : 0 < s.size) (w : World) (hc : w.cell? ⟨b, 0, none⟩ = some (.string s)) (hf : w.frozen? ⟨b, 0, none⟩ = false) :
    Calls Tryd.prog 70 #[.pointer (some ⟨b, 0, none⟩)] w fun e w' => e = .returned (.int .u8 (s[0].toNat : Int)) ∧ w' = w.setCell ⟨b, 0, none⟩ (.string (s.extract 1 s.size)) := by
  have hne : s.toList.isEmpty = false := by
    rw [ByteArray.toList_eq]
    cases h : s.data.toList with
    | nil =>
      have hl : s.data.toList.length = s.size := by simp
      rw [h] at hl
      have : s.size = 0 := hl.symm
      omega
    | cons => rfl
  go_enter Tryd.func70, Tryd.ntmps70
  go_wp2_with fail
  go_ret
  exact ⟨rfl, rfl⟩

set_option maxHeartbeats 400000 in
theorem byte_no (b : Nat) (w : World) (hc : w.cell? ⟨b, 0, none⟩ = some (.string ⟨#[]⟩)) (t : TypeId) (v : Value) (hg : w.cell? ⟨1, 0, none⟩ = some (.iface t v)) :
    Calls Tryd.prog 70 #[.pointer (some ⟨b, 0, none⟩)] w fun e w' => e = .panicked [{ v := .iface t v, recovered := false }] ∧ w' = w := by
  go_enter Tryd.func70, Tryd.ntmps70
  go_wp2_with fail
  exact ⟨rfl, rfl, rfl⟩

/-- Of w only block b has turned, a reader whose rest is s. -/
structure Rd (b : Nat) (w w' : World) (s : ByteArray) : Prop where
  os : w'.os = w.os
  tape : w'.tape = w.tape
  output : w'.output = w.output
  size : w'.heap.size = w.heap.size
  block : ∀ k, k ≠ b → w'.heap[k]? = w.heap[k]?
  here : w'.heap[b]? = some (.cells #[.string s] 138 (0, 0))

theorem Rd.cell {b : Nat} {w w' : World} {s : ByteArray} (h : Rd b w w' s) : w'.cell? ⟨b, 0, none⟩ = some (.string s) := by
  simp [World.cell?, h.here]
theorem Rd.frozen {b : Nat} {w w' : World} {s : ByteArray} (h : Rd b w w' s) : w'.frozen? ⟨b, 0, none⟩ = false := by
  simp [World.frozen?, h.here]
theorem Rd.other {b : Nat} {w w' : World} {s : ByteArray} (h : Rd b w w' s) (a : Addr) (ha : a.block ≠ b) : w'.cell? a = w.cell? a := World.cell?_of_block (w := w) (h.block a.block ha)
theorem Rd.trans {b : Nat} {w w' w'' : World} {s t : ByteArray} (h : Rd b w w' s) (k : Rd b w' w'' t) : Rd b w w'' t :=
  ⟨k.os.trans h.os, k.tape.trans h.tape, k.output.trans h.output, k.size.trans h.size, fun i hi => (k.block i hi).trans (h.block i hi), k.here⟩
theorem Rd.refl {b : Nat} {w : World} {s : ByteArray} (h : w.heap[b]? = some (.cells #[.string s] 138 (0, 0))) : Rd b w w s := ⟨rfl, rfl, rfl, rfl, fun _ _ => rfl, h⟩
theorem Rd.set {b : Nat} {w w' : World} {s : ByteArray} (h : Rd b w w' s) (t : ByteArray) : Rd b w (w'.setCell ⟨b, 0, none⟩ (.string t)) t :=
  h.trans ⟨rfl, rfl, rfl, by simp [World.setCell], fun k hk => Below.heap_setCell _ _ _ _ hk, by
    have := heap_setCell_same w' b 0 #[.string s] 138 (.string t) h.here
    simpa using this⟩
theorem Rd.below {b B : Nat} {w w' : World} {s : ByteArray} (h : Rd b w w' s) (hb : B ≤ b) : Below B w w' :=
  ⟨h.os, h.tape, h.output, by rw [h.size]; exact Nat.le_refl _, fun k hk => h.block k (by omega)⟩

theorem Gl.rd {b : Nat} {w w' : World} {s : ByteArray} (h : Gl w) (k : Rd b w w' s) (hb : 2 ≤ b) : Gl w' := by
  obtain ⟨⟨t0, v0, h0⟩, ⟨t1, v1, h1⟩, h2⟩ := h
  exact ⟨⟨t0, v0, by rw [k.other _ (by simp; omega)]; exact h0⟩, ⟨t1, v1, by rw [k.other _ (by simp; omega)]; exact h1⟩, by rw [k.size]; exact h2⟩

/-- A panic with an error, and what is left of the reader. -/
def Broke (b : Nat) (w : World) (e : Ending) (w' : World) : Prop := (∃ t v, e = .panicked [{ v := .iface t v, recovered := false }]) ∧ ∃ s, Rd b w w' s

theorem ba0 (s : ByteArray) (k : Nat) (hk : k < s.size) : (s.extract k s.size)[0]'(by rw [ByteArray.size_extract]; omega) = s[k] := by
  simp [ByteArray.getElem_extract]

theorem ba1 (s : ByteArray) (k : Nat) (hk : k < s.size) : (s.extract k s.size).extract 1 (s.extract k s.size).size = s.extract (k + 1) s.size := by
  apply ByteArray.ext
  simp [ByteArray.data_extract, ByteArray.size_extract]
  congr 1
  omega

end Go.Proofs.YtcomohmadfnmgaaDoor

namespace Go.Proofs.YtcomohmadfnmgaaDoor
set_option linter.unusedSimpArgs false
set_option linter.unusedVariables false
open Go.RowKit
set_option maxRecDepth 100000

/-- One byte, or a panic. -/
theorem byte_get (b : Nat) (s : ByteArray) (h0 : 0 < s.size) (w w' : World) (hr : Rd b w w' s) :
    Calls Tryd.prog 70 #[.pointer (some ⟨b, 0, none⟩)] w' fun e w'' => e = .returned (.int .u8 (s[0].toNat : Int)) ∧ Rd b w w'' (s.extract 1 s.size) :=
  (byte_ok b s h0 w' hr.cell hr.frozen).mono fun _ _ ⟨h1, h2⟩ => ⟨h1, h2 ▸ hr.set _⟩

theorem byte_break (b : Nat) (hb : 2 ≤ b) (s : ByteArray) (h0 : s.size = 0) (w w' : World) (hg : Gl w) (hr : Rd b w w' s) :
    Calls Tryd.prog 70 #[.pointer (some ⟨b, 0, none⟩)] w' (Broke b w) := by
  have he : s = ⟨#[]⟩ := by
    apply ByteArray.ext
    apply Array.eq_empty_of_size_eq_zero
    exact h0
  subst he
  obtain ⟨t1, v1, h1⟩ := (hg.rd hr hb).2.1
  exact (byte_no b w' hr.cell t1 v1 h1).mono fun _ _ ⟨h1, h2⟩ => ⟨⟨t1, v1, h1⟩, ⟨#[]⟩, h2 ▸ hr⟩

theorem ofInt_i64 (a : Nat) (ha : a < 9223372036854775808) : (BitVec.ofInt 64 (a : Int)).toNat = a := by
  rw [BitVec.ofInt_natCast, BitVec.toNat_ofNat]; exact Nat.mod_eq_of_lt (by omega)
theorem i64_or_nat (a b : Nat) (ha : a < 9223372036854775808) (hb : b < 9223372036854775808) : bits .or .i64 (a : Int) (b : Int) = ((a ||| b : Nat) : Int) := by
  have hx : a ||| b < 2 ^ 63 := Nat.or_lt_two_pow (by omega) (by omega)
  show IntKind.i64.wrap ((BitVec.ofInt 64 (a : Int) ||| BitVec.ofInt 64 (b : Int)).toNat : Int) = _
  rw [BitVec.toNat_or, ofInt_i64 a ha, ofInt_i64 b hb, IntWalk.i64_left, wrap64_in _ ⟨by omega, by omega⟩]

theorem step_or (s : ByteArray) (k : Nat) (h : k < s.size) (h9 : k < 9) :
    bits .or .i64 (Pl.val (List.take k s.data.toList) : Int) (wrap64 (wrap64 (bits .and .u8 (s[k].toNat : Int) 127) * 2 ^ (7 * k))) = (Pl.val (s.data.toList.take (k + 1)) : Int) := by
  have hb : s[k].toNat < 256 := UInt8.toNat_lt _
  have e0 : bits .and .u8 (s[k].toNat : Int) 127 = ((s[k].toNat % 128 : Nat) : Int) := by
    have := u8_and_nat s[k].toNat 127 hb (by omega)
    rw [show ((127 : Nat) : Int) = 127 from rfl] at this
    rw [this, show (127 : Nat) = 2 ^ 7 - 1 from rfl, Nat.and_two_pow_sub_one_eq_mod]
  rw [e0, wrap64_in ((s[k].toNat % 128 : Nat) : Int) ⟨by omega, by omega⟩]
  have e2 : (2 : Int) ^ (7 * k) = ((128 ^ k : Nat) : Int) := by
    rw [Int.pow_mul]; norm_cast
  have hlt := Pl.val_take_lt s.data.toList (k + 1) (by omega)
  have hsn := Pl.take_snoc s.data.toList k (by simpa using h)
  have hlen : (s.data.toList.take k).length = k := by rw [List.length_take, show s.data.toList.length = s.size from by simp]; omega
  have hv := Pl.val_snoc (s.data.toList.getD k 0) (s.data.toList.take k)
  have hvl := Pl.val_lt (s.data.toList.take k)
  rw [← hsn, ba_getD s k h, hlen] at hv
  rw [hlen] at hvl
  rw [e2, ← Int.natCast_mul]
  have hle : s[k].toNat % 128 * 128 ^ k ≤ Pl.val (s.data.toList.take (k + 1)) := by rw [hv]; omega
  rw [wrap64_in ((s[k].toNat % 128 * 128 ^ k : Nat) : Int) ⟨by omega, by omega⟩, i64_or_nat _ _ (by omega) (by omega)]
  have e3 : (128 : Nat) ^ k = 2 ^ (7 * k) := by rw [Nat.pow_mul]
  have e4 : Pl.val (s.data.toList.take k) ||| s[k].toNat % 128 * 128 ^ k = Pl.val (s.data.toList.take (k + 1)) := by
    rw [hv, Nat.or_comm, e3, Nat.mul_comm (s[k].toNat % 128) (2 ^ (7 * k)), ← Nat.two_pow_add_eq_or_of_lt (by rw [← e3]; exact hvl), Nat.add_comm]
  rw [e4]

theorem ret_int {k : IntKind} {a b : Int} (h : a = b) : Ending.returned (.int k a) = .returned (.int k b) := by rw [h]

theorem first_by (s : ByteArray) (k : Nat) (h9 : k < 9) (h : k < s.size) (hld : ∀ j, j < k → 128 ≤ (s.data.toList.getD j 0).toNat) (hlo : s[k].toNat < 128) :
    (¬ (0 < k ∧ s[k].toNat = 0) → Pl.fst s.data.toList = Pl.val (s.data.toList.take (k + 1)) ∧ Pl.snd s.data.toList = k + 1) ∧ (0 < k ∧ s[k].toNat = 0 → Pl.snd s.data.toList = 0) := by
  have hk : k < s.data.toList.length := by simpa using h
  have hlo' : (s.data.toList.getD k 0).toNat < 128 := by rw [ba_getD s k h]; exact hlo
  have hst := Pl.first_stop s.data.toList k h9 hk hld hlo'
  have hn := Pl.num_val (s.data.toList.getD k 0) hlo' (s.data.toList.take k) (Pl.all_lead _ k (by omega) hld)
  rw [← Pl.take_snoc _ k hk, ba_getD s k h] at hn
  have hlen : (s.data.toList.take k).length = k := by rw [List.length_take]; omega
  rw [hlen] at hn
  have hz : s[k] = 0 ↔ s[k].toNat = 0 := by rw [← UInt8.toNat_inj]; rfl
  rw [hz] at hn
  exact ⟨fun hh => hst.1 (hn.2 hh), fun hh => (hst.2 (fun he => hn.1 he hh)).2⟩

set_option maxHeartbeats 800000 in
theorem number_get (b : Nat) (hb : 2 ≤ b) (s : ByteArray) (hs : s.size ≤ 2097152) (w w0 : World) (hg : Gl w) (hr0 : Rd b w w0 s) :
    Calls Tryd.prog 71 #[.pointer (some ⟨b, 0, none⟩)] w0 fun e w' =>
      (Pl.snd s.data.toList ≠ 0 ∧ e = .returned (.int .i64 (Pl.fst s.data.toList : Nat)) ∧ Rd b w w' (s.extract (Pl.snd s.data.toList) s.size)) ∨ (Pl.snd s.data.toList = 0 ∧ Broke b w e w') := by
  go_enter Tryd.func71, Tryd.ntmps71
  go_wp2_with fail
  go_loopw [3, 4, 5, 6] (fun v _ _ i wr => ∃ k : Nat, k ≤ 9 ∧ k ≤ s.size ∧ i = .int .i64 k ∧ v = .int .i64 (Pl.val (s.data.toList.take k)) ∧ (∀ j, j < k → 128 ≤ (s.data.toList.getD j 0).toNat) ∧ Rd b w wr (s.extract k s.size)) (fun _ _ _ i _ => 9 - (intOf i).toNat)
  case atStart => exact ⟨0, by omega, by omega, rfl, rfl, fun j h => absurd h (by omega), by simpa using hr0⟩
  case round =>
    obtain ⟨k, h9, hk, rfl, rfl, hld, hr⟩ := hrel
    have HO : Hid (k = 9 ∨ k = s.size → Pl.fst s.data.toList = 0 ∧ Pl.snd s.data.toList = 0) := fun h => Pl.first_out _ k h9 (by simpa using hk) hld (by simpa using h)
    have hv := Pl.val_lt (s.data.toList.take k)
    by_cases h2 : k < 9
    · by_cases h1 : k < s.size
      · have hex : 0 < (s.extract k s.size).size := by rw [ByteArray.size_extract]; omega
        have H1 := hide (byte_get b (s.extract k s.size) hex w wr hr)
        rw [ba0 s k h1, ba1 s k h1] at H1
        have hbk : s[k].toNat < 256 := UInt8.toNat_lt _
        clear hv
        have HE := hide (step_or s k h1 h2)
        have HF : Hid (s[k].toNat < 128 → ((¬ (0 < k ∧ s[k].toNat = 0) → Pl.fst s.data.toList = Pl.val (s.data.toList.take (k + 1)) ∧ Pl.snd s.data.toList = k + 1) ∧ (0 < k ∧ s[k].toNat = 0 → Pl.snd s.data.toList = 0))) := fun hlo => first_by s k h2 h1 hld hlo
        go_wp2_with (go_at_call 70; refine (H1.out).mono ?_; rintro e w1 ⟨rfl, hr1⟩; obtain ⟨t1, v1, hg1⟩ := (hg.rd hr1 hb).2.1)
        · rw [HE.out]
          go_roundw
          case rel =>
            refine ⟨k + 1, by omega, by omega, by go_num, rfl, ?_, hr1⟩
            have hhi : 128 ≤ (s[k].toNat : Int) := by assumption
            intro j hj
            by_cases hjk : j = k
            · subst hjk; rw [ba_getD s j h1]; omega
            · exact hld j (by omega)
          case measure => simp [intOf]; omega
        · have hz : s[k].toNat = 0 := by assumption
          have hkp : 0 < k := by assumption
          refine ⟨rfl, Or.inr ⟨(HF.out (by omega)).2 ⟨hkp, hz⟩, ⟨t1, v1, rfl⟩, _, hr1⟩⟩
        · have hz : s[k].toNat = 0 := by assumption
          have hkp : ¬ 0 < k := by assumption
          obtain ⟨f1, f2⟩ := (HF.out (by omega)).1 (fun h => hkp h.1)
          have HE' := HE.out
          rw [hz, show ((0 : Nat) : Int) = 0 from rfl] at HE'
          rw [HE']
          go_ret
          exact Or.inl ⟨by omega, ret_int (by rw [f1]), by rw [f2]; exact hr1⟩
        · have hz : ¬ s[k].toNat = 0 := by assumption
          have hlo : (s[k].toNat : Int) < 128 := by assumption
          obtain ⟨f1, f2⟩ := (HF.out (by omega)).1 (fun h => hz h.2)
          rw [HE.out]
          go_ret
          exact Or.inl ⟨by omega, ret_int (by rw [f1]), by rw [f2]; exact hr1⟩
      · have H1 := hide (byte_break b hb (s.extract k s.size) (by rw [ByteArray.size_extract]; omega) w wr hg hr)
        have hz := HO.out (Or.inr (by omega))
        have HZ := hide hz.2
        clear hz
        go_wp2_with (go_at_call 70; refine (H1.out).mono ?_; rintro e w1 ⟨⟨t1, v1, rfl⟩, s1, hr1⟩)
        exact ⟨rfl, Or.inr ⟨HZ.out, ⟨t1, v1, rfl⟩, s1, hr1⟩⟩
    · have HZ := hide (HO.out (Or.inl (by omega))).2
      obtain ⟨t1, v1, hg1⟩ := (hg.rd hr hb).2.1
      go_wp2_with fail
      exact ⟨rfl, Or.inr ⟨HZ.out, ⟨t1, v1, rfl⟩, _, hr⟩⟩

end Go.Proofs.YtcomohmadfnmgaaDoor
