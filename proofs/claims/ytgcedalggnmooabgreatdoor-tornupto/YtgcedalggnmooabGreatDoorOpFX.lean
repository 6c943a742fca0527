import Derived.Test.YtgcedalggnmooabGreatDoorOpDX
namespace Go.Proofs.YtgcedalggnmooabGreatDoor
set_option linter.unusedSimpArgs false
set_option linter.unusedVariables false
set_option maxRecDepth 100000

/-! A burst of at most 32 bits is not divided by the check's polynomial. -/
theorem xor_mul2 (a b : Nat) : (a ^^^ b) * 2 = (a * 2) ^^^ (b * 2) := by
  apply Nat.eq_of_testBit_eq
  intro i
  rw [Nat.testBit_xor]
  cases i with
  | zero => simp
  | succ i => rw [Nat.testBit_succ, Nat.testBit_succ, Nat.testBit_succ, Nat.mul_div_cancel _ (by omega), Nat.mul_div_cancel _ (by omega), Nat.mul_div_cancel _ (by omega), Nat.testBit_xor]
theorem xor_mod32 (a b : Nat) : (a ^^^ b) % 4294967296 = (a % 4294967296) ^^^ (b % 4294967296) := by
  rw [two32]; exact Nat.xor_mod_two_pow
def pif (b : Bool) : Nat := if b = true then 517762881 else 0
theorem crcS_pif (v : Nat) : crcS v = (v * 2 % 4294967296) ^^^ pif (v.testBit 31) := by
  unfold crcS pif
  split <;> simp
theorem pif_xor (a b : Bool) : pif (a ^^ b) = pif a ^^^ pif b := by cases a <;> cases b <;> simp [pif]
theorem xor4 (a b c d : Nat) : (a ^^^ b) ^^^ (c ^^^ d) = (a ^^^ c) ^^^ (b ^^^ d) := by
  rw [Nat.xor_assoc, Nat.xor_assoc, ← Nat.xor_assoc b, Nat.xor_comm b c, Nat.xor_assoc c]
theorem crcS_xor (a b : Nat) : crcS (a ^^^ b) = crcS a ^^^ crcS b := by
  rw [crcS_pif, crcS_pif, crcS_pif, xor_mul2, xor_mod32, Nat.testBit_xor, pif_xor, xor4]
theorem crcS_low {v : Nat} (h : v < 2147483648) : crcS v = v * 2 := by
  rw [crcS_pif, Nat.testBit_lt_two_pow (by exact h), Nat.mod_eq_of_lt (by omega)]
  simp [pif]
theorem crcS_zero {v : Nat} (h : v < 4294967296) (h0 : crcS v = 0) : v = 0 := by
  by_cases hl : v < 2147483648
  · rw [crcS_low hl] at h0; omega
  · have ht : v.testBit 31 = true := by
      rw [Nat.testBit_eq_decide_div_mod_eq]
      have : v / 2 ^ 31 % 2 = 1 := by
        have : v / 2147483648 = 1 := by omega
        show v / 2147483648 % 2 = 1
        rw [this]
      simp [this]
    rw [crcS_pif, ht] at h0
    have h1 : v * 2 % 4294967296 = 517762881 := by
      have := congrArg (· ^^^ 517762881) h0
      simp only [pif, if_true, Nat.xor_assoc, Nat.xor_self, Nat.xor_zero, Nat.zero_xor] at this
      exact this
    omega
theorem crcK_xor (a b : Nat) : ∀ k, crcK (a ^^^ b) k = crcK a k ^^^ crcK b k
  | 0 => rfl
  | k + 1 => by show crcS _ = crcS _ ^^^ crcS _; rw [crcK_xor a b k, crcS_xor]
theorem crcK_add (v j : Nat) : ∀ k, crcK v (j + k) = crcK (crcK v j) k
  | 0 => rfl
  | k + 1 => by show crcS (crcK v (j + k)) = crcS _; rw [crcK_add v j k]
theorem crcK_zero {v : Nat} (h : v < 4294967296) : ∀ k, crcK v k = 0 → v = 0
  | 0, h0 => h0
  | k + 1, h0 => crcK_zero h k (crcS_zero (crcK_lt h k) h0)
theorem crcK_low (v j : Nat) : ∀ k, k ≤ j → v * 2 ^ j < 4294967296 → crcK v k = v * 2 ^ k
  | 0, _, _ => by show v = v * 2 ^ 0; omega
  | k + 1, hk, h => by
    have ih := crcK_low v j k (by omega) h
    have hp : v * 2 ^ k * 2 ≤ v * 2 ^ j := by
      rw [Nat.mul_assoc, ← Nat.pow_succ]
      exact Nat.mul_le_mul_left _ (Nat.pow_le_pow_right (by omega) hk)
    show crcS (crcK v k) = _
    rw [ih, crcS_low (by omega), Nat.mul_assoc, ← Nat.pow_succ]

/-- The register over m * 2^b. -/
theorem burst (m : Nat) (hm : m < 4294967296) : ∀ b, b ≤ 24 → crcK (m * 2 ^ b / 4294967296 * 256) 24 ^^^ (m * 2 ^ b % 4294967296) = crcK m b
  | 0, _ => by
    have e1 : m * 2 ^ 0 / 4294967296 * 256 = 0 := by omega
    have e2 : m * 2 ^ 0 % 4294967296 = m := by omega
    rw [e1, e2, show crcK 0 24 = 0 by kernel_rfl, Nat.zero_xor]; rfl
  | b + 1, hb => by
    have ih := burst m hm b (by omega)
    show _ = crcS (crcK m b)
    rw [← ih, crcS_xor]
    obtain ⟨y, hy⟩ : ∃ y, y = m * 2 ^ b := ⟨_, rfl⟩
    have hp : (2 : Nat) ^ b ≤ 2 ^ 23 := Nat.pow_le_pow_right (by omega) (by omega)
    have hq : (2 : Nat) ^ 23 = 8388608 := rfl
    have hylt : y < 4294967296 * 8388608 := by
      rw [hy]
      exact Nat.lt_of_lt_of_le (Nat.mul_lt_mul_of_lt_of_le hm hp (by have := Nat.two_pow_pos b; omega)) (by omega)
    have e1 : m * 2 ^ (b + 1) = y * 2 := by rw [hy, Nat.pow_succ, Nat.mul_assoc]
    rw [e1, ← hy]
    have hx : crcS (crcK (y / 4294967296 * 256) 24) = crcK (y / 4294967296 * 512) 24 := by
      show crcK (y / 4294967296 * 256) 25 = _
      rw [show (25 : Nat) = 1 + 24 from rfl, crcK_add]
      show crcK (crcS (y / 4294967296 * 256)) 24 = _
      rw [crcS_low (v := y / 4294967296 * 256) (by omega), show y / 4294967296 * 256 * 2 = y / 4294967296 * 512 by omega]
    rw [hx, crcS_pif, ← Nat.xor_assoc]
    have hm2 : y % 4294967296 * 2 % 4294967296 = y * 2 % 4294967296 := by omega
    rw [hm2]
    by_cases ht : y % 4294967296 < 2147483648
    · have e3 : y * 2 / 4294967296 * 256 = y / 4294967296 * 512 := by omega
      rw [e3, Nat.testBit_lt_two_pow (by exact ht)]
      simp [pif]
    · have hbit : (y % 4294967296).testBit 31 = true := by
        rw [Nat.testBit_eq_decide_div_mod_eq]
        have : y % 4294967296 / 2147483648 = 1 := by omega
        have : y % 4294967296 / 2 ^ 31 % 2 = 1 := by show y % 4294967296 / 2147483648 % 2 = 1; rw [this]
        simp [this]
      have e3 : y * 2 / 4294967296 * 256 = (y / 4294967296 * 512) ^^^ 256 := by
        have e4 : y * 2 / 4294967296 * 256 = y / 4294967296 * 512 + 256 := by omega
        rw [e4]
        apply Nat.eq_of_testBit_eq
        intro i
        have e5 : y / 4294967296 * 512 = 2 ^ 9 * (y / 4294967296) := by omega
        rw [e5, Nat.testBit_two_pow_mul_add _ (by decide), Nat.testBit_xor, Nat.testBit_two_pow_mul]
        by_cases hi : i < 9
        · rw [if_pos hi, decide_eq_false (by omega)]; simp
        · rw [if_neg hi, decide_eq_true (by omega), Nat.testBit_lt_two_pow (x := 256) (i := i) (Nat.lt_of_lt_of_le (by decide : 256 < 2 ^ 9) (Nat.pow_le_pow_right (by omega) (by omega)))]; simp
      rw [e3, crcK_xor, hbit, show crcK 256 24 = 517762881 by kernel_rfl, Nat.xor_assoc, Nat.xor_comm 517762881, ← Nat.xor_assoc]
      rfl
theorem burst_zero {X b : Nat} (hb : b ≤ 24) (hX : X < 4294967296 * 2 ^ b) (hd : X % 2 ^ b = 0) (h : crcK (X / 4294967296 * 256) 24 = X % 4294967296) : X = 0 := by
  have e : X = X / 2 ^ b * 2 ^ b := by have := Nat.div_add_mod X (2 ^ b); rw [hd, Nat.mul_comm] at this; omega
  have hm : X / 2 ^ b < 4294967296 := by rw [Nat.div_lt_iff_lt_mul (Nat.two_pow_pos b)]; exact hX
  have hk := burst (X / 2 ^ b) hm b hb
  rw [← e, h, Nat.xor_self] at hk
  have := crcK_zero hm b hk.symm
  rw [e, this, Nat.zero_mul]

/-! Seven bytes as a number. -/
def n7 : List UInt8 → Nat
  | [a, b, c, d, e, f, g] => (((((a.toNat * 256 + b.toNat) * 256 + c.toNat) * 256 + d.toNat) * 256 + e.toNat) * 256 + f.toNat) * 256 + g.toNat
  | _ => 0
theorem mul_add_xor (x : Nat) {k y : Nat} (hy : y < 2 ^ k) : 2 ^ k * x + y = (2 ^ k * x) ^^^ y := by
  apply Nat.eq_of_testBit_eq
  intro i
  rw [Nat.testBit_two_pow_mul_add _ hy, Nat.testBit_xor, Nat.testBit_two_pow_mul]
  by_cases hi : i < k
  · rw [if_pos hi, decide_eq_false (by omega)]; simp
  · rw [if_neg hi, decide_eq_true (by omega), Nat.testBit_lt_two_pow (Nat.lt_of_lt_of_le hy (Nat.pow_le_pow_right (by omega) (by omega)))]; simp
/-- Three bytes at once. -/
theorem crc3 (r : Nat) (a b c : UInt8) : crcB (crcB (crcB r a) b) c = crcK (r ^^^ ((a.toNat * 65536 + b.toNat * 256 + c.toNat) * 256)) 24 := by
  have ha := UInt8.toNat_lt a
  have hb := UInt8.toNat_lt b
  have hc := UInt8.toNat_lt c
  have e1 : b.toNat * 16777216 = crcK (b.toNat * 65536) 8 := (show b.toNat * 16777216 = b.toNat * 65536 * 2 ^ 8 by omega).trans (crcK_low (b.toNat * 65536) 8 8 (Nat.le_refl _) (by omega)).symm
  have e2a : c.toNat * 16777216 = c.toNat * 256 * 2 ^ 16 := by clear e1; omega
  have e2b : c.toNat * 256 * 2 ^ 16 < 4294967296 := by clear e1; omega
  have e2 : c.toNat * 16777216 = crcK (c.toNat * 256) 16 := e2a.trans (crcK_low (c.toNat * 256) 16 16 (Nat.le_refl _) e2b).symm
  clear e2a e2b
  have e3 : (a.toNat * 65536 + b.toNat * 256 + c.toNat) * 256 = ((a.toNat * 16777216) ^^^ (b.toNat * 65536)) ^^^ (c.toNat * 256) := by
    clear e1 e2
    have q1 := mul_add_xor (a.toNat) (k := 24) (y := b.toNat * 65536) (by omega)
    have q2 := mul_add_xor (a.toNat * 256 + b.toNat) (k := 16) (y := c.toNat * 256) (by omega)
    have q3 : 2 ^ 24 * a.toNat = a.toNat * 16777216 := by omega
    have q4 : 2 ^ 16 * (a.toNat * 256 + b.toNat) = a.toNat * 16777216 + b.toNat * 65536 := by omega
    rw [q3] at q1
    rw [q4, q1] at q2
    rw [← q2]
    have : (a.toNat * 16777216 ^^^ b.toNat * 65536) = a.toNat * 16777216 + b.toNat * 65536 := q1.symm
    rw [this]; omega
  unfold crcB
  rw [e1, e2, ← crcK_xor, show (16 : Nat) = 8 + 8 from rfl, crcK_add (c.toNat * 256), ← crcK_add, ← crcK_add (c.toNat * 256), ← crcK_xor, ← crcK_add]
  rw [e3]
  congr 1
  rw [Nat.xor_assoc, Nat.xor_assoc, Nat.xor_assoc]

end Go.Proofs.YtgcedalggnmooabGreatDoor

namespace Go.Proofs.YtgcedalggnmooabGreatDoor
set_option linter.unusedSimpArgs false
set_option linter.unusedVariables false
set_option maxRecDepth 100000

theorem xor_div (k a b : Nat) : (a ^^^ b) / 2 ^ k = (a / 2 ^ k) ^^^ (b / 2 ^ k) := by
  apply Nat.eq_of_testBit_eq
  intro i
  rw [Nat.testBit_xor, Nat.testBit_div_two_pow, Nat.testBit_div_two_pow, Nat.testBit_div_two_pow, Nat.testBit_xor]
theorem xor_mulp (k a b : Nat) : 2 ^ k * (a ^^^ b) = (2 ^ k * a) ^^^ (2 ^ k * b) := by
  apply Nat.eq_of_testBit_eq
  intro i
  rw [Nat.testBit_xor, Nat.testBit_two_pow_mul, Nat.testBit_two_pow_mul, Nat.testBit_two_pow_mul, Nat.testBit_xor]
  cases decide (i ≥ k) <;> simp
theorem xor_mul256 (a b : Nat) : (a ^^^ b) * 256 = (a * 256) ^^^ (b * 256) := by
  have := xor_mulp 8 a b
  rw [Nat.mul_comm, show (256 : Nat) = 2 ^ 8 from rfl, this, Nat.mul_comm (2 ^ 8) a, Nat.mul_comm (2 ^ 8) b]
theorem xor_cancel {a b c : Nat} (h : a ^^^ b = a ^^^ c) : b = c := by
  have := congrArg (a ^^^ ·) h
  simp only [← Nat.xor_assoc, Nat.xor_self, Nat.zero_xor] at this
  exact this
theorem xor5 {A C Y K : Nat} (h : (A ^^^ K) ^^^ Y = (A ^^^ C) ^^^ K) : C = Y := by
  rw [Nat.xor_assoc A C K, Nat.xor_comm C K, ← Nat.xor_assoc A K C] at h
  exact (xor_cancel h).symm
theorem seven {l : List UInt8} (h : l.length = 7) : ∃ a b c d e f g, l = [a, b, c, d, e, f, g] := by
  match l, h with
  | [a, b, c, d, e, f, g], _ => exact ⟨a, b, c, d, e, f, g, rfl⟩
def r3 : Nat := crcB 4294967295 3
theorem beB_num {v : Nat} (hv : v < 4294967296) {d e f g : UInt8} (h : [d, e, f, g] = beB v) : d.toNat * 16777216 + e.toNat * 65536 + f.toNat * 256 + g.toNat = v := by
  unfold beB at h
  injection h with h1 h
  injection h with h2 h
  injection h with h3 h
  injection h with h4 h
  rw [h1, h2, h3, h4, UInt8.toNat_ofNat', UInt8.toNat_ofNat', UInt8.toNat_ofNat', UInt8.toNat_ofNat']
  omega
theorem n7_eq (a b c d e f g : UInt8) : n7 [a, b, c, d, e, f, g] = (((((a.toNat * 256 + b.toNat) * 256 + c.toNat) * 256 + d.toNat) * 256 + e.toNat) * 256 + f.toNat) * 256 + g.toNat := rfl
theorem n7_div (a b c d e f g : UInt8) : n7 [a, b, c, d, e, f, g] / 4294967296 = a.toNat * 65536 + b.toNat * 256 + c.toNat := by
  have hd := UInt8.toNat_lt d
  have he := UInt8.toNat_lt e
  have hf := UInt8.toNat_lt f
  have hg := UInt8.toNat_lt g
  rw [n7_eq]; omega
theorem n7_mod (a b c d e f g : UInt8) : n7 [a, b, c, d, e, f, g] % 4294967296 = d.toNat * 16777216 + e.toNat * 65536 + f.toNat * 256 + g.toNat := by
  have hd := UInt8.toNat_lt d
  have he := UInt8.toNat_lt e
  have hf := UInt8.toNat_lt f
  have hg := UInt8.toNat_lt g
  rw [n7_eq]; omega
theorem fold3 (r : Nat) (x a b c : UInt8) : [x, a, b, c].foldl crcB r = crcB (crcB (crcB (crcB r x) a) b) c := rfl
theorem crcF3 (a b c : UInt8) : crcF [3, a, b, c] = crcK (r3 ^^^ ((a.toNat * 65536 + b.toNat * 256 + c.toNat) * 256)) 24 := by
  exact (fold3 4294967295 3 a b c).trans (crc3 r3 a b c)
theorem crcF_lt (l : List UInt8) : crcF l ^^^ 4294967295 < 4294967296 := (((crcF_reg l).xor Rg.ones)).1
/-- A frame of three bytes that stands. -/
theorem stands {l : List UInt8} (h7 : l.length = 7) (h : (l.drop 3).take 4 = chkB (3 :: l.take 3)) : n7 l % 4294967296 = crcK (r3 ^^^ (n7 l / 4294967296 * 256)) 24 ^^^ 4294967295 := by
  obtain ⟨a, b, c, d, e, f, g, rfl⟩ := seven h7
  rw [chkB_crc] at h
  simp only [List.drop_succ_cons, List.drop_zero, List.take_succ_cons, List.take_zero] at h
  rw [n7_div, n7_mod, ← crcF3]
  exact beB_num (crcF_lt _) h
theorem xor_div32 (a b : Nat) : (a ^^^ b) / 4294967296 = (a / 4294967296) ^^^ (b / 4294967296) := by
  rw [two32]; exact xor_div 32 a b
/-- Bits turned over, all within 32 in a row: the frame does not stand. -/
theorem torn_frame {f t : List UInt8} (hf7 : f.length = 7) (ht7 : t.length = 7) (hf : (f.drop 3).take 4 = chkB (3 :: f.take 3)) (ht : (t.drop 3).take 4 = chkB (3 :: t.take 3)) {X b : Nat} (hb : b ≤ 24) (hX : X < 4294967296 * 2 ^ b) (hd : X % 2 ^ b = 0) (hx : n7 t = n7 f ^^^ X) : X = 0 := by
  have h1 := stands hf7 hf
  have h2 := stands ht7 ht
  have e1 : n7 t / 4294967296 = (n7 f / 4294967296) ^^^ (X / 4294967296) := (congrArg (· / 4294967296) hx).trans (xor_div32 _ _)
  have e2 : n7 t % 4294967296 = (n7 f % 4294967296) ^^^ (X % 4294967296) := (congrArg (· % 4294967296) hx).trans (xor_mod32 _ _)
  rw [e1, e2, h1, xor_mul256, ← Nat.xor_assoc, crcK_xor (r3 ^^^ n7 f / 4294967296 * 256) (X / 4294967296 * 256)] at h2
  apply burst_zero hb hX hd
  exact xor5 h2
theorem n7_inj {f t : List UInt8} (hf7 : f.length = 7) (ht7 : t.length = 7) (h : n7 t = n7 f) : t = f := by
  obtain ⟨a, b, c, d, e, f, g, rfl⟩ := seven hf7
  obtain ⟨a', b', c', d', e', f', g', rfl⟩ := seven ht7
  have h' : ((((((a'.toNat * 256 + b'.toNat) * 256 + c'.toNat) * 256 + d'.toNat) * 256 + e'.toNat) * 256 + f'.toNat) * 256 + g'.toNat) = ((((((a.toNat * 256 + b.toNat) * 256 + c.toNat) * 256 + d.toNat) * 256 + e.toNat) * 256 + f.toNat) * 256 + g.toNat) := h
  have ha := UInt8.toNat_lt a
  have hb := UInt8.toNat_lt b
  have hc := UInt8.toNat_lt c
  have hd := UInt8.toNat_lt d
  have he := UInt8.toNat_lt e
  have hf := UInt8.toNat_lt f
  have hg := UInt8.toNat_lt g
  have ha' := UInt8.toNat_lt a'
  have hb' := UInt8.toNat_lt b'
  have hc' := UInt8.toNat_lt c'
  have hd' := UInt8.toNat_lt d'
  have he' := UInt8.toNat_lt e'
  have hf' := UInt8.toNat_lt f'
  have hg' := UInt8.toNat_lt g'
  rw [UInt8.toNat_inj.1 (show a'.toNat = a.toNat by omega), UInt8.toNat_inj.1 (show b'.toNat = b.toNat by omega), UInt8.toNat_inj.1 (show c'.toNat = c.toNat by omega), UInt8.toNat_inj.1 (show d'.toNat = d.toNat by omega), UInt8.toNat_inj.1 (show e'.toNat = e.toNat by omega), UInt8.toNat_inj.1 (show f'.toNat = f.toNat by omega), UInt8.toNat_inj.1 (show g'.toNat = g.toNat by omega)]

end Go.Proofs.YtgcedalggnmooabGreatDoor
