import Derived.Test.YtgcedalggnmooabGreatDoorOpDX
import Derived.Lib.ConvBytes
namespace Go.Proofs.YtgcedalggnmooabGreatDoor
set_option linter.unusedSimpArgs false
set_option linter.unusedVariables false
set_option maxRecDepth 100000

/-! A burst of at most 32 bits is not divided by the check's polynomial. -/
theorem xor_mul2 (a b : Nat) : (a ^^^ b) * 2 = (a * 2) ^^^ (b * 2) := by
  apply Nat.eq_of_testBit_eq
  intro i
  rw [Nat.testBit_xor]
  cases i with
  | zero => simp
  | succ i => rw [Nat.testBit_succ, Nat.testBit_succ, Nat.testBit_succ, Nat.mul_div_cancel _ (by omega), Nat.mul_div_cancel _ (by omega), Nat.mul_div_cancel _ (by omega), Nat.testBit_xor]
theorem xor_mod32 (a b : Nat) : (a ^^^ b) % 4294967296 = (a % 4294967296) ^^^ (b % 4294967296) := by
  rw [two32]; exact Nat.xor_mod_two_pow
def pif (b : Bool) : Nat := if b = true then 517762881 else 0
theorem crcS_pif (v : Nat) : crcS v = (v * 2 % 4294967296) ^^^ pif (v.testBit 31) := by
  unfold crcS pif
  split <;> simp
theorem pif_xor (a b : Bool) : pif (a ^^ b) = pif a ^^^ pif b := by cases a <;> cases b <;> simp [pif]
theorem xor4 (a b c d : Nat) : (a ^^^ b) ^^^ (c ^^^ d) = (a ^^^ c) ^^^ (b ^^^ d) := by
  rw [Nat.xor_assoc, Nat.xor_assoc, ← Nat.xor_assoc b, Nat.xor_comm b c, Nat.xor_assoc c]
theorem crcS_xor (a b : Nat) : crcS (a ^^^ b) = crcS a ^^^ crcS b := by
  rw [crcS_pif, crcS_pif, crcS_pif, xor_mul2, xor_mod32, Nat.testBit_xor, pif_xor, xor4]
theorem crcS_low {v : Nat} (h : v < 2147483648) : crcS v = v * 2 := by
  rw [crcS_pif, Nat.testBit_lt_two_pow (by exact h), Nat.mod_eq_of_lt (by omega)]
  simp [pif]
theorem crcS_zero {v : Nat} (h : v < 4294967296) (h0 : crcS v = 0) : v = 0 := by
  by_cases hl : v < 2147483648
  · rw [crcS_low hl] at h0; omega
  · have ht : v.testBit 31 = true := by
      rw [Nat.testBit_eq_decide_div_mod_eq]
      have : v / 2 ^ 31 % 2 = 1 := by
        have : v / 2147483648 = 1 := by omega
        show v / 2147483648 % 2 = 1
        rw [this]
      simp [this]
    rw [crcS_pif, ht] at h0
    have h1 : v * 2 % 4294967296 = 517762881 := by
      have := congrArg (· ^^^ 517762881) h0
      simp only [pif, if_true, Nat.xor_assoc, Nat.xor_self, Nat.xor_zero, Nat.zero_xor] at this
      exact this
    omega
theorem crcK_xor (a b : Nat) : ∀ k, crcK (a ^^^ b) k = crcK a k ^^^ crcK b k
  | 0 => rfl
  | k + 1 => by show crcS _ = crcS _ ^^^ crcS _; rw [crcK_xor a b k, crcS_xor]
theorem crcK_add (v j : Nat) : ∀ k, crcK v (j + k) = crcK (crcK v j) k
  | 0 => rfl
  | k + 1 => by show crcS (crcK v (j + k)) = crcS _; rw [crcK_add v j k]
theorem crcK_zero {v : Nat} (h : v < 4294967296) : ∀ k, crcK v k = 0 → v = 0
  | 0, h0 => h0
  | k + 1, h0 => crcK_zero h k (crcS_zero (crcK_lt h k) h0)
theorem crcK_low (v j : Nat) : ∀ k, k ≤ j → v * 2 ^ j < 4294967296 → crcK v k = v * 2 ^ k
  | 0, _, _ => by show v = v * 2 ^ 0; omega
  | k + 1, hk, h => by
    have ih := crcK_low v j k (by omega) h
    have hp : v * 2 ^ k * 2 ≤ v * 2 ^ j := by
      rw [Nat.mul_assoc, ← Nat.pow_succ]
      exact Nat.mul_le_mul_left _ (Nat.pow_le_pow_right (by omega) hk)
    show crcS (crcK v k) = _
    rw [ih, crcS_low (by omega), Nat.mul_assoc, ← Nat.pow_succ]

/-- The register over m * 2^b. -/
theorem burst (m : Nat) (hm : m < 4294967296) : ∀ b, b ≤ 24 → crcK (m * 2 ^ b / 4294967296 * 256) 24 ^^^ (m * 2 ^ b % 4294967296) = crcK m b
  | 0, _ => by
    have e1 : m * 2 ^ 0 / 4294967296 * 256 = 0 := by omega
    have e2 : m * 2 ^ 0 % 4294967296 = m := by omega
    rw [e1, e2, show crcK 0 24 = 0 by kernel_rfl, Nat.zero_xor]; rfl
  | b + 1, hb => by
    have ih := burst m hm b (by omega)
    show _ = crcS (crcK m b)
    rw [← ih, crcS_xor]
    obtain ⟨y, hy⟩ : ∃ y, y = m * 2 ^ b := ⟨_, rfl⟩
    have hp : (2 : Nat) ^ b ≤ 2 ^ 23 := Nat.pow_le_pow_right (by omega) (by omega)
    have hq : (2 : Nat) ^ 23 = 8388608 := rfl
    have hylt : y < 4294967296 * 8388608 := by
      rw [hy]
      exact Nat.lt_of_lt_of_le (Nat.mul_lt_mul_of_lt_of_le hm hp (by have := Nat.two_pow_pos b; omega)) (by omega)
    have e1 : m * 2 ^ (b + 1) = y * 2 := by rw [hy, Nat.pow_succ, Nat.mul_assoc]
    rw [e1, ← hy]
    have hx : crcS (crcK (y / 4294967296 * 256) 24) = crcK (y / 4294967296 * 512) 24 := by
      show crcK (y / 4294967296 * 256) 25 = _
      rw [show (25 : Nat) = 1 + 24 from rfl, crcK_add]
      show crcK (crcS (y / 4294967296 * 256)) 24 = _
      rw [crcS_low (v := y / 4294967296 * 256) (by omega), show y / 4294967296 * 256 * 2 = y / 4294967296 * 512 by omega]
    rw [hx, crcS_pif, ← Nat.xor_assoc]
    have hm2 : y % 4294967296 * 2 % 4294967296 = y * 2 % 4294967296 := by omega
    rw [hm2]
    by_cases ht : y % 4294967296 < 2147483648
    · have e3 : y * 2 / 4294967296 * 256 = y / 4294967296 * 512 := by omega
      rw [e3, Nat.testBit_lt_two_pow (by exact ht)]
      simp [pif]
    · have hbit : (y % 4294967296).testBit 31 = true := by
        rw [Nat.testBit_eq_decide_div_mod_eq]
        have : y % 4294967296 / 2147483648 = 1 := by omega
        have : y % 4294967296 / 2 ^ 31 % 2 = 1 := by show y % 4294967296 / 2147483648 % 2 = 1; rw [this]
        simp [this]
      have e3 : y * 2 / 4294967296 * 256 = (y / 4294967296 * 512) ^^^ 256 := by
        have e4 : y * 2 / 4294967296 * 256 = y / 4294967296 * 512 + 256 := by omega
        rw [e4]
        apply Nat.eq_of_testBit_eq
        intro i
        have e5 : y / 4294967296 * 512 = 2 ^ 9 * (y / 4294967296) := by omega
        rw [e5, Nat.testBit_two_pow_mul_add _ (by decide), Nat.testBit_xor, Nat.testBit_two_pow_mul]
        by_cases hi : i < 9
        · rw [if_pos hi, decide_eq_false (by omega)]; simp
        · rw [if_neg hi, decide_eq_true (by omega), Nat.testBit_lt_two_pow (x := 256) (i := i) (Nat.lt_of_lt_of_le (by decide : 256 < 2 ^ 9) (Nat.pow_le_pow_right (by omega) (by omega)))]; simp
      rw [e3, crcK_xor, hbit, show crcK 256 24 = 517762881 by kernel_rfl, Nat.xor_assoc, Nat.xor_comm 517762881, ← Nat.xor_assoc]
      rfl
theorem burst_zero {X b : Nat} (hb : b ≤ 24) (hX : X < 4294967296 * 2 ^ b) (hd : X % 2 ^ b = 0) (h : crcK (X / 4294967296 * 256) 24 = X % 4294967296) : X = 0 := by
  have e : X = X / 2 ^ b * 2 ^ b := by have := Nat.div_add_mod X (2 ^ b); rw [hd, Nat.mul_comm] at this; omega
  have hm : X / 2 ^ b < 4294967296 := by rw [Nat.div_lt_iff_lt_mul (Nat.two_pow_pos b)]; exact hX
  have hk := burst (X / 2 ^ b) hm b hb
  rw [← e, h, Nat.xor_self] at hk
  have := crcK_zero hm b hk.symm
  rw [e, this, Nat.zero_mul]

/-! Seven bytes as a number. -/
def n7 : List UInt8 → Nat
  | [a, b, c, d, e, f, g] => (((((a.toNat * 256 + b.toNat) * 256 + c.toNat) * 256 + d.toNat) * 256 + e.toNat) * 256 + f.toNat) * 256 + g.toNat
  | _ => 0
theorem mul_add_xor (x : Nat) {k y : Nat} (hy : y < 2 ^ k) : 2 ^ k * x + y = (2 ^ k * x) ^^^ y := by
  apply Nat.eq_of_testBit_eq
  intro i
  rw [Nat.testBit_two_pow_mul_add _ hy, Nat.testBit_xor, Nat.testBit_two_pow_mul]
  by_cases hi : i < k
  · rw [if_pos hi, decide_eq_false (by omega)]; simp
  · rw [if_neg hi, decide_eq_true (by omega), Nat.testBit_lt_two_pow (Nat.lt_of_lt_of_le hy (Nat.pow_le_pow_right (by omega) (by omega)))]; simp
/-- Three bytes at once. -/
theorem crc3 (r : Nat) (a b c : UInt8) : crcB (crcB (crcB r a) b) c = crcK (r ^^^ ((a.toNat * 65536 + b.toNat * 256 + c.toNat) * 256)) 24 := by
  have ha := UInt8.toNat_lt a
  have hb := UInt8.toNat_lt b
  have hc := UInt8.toNat_lt c
  have e1 : b.toNat * 16777216 = crcK (b.toNat * 65536) 8 := (show b.toNat * 16777216 = b.toNat * 65536 * 2 ^ 8 by omega).trans (crcK_low (b.toNat * 65536) 8 8 (Nat.le_refl _) (by omega)).symm
  have e2a : c.toNat * 16777216 = c.toNat * 256 * 2 ^ 16 := by clear e1; omega
  have e2b : c.toNat * 256 * 2 ^ 16 < 4294967296 := by clear e1; omega
  have e2 : c.toNat * 16777216 = crcK (c.toNat * 256) 16 := e2a.trans (crcK_low (c.toNat * 256) 16 16 (Nat.le_refl _) e2b).symm
  clear e2a e2b
  have e3 : (a.toNat * 65536 + b.toNat * 256 + c.toNat) * 256 = ((a.toNat * 16777216) ^^^ (b.toNat * 65536)) ^^^ (c.toNat * 256) := by
    clear e1 e2
    have q1 := mul_add_xor (a.toNat) (k := 24) (y := b.toNat * 65536) (by omega)
    have q2 := mul_add_xor (a.toNat * 256 + b.toNat) (k := 16) (y := c.toNat * 256) (by omega)
    have q3 : 2 ^ 24 * a.toNat = a.toNat * 16777216 := by omega
    have q4 : 2 ^ 16 * (a.toNat * 256 + b.toNat) = a.toNat * 16777216 + b.toNat * 65536 := by omega
    rw [q3] at q1
    rw [q4, q1] at q2
    rw [← q2]
    have : (a.toNat * 16777216 ^^^ b.toNat * 65536) = a.toNat * 16777216 + b.toNat * 65536 := q1.symm
    rw [this]; omega
  unfold crcB
  rw [e1, e2, ← crcK_xor, show (16 : Nat) = 8 + 8 from rfl, crcK_add (c.toNat * 256), ← crcK_add, ← crcK_add (c.toNat * 256), ← crcK_xor, ← crcK_add]
  rw [e3]
  congr 1
  rw [Nat.xor_assoc, Nat.xor_assoc, Nat.xor_assoc]

end Go.Proofs.YtgcedalggnmooabGreatDoor

namespace Go.Proofs.YtgcedalggnmooabGreatDoor
set_option linter.unusedSimpArgs false
set_option linter.unusedVariables false
set_option maxRecDepth 100000

theorem xor_div (k a b : Nat) : (a ^^^ b) / 2 ^ k = (a / 2 ^ k) ^^^ (b / 2 ^ k) := by
  apply Nat.eq_of_testBit_eq
  intro i
  rw [Nat.testBit_xor, Nat.testBit_div_two_pow, Nat.testBit_div_two_pow, Nat.testBit_div_two_pow, Nat.testBit_xor]
theorem xor_mulp (k a b : Nat) : 2 ^ k * (a ^^^ b) = (2 ^ k * a) ^^^ (2 ^ k * b) := by
  apply Nat.eq_of_testBit_eq
  intro i
  rw [Nat.testBit_xor, Nat.testBit_two_pow_mul, Nat.testBit_two_pow_mul, Nat.testBit_two_pow_mul, Nat.testBit_xor]
  cases decide (i ≥ k) <;> simp
theorem xor_mul256 (a b : Nat) : (a ^^^ b) * 256 = (a * 256) ^^^ (b * 256) := by
  have := xor_mulp 8 a b
  rw [Nat.mul_comm, show (256 : Nat) = 2 ^ 8 from rfl, this, Nat.mul_comm (2 ^ 8) a, Nat.mul_comm (2 ^ 8) b]
theorem xor_cancel {a b c : Nat} (h : a ^^^ b = a ^^^ c) : b = c := by
  have := congrArg (a ^^^ ·) h
  simp only [← Nat.xor_assoc, Nat.xor_self, Nat.zero_xor] at this
  exact this
theorem xor5 {A C Y K : Nat} (h : (A ^^^ K) ^^^ Y = (A ^^^ C) ^^^ K) : C = Y := by
  rw [Nat.xor_assoc A C K, Nat.xor_comm C K, ← Nat.xor_assoc A K C] at h
  exact (xor_cancel h).symm
theorem seven {l : List UInt8} (h : l.length = 7) : ∃ a b c d e f g, l = [a, b, c, d, e, f, g] := by
  match l, h with
  | [a, b, c, d, e, f, g], _ => exact ⟨a, b, c, d, e, f, g, rfl⟩
def r3 : Nat := crcB 4294967295 3
theorem beB_num {v : Nat} (hv : v < 4294967296) {d e f g : UInt8} (h : [d, e, f, g] = beB v) : d.toNat * 16777216 + e.toNat * 65536 + f.toNat * 256 + g.toNat = v := by
  unfold beB at h
  injection h with h1 h
  injection h with h2 h
  injection h with h3 h
  injection h with h4 h
  rw [h1, h2, h3, h4, UInt8.toNat_ofNat', UInt8.toNat_ofNat', UInt8.toNat_ofNat', UInt8.toNat_ofNat']
  omega
theorem n7_eq (a b c d e f g : UInt8) : n7 [a, b, c, d, e, f, g] = (((((a.toNat * 256 + b.toNat) * 256 + c.toNat) * 256 + d.toNat) * 256 + e.toNat) * 256 + f.toNat) * 256 + g.toNat := rfl
theorem n7_div (a b c d e f g : UInt8) : n7 [a, b, c, d, e, f, g] / 4294967296 = a.toNat * 65536 + b.toNat * 256 + c.toNat := by
  have hd := UInt8.toNat_lt d
  have he := UInt8.toNat_lt e
  have hf := UInt8.toNat_lt f
  have hg := UInt8.toNat_lt g
  rw [n7_eq]; omega
theorem n7_mod (a b c d e f g : UInt8) : n7 [a, b, c, d, e, f, g] % 4294967296 = d.toNat * 16777216 + e.toNat * 65536 + f.toNat * 256 + g.toNat := by
  have hd := UInt8.toNat_lt d
  have he := UInt8.toNat_lt e
  have hf := UInt8.toNat_lt f
  have hg := UInt8.toNat_lt g
  rw [n7_eq]; omega
theorem fold3 (r : Nat) (x a b c : UInt8) : [x, a, b, c].foldl crcB r = crcB (crcB (crcB (crcB r x) a) b) c := rfl
theorem crcF3 (a b c : UInt8) : crcF [3, a, b, c] = crcK (r3 ^^^ ((a.toNat * 65536 + b.toNat * 256 + c.toNat) * 256)) 24 := by
  exact (fold3 4294967295 3 a b c).trans (crc3 r3 a b c)
theorem crcF_lt (l : List UInt8) : crcF l ^^^ 4294967295 < 4294967296 := (((crcF_reg l).xor Rg.ones)).1
/-- A frame of three bytes that stands. -/
theorem stands {l : List UInt8} (h7 : l.length = 7) (h : (l.drop 3).take 4 = chkB (3 :: l.take 3)) : n7 l % 4294967296 = crcK (r3 ^^^ (n7 l / 4294967296 * 256)) 24 ^^^ 4294967295 := by
  obtain ⟨a, b, c, d, e, f, g, rfl⟩ := seven h7
  rw [chkB_crc] at h
  simp only [List.drop_succ_cons, List.drop_zero, List.take_succ_cons, List.take_zero] at h
  rw [n7_div, n7_mod, ← crcF3]
  exact beB_num (crcF_lt _) h
theorem xor_div32 (a b : Nat) : (a ^^^ b) / 4294967296 = (a / 4294967296) ^^^ (b / 4294967296) := by
  rw [two32]; exact xor_div 32 a b
/-- Bits turned over, all within 32 in a row: the frame does not stand. -/
theorem torn_frame {f t : List UInt8} (hf7 : f.length = 7) (ht7 : t.length = 7) (hf : (f.drop 3).take 4 = chkB (3 :: f.take 3)) (ht : (t.drop 3).take 4 = chkB (3 :: t.take 3)) {X b : Nat} (hb : b ≤ 24) (hX : X < 4294967296 * 2 ^ b) (hd : X % 2 ^ b = 0) (hx : n7 t = n7 f ^^^ X) : X = 0 := by
  have h1 := stands hf7 hf
  have h2 := stands ht7 ht
  have e1 : n7 t / 4294967296 = (n7 f / 4294967296) ^^^ (X / 4294967296) := (congrArg (· / 4294967296) hx).trans (xor_div32 _ _)
  have e2 : n7 t % 4294967296 = (n7 f % 4294967296) ^^^ (X % 4294967296) := (congrArg (· % 4294967296) hx).trans (xor_mod32 _ _)
  rw [e1, e2, h1, xor_mul256, ← Nat.xor_assoc, crcK_xor (r3 ^^^ n7 f / 4294967296 * 256) (X / 4294967296 * 256)] at h2
  apply burst_zero hb hX hd
  exact xor5 h2
theorem n7_inj {f t : List UInt8} (hf7 : f.length = 7) (ht7 : t.length = 7) (h : n7 t = n7 f) : t = f := by
  obtain ⟨a, b, c, d, e, f, g, rfl⟩ := seven hf7
  obtain ⟨a', b', c', d', e', f', g', rfl⟩ := seven ht7
  have h' : ((((((a'.toNat * 256 + b'.toNat) * 256 + c'.toNat) * 256 + d'.toNat) * 256 + e'.toNat) * 256 + f'.toNat) * 256 + g'.toNat) = ((((((a.toNat * 256 + b.toNat) * 256 + c.toNat) * 256 + d.toNat) * 256 + e.toNat) * 256 + f.toNat) * 256 + g.toNat) := h
  have ha := UInt8.toNat_lt a
  have hb := UInt8.toNat_lt b
  have hc := UInt8.toNat_lt c
  have hd := UInt8.toNat_lt d
  have he := UInt8.toNat_lt e
  have hf := UInt8.toNat_lt f
  have hg := UInt8.toNat_lt g
  have ha' := UInt8.toNat_lt a'
  have hb' := UInt8.toNat_lt b'
  have hc' := UInt8.toNat_lt c'
  have hd' := UInt8.toNat_lt d'
  have he' := UInt8.toNat_lt e'
  have hf' := UInt8.toNat_lt f'
  have hg' := UInt8.toNat_lt g'
  rw [UInt8.toNat_inj.1 (show a'.toNat = a.toNat by omega), UInt8.toNat_inj.1 (show b'.toNat = b.toNat by omega), UInt8.toNat_inj.1 (show c'.toNat = c.toNat by omega), UInt8.toNat_inj.1 (show d'.toNat = d.toNat by omega), UInt8.toNat_inj.1 (show e'.toNat = e.toNat by omega), UInt8.toNat_inj.1 (show f'.toNat = f.toNat by omega), UInt8.toNat_inj.1 (show g'.toNat = g.toNat by omega)]

end Go.Proofs.YtgcedalggnmooabGreatDoor

namespace Go.Proofs.YtgcedalggnmooabGreatDoor
set_option linter.unusedSimpArgs false
set_option linter.unusedVariables false
open Go.RowKit
set_option maxRecDepth 100000

/-- Seven bytes that were made of a string. -/
def Tb (w : World) (g N : Nat) (tl : List UInt8) : Prop := ∃ cs, w.heap[g]? = some (.cells cs 5 (N, N + 1)) ∧ cs.size = N ∧ 7 ≤ N ∧ ∀ j, j < 7 → cs[j]? = some (.int .u8 ((tl.getD j 0).toNat : Int))
theorem Tb.cell {w : World} {g N : Nat} {tl : List UInt8} (h : Tb w g N tl) {j : Nat} (hj : j < 7) : w.cell? ⟨g, j, none⟩ = some (.int .u8 ((tl.getD j 0).toNat : Int)) := by
  obtain ⟨cs, h1, _, _, h4⟩ := h
  simp [World.cell?, h1, h4 j hj]
theorem Tb.free {w : World} {g N : Nat} {tl : List UInt8} (h : Tb w g N tl) {j : Nat} (hj : j < 7) : w.frozen? ⟨g, j, none⟩ = false := by
  obtain ⟨cs, h1, h2, h3, h4⟩ := h
  simp [World.frozen?, h1]; omega
theorem Tb.set {w : World} {g N : Nat} {tl : List UInt8} (h : Tb w g N tl) (hl : tl.length = 7) {j : Nat} (hj : j < 7) (x : UInt8) : Tb (w.setCell ⟨g, j, none⟩ (.int .u8 (x.toNat : Int))) g N (tl.set j x) := by
  obtain ⟨cs, h1, h2, h3, h4⟩ := h
  refine ⟨cs.set j (.int .u8 (x.toNat : Int)) (by omega), ?_, by simpa using h2, h3, fun k hk => ?_⟩
  · have hg : g < w.heap.size := (Array.getElem?_eq_some_iff.1 h1).1
    have hg2 := (Array.getElem?_eq_some_iff.1 h1).2
    simp [World.setCell, Array.getElem?_modify, h1, Array.setIfInBounds, show j < cs.size by omega]
  · by_cases hkj : j = k
    · subst hkj
      simp [List.getD_eq_getElem?_getD, hl, hj]
    · rw [Array.getElem?_set_ne (by omega) hkj, h4 k hk]
      simp [List.getD_eq_getElem?_getD, List.getElem?_set_ne hkj]
theorem tb_conv (w : World) (s : ByteArray) (h7 : s.size = 7) : ∃ N, Tb (Go.Lib.bytesWorld w 5 s) w.heap.size N s.data.toList := by
  refine ⟨(Go.Lib.bytesCells w 5 s).size, Go.Lib.bytesCells w 5 s, Go.Lib.bytesWorld_at_new w 5 s, rfl, ?_, fun j hj => ?_⟩
  · unfold Go.Lib.bytesCells; simp; omega
  · have hd : s.data.size = 7 := h7
    simp [Go.Lib.bytesCells, Array.getElem?_append, hd, hj]
theorem below_conv (w : World) (s : ByteArray) : Below w.heap.size w (Go.Lib.bytesWorld w 5 s) :=
  ⟨rfl, rfl, rfl, by rw [Go.Lib.bytesWorld_size]; omega, fun k hk => Go.Lib.bytesWorld_at_old w 5 s k hk⟩

theorem xor_walk : ∀ x : Nat, x < 256 → ∀ t : Nat, t < 8 → bits .xor .u8 (x : Int) (2 ^ t % 256) = ((x ^^^ 2 ^ t : Nat) : Int) := by decide +kernel
theorem put_xor (hi b lo p t : Nat) (hb : b < 256) (ht : t < 8) (hlo : lo < 2 ^ p) : 2 ^ p * (2 ^ 8 * hi + (b ^^^ 2 ^ t)) + lo = (2 ^ p * (2 ^ 8 * hi + b) + lo) ^^^ 2 ^ (p + t) := by
  have hb8 : b < 2 ^ 8 := hb
  have ht8 : 2 ^ t < 2 ^ 8 := Nat.pow_lt_pow_right (by omega) ht
  rw [mul_add_xor hi (Nat.xor_lt_two_pow hb8 ht8), mul_add_xor hi hb8, mul_add_xor _ hlo, mul_add_xor _ hlo, ← Nat.xor_assoc, xor_mulp, Nat.pow_add, Nat.xor_assoc, Nat.xor_assoc, Nat.xor_comm (2 ^ p * 2 ^ t)]
theorem n7_set {tl : List UInt8} (h7 : tl.length = 7) {j : Nat} (hj : j < 7) {y : UInt8} {t : Nat} (ht : t < 8) (hy : y.toNat = (tl.getD j 0).toNat ^^^ 2 ^ t) : n7 (tl.set j y) = n7 tl ^^^ 2 ^ (8 * (6 - j) + t) := by
  obtain ⟨a, b, c, d, e, f, g, rfl⟩ := seven h7
  have ha := UInt8.toNat_lt a
  have hb := UInt8.toNat_lt b
  have hc := UInt8.toNat_lt c
  have hd := UInt8.toNat_lt d
  have he := UInt8.toNat_lt e
  have hf := UInt8.toNat_lt f
  have hg := UInt8.toNat_lt g
  have key : ∀ hi x lo p : Nat, x < 256 → lo < 2 ^ p → y.toNat = x ^^^ 2 ^ t → 2 ^ p * (2 ^ 8 * hi + y.toNat) + lo = (2 ^ p * (2 ^ 8 * hi + x) + lo) ^^^ 2 ^ (p + t) := fun hi x lo p hx hlo hyx => by rw [hyx]; exact put_xor hi x lo p t hx ht hlo
  rcases (show j = 0 ∨ j = 1 ∨ j = 2 ∨ j = 3 ∨ j = 4 ∨ j = 5 ∨ j = 6 by omega) with rfl | rfl | rfl | rfl | rfl | rfl | rfl
  · have q := key 0 a.toNat (((((b.toNat * 256 + c.toNat) * 256 + d.toNat) * 256 + e.toNat) * 256 + f.toNat) * 256 + g.toNat) 48 ha (by omega) hy
    show n7 [y, b, c, d, e, f, g] = _
    rw [n7_eq, n7_eq, show 8 * (6 - 0) + t = 48 + t from rfl]
    rw [show ((((((a.toNat * 256 + b.toNat) * 256 + c.toNat) * 256 + d.toNat) * 256 + e.toNat) * 256 + f.toNat) * 256 + g.toNat) = 2 ^ 48 * (2 ^ 8 * 0 + a.toNat) + (((((b.toNat * 256 + c.toNat) * 256 + d.toNat) * 256 + e.toNat) * 256 + f.toNat) * 256 + g.toNat) by omega, ← q]
    omega
  · have q := key a.toNat b.toNat ((((c.toNat * 256 + d.toNat) * 256 + e.toNat) * 256 + f.toNat) * 256 + g.toNat) 40 hb (by omega) hy
    show n7 [a, y, c, d, e, f, g] = _
    rw [n7_eq, n7_eq, show 8 * (6 - 1) + t = 40 + t from rfl]
    rw [show ((((((a.toNat * 256 + b.toNat) * 256 + c.toNat) * 256 + d.toNat) * 256 + e.toNat) * 256 + f.toNat) * 256 + g.toNat) = 2 ^ 40 * (2 ^ 8 * a.toNat + b.toNat) + ((((c.toNat * 256 + d.toNat) * 256 + e.toNat) * 256 + f.toNat) * 256 + g.toNat) by omega, ← q]
    omega
  · have q := key (a.toNat * 256 + b.toNat) c.toNat (((d.toNat * 256 + e.toNat) * 256 + f.toNat) * 256 + g.toNat) 32 hc (by omega) hy
    show n7 [a, b, y, d, e, f, g] = _
    rw [n7_eq, n7_eq, show 8 * (6 - 2) + t = 32 + t from rfl]
    rw [show ((((((a.toNat * 256 + b.toNat) * 256 + c.toNat) * 256 + d.toNat) * 256 + e.toNat) * 256 + f.toNat) * 256 + g.toNat) = 2 ^ 32 * (2 ^ 8 * (a.toNat * 256 + b.toNat) + c.toNat) + (((d.toNat * 256 + e.toNat) * 256 + f.toNat) * 256 + g.toNat) by omega, ← q]
    omega
  · have q := key ((a.toNat * 256 + b.toNat) * 256 + c.toNat) d.toNat ((e.toNat * 256 + f.toNat) * 256 + g.toNat) 24 hd (by omega) hy
    show n7 [a, b, c, y, e, f, g] = _
    rw [n7_eq, n7_eq, show 8 * (6 - 3) + t = 24 + t from rfl]
    rw [show ((((((a.toNat * 256 + b.toNat) * 256 + c.toNat) * 256 + d.toNat) * 256 + e.toNat) * 256 + f.toNat) * 256 + g.toNat) = 2 ^ 24 * (2 ^ 8 * ((a.toNat * 256 + b.toNat) * 256 + c.toNat) + d.toNat) + ((e.toNat * 256 + f.toNat) * 256 + g.toNat) by omega, ← q]
    omega
  · have q := key (((a.toNat * 256 + b.toNat) * 256 + c.toNat) * 256 + d.toNat) e.toNat (f.toNat * 256 + g.toNat) 16 he (by omega) hy
    show n7 [a, b, c, d, y, f, g] = _
    rw [n7_eq, n7_eq, show 8 * (6 - 4) + t = 16 + t from rfl]
    rw [show ((((((a.toNat * 256 + b.toNat) * 256 + c.toNat) * 256 + d.toNat) * 256 + e.toNat) * 256 + f.toNat) * 256 + g.toNat) = 2 ^ 16 * (2 ^ 8 * (((a.toNat * 256 + b.toNat) * 256 + c.toNat) * 256 + d.toNat) + e.toNat) + (f.toNat * 256 + g.toNat) by omega, ← q]
    omega
  · have q := key ((((a.toNat * 256 + b.toNat) * 256 + c.toNat) * 256 + d.toNat) * 256 + e.toNat) f.toNat g.toNat 8 hf (by omega) hy
    show n7 [a, b, c, d, e, y, g] = _
    rw [n7_eq, n7_eq, show 8 * (6 - 5) + t = 8 + t from rfl]
    rw [show ((((((a.toNat * 256 + b.toNat) * 256 + c.toNat) * 256 + d.toNat) * 256 + e.toNat) * 256 + f.toNat) * 256 + g.toNat) = 2 ^ 8 * (2 ^ 8 * ((((a.toNat * 256 + b.toNat) * 256 + c.toNat) * 256 + d.toNat) * 256 + e.toNat) + f.toNat) + g.toNat by omega, ← q]
    omega
  · have q := key (((((a.toNat * 256 + b.toNat) * 256 + c.toNat) * 256 + d.toNat) * 256 + e.toNat) * 256 + f.toNat) g.toNat 0 0 hg (by omega) hy
    show n7 [a, b, c, d, e, f, y] = _
    rw [n7_eq, n7_eq, show 8 * (6 - 6) + t = 0 + t from rfl]
    rw [show ((((((a.toNat * 256 + b.toNat) * 256 + c.toNat) * 256 + d.toNat) * 256 + e.toNat) * 256 + f.toNat) * 256 + g.toNat) = 2 ^ 0 * (2 ^ 8 * (((((a.toNat * 256 + b.toNat) * 256 + c.toNat) * 256 + d.toNat) * 256 + e.toNat) * 256 + f.toNat) + g.toNat) + 0 by omega, ← q]
    omega
/-- One bit more turned over. -/
theorem turn_bit {X at0 k : Nat} (hk : k < 32) (hin : at0 + k < 56) (h1 : X < 2 ^ (56 - at0)) (h2 : X % 2 ^ (24 - at0) = 0) : (X ^^^ 2 ^ (55 - (at0 + k))) < 2 ^ (56 - at0) ∧ (X ^^^ 2 ^ (55 - (at0 + k))) % 2 ^ (24 - at0) = 0 := by
  refine ⟨Nat.xor_lt_two_pow h1 (Nat.pow_lt_pow_right (by omega) (by omega)), ?_⟩
  rw [Nat.xor_mod_two_pow, h2, Nat.zero_xor]
  rw [show 55 - (at0 + k) = (24 - at0) + (55 - (at0 + k) - (24 - at0)) by omega, Nat.pow_add, Nat.mul_mod_right]

set_option maxHeartbeats 1600000 in
theorem turned_any (s : ByteArray) (h7 : s.size = 7) (at0 : Nat) (hat : at0 < 56) (mask : Int) (w : World) :
    Calls Tryz.prog 21 #[.string s, .int .i64 (at0 : Int), .int .i64 mask] w fun e w' => Below w.heap.size w w' ∧ ∃ t : List UInt8, e = .returned (.string ⟨t.toArray⟩) ∧ t.length = 7 ∧ ∃ X, n7 t = n7 s.data.toList ^^^ X ∧ X < 2 ^ (56 - at0) ∧ X % 2 ^ (24 - at0) = 0 := by
  have hcv := Go.Lib.run_convert_string_bytes (P := Tryz.prog) w 9 51 5 s Tryz.underlying9 tU52 tU5
  rw [h7] at hcv
  obtain ⟨N, hT0⟩ := tb_conv w s h7
  have hb0 := below_conv w s
  obtain ⟨l0, HL0⟩ : ∃ l0, Hid (l0 = s.data.toList) := ⟨_, rfl⟩
  have hl7 : l0.length = 7 := by rw [HL0.out, Array.length_toList]; exact h7
  rw [← HL0.out] at hT0 ⊢
  generalize Go.Lib.bytesWorld w 5 s = W1 at hcv hT0 hb0
  generalize grownCap w 7 0 5 = cap at hcv
  have HT0 := hide hT0
  have HB0 := hide hb0
  clear hT0 hb0
  go_enter Tryz.func21, Tryz.ntmps21
  go_wp2_with fail
  go_loopw [8] (fun kk wr => ∃ (k : Nat) (tl : List UInt8) (X : Nat), kk = .int .i64 k ∧ k ≤ 32 ∧ tl.length = 7 ∧ Tb wr w.heap.size N tl ∧ Below w.heap.size w wr ∧ n7 tl = n7 l0 ^^^ X ∧ X < 2 ^ (56 - at0) ∧ X % 2 ^ (24 - at0) = 0) (fun kk _ => 32 - (intOf kk).toNat)
  case atStart => exact ⟨0, l0, 0, rfl, by omega, hl7, HT0.out, HB0.out, by simp, Nat.two_pow_pos _, by simp⟩
  case round =>
    clear HT0 HB0 hcv
    obtain ⟨k, tl, X, rfl, hk, htl, hT, hb, hx1, hx2, hx3⟩ := hrel
    have HT := hide hT
    have HB := hide hb
    have HX1 := hide hx1
    have HX2 := hide hx2
    have HX3 := hide hx3
    clear hT hb hx1 hx2 hx3
    by_cases hlt : k < 32
    · by_cases hin : at0 + k < 56
      · have hc := HT.out.cell (j := (at0 + k) / 8) (by omega)
        have hfz := HT.out.free (j := (at0 + k) / 8) (by omega)
        have hbt : (tl.getD ((at0 + k) / 8) 0).toNat < 256 := UInt8.toNat_lt _
        generalize hob : tl.getD ((at0 + k) / 8) 0 = ob at hc hbt
        go_wp2_with fail
        · go_region
          go_wp2_with fail
          have hlt256 : ob.toNat ^^^ 2 ^ (7 - (at0 + k) % 8) < 256 := Nat.xor_lt_two_pow (n := 8) hbt (Nat.pow_lt_pow_right (by omega) (by omega))
          have hy : (UInt8.ofNat (ob.toNat ^^^ 2 ^ (7 - (at0 + k) % 8))).toNat = ob.toNat ^^^ 2 ^ (7 - (at0 + k) % 8) := by rw [UInt8.toNat_ofNat']; exact Nat.mod_eq_of_lt hlt256
          have htb := turn_bit hlt hin HX2.out HX3.out
          rw [xor_walk ob.toNat hbt (7 - (at0 + k) % 8) (by omega)]
          refine ⟨⟨k + 1, tl.set ((at0 + k) / 8) (UInt8.ofNat (ob.toNat ^^^ 2 ^ (7 - (at0 + k) % 8))), X ^^^ 2 ^ (55 - (at0 + k)), by go_num, by omega, by rw [List.length_set]; exact htl, ?_, (HB.out.setCell (Nat.le_refl _) _).drew, ?_, htb.1, htb.2⟩, by simp [intOf]; omega⟩
          · have hs := HT.out.set htl (j := (at0 + k) / 8) (by omega) (UInt8.ofNat (ob.toNat ^^^ 2 ^ (7 - (at0 + k) % 8)))
            rw [hy] at hs
            exact hs
          · rw [n7_set htl (j := (at0 + k) / 8) (by omega) (t := 7 - (at0 + k) % 8) (by omega) (by rw [hob]; exact hy), show 8 * (6 - (at0 + k) / 8) + (7 - (at0 + k) % 8) = 55 - (at0 + k) by omega, HX1.out, Nat.xor_assoc]
        · (refine ⟨⟨k + 1, tl, X, by go_num, by omega, htl, HT.out, HB.out, HX1.out, HX2.out, HX3.out⟩, ?_⟩; simp [intOf]; omega)
      · go_wp2_with fail
        all_goals (refine ⟨⟨k + 1, tl, X, by go_num, by omega, htl, HT.out, HB.out, HX1.out, HX2.out, HX3.out⟩, ?_⟩; simp [intOf]; omega)
    · obtain rfl : k = 32 := by omega
      have hcv := run_convert_bytes_back (P := Tryz.prog) wr 51 9 5 ⟨w.heap.size, 0, none⟩ cap tl tU52 tU5 Tryz.underlying9 (fun j hj => by
        have ha : (Addr.add ⟨w.heap.size, 0, none⟩ j) = ⟨w.heap.size, j, none⟩ := by unfold Addr.add; split <;> simp_all
        rw [ha, HT.out.cell (by omega)]; simp [List.getD_eq_getElem?_getD, hj])
      rw [htl] at hcv
      go_wp2_with fail
      go_ret
      exact ⟨HB.out, tl, rfl, htl, X, HX1.out, HX2.out, HX3.out⟩

end Go.Proofs.YtgcedalggnmooabGreatDoor

namespace Go.Proofs.YtgcedalggnmooabGreatDoor
set_option linter.unusedSimpArgs false
set_option linter.unusedVariables false
open Go.RowKit
set_option maxRecDepth 100000

set_option maxHeartbeats 1600000 in
theorem played_g (R : Sv → Prop) (hR0 : R s2) (a0 : Option Addr) (len cap : Nat) (hlen : len ≤ 2097152) (X : Nat → Nat → Int) (w : World) (hR : ∀ s i, Good s.os s.ls → R s → R (stepV s (.ok (spX X i)))) (hg : Gl w) (hx : 0 < len → ∃ b off, a0 = some ⟨b, off, none⟩ ∧ Scr w b off len X) :
    Calls Tryz.prog 7 #[.slice a0 len cap] w fun e w' => ∃ Lb Z s, e = .returned (.tuple #[.pointer (some ⟨Lb, 0, none⟩), .bool true]) ∧ Kv w.heap.size w w' Z Lb s ∧ R s ∧ s.lg.length ≤ 200 + 64 * len := by
  have HOP := hide (opened_any w hg)
  have HX0 := hide hx
  clear hg hx
  go_enter Tryz.func7, Tryz.ntmps7
  go_wp2_with (go_at_call 11; refine (HOP.out).mono ?_; rintro e w1 ⟨Lb, Z, rfl, hkv⟩)
  have HINI := hide hkv
  clear hkv HOP
  go_loopw [6] (fun ii wr => ∃ (k : Nat) (Z' : Nat → Prop) (s : Sv), ii = .int .i64 k ∧ k ≤ len ∧ Kv w.heap.size w wr Z' Lb s ∧ R s ∧ s.lg.length ≤ 200 + 64 * k) (fun ii _ => len - (intOf ii).toNat)
  case atStart => exact ⟨0, Z, s2, rfl, by omega, HINI.out, hR0, s2_lg⟩
  case round =>
    clear HINI
    obtain ⟨k, Z1, s, rfl, hk, hkv, hsc, hslg⟩ := hrel
    by_cases hlt : k < len
    · obtain ⟨b, off, ha0, hxs⟩ := HX0.out (by omega)
      subst ha0
      have hblt := hxs.lt
      have HX := hide hxs
      clear hxs
      have c0 : wr.cell? ⟨b, off + k * 5, none⟩ = some (.int .i64 (X k 0)) := (hkv.old.cell (p := ⟨b, off + k * 5 + 0, none⟩) hblt).trans (HX.out.cell k hlt 0 (by omega))
      have c1 := (hkv.old.cell (p := ⟨b, off + k * 5 + 1, none⟩) hblt).trans (HX.out.cell k hlt 1 (by omega))
      have c2 := (hkv.old.cell (p := ⟨b, off + k * 5 + 2, none⟩) hblt).trans (HX.out.cell k hlt 2 (by omega))
      have c3 := (hkv.old.cell (p := ⟨b, off + k * 5 + 3, none⟩) hblt).trans (HX.out.cell k hlt 3 (by omega))
      have c4 := (hkv.old.cell (p := ⟨b, off + k * 5 + 4, none⟩) hblt).trans (HX.out.cell k hlt 4 (by omega))
      have HSP := hide (spelt_x HX.out k hlt)
      have HHD : Hid (∀ w2, Below wr.heap.size wr w2 → Calls Tryz.prog 10 #[.pointer (some ⟨Lb, 0, none⟩), .string (cmdX X k)] w2 fun e w' => ∃ r, e = .returned (.string r) ∧ ∃ Z', Kv w.heap.size w w' Z' Lb (stepV s (.ok (spX X k)))) := fun w2 hb2 => (handle_x (hkv.below hb2) (by omega) X k).mono (fun e w' h => ⟨_, h.1, h.2.imp (fun Z' h' => h'.1)⟩)
      have HLN : Hid ((stepV s (.ok (spX X k))).lg.length ≤ 200 + 64 * (k + 1)) := by have := spX_lg X k s; unfold Hid; omega
      have HSC : Hid (R (stepV s (.ok (spX X k)))) := hR _ _ hkv.good hsc
      generalize cmdX X k = t at *
      generalize X k 0 = x0 at *
      generalize X k 1 = x1 at *
      generalize X k 2 = x2 at *
      generalize X k 3 = x3 at *
      generalize X k 4 = x4 at *
      clear hkv hsc
      go_wp2_with (go_at_call 13; refine (HSP.out _).mono ?_; rintro e w2 ⟨rfl, hb2⟩; have HH2 := hide (HHD.out w2 hb2))
      refine (HH2.out).mono ?_
      rintro e w3 ⟨r, rfl, Z3, hkv3⟩
      have HK3 := hide hkv3
      clear hkv3 HH2 HHD
      go_wp2_with fail
      go_roundw
      case rel => exact ⟨k + 1, Z3, _, by go_num, by omega, HK3.out, HSC.out, HLN.out⟩
      case measure => simp [intOf]; omega
    · obtain rfl : k = len := by omega
      have HKV := hide hkv
      have HSC := hide hsc
      clear hkv hsc hlt
      go_wp2_with fail
      go_ret2
      exact ⟨Lb, Z1, s, rfl, HKV.out, HSC.out, hslg⟩


theorem GmB.up {B : Nat} {w0 w : World} (h : GmB B w0) (hb : Below B w0 w) (hs : B ≤ w.heap.size) : GmB w.heap.size w := by
  have := h.at hb
  exact ⟨this.nogo, this.chk, Nat.lt_of_lt_of_le this.lt1 hs, Nat.lt_of_lt_of_le this.lt2 hs⟩
theorem scrap13 {B : Nat} {w0 w : World} {Z : Nat → Prop} {Lb : Nat} {s : Sv} (h : Kv B w0 w Z Lb s) (ht : T13 s) (hlg : s.lg.length ≤ 35184372088832) :
    Calls Tryz.prog 20 #[.pointer (some ⟨Lb, 0, none⟩), .int .i64 10, .slice (some ⟨w.heap.size, 0, none⟩) 2 2] (w.alloc (.cells #[.int .i64 13, .int .i64 1] 3)) fun e w' => ∃ Z' v, e = .returned (.tuple #[.int .i64 0, v]) ∧ Kv B w0 w' Z' Lb (stepV s (.ok (10, [13, 1]))) := by
  have hr : repV s (.ok (10, [13, 1])) = UInt8.ofNat 0 :: Pl.toldB [] := by
    show [UInt8.ofNat (scrapC s.ls 13 1)] = _
    rw [ht.scrap]; rfl
  have := ask_lit h 10 (by omega) (by omega) (fun _ => hlg) [13, 1] rfl (by intro n hn; simp at hn; omega) (by kernel_rfl) 0 [] (by omega) hr (by simp) (by simp)
  refine this.mono ?_
  rintro e w' ⟨Z', v, he, hkv, _⟩
  exact ⟨Z', v, he, hkv⟩
theorem scrapLg {s : Sv} (ht : T13 s) : Lg1 s (10, [13, 1]) := by
  have hr : repV s (.ok (10, [13, 1])) = [0] := by
    show [UInt8.ofNat (scrapC s.ls 13 1)] = _
    rw [ht.scrap]; rfl
  exact ⟨⟨by decide, by decide⟩, cmd_cmdB (c := 10) (ns := [13, 1]) (by omega) (by omega) rfl (by intro n hn; simp at hn; omega) (by kernel_rfl), of_decide_eq_true (by kernel_rfl), by rw [hr]; rfl⟩
/-- The frame of Scrap 13 1, but for its first byte. -/
def f13 : List UInt8 := [10, 13, 1] ++ chkB [3, 10, 13, 1]
theorem f13_len : f13.length = 7 := by unfold f13; rw [List.length_append, chkB_len]; rfl
theorem frm13 : frmB (Pl.cmdB 10 [13, 1]) = 3 :: f13 := by
  have e : Pl.cmdB 10 [13, 1] = [10, 13, 1] := by kernel_rfl
  rw [e, frm_short (by decide)]
  rfl
theorem f13_ok : (f13.drop 3).take 4 = chkB (3 :: f13.take 3) := by
  unfold f13
  show (chkB [3, 10, 13, 1]).take 4 = _
  rw [List.take_of_length_le (by rw [chkB_len]; omega)]
  rfl
/-- A torn frame is not read. -/
theorem torn_none {t : List UInt8} (ht7 : t.length = 7) {X at0 : Nat} (hat : at0 < 56) (h1 : n7 t = n7 f13 ^^^ X) (h2 : X < 2 ^ (56 - at0)) (h3 : X % 2 ^ (24 - at0) = 0) (hne : t ≠ f13) : frP (3 :: t) = none := by
  rw [frP_short 3 (by decide)]
  have e3 : (3 : UInt8).toNat = 3 := rfl
  rw [e3, if_neg (by omega), if_neg (by omega), if_neg]
  intro hch
  apply hne
  have hX : X = 0 := by
    refine torn_frame f13_len ht7 f13_ok hch (b := 24 - at0) (by omega) ?_ h3 h1
    rw [two32, ← Nat.pow_add]
    exact Nat.lt_of_lt_of_le h2 (Nat.pow_le_pow_right (by omega) (by omega))
  rw [hX, Nat.xor_zero] at h1
  exact n7_inj f13_len ht7 h1

end Go.Proofs.YtgcedalggnmooabGreatDoor

namespace Go.Proofs.YtgcedalggnmooabGreatDoor
set_option linter.unusedSimpArgs false
set_option linter.unusedVariables false
open Go.RowKit
set_option maxRecDepth 100000

set_option maxHeartbeats 3200000 in
theorem torn_any (a0 : Option Addr) (len cap : Nat) (hlen : len ≤ 2097152) (X : Nat → Nat → Int) (x1 x2 : Int) (hr1 : Raw x1) (hr2 : Raw x2) (w : World) (hg : Gl w) (hm : GmB w.heap.size w) (hx : 0 < len → ∃ b off, a0 = some ⟨b, off, none⟩ ∧ Scr w b off len X) :
    Calls Tryz.prog 6 #[.slice a0 len cap, .int .i64 x1, .int .i64 x2] w fun e w' => e = .returned (.bool true) ∧ Below w.heap.size w w' := by
  have HPL := hide (played_g (fun s => Lgd s ∧ T13 s) ⟨lgd_s2, t13_s2⟩ a0 len cap hlen X w (fun s i hgo h => ⟨h.1.stepX X i, h.2.step hgo _ _ _ _ _⟩) hg hx)
  have HPK : Hid (∀ w, Calls Tryz.prog 14 #[.int .i64 x1, .int .i64 56] w fun e w' => e = .returned (.int .i64 (pk x1 56 : Int)) ∧ w' = w) := fun w => pick_any x1 hr1 56 (by omega) (by omega) w
  have hpk := pk_lt x1 (n := 56) (by omega)
  clear hg hx hr1 hr2
  generalize pk x1 56 = at0 at HPK hpk
  go_enter Tryz.func6, Tryz.ntmps6
  go_wp2_with (go_at_call 7; refine (HPL.out).mono ?_; rintro e w1 ⟨Lb, Z1, s, rfl, hkv1, ⟨⟨cs, hcs, hscs⟩, ht13⟩, hslg⟩; clear HPL)
  have HL1 := hide (log_kv hkv1)
  obtain ⟨LOG, HLOG⟩ : ∃ G1 : ByteArray, Hid (G1 = ⟨s.lg.toArray⟩) := ⟨_, rfl⟩
  have hlsz : LOG.size = s.lg.length := by rw [HLOG.out]; show s.lg.toArray.size = _; simp
  rw [← HLOG.out] at HL1
  have HAS := hide (scrap13 hkv1 ht13 (by omega))
  have HCS := hide hcs
  have HSC := hide hscs
  have HLG1 := hide (scrapLg ht13)
  clear hkv1 hcs hscs ht13
  go_wp2_with (go_at_call 9; refine (HL1.out).mono ?_; rintro e w2 ⟨rfl, rfl⟩; clear HL1)
  refine (HAS.out).mono ?_
  rintro e w3 ⟨Z3, v3, rfl, hkv3⟩
  clear HAS
  have HL3 := hide (log_kv hkv3)
  have hlg3 := HLG1.out.lg
  obtain ⟨ALL, HALL⟩ : ∃ G1 : ByteArray, Hid (G1 = ⟨(stepV s (.ok (10, [13, 1]))).lg.toArray⟩) := ⟨_, rfl⟩
  have hall : ALL.data.toList = s.lg ++ 3 :: f13 := by rw [HALL.out]; show (stepV s (.ok (10, [13, 1]))).lg.toArray.toList = _; rw [hlg3, frm13]
  have hasz : ALL.size = LOG.size + 8 := by
    have : ALL.size = ALL.data.toList.length := by rw [Array.length_toList]; rfl
    rw [this, hall, hlsz, List.length_append, List.length_cons, f13_len]
  rw [← HALL.out] at HL3
  have HHALL := hide hall
  clear hall hlg3
  go_wp2_with (go_at_call 9; refine (HL3.out).mono ?_; rintro e w4 ⟨rfl, rfl⟩; clear HL3)
  obtain ⟨FB, HFB⟩ : ∃ FB, Hid (FB = ALL.extract (s.lg.length + 1) (s.lg.length + 8)) := ⟨_, rfl⟩
  have hfl : FB.data.toList = f13 := by
    rw [HFB.out, ex_list, HHALL.out]
    have e : (s.lg ++ 3 :: f13).take (s.lg.length + 8) = s.lg ++ 3 :: f13 := List.take_of_length_le (Nat.le_of_eq (by rw [List.length_append, List.length_cons, f13_len]))
    rw [e, List.drop_append, List.drop_of_length_le (by omega)]
    rw [show s.lg.length + 1 - s.lg.length = 1 by omega]
    rfl
  have hf7 : FB.size = 7 := by
    have : FB.size = FB.data.toList.length := by rw [Array.length_toList]; rfl
    rw [this, hfl, f13_len]
  have HTU := hide (turned_any FB hf7 at0 hpk x2 w4)
  rw [hfl] at HTU
  have HFL := hide hfl
  clear hfl
  rw [← HFB.out]
  go_wp2_with (go_at_call 14; refine (HPK.out _).mono ?_; rintro e w5 ⟨rfl, rfl⟩)
  refine (HTU.out).mono ?_
  rintro e w6 ⟨hb6, t, rfl, ht7, XX, hX1, hX2, hX3⟩
  clear HTU HPK
  have hkv6 := hkv3.below hb6
  have hcat : ALL.extract 0 (s.lg.length + 1) ++ (⟨t.toArray⟩ : ByteArray) = ⟨(s.lg ++ 3 :: t).toArray⟩ := by
    apply WideShapes.bytes_inj
    rw [ByteArray.data_append, Array.toList_append, ex_list, HHALL.out]
    rw [List.take_append, List.take_of_length_le (by omega), show s.lg.length + 1 - s.lg.length = 1 by omega]
    simp
  have hgm6 : GmB w6.heap.size w6 := hm.up hkv6.old hkv6.size
  have hbel6 := hkv6.old
  have hsz6 := hkv6.size
  have htl : (⟨t.toArray⟩ : ByteArray).toList = t := by rw [ByteArray.toList_eq]
  have hfbl : FB.toList = f13 := by rw [ByteArray.toList_eq]; exact HFL.out
  have hlen8 : (s.lg ++ 3 :: t).length = s.lg.length + 8 := by rw [List.length_append, List.length_cons, ht7]
  by_cases hq : t = f13
  · have hlgA : (runV sNil (cs ++ [(10, [13, 1])])).lg = s.lg ++ 3 :: t := by
      rw [runV_append, ← HSC.out, hq, ← frm13]
      exact HLG1.out.lg
    have hop := open_run w6 hkv6.gl hgm6 (cs := cs ++ [(10, [13, 1])]) ((Lgs_append _ _ _).2 ⟨HCS.out, by rw [← HSC.out]; exact ⟨HLG1.out, trivial⟩⟩) (s.lg ++ 3 :: t) [] (by rw [hlgA, List.append_nil]) rfl (by omega)
    rw [hlgA, hlen8] at hop
    have HOP := hide hop
    have hteq : (t == FB.toList) = true := by rw [hfbl, hq]; exact beq_self_eq_true _
    clear htl hfbl hq hop hkv6 hkv3 hX1 hX2 hX3 hgm6 hlgA
    go_wp2_with fail
    refine (HOP.out).mono ?_
    clear HOP
    rintro e w7 ⟨Lb7, Z7, rfl, hkv7⟩
    have hb7 : Below w.heap.size w w7 := hbel6.trans (hkv7.old.mono hsz6)
    clear hkv7 hcat
    go_wp2_with fail
    go_ret
    exact ⟨rfl, hb7⟩
  · have hfr := torn_none ht7 hpk hX1 hX2 hX3 hq
    have hop := open_run w6 hkv6.gl hgm6 HCS.out (s.lg ++ 3 :: t) (3 :: t) (by rw [← HSC.out]) hfr (by omega)
    rw [← HSC.out] at hop
    have HOP := hide hop
    have hteq : (t == FB.toList) = false := by rw [hfbl]; exact beq_eq_false_iff_ne.2 hq
    clear htl hfbl hq hop hkv6 hkv3 hX1 hX2 hX3 hgm6 hfr
    go_wp2_with fail
    refine (HOP.out).mono ?_
    clear HOP
    rintro e w7 ⟨Lb7, Z7, rfl, hkv7⟩
    have hb7 : Below w.heap.size w w7 := hbel6.trans (hkv7.old.mono hsz6)
    clear hkv7 hcat
    go_wp2_with fail
    go_ret
    exact ⟨rfl, hb7⟩

end Go.Proofs.YtgcedalggnmooabGreatDoor
