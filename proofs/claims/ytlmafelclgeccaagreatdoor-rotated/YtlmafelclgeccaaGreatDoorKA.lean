import Derived.Test.YtlmafelclgeccaaGreatDoorWireAX
namespace Go.Proofs.YtlmafelclgeccaaGreatDoor
set_option linter.unusedSimpArgs false
set_option linter.unusedVariables false
set_option maxRecDepth 100000
namespace Pl

theorem num_form : ∀ (k n : Nat), n ≤ k → ∃ p b, num n = p ++ [b] ∧ (∀ c ∈ p, 128 ≤ c.toNat) ∧ b.toNat < 128 ∧ val (num n) = n
  | 0, n, h => ⟨[], UInt8.ofNat n, by rw [num_lt (by omega)]; rfl, by simp, by rw [UInt8.toNat_ofNat']; omega, by rw [num_lt (by omega)]; simp only [val, UInt8.toNat_ofNat']; omega⟩
  | k + 1, n, h => by
    by_cases h1 : n < 128
    · exact ⟨[], UInt8.ofNat n, by rw [num_lt h1]; rfl, by simp, by rw [UInt8.toNat_ofNat']; omega, by rw [num_lt h1]; simp only [val, UInt8.toNat_ofNat']; omega⟩
    · obtain ⟨p, b, e, hp, hb, hv⟩ := num_form k (n / 128) (by omega)
      refine ⟨UInt8.ofNat (n % 128 + 128) :: p, b, by rw [num_ge h1, e]; rfl, fun c hc => ?_, hb, ?_⟩
      · rcases List.mem_cons.1 hc with rfl | hc
        · rw [UInt8.toNat_ofNat']; omega
        · exact hp c hc
      · rw [num_ge h1]
        simp only [val, hv, UInt8.toNat_ofNat']
        omega

theorem read_num (n : Nat) (h : n < 9223372036854775808) (rest : List UInt8) : fst (num n ++ rest) = n ∧ snd (num n ++ rest) = (num n).length := by
  obtain ⟨p, b, e, hp, hb, hv⟩ := num_form n n (Nat.le_refl _)
  have hl := num_len n h
  have hpl : (num n).length = p.length + 1 := by rw [e]; simp
  have htk : (num n ++ rest).take (p.length + 1) = num n := by
    rw [← hpl, List.take_left']; rfl
  have hg : ∀ j, j < p.length → 128 ≤ ((num n ++ rest).getD j 0).toNat := fun j hj => by
    rw [e, List.append_assoc, List.getD_eq_getElem?_getD, List.getElem?_append_left hj, List.getElem?_eq_getElem hj]
    exact hp _ (List.getElem_mem _)
  have hs : ((num n ++ rest).getD p.length 0).toNat < 128 := by
    rw [e, List.append_assoc, List.getD_eq_getElem?_getD, List.getElem?_append_right (Nat.le_refl _)]
    simpa using hb
  have q := (first_stop (num n ++ rest) p.length (by omega) (by rw [List.length_append]; omega) hg hs).1 (by rw [htk, hv])
  rw [htk, hv] at q
  exact ⟨q.1, by rw [q.2, hpl]⟩

theorem nums_told : ∀ (ns : List Nat), (∀ n ∈ ns, n < 9223372036854775808) → nums (toldB ns) = some ns
  | [], _ => rfl
  | n :: r, h => by
    have e : toldB (n :: r) = num n ++ toldB r := by simp [toldB]
    obtain ⟨h1, h2⟩ := read_num n (h n (by simp)) (toldB r)
    have hp := num_len_pos n
    have hne : num n ++ toldB r ≠ [] := fun q => by
      rw [(List.append_eq_nil_iff.1 q).1] at hp; simp at hp
    rw [e, nums_cons hne (by rw [h2]; omega), h1, h2, List.drop_left' rfl, nums_told r (fun x hx => h x (by simp [hx]))]
    rfl

/-- A command as bytes. -/
def cmdB (c : Nat) (ns : List Nat) : List UInt8 := UInt8.ofNat c :: toldB ns

/-- A byte is read. -/
def dst (s : List Nat × Nat × Nat) (b : UInt8) : List Nat × Nat × Nat :=
  if b.toNat < 128 then (s.1 ++ [if s.2.2 < 9 then s.2.1 + b.toNat % 128 * 128 ^ s.2.2 else s.2.1], 0, 0) else (s.1, (if s.2.2 < 9 then s.2.1 + b.toNat % 128 * 128 ^ s.2.2 else s.2.1), s.2.2 + 1)
def dec (l : List UInt8) : List Nat × Nat × Nat := l.foldl dst ([], 0, 0)

theorem dec_snoc (l : List UInt8) (b : UInt8) : dec (l ++ [b]) = dst (dec l) b := by simp [dec]

theorem dec_lead (out : List Nat) : ∀ (k : Nat) (p : List UInt8), p.length = k → k ≤ 9 → (∀ c ∈ p, 128 ≤ c.toNat) → p.foldl dst (out, 0, 0) = (out, val p, p.length)
  | 0, p, hk, _, _ => by
    have : p = [] := List.length_eq_zero_iff.1 hk
    subst this; rfl
  | k + 1, p, hk, h9, hp => by
    have hne : p ≠ [] := fun e => by subst e; simp at hk
    have e : p = p.dropLast ++ [p.getLast hne] := (List.dropLast_concat_getLast hne).symm
    have hl : p.dropLast.length = k := by rw [List.length_dropLast]; omega
    have hb := hp (p.getLast hne) (List.getLast_mem hne)
    have ih := dec_lead out k p.dropLast hl (by omega) (fun c hc => hp c ((List.dropLast_sublist _).mem hc))
    generalize p.getLast hne = b at *
    generalize p.dropLast = q at *
    rw [e, List.foldl_append, ih, val_snoc, List.length_append]
    simp only [List.foldl_cons, List.foldl_nil, dst]
    rw [if_neg (by omega), if_pos (by omega)]
    rfl

theorem dec_num (out : List Nat) (n : Nat) (h : n < 9223372036854775808) : (num n).foldl dst (out, 0, 0) = (out ++ [n], 0, 0) := by
  obtain ⟨p, b, e, hp, hb, hv⟩ := num_form n n (Nat.le_refl _)
  have hl := num_len n h
  have hpl : (num n).length = p.length + 1 := by rw [e]; simp
  rw [e, List.foldl_append, dec_lead out p.length p rfl (by omega) hp]
  simp only [List.foldl_cons, List.foldl_nil, dst]
  rw [if_pos hb, if_pos (by omega)]
  rw [e, val_snoc] at hv
  rw [hv]

theorem dec_told' : ∀ (ns out : List Nat), (∀ n ∈ ns, n < 9223372036854775808) → (toldB ns).foldl dst (out, 0, 0) = (out ++ ns, 0, 0)
  | [], out, _ => by simp [toldB]
  | n :: r, out, h => by
    have e : toldB (n :: r) = num n ++ toldB r := by simp [toldB]
    rw [e, List.foldl_append, dec_num out n (h n (by simp)), dec_told' r _ (fun x hx => h x (by simp [hx]))]
    simp
theorem dec_told (ns : List Nat) (h : ∀ n ∈ ns, n < 9223372036854775808) : dec (toldB ns) = (ns, 0, 0) := by
  have := dec_told' ns [] h
  simpa [dec] using this

/-- What is read stays small. -/
theorem dst_small {s : List Nat × Nat × Nat} (h : s.2.1 < 128 ^ (min s.2.2 9)) (b : UInt8) : (dst s b).2.1 < 128 ^ (min (dst s b).2.2 9) := by
  obtain ⟨out, v, k⟩ := s
  simp only [dst] at *
  by_cases hb : b.toNat < 128
  · rw [if_pos hb]; simp
  · rw [if_neg hb]
    simp only
    by_cases hk : k < 9
    · rw [if_pos hk]
      rw [show min k 9 = k by omega] at h
      rw [show min (k + 1) 9 = k + 1 by omega, Nat.pow_succ]
      have h2 : b.toNat % 128 < 128 := Nat.mod_lt _ (by omega)
      have h3 : b.toNat % 128 * 128 ^ k ≤ 127 * 128 ^ k := Nat.mul_le_mul_right _ (by omega)
      omega
    · rw [if_neg hk]
      rw [show min k 9 = 9 by omega] at h
      rw [show min (k + 1) 9 = 9 by omega]; exact h
theorem dec_small : ∀ (n : Nat) (l : List UInt8), l.length = n → (dec l).2.1 < 128 ^ (min (dec l).2.2 9) ∧ (dec l).2.2 ≤ l.length ∧ (dec l).1.length ≤ l.length
  | 0, l, hl => by
    have : l = [] := List.length_eq_zero_iff.1 hl
    subst this; simp [dec]
  | n + 1, l, hl => by
    have hne : l ≠ [] := fun e => by subst e; simp at hl
    have e : l = l.dropLast ++ [l.getLast hne] := (List.dropLast_concat_getLast hne).symm
    have hl' : l.dropLast.length = n := by rw [List.length_dropLast]; omega
    obtain ⟨h1, h2, h3⟩ := dec_small n l.dropLast hl'
    rw [e, dec_snoc]
    generalize l.getLast hne = b at *
    generalize l.dropLast = q at *
    refine ⟨dst_small h1 b, ?_, ?_⟩
    · rw [List.length_append, List.length_singleton]
      simp only [dst]
      split <;> simp only <;> omega
    · rw [List.length_append, List.length_singleton]
      simp only [dst]
      split
      · simp only [List.length_append, List.length_singleton]; omega
      · simp only; omega

end Pl

theorem form_cmdB {c : Nat} {ns : List Nat} (h1 : 1 ≤ c) (h2 : c ≤ 12) (hl : ns.length = (Pl.kindsL c).length) (hn : ∀ n ∈ ns, n < 9223372036854775808) : formOf (Pl.cmdB c ns) = some (c, ns) := by
  have hc : (UInt8.ofNat c).toNat = c := by rw [UInt8.toNat_ofNat']; omega
  have hk : Pl.kindsL c ≠ [] := by
    rcases (show c = 1 ∨ c = 2 ∨ c = 3 ∨ c = 4 ∨ c = 5 ∨ c = 6 ∨ c = 7 ∨ c = 8 ∨ c = 9 ∨ c = 10 ∨ c = 11 ∨ c = 12 by omega) with rfl | rfl | rfl | rfl | rfl | rfl | rfl | rfl | rfl | rfl | rfl | rfl <;> simp [Pl.kindsL]
  simp only [formOf, Pl.cmdB]
  rw [hc, Pl.nums_told ns hn]
  simp only [hk, if_false, hl, if_true]
theorem cmd_cmdB {c : Nat} {ns : List Nat} (h1 : 1 ≤ c) (h2 : c ≤ 12) (hl : ns.length = (Pl.kindsL c).length) (hn : ∀ n ∈ ns, n < 9223372036854775808) (hm : Pl.mays (Pl.kindsL c) ns = true) : Pl.cmd (Pl.cmdB c ns) = .ok (c, ns) := by
  have hc : (UInt8.ofNat c).toNat = c := by rw [UInt8.toNat_ofNat']; omega
  have hk : Pl.kindsL c ≠ [] := by
    rcases (show c = 1 ∨ c = 2 ∨ c = 3 ∨ c = 4 ∨ c = 5 ∨ c = 6 ∨ c = 7 ∨ c = 8 ∨ c = 9 ∨ c = 10 ∨ c = 11 ∨ c = 12 by omega) with rfl | rfl | rfl | rfl | rfl | rfl | rfl | rfl | rfl | rfl | rfl | rfl <;> simp [Pl.kindsL]
  simp only [Pl.cmd, Pl.cmdB]
  rw [hc, Pl.nums_told ns hn]
  simp only [hk, hl, ne_eq, not_true, or_self, if_false, hm, if_true]

end Go.Proofs.YtlmafelclgeccaaGreatDoor
