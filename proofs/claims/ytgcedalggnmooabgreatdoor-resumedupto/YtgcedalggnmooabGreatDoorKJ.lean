import Derived.Test.YtgcedalggnmooabGreatDoorKU1
import Derived.Test.YtgcedalggnmooabGreatDoorHnX
namespace Go.Proofs.YtgcedalggnmooabGreatDoor
set_option linter.unusedSimpArgs false
set_option linter.unusedVariables false
open Go.RowKit
set_option maxRecDepth 100000

theorem code_ne {c : Nat} (hc : c ≤ 255) {r : List UInt8} (hr : r = [UInt8.ofNat c]) (h : r.getD 0 0 ≠ 0) : c ≠ 0 := fun e => h (by rw [hr, e]; rfl)

theorem errS (rcs : List (Nat × Nat)) (td : Nat) (ls : List L) (c : Pl.Cmd) (h : ((stepS rcs td ls c).1).getD 0 0 ≠ 0) :
    (stepS rcs td ls c).1.length = 1 ∧ (stepS rcs td ls c).2 = (td, ls) := by
  generalize hst : stepS rcs td ls c = st at h ⊢
  unfold stepS at hst
  split at hst
  · subst hst; exact ⟨rfl, rfl⟩
  · rename_i d
    by_cases hd : d < td
    · rw [if_pos hd] at hst; subst hst; exact ⟨rfl, rfl⟩
    · rw [if_neg hd] at hst; subst hst; exact absurd rfl h
  · rename_i a b c d
    subst hst
    have hne := code_ne (c := roomC ls a) (by have := roomC_le ls a; omega) rfl h
    simp only [if_neg hne]; exact ⟨rfl, trivial⟩
  · rename_i n
    by_cases hi : idx n ls < ls.length
    · rw [if_pos hi] at hst; subst hst; exact absurd rfl h
    · rw [if_neg hi] at hst; subst hst; exact ⟨rfl, rfl⟩
  · subst hst; exact absurd rfl h
  · subst hst; exact absurd rfl h
theorem errT (rcs : List (Nat × Nat)) (td : Nat) (ls : List L) (c : Pl.Cmd) (h : ((stepT rcs td ls c).1).getD 0 0 ≠ 0) :
    (stepT rcs td ls c).1.length = 1 ∧ (stepT rcs td ls c).2 = (td, ls) := by
  generalize hst : stepT rcs td ls c = st at h ⊢
  unfold stepT at hst
  split at hst
  · rename_i a b c
    subst hst
    have hne := code_ne (c := splitC ls a b c) (by have := splitC_le ls a b c; omega) rfl h
    have : splitS ls a b c = ls := by unfold splitS; rw [if_neg hne]
    simp only [this]; exact ⟨rfl, trivial⟩
  · rename_i a b c
    subst hst
    have hne := code_ne (c := mergeC ls a b c) (by have := mergeC_le ls a b c; omega) rfl h
    have : mergeS ls a b c = ls := by unfold mergeS; rw [if_neg hne]
    simp only [this]; exact ⟨rfl, trivial⟩
  · rename_i a b
    subst hst
    have hne := code_ne (c := scrapC ls a b) (by have := scrapC_le ls a b; omega) rfl h
    have : scrapS ls a b = ls := by unfold scrapS; rw [if_neg hne]
    simp only [this]; exact ⟨rfl, trivial⟩
  · subst hst; exact errS rcs td ls _ h
theorem errO (rcs : List (Nat × Nat)) (td : Nat) (os : List O) (ls : List L) (c : Pl.Cmd) (h : ((stepO rcs td os ls c).1).getD 0 0 ≠ 0) :
    (stepO rcs td os ls c).1.length = 1 ∧ (stepO rcs td os ls c).2 = (td, os, ls) := by
  generalize hst : stepO rcs td os ls c = st at h ⊢
  unfold stepO at hst
  split at hst
  · rename_i a b c d f
    subst hst
    simp only at h ⊢
    by_cases h0 : askC rcs os td ls a b c d f = 0
    · exfalso; apply h; unfold askR; rw [if_pos h0]; rfl
    · unfold askR askO askL; rw [if_neg h0, if_neg h0, if_neg h0]; exact ⟨rfl, rfl⟩
  · rename_i a
    subst hst
    have hne := code_ne (c := endC os a) (by have := endC_le os a; omega) rfl h
    have hany : os.any (fun o => o.id == a) = false := by
      cases hq : os.any (fun o => o.id == a) with
      | false => rfl
      | true => exfalso; apply hne; unfold endC; rw [hq]; rfl
    obtain ⟨e1, e2⟩ := fin_none hany freeL ls
    simp only [e1, e2]; exact ⟨rfl, trivial⟩
  · rename_i a
    subst hst
    have hne := code_ne (c := endC os a) (by have := endC_le os a; omega) rfl h
    have hany : os.any (fun o => o.id == a) = false := by
      cases hq : os.any (fun o => o.id == a) with
      | false => rfl
      | true => exfalso; apply hne; unfold endC; rw [hq]; rfl
    obtain ⟨e1, e2⟩ := fin_none hany shipL ls
    simp only [e1, e2]; exact ⟨rfl, trivial⟩
  · subst hst
    obtain ⟨h1, h2⟩ := errT rcs td ls _ h
    refine ⟨h1, ?_⟩
    simp only
    rw [h2]
/-- What answers an error changes nothing. -/
theorem err_same (rcs : List (Nat × Nat)) (td : Nat) (os : List O) (ls : List L) (c : Pl.Cmd) (h : ((stepR rcs td os ls c).1).getD 0 0 ≠ 0) :
    (stepR rcs td os ls c).1.length = 1 ∧ (stepR rcs td os ls c).2 = (td, os, rcs, ls) := by
  generalize hst : stepR rcs td os ls c = st at h ⊢
  unfold stepR at hst
  split at hst
  · rename_i a m
    subst hst
    simp only at h ⊢
    by_cases h0 : recallC rcs ls a m = 0
    · exfalso; apply h; unfold recallR; rw [if_pos h0]; rfl
    · unfold recallR recallS; rw [if_neg h0, if_neg h0]; exact ⟨rfl, rfl⟩
  · rename_i a m
    subst hst
    have hne := code_ne (c := releaseC rcs a m) (by have := releaseC_le rcs a m; omega) rfl h
    have : rcs.contains (a, m) = false := by
      cases hq : rcs.contains (a, m) with
      | false => rfl
      | true => exfalso; apply hne; unfold releaseC; rw [hq]; rfl
    unfold releaseS; simp only [this]; exact ⟨rfl, rfl⟩
  · subst hst
    obtain ⟨h1, h2⟩ := errO rcs td os ls _ h
    refine ⟨h1, ?_⟩
    simp only
    rw [h2]

theorem rep_bytes_ne (rcs : List (Nat × Nat)) (td : Nat) (os : List O) (ls : List L) (l : List UInt8) : (stepR rcs td os ls (Pl.cmd l)).1 ≠ [] := by
  have hcf := cmd_form l
  cases hform : formOf l with
  | none => rw [hform] at hcf; rw [hcf]; simp [stepR, stepO, stepT, stepS]
  | some p =>
    obtain ⟨c, ns⟩ := p
    rw [hform] at hcf
    obtain ⟨hc1, hc2, hlen, _⟩ := form_facts hform
    cases hm : Pl.mays (Pl.kindsL c) ns with
    | false => simp only [hm, Bool.false_eq_true, if_false] at hcf; rw [hcf]; simp [stepR, stepO, stepT, stepS]
    | true =>
      simp only [hm, if_true] at hcf
      rw [hcf]
      rcases (show c = 1 ∨ c = 2 ∨ c = 3 ∨ c = 4 ∨ c = 5 ∨ c = 6 ∨ c = 7 ∨ c = 8 ∨ c = 9 ∨ c = 10 ∨ c = 11 ∨ c = 12 from by omega) with rfl | rfl | rfl | rfl | rfl | rfl | rfl | rfl | rfl | rfl | rfl | rfl
      · obtain ⟨a, rfl⟩ := len1 hlen; simp only [stepR, stepO, stepT, stepS]; split <;> simp
      · obtain ⟨a, b, c, d, rfl⟩ := len4 hlen; simp [stepR, stepO, stepT, stepS]
      · obtain ⟨a, b, c, rfl⟩ := len3 hlen; simp [stepR, stepO, stepT, stepS]
      · obtain ⟨a, b, c, rfl⟩ := len3 hlen; simp [stepR, stepO, stepT, stepS]
      · obtain ⟨a, b, c, d, f, rfl⟩ := len5 hlen; simp only [stepR, stepO, askR]; split <;> simp
      · obtain ⟨a, rfl⟩ := len1 hlen; simp [stepR, stepO, stepT, stepS]
      · obtain ⟨a, rfl⟩ := len1 hlen; simp [stepR, stepO, stepT, stepS]
      · obtain ⟨a, b, rfl⟩ := len2 hlen; simp only [stepR, recallR]; split <;> simp
      · obtain ⟨a, b, rfl⟩ := len2 hlen; simp [stepR, stepO, stepT, stepS]
      · obtain ⟨a, b, rfl⟩ := len2 hlen; simp [stepR, stepO, stepT, stepS]
      · obtain ⟨a, rfl⟩ := len1 hlen; simp only [stepR, stepO, stepT, stepS]; split <;> simp
      · obtain ⟨a, b, rfl⟩ := len2 hlen; simp [stepR, stepO, stepT, stepS]

/-- A step by a command of any bytes. -/
def stepB (s : Sv) (t : ByteArray) : Sv := ⟨(stepR s.rcs s.td s.os s.ls (Pl.cmd t.data.toList)).2.1, (stepR s.rcs s.td s.os s.ls (Pl.cmd t.data.toList)).2.2.1, (stepR s.rcs s.td s.os s.ls (Pl.cmd t.data.toList)).2.2.2.1, (stepR s.rcs s.td s.os s.ls (Pl.cmd t.data.toList)).2.2.2.2, lgX s.lg t (stepR s.rcs s.td s.os s.ls (Pl.cmd t.data.toList)).1⟩
def repB (s : Sv) (t : ByteArray) : List UInt8 := (stepR s.rcs s.td s.os s.ls (Pl.cmd t.data.toList)).1
theorem handle_kb {B : Nat} {w0 w : World} {Z : Nat → Prop} {Lb : Nat} {s : Sv} (h : Kv B w0 w Z Lb s) (t : ByteArray) (ht : t.size ≤ 2097152) (hlg : s.lg.length ≤ 35184372088832) :
    Calls Tryz.prog 10 #[.pointer (some ⟨Lb, 0, none⟩), .string t] w fun e w' => e = .returned (.string ⟨(repB s t).toArray⟩) ∧ ∃ Z', Kv B w0 w' Z' Lb (stepB s t) ∧ Kn Z w Z' w' := by
  have hgs := good_stepR (rcs := s.rcs) (td := s.td) h.good h.room t.data.toList
  refine (handlePR_any h.pl h.good h.gl t ht (fun _ => hlg)).mono ?_
  rintro e w' ⟨hk, he, hpl⟩
  refine ⟨he, fun k => Zn Z w k ∧ k < w'.heap.size, ⟨h.old.trans ⟨hk.os, hk.tape, hk.output, hk.size, fun k hkB => hk.block k (Nat.lt_of_lt_of_le hkB h.size) (fun hz => by have := (h.zin k hz).1; omega)⟩, Nat.le_trans h.size hk.size, h.two, h.gl.kp hk (fun hz => by have := (h.zin 2 hz).1; have := h.two; omega) (fun hz => by have := (h.zin 3 hz).1; have := h.two; omega), hpl.bound, ?_, hgs⟩, hk.size, fun k hkl hz => ⟨hk.block k hkl hz, ?_⟩⟩
  · rintro k ⟨hz, hlt⟩
    rcases hz with hz | hz
    · exact ⟨(h.zin k hz).1, hlt⟩
    · exact ⟨Nat.le_trans h.size hz, hlt⟩
  · rintro ⟨hq, _⟩
    rcases hq with hq | hq
    · exact hz hq
    · omega
theorem stepB_err {s : Sv} {t : ByteArray} (h : (repB s t).getD 0 0 ≠ 0) : stepB s t = s ∧ (repB s t).length = 1 := by
  obtain ⟨h1, h2⟩ := err_same s.rcs s.td s.os s.ls (Pl.cmd t.data.toList) h
  refine ⟨?_, h1⟩
  have hl : lgX s.lg t (stepR s.rcs s.td s.os s.ls (Pl.cmd t.data.toList)).1 = s.lg := by
    unfold lgX logsB
    rw [if_neg]
    have : (stepR s.rcs s.td s.os s.ls (Pl.cmd t.data.toList)).1.getD 0 1 ≠ 0 := by
      have hne := rep_bytes_ne s.rcs s.td s.os s.ls t.data.toList
      unfold repB at h
      cases hq : (stepR s.rcs s.td s.os s.ls (Pl.cmd t.data.toList)).1 with
      | nil => exact absurd hq hne
      | cons b r => rw [hq] at h; exact h
    rw [beq_eq_false_iff_ne.2 this]
    simp
  unfold stepB
  rw [h2, hl]
theorem stepB_lg (s : Sv) (t : ByteArray) (ht : t.size ≤ 2097152) : (stepB s t).lg.length ≤ s.lg.length + 2097200 := by
  have hl : t.data.toList.length = t.size := by rw [Array.length_toList]; rfl
  have h3 := frmB_len t.data.toList (by omega)
  show (lgX _ _ _).length ≤ _
  unfold lgX
  split
  · rw [List.length_append]; omega
  · omega
theorem cmd_none : Pl.cmd [] = .error 1 := rfl
theorem cmd_thirteen : Pl.cmd [13] = .error 1 := by kernel_rfl
theorem cmd_broken : Pl.cmd [11, 129, 0] = .error 1 := by kernel_rfl
/-- Bytes that are no command. -/
theorem handle_err {B : Nat} {w0 w : World} {Z : Nat → Prop} {Lb : Nat} {s : Sv} (h : Kv B w0 w Z Lb s) (hlg : s.lg.length ≤ 35184372088832) (t : ByteArray) (ht : t.size ≤ 2097152) (hc : Pl.cmd t.data.toList = .error 1) :
    Calls Tryz.prog 10 #[.pointer (some ⟨Lb, 0, none⟩), .string t] w fun e w' => e = .returned (.string ⟨#[1]⟩) ∧ ∃ Z', Kv B w0 w' Z' Lb s ∧ Kn Z w Z' w' := by
  have hr : repB s t = [1] := by unfold repB; rw [hc]; rfl
  have hs : stepB s t = s := (stepB_err (s := s) (t := t) (by rw [hr]; decide)).1
  refine (handle_kb h t ht hlg).mono ?_
  rintro e w' ⟨he, Z', hkv, hkn⟩
  rw [hr] at he
  rw [hs] at hkv
  exact ⟨he, Z', hkv, hkn⟩
theorem log_kv {B : Nat} {w0 w : World} {Z : Nat → Prop} {Lb : Nat} {s : Sv} (h : Kv B w0 w Z Lb s) :
    Calls Tryz.prog 9 #[.pointer (some ⟨Lb, 0, none⟩)] w fun e w' => e = .returned (.string ⟨s.lg.toArray⟩) ∧ w' = w := log_any h.pl

set_option maxHeartbeats 3200000 in
theorem refused_any (a0 : Option Addr) (len cap : Nat) (hlen : len ≤ 2097152) (X : Nat → Nat → Int) (t : ByteArray) (ht : t.size ≤ 2097152) (w : World) (hg : Gl w) (hx : 0 < len → ∃ b off, a0 = some ⟨b, off, none⟩ ∧ Scr w b off len X) :
    Calls Tryz.prog 3 #[.slice a0 len cap, .string t] w fun e w' => e = .returned (.bool true) ∧ Below w.heap.size w w' := by
  have HPL := hide (played_any a0 len cap hlen X w hg hx)
  clear hg hx
  go_enter Tryz.func3, Tryz.ntmps3
  go_wp2_with (go_at_call 7; refine (HPL.out).mono ?_; rintro e w1 ⟨Lb, Z1, s, rfl, hkv1, hsc1, hslg⟩; clear HPL hsc1)
  have HL1 := hide (looked_any hkv1)
  obtain ⟨T1, HT1⟩ : ∃ T1 : ByteArray, Hid (T1 = ⟨(spB s 9).toArray⟩) := ⟨_, rfl⟩
  rw [← HT1.out] at HL1
  clear hkv1
  go_wp2_with (go_at_call 8; refine (HL1.out).mono ?_; rintro e w2 ⟨rfl, Z2, hkv2, _⟩; clear HL1)
  have HLG := hide (log_kv hkv2)
  obtain ⟨G1, HG1⟩ : ∃ G1 : ByteArray, Hid (G1 = ⟨s.lg.toArray⟩) := ⟨_, rfl⟩
  rw [← HG1.out] at HLG
  have HH := hide (handle_kb hkv2 t ht (by omega))
  obtain ⟨r, HR⟩ : ∃ r : ByteArray, Hid (r = ⟨(repB s t).toArray⟩) := ⟨_, rfl⟩
  rw [← HR.out] at HH
  have hrne : repB s t ≠ [] := rep_bytes_ne _ _ _ _ _
  have hrl : r.data.toList = repB s t := by rw [HR.out]
  have hr0 : 0 < r.size := by
    have : r.size = r.data.toList.length := by simp
    rw [this, hrl]; exact List.length_pos_iff.2 hrne
  have hreq : r.toList.isEmpty = false := by
    rw [ByteArray.toList_eq, hrl]
    cases hq : repB s t with
    | nil => exact absurd hq hrne
    | cons => rfl
  have HR0 : Hid (r[0] = (repB s t).getD 0 0) := by unfold Hid; rw [← ba_getD r 0 hr0, hrl]
  have hr256 : r[0].toNat < 256 := UInt8.toNat_lt _
  have hsB := stepB_lg s t ht
  have HERR := hide (fun h => stepB_err (s := s) (t := t) h)
  have hrs : r.size = (repB s t).length := by rw [← hrl, Array.length_toList]; rfl
  clear hkv2 hrl hrne
  go_wp2_with (first
    | (go_at_call 9; refine (HLG.out).mono ?_; rintro e w3 ⟨rfl, hw3⟩; subst hw3)
    | fail)
  refine (HH.out).mono ?_
  rintro e w4 ⟨rfl, Z4, hkv4, _⟩
  have HL4 := hide (looked_any hkv4)
  obtain ⟨T2, HT2⟩ : ∃ T2 : ByteArray, Hid (T2 = ⟨(spB (stepB s t) 9).toArray⟩) := ⟨_, rfl⟩
  rw [← HT2.out] at HL4
  have HTE : Hid ((repB s t).getD 0 0 ≠ 0 → T2 = T1) := fun h => by rw [HT2.out, HT1.out, (HERR.out h).1]
  have HLB : Hid ((stepB s t).lg.length ≤ s.lg.length + 2097200) := hsB
  have HGE : Hid ((repB s t).getD 0 0 ≠ 0 → (⟨(stepB s t).lg.toArray⟩ : ByteArray) = G1) := fun h => by rw [HG1.out, (HERR.out h).1]
  have hR1 : (repB s t).getD 0 0 ≠ 0 → r.size = 1 := fun h => by rw [hrs]; exact (HERR.out h).2
  generalize stepB s t = s' at *
  obtain ⟨G2, HG2⟩ : ∃ G2 : ByteArray, Hid (G2 = ⟨s'.lg.toArray⟩) := ⟨_, rfl⟩
  rw [← HG2.out] at HGE
  clear hkv4
  go_wp2_with fail
  refine (HL4.out).mono ?_
  rintro e w5 ⟨rfl, Z5, hkv5, _⟩
  have HG5 := hide (log_kv hkv5)
  rw [← HG2.out] at HG5
  have HHE : Hid (∀ (wx : World) (Zx : Nat → Prop), Kv w.heap.size w wx Zx Lb s' → ∀ (q : ByteArray), q.size ≤ 2097152 → Pl.cmd q.data.toList = .error 1 → Calls Tryz.prog 10 #[.pointer (some ⟨Lb, 0, none⟩), .string q] wx fun e w' => e = .returned (.string ⟨#[1]⟩) ∧ ∃ Z', Kv w.heap.size w w' Z' Lb s') := fun wx Zx hk q hq1 hq2 => (handle_err hk (by have := HLB.out; omega) q hq1 hq2).mono (fun e w' hh => ⟨hh.1, hh.2.imp (fun Z' h' => h'.1)⟩)
  have HXA := hide (HHE.out w5 Z5 hkv5 ⟨#[]⟩ (by decide) cmd_none)
  have HXB := hide (fun wx Zx hk => HHE.out wx Zx hk ⟨#[13]⟩ (by decide) cmd_thirteen)
  have HXC := hide (fun wx Zx hk => HHE.out wx Zx hk ⟨#[11, 129, 0]⟩ (by decide) cmd_broken)
  clear hkv5 HL4 HHE
  by_cases hz : (repB s t).getD 0 0 = 0
  · have hz0 : r[0].toNat = 0 := by rw [HR0.out, hz]; rfl
    have hzb : ((r[0].toNat : Int) != 0) = false := by rw [hz0]; rfl
    clear HERR
    go_wp2_with (go_at_call 9; refine (HG5.out).mono ?_; rintro e w6 ⟨rfl, hw6⟩; subst hw6)
    refine (HXA.out).mono ?_
    rintro e w7 ⟨rfl, Z7, hkv7⟩
    have HB7 := hide (HXB.out w7 Z7 hkv7)
    clear hkv7
    go_wp2_with fail
    refine (HB7.out).mono ?_
    rintro e w8 ⟨rfl, Z8, hkv8⟩
    have HC8 := hide (HXC.out w8 Z8 hkv8)
    clear hkv8
    go_wp2_with fail
    refine (HC8.out).mono ?_
    rintro e w9 ⟨rfl, Z9, hkv9⟩
    have HO9 := hide hkv9.old
    clear hkv9
    go_wp2_with fail
    go_ret
    exact ⟨rfl, HO9.out⟩
  · have hT := HTE.out hz
    have hG := HGE.out hz
    have hS1 := hR1 hz
    have hz0 : r[0].toNat ≠ 0 := fun e => hz (by rw [← HR0.out]; exact UInt8.toNat_inj.1 e)
    have hzb : ((r[0].toNat : Int) != 0) = true := by rw [bne_iff_ne]; omega
    subst hT
    rw [hG] at HG5
    clear HERR
    go_wp2_with (go_at_call 9; refine (HG5.out).mono ?_; rintro e w6 ⟨rfl, hw6⟩; subst hw6)
    refine (HXA.out).mono ?_
    rintro e w7 ⟨rfl, Z7, hkv7⟩
    have HB7 := hide (HXB.out w7 Z7 hkv7)
    clear hkv7
    go_wp2_with fail
    refine (HB7.out).mono ?_
    rintro e w8 ⟨rfl, Z8, hkv8⟩
    have HC8 := hide (HXC.out w8 Z8 hkv8)
    clear hkv8
    go_wp2_with fail
    refine (HC8.out).mono ?_
    rintro e w9 ⟨rfl, Z9, hkv9⟩
    have HO9 := hide hkv9.old
    clear hkv9
    go_wp2_with fail
    go_ret
    exact ⟨rfl, HO9.out⟩

end Go.Proofs.YtgcedalggnmooabGreatDoor
