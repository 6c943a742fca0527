import Derived.Test.YtlmafelclgeccaaGreatDoorTp3
import Derived.Test.YtlmafelclgeccaaGreatDoorRp5
namespace Go.Proofs.YtlmafelclgeccaaGreatDoor
set_option linter.unusedSimpArgs false
set_option linter.unusedVariables false
open Go.RowKit
set_option maxRecDepth 100000

/-- What a command answers, and what becomes of day, orders, recalls and lots: any command. -/
def stepR (rcs : List (Nat × Nat)) (td : Nat) (os : List O) (ls : List L) : Pl.Cmd → List UInt8 × Nat × List O × List (Nat × Nat) × List L
  | .ok (8, [a, m]) => (recallR rcs ls a m, td, os, recallS rcs ls a m, ls)
  | .ok (9, [a, m]) => ([UInt8.ofNat (releaseC rcs a m)], td, os, releaseS rcs a m, ls)
  | c => ((stepO rcs td os ls c).1, (stepO rcs td os ls c).2.1, (stepO rcs td os ls c).2.2.1, rcs, (stepO rcs td os ls c).2.2.2)

theorem stepR_old {rcs : List (Nat × Nat)} {c : Pl.Cmd} (h : PlayedO c) (td : Nat) (os : List O) (ls : List L) : stepR rcs td os ls c = ((stepO rcs td os ls c).1, (stepO rcs td os ls c).2.1, (stepO rcs td os ls c).2.2.1, rcs, (stepO rcs td os ls c).2.2.2) := by
  cases c with
  | error e => rfl
  | ok p =>
    obtain ⟨n, ns⟩ := p
    rcases h n ns rfl with rfl | rfl | rfl | rfl | rfl | rfl | rfl | rfl | rfl | rfl <;> rfl

theorem playedR_or (l : List UInt8) : PlayedO (Pl.cmd l) ∨ ∃ c ns, formOf l = some (c, ns) ∧ Pl.mays (Pl.kindsL c) ns = true ∧ Pl.cmd l = .ok (c, ns) ∧ (c = 8 ∨ c = 9) ∧ ns.length = (Pl.kindsL c).length ∧ ∀ n ∈ ns, n < 9223372036854775808 := by
  have hcf := cmd_form l
  cases hform : formOf l with
  | none => left; intro n ns hc; rw [hform] at hcf; rw [hcf] at hc; cases hc
  | some p =>
    obtain ⟨c, ns⟩ := p
    rw [hform] at hcf
    obtain ⟨hc1, hc2, hlen, hlt⟩ := form_facts hform
    cases hm : Pl.mays (Pl.kindsL c) ns with
    | false =>
      simp only [hm, Bool.false_eq_true, if_false] at hcf
      left; intro n ns hc; rw [hcf] at hc; cases hc
    | true =>
      simp only [hm, if_true] at hcf
      by_cases h3 : c = 8 ∨ c = 9
      · right; exact ⟨c, ns, rfl, hm, hcf, h3, hlen, hlt⟩
      · left; intro n ms hc; rw [hcf] at hc; cases hc; omega

theorem len8 {ns : List Nat} (h : ns.length = (Pl.kindsL 8).length) : ∃ a m, ns = [a, m] := by
  match ns, h with
  | [a, m], _ => exact ⟨a, m, rfl⟩

theorem len9 {ns : List Nat} (h : ns.length = (Pl.kindsL 9).length) : ∃ a m, ns = [a, m] := by
  match ns, h with
  | [a, m], _ => exact ⟨a, m, rfl⟩

theorem answerR_all {rcs : List (Nat × Nat)} {Z : Nat → Prop} {w : World} {Lb td : Nat} {ls : List L} {os : List O} (h : PL os rcs Z w Lb td ls) (hgo : Good os ls) (hg : Gl w) (s : ByteArray) (hs : s.size ≤ 2097152) :
    Calls Tryz.prog 43 #[.pointer (some ⟨Lb, 0, none⟩), .string s] w fun e w' => Kp Z w w' ∧ e = .returned (.string ⟨(stepR rcs td os ls (Pl.cmd s.data.toList)).1.toArray⟩) ∧ PL (stepR rcs td os ls (Pl.cmd s.data.toList)).2.2.1 (stepR rcs td os ls (Pl.cmd s.data.toList)).2.2.2.1 (Zn Z w) w' Lb (stepR rcs td os ls (Pl.cmd s.data.toList)).2.1 (stepR rcs td os ls (Pl.cmd s.data.toList)).2.2.2.2 := by
  rcases playedR_or s.data.toList with hold | ⟨c, ns, hform, hm, hcf, h3, hlen, hlt⟩
  · rw [stepR_old hold]; exact answerO_any h hgo hg s hs hold
  · rw [hcf]
    rcases h3 with rfl | rfl
    · obtain ⟨a, m, rfl⟩ := len8 hlen
      exact ans_Recall h hgo hg s hs a m (hlt a (by simp)) (hlt m (by simp)) hform hm
    · obtain ⟨a, m, rfl⟩ := len9 hlen
      exact ans_Release h hg s hs a m (hlt a (by simp)) (hlt m (by simp)) hform hm

set_option maxHeartbeats 800000 in
theorem handlePR_any {rcs : List (Nat × Nat)} {Z : Nat → Prop} {w : World} {Lb td : Nat} {ls : List L} {os : List O} (h : PL os rcs Z w Lb td ls) (hgo : Good os ls) (hg : Gl w) (s : ByteArray) (hs : s.size ≤ 2097152) :
    Calls Tryz.prog 20 #[.pointer (some ⟨Lb, 0, none⟩), .string s] w fun e w' => Kp Z w w' ∧ e = .returned (.string ⟨(stepR rcs td os ls (Pl.cmd s.data.toList)).1.toArray⟩) ∧ PL (stepR rcs td os ls (Pl.cmd s.data.toList)).2.2.1 (stepR rcs td os ls (Pl.cmd s.data.toList)).2.2.2.1 (Zn Z w) w' Lb (stepR rcs td os ls (Pl.cmd s.data.toList)).2.1 (stepR rcs td os ls (Pl.cmd s.data.toList)).2.2.2.2 := by
  have HA := hide (answerR_all h hgo hg s hs)
  generalize stepR rcs td os ls (Pl.cmd s.data.toList) = st at HA ⊢
  obtain ⟨b, td', os', rs', ls'⟩ := st
  clear h hgo
  go_enter Tryz.func20, Tryz.ntmps20
  go_wp2_with (go_at_call 43; refine (HA.out).mono ?_; rintro e w1 ⟨hk, rfl, hpl⟩)
  go_ret
  exact ⟨hk, rfl, hpl⟩

theorem good_stepR {rcs : List (Nat × Nat)} {os : List O} {td : Nat} {ls : List L} (h : Good os ls) (hl : ls.length ≤ 30) (l : List UInt8) : Good (stepR rcs td os ls (Pl.cmd l)).2.2.1 (stepR rcs td os ls (Pl.cmd l)).2.2.2.2 := by
  rcases playedR_or l with hold | ⟨c, ns, hform, hm, hcf, h3, hlen, hlt⟩
  · rw [stepR_old hold]; exact good_stepO h hl l hold
  · rw [hcf]
    rcases h3 with rfl | rfl
    · obtain ⟨a, m, rfl⟩ := len8 hlen; exact h
    · obtain ⟨a, m, rfl⟩ := len9 hlen; exact h

end Go.Proofs.YtlmafelclgeccaaGreatDoor
