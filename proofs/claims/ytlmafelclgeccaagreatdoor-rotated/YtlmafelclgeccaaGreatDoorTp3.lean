import Derived.Test.YtlmafelclgeccaaGreatDoorTp2
import Derived.Test.YtlmafelclgeccaaGreatDoorAn2X
namespace Go.Proofs.YtlmafelclgeccaaGreatDoor
set_option linter.unusedSimpArgs false
set_option linter.unusedVariables false
open Go.RowKit
set_option maxRecDepth 100000

/-- What a command answers, and what becomes of day, orders and lots; with Order, Cancel and Ship. -/
def stepO (rcs : List (Nat × Nat)) (td : Nat) (os : List O) (ls : List L) : Pl.Cmd → List UInt8 × Nat × List O × List L
  | .ok (5, [a, b, c, d, f]) => (askR rcs os td ls a b c d f, td, askO rcs os td ls a b c d f, askL rcs os td ls a b c d f)
  | .ok (6, [a]) => ([UInt8.ofNat (endC os a)], td, os.filter (fun o => o.id != a), ls.map (finL freeL os a))
  | .ok (7, [a]) => ([UInt8.ofNat (endC os a)], td, os.filter (fun o => o.id != a), ls.map (finL shipL os a))
  | c => ((stepT rcs td ls c).1, (stepT rcs td ls c).2.1, os, (stepT rcs td ls c).2.2)

theorem stepO_old {rcs : List (Nat × Nat)} {c : Pl.Cmd} (h : PlayedT c) (td : Nat) (os : List O) (ls : List L) : stepO rcs td os ls c = ((stepT rcs td ls c).1, (stepT rcs td ls c).2.1, os, (stepT rcs td ls c).2.2) := by
  cases c with
  | error e => rfl
  | ok p =>
    obtain ⟨n, ns⟩ := p
    rcases h n ns rfl with rfl | rfl | rfl | rfl | rfl | rfl | rfl <;> rfl

/-- The codes that are played, with Order, Cancel and Ship. -/
def PlayedO (c : Pl.Cmd) : Prop := ∀ n ns, c = .ok (n, ns) → n = 1 ∨ n = 2 ∨ n = 11 ∨ n = 12 ∨ n = 3 ∨ n = 4 ∨ n = 10 ∨ n = 5 ∨ n = 6 ∨ n = 7

theorem playedO_or {l : List UInt8} (h : PlayedO (Pl.cmd l)) : PlayedT (Pl.cmd l) ∨ ∃ c ns, formOf l = some (c, ns) ∧ Pl.mays (Pl.kindsL c) ns = true ∧ Pl.cmd l = .ok (c, ns) ∧ (c = 5 ∨ c = 6 ∨ c = 7) ∧ ns.length = (Pl.kindsL c).length ∧ ∀ n ∈ ns, n < 9223372036854775808 := by
  have hcf := cmd_form l
  cases hform : formOf l with
  | none => left; intro n ns hc; rw [hform] at hcf; rw [hcf] at hc; cases hc
  | some p =>
    obtain ⟨c, ns⟩ := p
    rw [hform] at hcf
    obtain ⟨hc1, hc2, hlen, hlt⟩ := form_facts hform
    cases hm : Pl.mays (Pl.kindsL c) ns with
    | false =>
      simp only [hm, Bool.false_eq_true, if_false] at hcf
      left; intro n ns hc; rw [hcf] at hc; cases hc
    | true =>
      simp only [hm, if_true] at hcf
      have hq := h c ns hcf
      by_cases h3 : c = 5 ∨ c = 6 ∨ c = 7
      · right; exact ⟨c, ns, rfl, hm, hcf, h3, hlen, hlt⟩
      · left; intro n ms hc; rw [hcf] at hc; cases hc; omega

theorem len1' {ns : List Nat} (h : ns.length = (Pl.kindsL 6).length) : ∃ a, ns = [a] := by
  match ns, h with
  | [a], _ => exact ⟨a, rfl⟩

theorem len1s {ns : List Nat} (h : ns.length = (Pl.kindsL 7).length) : ∃ a, ns = [a] := by
  match ns, h with
  | [a], _ => exact ⟨a, rfl⟩

theorem len5' {ns : List Nat} (h : ns.length = (Pl.kindsL 5).length) : ∃ a b c d f, ns = [a, b, c, d, f] := by
  match ns, h with
  | [a, b, c, d, f], _ => exact ⟨a, b, c, d, f, rfl⟩

theorem answerO_any {rcs : List (Nat × Nat)} {Z : Nat → Prop} {w : World} {Lb td : Nat} {ls : List L} {os : List O} (h : PL os rcs Z w Lb td ls) (hgo : Good os ls) (hg : Gl w) (s : ByteArray) (hs : s.size ≤ 2097152) (hp : PlayedO (Pl.cmd s.data.toList)) :
    Calls Tryz.prog 43 #[.pointer (some ⟨Lb, 0, none⟩), .string s] w fun e w' => Kp Z w w' ∧ e = .returned (.string ⟨(stepO rcs td os ls (Pl.cmd s.data.toList)).1.toArray⟩) ∧ PL (stepO rcs td os ls (Pl.cmd s.data.toList)).2.2.1 rcs (Zn Z w) w' Lb (stepO rcs td os ls (Pl.cmd s.data.toList)).2.1 (stepO rcs td os ls (Pl.cmd s.data.toList)).2.2.2 := by
  rcases playedO_or hp with hold | ⟨c, ns, hform, hm, hcf, h3, hlen, hlt⟩
  · rw [stepO_old hold]; exact answerT_any h hg s hs hold
  · rw [hcf]
    rcases h3 with rfl | rfl | rfl
    · obtain ⟨a, b, c, d, f, rfl⟩ := len5' hlen
      exact ans_Order h hgo hg s hs a b c d f (hlt a (by simp)) (hlt b (by simp)) (hlt c (by simp)) (hlt d (by simp)) (hlt f (by simp)) hform hm
    · obtain ⟨a, rfl⟩ := len1' hlen
      exact ans_Cancel h hgo hg s hs a (hlt a (by simp)) hform hm
    · obtain ⟨a, rfl⟩ := len1s hlen
      exact ans_Ship h hgo hg s hs a (hlt a (by simp)) hform hm

set_option maxHeartbeats 800000 in
theorem handlePO_any {rcs : List (Nat × Nat)} {Z : Nat → Prop} {w : World} {Lb td : Nat} {ls : List L} {os : List O} (h : PL os rcs Z w Lb td ls) (hgo : Good os ls) (hg : Gl w) (s : ByteArray) (hs : s.size ≤ 2097152) (hp : PlayedO (Pl.cmd s.data.toList)) :
    Calls Tryz.prog 20 #[.pointer (some ⟨Lb, 0, none⟩), .string s] w fun e w' => Kp Z w w' ∧ e = .returned (.string ⟨(stepO rcs td os ls (Pl.cmd s.data.toList)).1.toArray⟩) ∧ PL (stepO rcs td os ls (Pl.cmd s.data.toList)).2.2.1 rcs (Zn Z w) w' Lb (stepO rcs td os ls (Pl.cmd s.data.toList)).2.1 (stepO rcs td os ls (Pl.cmd s.data.toList)).2.2.2 := by
  have HA := hide (answerO_any h hgo hg s hs hp)
  generalize stepO rcs td os ls (Pl.cmd s.data.toList) = st at HA ⊢
  obtain ⟨b, td', os', ls'⟩ := st
  clear h hp hgo
  go_enter Tryz.func20, Tryz.ntmps20
  go_wp2_with (go_at_call 43; refine (HA.out).mono ?_; rintro e w1 ⟨hk, rfl, hpl⟩)
  go_ret
  exact ⟨hk, rfl, hpl⟩

theorem good_stepO {rcs : List (Nat × Nat)} {os : List O} {td : Nat} {ls : List L} (h : Good os ls) (hl : ls.length ≤ 30) (l : List UInt8) (hp : PlayedO (Pl.cmd l)) : Good (stepO rcs td os ls (Pl.cmd l)).2.2.1 (stepO rcs td os ls (Pl.cmd l)).2.2.2 := by
  rcases playedO_or hp with hold | ⟨c, ns, hform, hm, hcf, h3, hlen, hlt⟩
  · rw [stepO_old hold]; exact good_stepT h _
  · rw [hcf]
    rcases h3 with rfl | rfl | rfl
    · obtain ⟨a, b, c, d, f, rfl⟩ := len5' hlen
      have hd : a ≤ 2147483647 := by simp [Pl.mays, Pl.kindsL, Pl.mayB] at hm; omega
      show Good (askO rcs os td ls a b c d f) (askL rcs os td ls a b c d f)
      unfold askO askL
      by_cases h0 : askC rcs os td ls a b c d f = 0
      · rw [if_pos h0, if_pos h0]
        obtain ⟨q1, q2, _⟩ := askC_zero h0
        have hf := linesQ_facts (rcs := rcs) td b c d f ls hl
        exact h.ask hf.2.1 hf.2.2.1 hd q1 q2
      · rw [if_neg h0, if_neg h0]; exact h
    · obtain ⟨a, rfl⟩ := len1' hlen
      exact h.fin freeL (fun l n => ⟨rfl, rfl, rfl⟩) a
    · obtain ⟨a, rfl⟩ := len1s hlen
      exact h.fin shipL (fun l n => ⟨rfl, rfl, rfl⟩) a

end Go.Proofs.YtlmafelclgeccaaGreatDoor
