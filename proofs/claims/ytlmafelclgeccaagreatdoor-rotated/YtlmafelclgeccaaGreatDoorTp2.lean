import Derived.Test.YtlmafelclgeccaaGreatDoorSt15X
import Derived.Test.YtlmafelclgeccaaGreatDoorTp1
namespace Go.Proofs.YtlmafelclgeccaaGreatDoor
set_option linter.unusedSimpArgs false
set_option linter.unusedVariables false
open Go.RowKit
set_option maxRecDepth 100000

/-- What a command answers, and what becomes of day and lots; with Split, Merge and Scrap. -/
def stepT (rcs : List (Nat × Nat)) (td : Nat) (ls : List L) : Pl.Cmd → List UInt8 × Nat × List L
  | .ok (3, [a, b, c]) => ([UInt8.ofNat (splitC ls a b c)], td, splitS ls a b c)
  | .ok (4, [a, b, c]) => ([UInt8.ofNat (mergeC ls a b c)], td, mergeS ls a b c)
  | .ok (10, [a, b]) => ([UInt8.ofNat (scrapC ls a b)], td, scrapS ls a b)
  | c => stepS rcs td ls c

theorem stepT_old {rcs : List (Nat × Nat)} {c : Pl.Cmd} (h : Played c) (td : Nat) (ls : List L) : stepT rcs td ls c = stepS rcs td ls c := by
  cases c with
  | error e => rfl
  | ok p =>
    obtain ⟨n, ns⟩ := p
    rcases h n ns rfl with rfl | rfl | rfl | rfl <;> rfl

/-- The codes that are played, with Split, Merge and Scrap. -/
def PlayedT (c : Pl.Cmd) : Prop := ∀ n ns, c = .ok (n, ns) → n = 1 ∨ n = 2 ∨ n = 11 ∨ n = 12 ∨ n = 3 ∨ n = 4 ∨ n = 10

theorem played_or {l : List UInt8} (h : PlayedT (Pl.cmd l)) : Played (Pl.cmd l) ∨ ∃ c ns, formOf l = some (c, ns) ∧ Pl.mays (Pl.kindsL c) ns = true ∧ Pl.cmd l = .ok (c, ns) ∧ (c = 3 ∨ c = 4 ∨ c = 10) ∧ ns.length = (Pl.kindsL c).length ∧ ∀ n ∈ ns, n < 9223372036854775808 := by
  have hcf := cmd_form l
  cases hform : formOf l with
  | none => left; intro n ns hc; rw [hform] at hcf; rw [hcf] at hc; cases hc
  | some p =>
    obtain ⟨c, ns⟩ := p
    rw [hform] at hcf
    obtain ⟨hc1, hc2, hlen, hlt⟩ := form_facts hform
    cases hm : Pl.mays (Pl.kindsL c) ns with
    | false =>
      simp only [hm, Bool.false_eq_true, if_false] at hcf
      left; intro n ns hc; rw [hcf] at hc; cases hc
    | true =>
      simp only [hm, if_true] at hcf
      have hq := h c ns hcf
      by_cases h3 : c = 3 ∨ c = 4 ∨ c = 10
      · right; exact ⟨c, ns, rfl, hm, hcf, h3, hlen, hlt⟩
      · left; intro n ms hc; rw [hcf] at hc; cases hc; omega

theorem answerT_any {rcs : List (Nat × Nat)} {Z : Nat → Prop} {w : World} {Lb td : Nat} {ls : List L} {os : List O} (h : PL os rcs Z w Lb td ls) (hg : Gl w) (s : ByteArray) (hs : s.size ≤ 2097152) (hp : PlayedT (Pl.cmd s.data.toList)) :
    Calls Tryz.prog 43 #[.pointer (some ⟨Lb, 0, none⟩), .string s] w fun e w' => Kp Z w w' ∧ e = .returned (.string ⟨(stepT rcs td ls (Pl.cmd s.data.toList)).1.toArray⟩) ∧ PL os rcs (Zn Z w) w' Lb (stepT rcs td ls (Pl.cmd s.data.toList)).2.1 (stepT rcs td ls (Pl.cmd s.data.toList)).2.2 := by
  rcases played_or hp with hold | ⟨c, ns, hform, hm, hcf, h3, hlen, hlt⟩
  · rw [stepT_old hold]; exact answer_any h hg s hs hold
  · rw [hcf]
    rcases h3 with rfl | rfl | rfl
    · obtain ⟨a, b, c, rfl⟩ := len3 hlen
      exact ans_Split h hg s hs a b c (hlt a (by simp)) (hlt b (by simp)) (hlt c (by simp)) hform hm
    · obtain ⟨a, b, c, rfl⟩ := len3 hlen
      exact ans_Merge h hg s hs a b c (hlt a (by simp)) (hlt b (by simp)) (hlt c (by simp)) hform hm
    · obtain ⟨a, b, rfl⟩ := len2 hlen
      exact ans_Scrap h hg s hs a b (hlt a (by simp)) (hlt b (by simp)) hform hm

set_option maxHeartbeats 800000 in
theorem handlePT_any {rcs : List (Nat × Nat)} {Z : Nat → Prop} {w : World} {Lb td : Nat} {ls : List L} {os : List O} (h : PL os rcs Z w Lb td ls) (hg : Gl w) (s : ByteArray) (hs : s.size ≤ 2097152) (hp : PlayedT (Pl.cmd s.data.toList)) :
    Calls Tryz.prog 20 #[.pointer (some ⟨Lb, 0, none⟩), .string s] w fun e w' => Kp Z w w' ∧ e = .returned (.string ⟨(stepT rcs td ls (Pl.cmd s.data.toList)).1.toArray⟩) ∧ PL os rcs (Zn Z w) w' Lb (stepT rcs td ls (Pl.cmd s.data.toList)).2.1 (stepT rcs td ls (Pl.cmd s.data.toList)).2.2 := by
  have HA := hide (answerT_any h hg s hs hp)
  generalize stepT rcs td ls (Pl.cmd s.data.toList) = st at HA ⊢
  obtain ⟨b, td', ls'⟩ := st
  clear h hp
  go_enter Tryz.func20, Tryz.ntmps20
  go_wp2_with (go_at_call 43; refine (HA.out).mono ?_; rintro e w1 ⟨hk, rfl, hpl⟩)
  go_ret
  exact ⟨hk, rfl, hpl⟩

theorem good_stepT {rcs : List (Nat × Nat)} {os : List O} {td : Nat} {ls : List L} (h : Good os ls) (c : Pl.Cmd) : Good os (stepT rcs td ls c).2.2 := by
  have hset : ∀ (ls : List L), Good os ls → ∀ (i n : Nat), i < ls.length → Good os (ls.set i (gaveL (ls.getD i L0) n)) := fun ls h i n hi => h.set hi rfl rfl rfl
  cases c with
  | error e => exact h
  | ok p =>
    obtain ⟨n, ns⟩ := p
    unfold stepT
    split
    · rename_i a b c heq
      show Good os (splitS ls a b c)
      unfold splitS
      by_cases hc : splitC ls a b c = 0
      · rw [if_pos hc]
        unfold splitC at hc
        by_cases hi : idx a ls < ls.length
        · rw [if_pos hi] at hc
          by_cases hr : roomC ls b = 0
          · refine (hset ls h _ c hi).snoc ?_ (by simp [mkL]) rfl
            intro i hil
            rw [List.length_set] at hil
            have hf := room_fresh hr i hil
            by_cases e : i = idx a ls
            · subst e; rw [gset_eq hi]; exact hf
            · rw [gset_ne e]; exact hf
          · rw [if_neg hr] at hc; exact absurd hc hr
        · rw [if_neg hi] at hc; omega
      · rw [if_neg hc]; exact h
    · rename_i a b c heq
      show Good os (mergeS ls a b c)
      unfold mergeS
      by_cases hc : mergeC ls a b c = 0
      · rw [if_pos hc]
        unfold mergeC at hc
        by_cases hi : idx a ls < ls.length ∧ idx b ls < ls.length
        · rw [if_pos hi] at hc
          by_cases he : idx a ls = idx b ls ∨ (lotAt ls a).goods ≠ (lotAt ls b).goods
          · rw [if_pos he] at hc; omega
          · rw [if_neg he] at hc
            have hne : idx b ls ≠ idx a ls := fun e => he (Or.inl e.symm)
            by_cases hr : roomC ls c = 0
            · have h2 := hset ls h _ (lotAt ls a).free hi.1
              have h3 := hset _ h2 (idx b ls) (lotAt ls b).free (by rw [List.length_set]; exact hi.2)
              rw [gset_ne hne] at h3
              refine h3.snoc ?_ (by simp [mkL]) rfl
              intro i hil
              rw [List.length_set, List.length_set] at hil
              have hf := room_fresh hr i hil
              by_cases e : i = idx b ls
              · subst e; rw [gset_eq (by rw [List.length_set]; exact hi.2)]; exact hf
              · rw [gset_ne e]
                by_cases e' : i = idx a ls
                · subst e'; rw [gset_eq hi.1]; exact hf
                · rw [gset_ne e']; exact hf
            · rw [if_neg hr] at hc; exact absurd hc hr
        · rw [if_neg hi] at hc; omega
      · rw [if_neg hc]; exact h
    · rename_i a b heq
      show Good os (scrapS ls a b)
      unfold scrapS
      by_cases hc : scrapC ls a b = 0
      · rw [if_pos hc]
        unfold scrapC at hc
        by_cases hi : idx a ls < ls.length
        · exact h.set hi rfl rfl rfl
        · rw [if_neg hi] at hc; omega
      · rw [if_neg hc]; exact h
    · exact good_stepS h _

end Go.Proofs.YtlmafelclgeccaaGreatDoor
