import Derived.Test.YtcomohmadfnmgaaDoorR13
import Derived.Test.YtcomohmadfnmgaaDoorTop1
namespace Go.Proofs.YtcomohmadfnmgaaDoor
set_option linter.unusedSimpArgs false
set_option linter.unusedVariables false
open Go.RowKit
set_option maxRecDepth 100000

/-- What a command answers, and what becomes of day and lots; with Split, Merge and Scrap. -/
def stepT (td : Nat) (ls : List L) : Pl.Cmd → List UInt8 × Nat × List L
  | .ok (3, [a, b, c]) => ([UInt8.ofNat (splitC ls a b c)], td, splitS ls a b c)
  | .ok (4, [a, b, c]) => ([UInt8.ofNat (mergeC ls a b c)], td, mergeS ls a b c)
  | .ok (10, [a, b]) => ([UInt8.ofNat (scrapC ls a b)], td, scrapS ls a b)
  | c => stepS td ls c

theorem stepT_old {c : Pl.Cmd} (h : Played c) (td : Nat) (ls : List L) : stepT td ls c = stepS td ls c := by
  cases c with
  | error e => rfl
  | ok p =>
    obtain ⟨n, ns⟩ := p
    rcases h n ns rfl with rfl | rfl | rfl | rfl <;> rfl

/-- The codes that are played, with Split, Merge and Scrap. -/
def PlayedT (c : Pl.Cmd) : Prop := ∀ n ns, c = .ok (n, ns) → n = 1 ∨ n = 2 ∨ n = 11 ∨ n = 12 ∨ n = 3 ∨ n = 4 ∨ n = 10

theorem played_or {l : List UInt8} (h : PlayedT (Pl.cmd l)) : Played (Pl.cmd l) ∨ ∃ c ns, formOf l = some (c, ns) ∧ Pl.mays (Pl.kindsL c) ns = true ∧ Pl.cmd l = .ok (c, ns) ∧ (c = 3 ∨ c = 4 ∨ c = 10) ∧ ns.length = (Pl.kindsL c).length ∧ ∀ n ∈ ns, n < 9223372036854775808 := by
  have hcf := cmd_form l
  cases hform : formOf l with
  | none => left; intro n ns hc; rw [hform] at hcf; rw [hcf] at hc; cases hc
  | some p =>
    obtain ⟨c, ns⟩ := p
    rw [hform] at hcf
    obtain ⟨hc1, hc2, hlen, hlt⟩ := form_facts hform
    cases hm : Pl.mays (Pl.kindsL c) ns with
    | false =>
      simp only [hm, Bool.false_eq_true, if_false] at hcf
      left; intro n ns hc; rw [hcf] at hc; cases hc
    | true =>
      simp only [hm, if_true] at hcf
      have hq := h c ns hcf
      by_cases h3 : c = 3 ∨ c = 4 ∨ c = 10
      · right; exact ⟨c, ns, rfl, hm, hcf, h3, hlen, hlt⟩
      · left; intro n ms hc; rw [hcf] at hc; cases hc; omega

theorem answerT_any {Z : Nat → Prop} {w : World} {Lb td : Nat} {ls : List L} (h : PL Z w Lb td ls) (hg : Gl w) (s : ByteArray) (hs : s.size ≤ 2097152) (hp : PlayedT (Pl.cmd s.data.toList)) :
    Calls Tryd.prog 16 #[.pointer (some ⟨Lb, 0, none⟩), .string s] w fun e w' => Kp Z w w' ∧ e = .returned (.string ⟨(stepT td ls (Pl.cmd s.data.toList)).1.toArray⟩) ∧ PL (Zn Z w) w' Lb (stepT td ls (Pl.cmd s.data.toList)).2.1 (stepT td ls (Pl.cmd s.data.toList)).2.2 := by
  rcases played_or hp with hold | ⟨c, ns, hform, hm, hcf, h3, hlen, hlt⟩
  · rw [stepT_old hold]; exact answer_any h hg s hs hold
  · rw [hcf]
    rcases h3 with rfl | rfl | rfl
    · obtain ⟨a, b, c, rfl⟩ := len3 hlen
      exact ans_Split h hg s hs a b c (hlt a (by simp)) (hlt b (by simp)) (hlt c (by simp)) hform hm
    · obtain ⟨a, b, c, rfl⟩ := len3 hlen
      exact ans_Merge h hg s hs a b c (hlt a (by simp)) (hlt b (by simp)) (hlt c (by simp)) hform hm
    · obtain ⟨a, b, rfl⟩ := len2 hlen
      exact ans_Scrap h hg s hs a b (hlt a (by simp)) (hlt b (by simp)) hform hm

set_option maxHeartbeats 800000 in
theorem handlePT_any {Z : Nat → Prop} {w : World} {Lb td : Nat} {ls : List L} (h : PL Z w Lb td ls) (hg : Gl w) (s : ByteArray) (hs : s.size ≤ 2097152) (hp : PlayedT (Pl.cmd s.data.toList)) :
    Calls Tryd.prog 10 #[.pointer (some ⟨Lb, 0, none⟩), .string s] w fun e w' => Kp Z w w' ∧ e = .returned (.string ⟨(stepT td ls (Pl.cmd s.data.toList)).1.toArray⟩) ∧ PL (Zn Z w) w' Lb (stepT td ls (Pl.cmd s.data.toList)).2.1 (stepT td ls (Pl.cmd s.data.toList)).2.2 := by
  have HA := hide (answerT_any h hg s hs hp)
  generalize stepT td ls (Pl.cmd s.data.toList) = st at HA ⊢
  obtain ⟨b, td', ls'⟩ := st
  clear h hp
  go_enter Tryd.func10, Tryd.ntmps10
  go_wp2_with (go_at_call 16; refine (HA.out).mono ?_; rintro e w1 ⟨hk, rfl, hpl⟩)
  go_ret
  exact ⟨hk, rfl, hpl⟩

/-- A command that answers with its error alone, and whose frame is told where it has none. -/
theorem hR_code {Z : Nat → Prop} {w : World} {R td : Nat} {rec : ByteArray} (hZR : Z R) (hrec : rec.size ≤ 1000000000000000) (s : ByteArray) (hs : s.size ≤ 2097143) (c : Nat) (hc10 : c ≤ 10) (ns : List Nat) (hcf : Pl.cmd s.data.toList = .ok (c, ns)) (rc : Nat) (hrc : rc ≤ 9) (ls' : List L)
    (HD : ∀ w1, Below w.heap.size w w1 → DoesAt R c ns w1 fun e w' => Kp Z w1 w' ∧ e = .returned (.tuple #[.slice none 0 0, .int .i64 (rc : Int)]) ∧ RI (Zn Z w1) w' R td rec ls') :
    Calls Tryd.prog 11 #[.pointer (some ⟨R, 0, none⟩), .string s] w fun e w' => e = .returned (.string ⟨[UInt8.ofNat rc].toArray⟩) ∧ Kp Z w w' ∧ ∃ rec', rec'.size ≤ rec.size + (s.size + 13) ∧ RI (Zn Z w) w' R td rec' ls' := by
  have hs' : s.size ≤ 2097152 := by omega
  by_cases h0 : rc = 0
  · subst h0
    refine (hR_log w R td rec hrec ls' s hs c hc10 ns hcf (fun w1 hb1 gn cap hn => ?_) hZR).mono ?_
    · refine (HD w1 hb1 gn cap hn).mono ?_
      rintro e w2 ⟨hk, q2, q3⟩
      exact ⟨q2, hk, q3⟩
    · rintro e w' ⟨h1, h2, rec', h3, h4⟩
      exact ⟨h1, h2, rec', by omega, h4⟩
  · refine (hR_err w R s hs' c ns hcf rc (by omega) (by omega) (fun w2 => Kp Z w w2 ∧ RI (Zn Z w) w2 R td rec ls') (fun w1 hb1 gn cap hn => ?_)).mono ?_
    · refine (HD w1 hb1 gn cap hn).mono ?_
      rintro e w2 ⟨hk, q2, q3⟩
      exact ⟨q2, Kp.before hb1 (hk.mono (fun k h => Or.inl h)), q3.mono (fun k hk => hk.elim Or.inl (fun h => Or.inr (Nat.le_trans hb1.size h)))⟩
    · rintro e w' ⟨h1, w2, ⟨q1, q2⟩, hb2⟩
      exact ⟨h1, q1.after hb2, rec, by omega, q2.below hb2⟩

theorem handleRT_any {Z : Nat → Prop} {w : World} {R td : Nat} {rec : ByteArray} {ls : List L} (h : RI Z w R td rec ls) (hrec : rec.size ≤ 1000000000000000) (s : ByteArray) (hs : s.size ≤ 2097143) (hp : PlayedT (Pl.cmd s.data.toList)) :
    Calls Tryd.prog 11 #[.pointer (some ⟨R, 0, none⟩), .string s] w fun e w' => e = .returned (.string ⟨(stepT td ls (Pl.cmd s.data.toList)).1.toArray⟩) ∧ Kp Z w w' ∧ ∃ rec', rec'.size ≤ rec.size + (s.size + 13) ∧ RI (Zn Z w) w' R (stepT td ls (Pl.cmd s.data.toList)).2.1 rec' (stepT td ls (Pl.cmd s.data.toList)).2.2 := by
  have hZR : Z R := by obtain ⟨v, fs, _, hz, _⟩ := h; exact hz
  rcases played_or hp with hold | ⟨c, ns, hform, hm, hcf, h3, hlen, hlt⟩
  · rw [stepT_old hold]; exact handleR_any h hrec s hs hold
  · rw [hcf]
    rcases h3 with rfl | rfl | rfl
    · obtain ⟨a, b, c, rfl⟩ := len3 hlen
      have hd : a ≤ 2147483647 ∧ b ≤ 2147483647 ∧ c ≤ 2147483647 := by simp [Pl.mays, Pl.kindsL, Pl.mayB] at hm; omega
      exact hR_code hZR hrec s hs 3 (by omega) [a, b, c] hcf (splitC ls a b c) (splitC_le _ _ _ _) (splitS ls a b c) (fun w1 hb1 gn cap hn => doesR_split (h.below hb1) gn cap a b c hn hd.1 hd.2.1 hd.2.2)
    · obtain ⟨a, b, c, rfl⟩ := len3 hlen
      have hd : a ≤ 2147483647 ∧ b ≤ 2147483647 ∧ c ≤ 2147483647 := by simp [Pl.mays, Pl.kindsL, Pl.mayB] at hm; omega
      exact hR_code hZR hrec s hs 4 (by omega) [a, b, c] hcf (mergeC ls a b c) (mergeC_le _ _ _ _) (mergeS ls a b c) (fun w1 hb1 gn cap hn => doesR_merge (h.below hb1) gn cap a b c hn hd.1 hd.2.1 hd.2.2)
    · obtain ⟨a, b, rfl⟩ := len2 hlen
      have hd : a ≤ 2147483647 ∧ b ≤ 2147483647 := by simp [Pl.mays, Pl.kindsL, Pl.mayB] at hm; omega
      exact hR_code hZR hrec s hs 10 (by omega) [a, b] hcf (scrapC ls a b) (scrapC_le _ _ _) (scrapS ls a b) (fun w1 hb1 gn cap hn => doesR_scrap (h.below hb1) gn cap a b hn hd.1 hd.2)

end Go.Proofs.YtcomohmadfnmgaaDoor
