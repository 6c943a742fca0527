import Derived.Test.YtlmafelclgeccaaGreatDoorAns2
import Derived.Test.YtlmafelclgeccaaGreatDoorMp0X
namespace Go.Proofs.YtlmafelclgeccaaGreatDoor
set_option linter.unusedSimpArgs false
set_option linter.unusedVariables false
open Go.RowKit
set_option maxRecDepth 100000

/-- What a command answers, and what becomes of day and lots. -/
def stepS (rcs : List (Nat × Nat)) (td : Nat) (ls : List L) : Pl.Cmd → List UInt8 × Nat × List L
  | .error e => ([UInt8.ofNat e], td, ls)
  | .ok (1, [d]) => if d < td then ([3], td, ls) else ([0], d, ls)
  | .ok (2, [a, b, c, d]) => ([UInt8.ofNat (roomC ls a)], td, if roomC ls a = 0 then ls ++ [newL ls a b c d] else ls)
  | .ok (11, [n]) => if idx n ls < ls.length then (0 :: Pl.toldB (lookL (recB rcs ls) (ls.getD (idx n ls) L0)), td, ls) else ([4], td, ls)
  | .ok (12, [a, b]) => (0 :: Pl.toldB (supL rcs td a b ls), td, ls)
  | _ => ([], td, ls)

theorem cmd_form (l : List UInt8) : Pl.cmd l = match formOf l with
    | none => .error 1
    | some (c, ns) => if Pl.mays (Pl.kindsL c) ns then .ok (c, ns) else .error 2 := by
  cases l with
  | nil => rfl
  | cons c r =>
    simp only [Pl.cmd, formOf]
    cases hn : Pl.nums r with
    | none => by_cases hk : Pl.kindsL c.toNat = [] <;> simp [hk]
    | some ns =>
      by_cases hk : Pl.kindsL c.toNat = []
      · simp [hk]
      · by_cases hl : ns.length = (Pl.kindsL c.toNat).length
        · simp [hk, hl]
        · simp [hk, hl]

theorem form_facts {l : List UInt8} {c : Nat} {ns : List Nat} (h : formOf l = some (c, ns)) : 1 ≤ c ∧ c ≤ 12 ∧ ns.length = (Pl.kindsL c).length ∧ ∀ n ∈ ns, n < 9223372036854775808 := by
  cases l with
  | nil => cases h
  | cons b r =>
    simp only [formOf] at h
    by_cases hk : Pl.kindsL b.toNat = []
    · simp [hk] at h
    · simp only [hk, if_false] at h
      cases hn : Pl.nums r with
      | none => rw [hn] at h; cases h
      | some ms =>
        rw [hn] at h
        by_cases hl : ms.length = (Pl.kindsL b.toNat).length
        · simp only [hl, if_true, Option.some.injEq, Prod.mk.injEq] at h
          obtain ⟨rfl, rfl⟩ := h
          have hb : 1 ≤ b.toNat ∧ b.toNat ≤ 12 := by
            apply Decidable.byContradiction
            intro hc
            apply hk
            unfold Pl.kindsL
            split <;> first | rfl | omega
          exact ⟨hb.1, hb.2, hl, Pl.nums_lt _ r _ (Nat.le_refl _) hn⟩
        · simp [hl] at h

theorem len1 {ns : List Nat} (h : ns.length = 1) : ∃ a, ns = [a] := List.length_eq_one_iff.1 h

theorem len2 {ns : List Nat} (h : ns.length = 2) : ∃ a b, ns = [a, b] := by
  match ns, h with
  | [a, b], _ => exact ⟨a, b, rfl⟩

theorem len3 {ns : List Nat} (h : ns.length = 3) : ∃ a b c, ns = [a, b, c] := by
  match ns, h with
  | [a, b, c], _ => exact ⟨a, b, c, rfl⟩

theorem len4 {ns : List Nat} (h : ns.length = 4) : ∃ a b c d, ns = [a, b, c, d] := by
  match ns, h with
  | [a, b, c, d], _ => exact ⟨a, b, c, d, rfl⟩

theorem len5 {ns : List Nat} (h : ns.length = 5) : ∃ a b c d e, ns = [a, b, c, d, e] := by
  match ns, h with
  | [a, b, c, d, e], _ => exact ⟨a, b, c, d, e, rfl⟩

/-- A command whose numbers may not be. -/
theorem ans_num (w : World) (Lb : Nat) (hg : Gl w) (s : ByteArray) (hs : s.size ≤ 2097152) (c : Nat) (ns : List Nat) (hform : formOf s.data.toList = some (c, ns)) (hm : Pl.mays (Pl.kindsL c) ns = false) :
    Calls Tryz.prog 43 #[.pointer (some ⟨Lb, 0, none⟩), .string s] w fun e w' => e = .returned (.string ⟨[2].toArray⟩) ∧ Below w.heap.size w w' := by
  obtain ⟨hc1, hc2, hlen, hlt⟩ := form_facts hform
  rcases (show c = 1 ∨ c = 2 ∨ c = 3 ∨ c = 4 ∨ c = 5 ∨ c = 6 ∨ c = 7 ∨ c = 8 ∨ c = 9 ∨ c = 10 ∨ c = 11 ∨ c = 12 from by omega) with rfl | rfl | rfl | rfl | rfl | rfl | rfl | rfl | rfl | rfl | rfl | rfl
  · obtain ⟨a, rfl⟩ := len1 hlen
    exact num_Day w Lb hg s hs a (hlt a (by simp)) hform hm
  · obtain ⟨a, b, c, d, rfl⟩ := len4 hlen
    exact num_Receive w Lb hg s hs a b c d (hlt a (by simp)) (hlt b (by simp)) (hlt c (by simp)) (hlt d (by simp)) hform hm
  · obtain ⟨a, b, c, rfl⟩ := len3 hlen
    exact num_Split w Lb hg s hs a b c (hlt a (by simp)) (hlt b (by simp)) (hlt c (by simp)) hform hm
  · obtain ⟨a, b, c, rfl⟩ := len3 hlen
    exact num_Merge w Lb hg s hs a b c (hlt a (by simp)) (hlt b (by simp)) (hlt c (by simp)) hform hm
  · obtain ⟨a, b, c, d, f, rfl⟩ := len5 hlen
    exact num_Order w Lb hg s hs a b c d f (hlt a (by simp)) (hlt b (by simp)) (hlt c (by simp)) (hlt d (by simp)) (hlt f (by simp)) hform hm
  · obtain ⟨a, rfl⟩ := len1 hlen
    exact num_Cancel w Lb hg s hs a (hlt a (by simp)) hform hm
  · obtain ⟨a, rfl⟩ := len1 hlen
    exact num_Ship w Lb hg s hs a (hlt a (by simp)) hform hm
  · obtain ⟨a, b, rfl⟩ := len2 hlen
    exact num_Recall w Lb hg s hs a b (hlt a (by simp)) (hlt b (by simp)) hform hm
  · obtain ⟨a, b, rfl⟩ := len2 hlen
    exact num_Release w Lb hg s hs a b (hlt a (by simp)) (hlt b (by simp)) hform hm
  · obtain ⟨a, b, rfl⟩ := len2 hlen
    exact num_Scrap w Lb hg s hs a b (hlt a (by simp)) (hlt b (by simp)) hform hm
  · obtain ⟨a, rfl⟩ := len1 hlen
    exact num_Look w Lb hg s hs a (hlt a (by simp)) hform hm
  · obtain ⟨a, b, rfl⟩ := len2 hlen
    exact num_Supply w Lb hg s hs a b (hlt a (by simp)) (hlt b (by simp)) hform hm

/-- The codes that are played. -/
def Played (c : Pl.Cmd) : Prop := ∀ n ns, c = .ok (n, ns) → n = 1 ∨ n = 2 ∨ n = 11 ∨ n = 12

theorem answer_any {rcs : List (Nat × Nat)} {Z : Nat → Prop} {w : World} {Lb td : Nat} {ls : List L} {os : List O} (h : PL os rcs Z w Lb td ls) (hg : Gl w) (s : ByteArray) (hs : s.size ≤ 2097152) (hp : Played (Pl.cmd s.data.toList)) :
    Calls Tryz.prog 43 #[.pointer (some ⟨Lb, 0, none⟩), .string s] w fun e w' => Kp Z w w' ∧ e = .returned (.string ⟨(stepS rcs td ls (Pl.cmd s.data.toList)).1.toArray⟩) ∧ PL os rcs (Zn Z w) w' Lb (stepS rcs td ls (Pl.cmd s.data.toList)).2.1 (stepS rcs td ls (Pl.cmd s.data.toList)).2.2 := by
  have hcf := cmd_form s.data.toList
  cases hform : formOf s.data.toList with
  | none =>
    rw [hform] at hcf
    rw [hcf]
    refine (ans_bad w Lb hg s hs hform).mono ?_
    rintro e w' ⟨h1, h2⟩
    exact ⟨kpB h2, h1, (h.below h2).mono (fun _ hk => Or.inl hk)⟩
  | some p =>
    obtain ⟨c, ns⟩ := p
    rw [hform] at hcf
    obtain ⟨hc1, hc2, hlen, hlt⟩ := form_facts hform
    cases hm : Pl.mays (Pl.kindsL c) ns with
    | false =>
      simp only [hm, Bool.false_eq_true, if_false] at hcf
      rw [hcf]
      refine (ans_num w Lb hg s hs c ns hform hm).mono ?_
      rintro e w' ⟨h1, h2⟩
      exact ⟨kpB h2, h1, (h.below h2).mono (fun _ hk => Or.inl hk)⟩
    | true =>
      simp only [hm, if_true] at hcf
      rcases hp c ns hcf with rfl | rfl | rfl | rfl
      · obtain ⟨a, rfl⟩ := len1 hlen
        rw [hcf]
        refine (ans_Day h hg s hs a (hlt a (by simp)) hform hm).mono ?_
        rintro e w' ⟨hk, ⟨h1, h2, h3⟩ | ⟨h1, h2, h3⟩⟩
        · simp only [stepS, if_pos h1]; exact ⟨hk, h2, h3⟩
        · simp only [stepS, if_neg (show ¬ a < td by omega)]; exact ⟨hk, h2, h3⟩
      · obtain ⟨a, b, c, d, rfl⟩ := len4 hlen
        rw [hcf]
        refine (ans_Receive h hg s hs a b c d (hlt a (by simp)) (hlt b (by simp)) (hlt c (by simp)) (hlt d (by simp)) hform hm).mono ?_
        rintro e w' ⟨hk, h2, h3⟩
        simp only [stepS]; exact ⟨hk, h2, h3⟩
      · obtain ⟨a, rfl⟩ := len1 hlen
        rw [hcf]
        by_cases hi : idx a ls < ls.length
        · refine (look_hit' h hg s hs a (hlt a (by simp)) hform hm hi).mono ?_
          rintro e w' ⟨h1, h2⟩
          simp only [stepS, if_pos hi]
          exact ⟨kpB h1, h2, (h.below h1).mono (fun _ hk => Or.inl hk)⟩
        · refine (look_miss' h hg s hs a (hlt a (by simp)) hform hm hi).mono ?_
          rintro e w' ⟨h1, h2⟩
          simp only [stepS, if_neg hi]
          exact ⟨kpB h1, h2, (h.below h1).mono (fun _ hk => Or.inl hk)⟩
      · obtain ⟨a, b, rfl⟩ := len2 hlen
        rw [hcf]
        refine (ans_Supply h hg s hs a b (hlt a (by simp)) (hlt b (by simp)) hform hm).mono ?_
        rintro e w' ⟨h1, h2⟩
        simp only [stepS]
        exact ⟨kpB h1, h2, (h.below h1).mono (fun _ hk => Or.inl hk)⟩

set_option maxHeartbeats 800000 in
theorem handleP_any {rcs : List (Nat × Nat)} {Z : Nat → Prop} {w : World} {Lb td : Nat} {ls : List L} {os : List O} (h : PL os rcs Z w Lb td ls) (hg : Gl w) (s : ByteArray) (hs : s.size ≤ 2097152) (hp : Played (Pl.cmd s.data.toList)) :
    Calls Tryz.prog 20 #[.pointer (some ⟨Lb, 0, none⟩), .string s] w fun e w' => Kp Z w w' ∧ e = .returned (.string ⟨(stepS rcs td ls (Pl.cmd s.data.toList)).1.toArray⟩) ∧ PL os rcs (Zn Z w) w' Lb (stepS rcs td ls (Pl.cmd s.data.toList)).2.1 (stepS rcs td ls (Pl.cmd s.data.toList)).2.2 := by
  have HA := hide (answer_any h hg s hs hp)
  generalize stepS rcs td ls (Pl.cmd s.data.toList) = st at HA ⊢
  obtain ⟨b, td', ls'⟩ := st
  clear h hp
  go_enter Tryz.func20, Tryz.ntmps20
  go_wp2_with (go_at_call 43; refine (HA.out).mono ?_; rintro e w1 ⟨hk, rfl, hpl⟩)
  go_ret
  exact ⟨hk, rfl, hpl⟩

theorem PV.bound {rcs : List (Nat × Nat)} {w : World} {S : Nat} {M : Mx} {v : Value} {td : Nat} {bs : List Nat} {pvs : List Value} {ls : List L} {os : List O} {Z : Nat → Prop} (h : PV os rcs w S M v td bs pvs ls) (hi : PIn Z S M v bs pvs) : PIn (fun k => Z k ∧ k < w.heap.size) S M v bs pvs where
  s := ⟨hi.s, blk_lt h.store⟩
  m := by obtain ⟨_, _, hc⟩ := h.maps.mr; exact ⟨hi.m, blk_lt hc⟩
  mo := by obtain ⟨_, _, hc⟩ := h.maps.mo; exact ⟨hi.mo, blk_lt hc⟩
  mh := by obtain ⟨_, _, hc⟩ := h.maps.mh; exact ⟨hi.mh, blk_lt hc⟩
  v := fun g hg => by obtain ⟨cs, hc⟩ := own_ty h.row hg; exact ⟨hi.v g hg, blk_lt hc⟩
  b := fun k hk => by
    refine ⟨hi.b k hk, ?_⟩
    obtain ⟨i, hil, rfl⟩ := List.getElem_of_mem hk
    have := blk_lt (h.lot i (by rw [← h.len]; exact hil))
    rw [List.getD_eq_getElem?_getD, List.getElem?_eq_getElem hil] at this
    simpa using this
  p := fun pv hp q hq => by
    refine ⟨hi.p pv hp q hq, ?_⟩
    obtain ⟨i, hil, rfl⟩ := List.getElem_of_mem hp
    have hpar := h.par i (by rw [← h.plen]; exact hil)
    rw [List.getD_eq_getElem?_getD, List.getElem?_eq_getElem hil] at hpar
    simp only [Option.getD_some] at hpar
    obtain ⟨cs, h3⟩ := hpar.blk hq
    exact blk_lt h3

theorem PL.bound {rcs : List (Nat × Nat)} {Z : Nat → Prop} {w : World} {Lb td : Nat} {ls : List L} {os : List O} (h : PL os rcs Z w Lb td ls) : PL os rcs (fun k => Z k ∧ k < w.heap.size) w Lb td ls := by
  obtain ⟨S, Zs, h1, h2, h3, h4, M, v, bs, pvs, h5, h6⟩ := h
  exact ⟨S, fun k => Zs k ∧ k < w.heap.size, h1, ⟨h2, blk_lt h1⟩, fun h => h3 h.1, fun k hk => ⟨h4 k hk.1, hk.2⟩, M, v, bs, pvs, h5, h5.bound h6⟩

theorem PL.congr {rcs : List (Nat × Nat)} {Z : Nat → Prop} {w w' : World} {Lb td : Nat} {ls : List L} {os : List O} (h : PL os rcs Z w Lb td ls) (hq : ∀ k, Z k → w'.heap[k]? = w.heap[k]?) : PL os rcs Z w' Lb td ls := by
  obtain ⟨S, Zs, h1, h2, h3, h4, M, v, bs, pvs, h5, h6⟩ := h
  exact ⟨S, Zs, (hq Lb h2).trans h1, h2, h3, h4, M, v, bs, pvs, h5.congr h6 (fun k hk => hq k (h4 k hk)), h6⟩

theorem Gl.kp {Z : Nat → Prop} {w w' : World} (h : Gl w) (k : Kp Z w w') (h0 : ¬ Z 0) (h1 : ¬ Z 1) : Gl w' := by
  obtain ⟨⟨t0, v0, q0⟩, ⟨t1, v1, q1⟩, q2⟩ := h
  exact ⟨⟨t0, v0, (World.cell?_of_block (a := ⟨0, 0, none⟩) (k.block 0 (by omega) h0)).trans q0⟩, ⟨t1, v1, (World.cell?_of_block (a := ⟨1, 0, none⟩) (k.block 1 (by omega) h1)).trans q1⟩, Nat.le_trans q2 k.size⟩

theorem good_stepS {rcs : List (Nat × Nat)} {os : List O} {td : Nat} {ls : List L} (h : Good os ls) (c : Pl.Cmd) : Good os (stepS rcs td ls c).2.2 := by
  cases c with
  | error e => exact h
  | ok p =>
    obtain ⟨n, ns⟩ := p
    unfold stepS
    split
    · exact h
    · split <;> exact h
    · rename_i a b c d heq
      show Good os (if roomC ls a = 0 then ls ++ [newL ls a b c d] else ls)
      by_cases hr : roomC ls a = 0
      · rw [if_pos hr]; exact h.snoc (room_fresh hr) rfl rfl
      · rw [if_neg hr]; exact h
    · split <;> exact h
    · exact h
    · exact h

theorem alloc_old {w : World} {k : Nat} {o' : Obj} {x : Option Obj} (h : w.heap[k]? = x) (hk : k < w.heap.size) : (w.alloc o').heap[k]? = x := (Below.heap_alloc _ _ _ hk).trans h

end Go.Proofs.YtlmafelclgeccaaGreatDoor
