import Derived.Test.YtgcedalggnmooabGreatDoorOpC
namespace Go.Proofs.YtgcedalggnmooabGreatDoor
set_option linter.unusedSimpArgs false
set_option linter.unusedVariables false
open Go.RowKit
set_option maxRecDepth 100000

theorem first1 (b : UInt8) (hb : b.toNat < 128) (r : List UInt8) : Pl.fst (b :: r) = b.toNat ∧ Pl.snd (b :: r) = 1 := by
  have hl : Pl.lead (b :: r) = 0 := by rw [Pl.lead_cons, if_neg (by omega)]
  have ho : Pl.ok1 (b :: r) = true := by simp [Pl.ok1, hl]
  refine ⟨?_, ?_⟩
  · unfold Pl.fst; rw [if_pos ho, hl]
    show Pl.val [b] = _
    simp [Pl.val]
    omega
  · unfold Pl.snd; rw [if_pos ho, hl]

/-- The frame of a short command. -/
theorem frm_short {c : List UInt8} (hc : c.length < 128) : frmB c = UInt8.ofNat c.length :: (c ++ chkB (UInt8.ofNat c.length :: c)) := by
  unfold frmB
  rw [Pl.num_lt hc]
  rfl
theorem u8_len {c : List UInt8} (hc : c.length < 128) : (UInt8.ofNat c.length).toNat = c.length := by rw [UInt8.toNat_ofNat']; omega

theorem frP_short (b : UInt8) (hb : b.toNat < 128) (r : List UInt8) : frP (b :: r) =
    if r.length < b.toNat then none else if r.length - b.toNat < 4 then none
    else if (r.drop b.toNat).take 4 = chkB (b :: r.take b.toNat) then some (r.take b.toNat, 1 + b.toNat + 4) else none := by
  obtain ⟨h1, h2⟩ := first1 b hb r
  unfold frP
  rw [h1, h2, if_neg (by omega), Nat.add_comm 1 b.toNat]
  simp only [List.drop_succ_cons, List.drop_zero, List.take_succ_cons, List.length_drop]

/-- A whole frame is read. -/
theorem frP_frm {c : List UInt8} (hc : c.length < 128) (r : List UInt8) : ∃ n, frP (frmB c ++ r) = some (c, n) := by
  have hu := u8_len hc
  have h4 := chkB_len (UInt8.ofNat c.length :: c)
  rw [frm_short hc, List.cons_append, frP_short _ (by omega), hu]
  have e1 : ((c ++ chkB (UInt8.ofNat c.length :: c)) ++ r).take c.length = c := by rw [List.append_assoc, List.take_left]
  have e2 : (((c ++ chkB (UInt8.ofNat c.length :: c)) ++ r).drop c.length).take 4 = chkB (UInt8.ofNat c.length :: c) := by
    rw [List.append_assoc, List.drop_left, List.take_append_of_le_length (by omega), List.take_of_length_le (by omega)]
  have e3 : ((c ++ chkB (UInt8.ofNat c.length :: c)) ++ r).length = c.length + 4 + r.length := by simp [h4]; omega
  rw [if_neg (by omega), if_neg (by omega), e1, e2, if_pos rfl]
  exact ⟨_, rfl⟩
/-- A part of a frame is not. -/
theorem frP_cut {c : List UInt8} (hc : c.length < 128) {j : Nat} (hj : j < (frmB c).length) : frP ((frmB c).take j) = none := by
  have hu := u8_len hc
  have h4 := chkB_len (UInt8.ofNat c.length :: c)
  rw [frm_short hc] at hj ⊢
  cases j with
  | zero => rfl
  | succ j =>
    rw [List.take_succ_cons, frP_short _ (by omega), hu]
    have e3 : ((c ++ chkB (UInt8.ofNat c.length :: c)).take j).length = j := by
      rw [List.length_take]; simp [h4] at hj ⊢; omega
    have hj' : j < c.length + 4 := by simp [h4] at hj; omega
    by_cases h : j < c.length
    · rw [e3, if_pos h]
    · rw [e3, if_neg h, if_pos (by omega)]

/-- A command that is logged where it is done. -/
structure Lg1 (s : Sv) (c : Nat × List Nat) : Prop where
  code : 1 ≤ c.1 ∧ c.1 ≤ 10
  form : Pl.cmd (Pl.cmdB c.1 c.2) = .ok c
  len : (Pl.cmdB c.1 c.2).length ≤ 100
  done : (repV s (.ok c)).getD 0 1 = 0
def Lgs : Sv → List (Nat × List Nat) → Prop
  | _, [] => True
  | s, c :: cs => Lg1 s c ∧ Lgs (stepV s (.ok c)) cs
def runV : Sv → List (Nat × List Nat) → Sv
  | s, [] => s
  | s, c :: cs => runV (stepV s (.ok c)) cs
def frms (cs : List (Nat × List Nat)) : List UInt8 := cs.flatMap (fun c => frmB (Pl.cmdB c.1 c.2))

theorem Lg1.lg {s : Sv} {c : Nat × List Nat} (h : Lg1 s c) : (stepV s (.ok c)).lg = s.lg ++ frmB (Pl.cmdB c.1 c.2) := by
  show lgC s.lg (.ok (c.1, c.2)) _ = _
  unfold lgC
  exact if_pos ⟨h.done, h.code.2⟩
theorem Lg1.stepB {s : Sv} {c : Nat × List Nat} (h : Lg1 s c) : stepB s ⟨(Pl.cmdB c.1 c.2).toArray⟩ = stepV s (.ok c) := by
  have e1 : (⟨(Pl.cmdB c.1 c.2).toArray⟩ : ByteArray).data.toList = Pl.cmdB c.1 c.2 := by simp
  have hc := h.code.2
  unfold Proofs.YtgcedalggnmooabGreatDoor.stepB stepV
  rw [e1, h.form, lgX_cmd (by omega)]
theorem runV_append : ∀ (cs ds : List (Nat × List Nat)) (s : Sv), runV s (cs ++ ds) = runV (runV s cs) ds
  | [], _, _ => rfl
  | _ :: cs, ds, s => runV_append cs ds _
theorem Lgs_append : ∀ (cs ds : List (Nat × List Nat)) (s : Sv), Lgs s (cs ++ ds) ↔ Lgs s cs ∧ Lgs (runV s cs) ds
  | [], _, _ => by simp [Lgs, runV]
  | c :: cs, ds, s => by
    have := Lgs_append cs ds (stepV s (.ok c))
    simp only [List.cons_append, Lgs, runV, this, and_assoc]
theorem runV_lg : ∀ (cs : List (Nat × List Nat)) (s : Sv), Lgs s cs → (runV s cs).lg = s.lg ++ frms cs
  | [], s, _ => by simp [runV, frms]
  | c :: cs, s, h => by
    have := runV_lg cs _ h.2
    simp only [runV]
    rw [this, h.1.lg, List.append_assoc]
    rfl
theorem frms_len : ∀ cs : List (Nat × List Nat), cs.length ≤ (frms cs).length
  | [] => Nat.le_refl _
  | c :: cs => by
    have h1 := frms_len cs
    have h2 : 0 < (frmB (Pl.cmdB c.1 c.2)).length := List.length_pos_iff.2 (frmB_ne _)
    show cs.length + 1 ≤ (frmB (Pl.cmdB c.1 c.2) ++ frms cs).length
    rw [List.length_append]; omega

/-- A log is read through to where it breaks off. -/
theorem rp_run : ∀ (cs : List (Nat × List Nat)) (f : Nat) (s : Sv) (l rest : List UInt8), Lgs s cs → cs.length ≤ f → l = (runV s cs).lg ++ rest → frP rest = none → rp f l s = runV s cs
  | [], f, s, l, rest, _, _, hl, hr => by
    cases f with
    | zero => rfl
    | succ f =>
      show (if s.lg.length < l.length then _ else _) = s
      have e : l.drop s.lg.length = rest := by rw [hl]; exact List.drop_left
      rw [e, hr]
      split <;> rfl
  | c :: cs, f, s, l, rest, h, hf, hl, hr => by
    cases f with
    | zero => simp at hf
    | succ f =>
      have ih := rp_run cs f (stepV s (.ok c)) l rest h.2 (by simp at hf; omega) hl hr
      have hlg := runV_lg cs _ h.2
      have e : l = s.lg ++ (frmB (Pl.cmdB c.1 c.2) ++ (frms cs ++ rest)) := by
        rw [hl]; show (runV (stepV s (.ok c)) cs).lg ++ rest = _
        rw [hlg, h.1.lg]; simp only [List.append_assoc]
      have hpos : 0 < (frmB (Pl.cmdB c.1 c.2)).length := List.length_pos_iff.2 (frmB_ne _)
      obtain ⟨n, hn⟩ := frP_frm (c := Pl.cmdB c.1 c.2) (by have := h.1.len; omega) (frms cs ++ rest)
      show (if s.lg.length < l.length then _ else _) = _
      have e2 : l.drop s.lg.length = frmB (Pl.cmdB c.1 c.2) ++ (frms cs ++ rest) := by rw [e]; exact List.drop_left
      rw [if_pos (by rw [e]; simp only [List.length_append]; omega), e2, hn]
      show (if _ then _ else _) = _
      rw [h.1.stepB, if_neg (by rw [h.1.lg, List.length_append]; omega)]
      exact ih

/-- The states on the way. -/
def OnWay (b : Sv) (s : Sv) : Prop := ∃ cs ds, Lgs sNil cs ∧ s = runV sNil cs ∧ Lgs s ds ∧ b = runV s ds
theorem way_run {cs : List (Nat × List Nat)} (h : Lgs sNil cs) {l rest : List UInt8} (hl : l = (runV sNil cs).lg ++ rest) (hr : frP rest = none) (hsz : l.length ≤ 35184372088832) : OnWay (runV sNil cs) sNil ∧ Way l (OnWay (runV sNil cs)) := by
  refine ⟨⟨[], cs, trivial, rfl, h, rfl⟩, ⟨?_, ?_⟩⟩
  · rintro s ⟨c1, ds, h1, rfl, h2, hb⟩
    have e := runV_lg ds _ h2
    have : l.length = ((runV (runV sNil c1) ds).lg ++ rest).length := by rw [hl, hb]
    rw [e] at this
    simp only [List.length_append] at this
    omega
  · rintro s c n ⟨c1, ds, h1, hs, h2, hb⟩ hlt hfr
    have e := runV_lg ds _ h2
    rw [hb, e] at hl
    cases ds with
    | nil =>
      have e2 : l.drop s.lg.length = rest := by rw [hl]; simp [frms]
      rw [e2, hr] at hfr; cases hfr
    | cons d ds =>
      have e2 : l.drop s.lg.length = frmB (Pl.cmdB d.1 d.2) ++ (frms ds ++ rest) := by
        rw [hl, List.append_assoc]
        show (s.lg ++ ((frmB (Pl.cmdB d.1 d.2) ++ frms ds) ++ rest)).drop _ = _
        rw [List.drop_left, List.append_assoc]
      obtain ⟨m, hm⟩ := frP_frm (c := Pl.cmdB d.1 d.2) (by have := h2.1.len; omega) (frms ds ++ rest)
      rw [e2, hm] at hfr
      obtain ⟨rfl, rfl⟩ := Prod.mk.inj (Option.some.inj hfr)
      refine ⟨by have := h2.1.len; omega, fun _ => ?_, ?_⟩
      · unfold Pl.cmdB
        rw [List.getD_cons_zero]
        intro h13
        have := congrArg UInt8.toNat h13
        rw [UInt8.toNat_ofNat'] at this
        have h13' : (13 : UInt8).toNat = 13 := rfl
        have := h2.1.code
        omega
      · rw [h2.1.stepB]
        refine ⟨c1 ++ [d], ds, (Lgs_append _ _ _).2 ⟨h1, ?_⟩, ?_, h2.2, hb⟩
        · rw [← hs]; exact ⟨h2.1, trivial⟩
        · rw [runV_append, ← hs]; rfl

theorem open_run (w : World) (hg : Gl w) (hm : GmB w.heap.size w) {cs : List (Nat × List Nat)} (h : Lgs sNil cs) (l rest : List UInt8) (hl : l = (runV sNil cs).lg ++ rest) (hr : frP rest = none) (hsz : l.length ≤ 35184372088832) :
    Calls Tryz.prog 15 #[.string ⟨l.toArray⟩] w fun e w' => ∃ Lb Z, e = .returned (.tuple #[.pointer (some ⟨Lb, 0, none⟩), .int .i64 (((runV sNil cs).lg.length : Nat) : Int)]) ∧ Kv w.heap.size w w' Z Lb (runV sNil cs) := by
  have e1 : (⟨l.toArray⟩ : ByteArray).data.toList = l := by simp
  have e2 : (⟨l.toArray⟩ : ByteArray).size = l.length := by show l.toArray.size = _; simp
  obtain ⟨h0, hw⟩ := way_run h hl hr hsz
  have hx := open_any w hg hm ⟨l.toArray⟩ (by rw [e2]; exact hsz) (OnWay (runV sNil cs)) h0 (by rw [e1]; exact hw)
  rw [e1, e2] at hx
  have hlen := frms_len cs
  have hlg := runV_lg cs _ h
  have hle : cs.length ≤ l.length := by rw [hl, hlg]; simp only [List.length_append]; omega
  rw [rp_run cs l.length sNil l rest h hle hl hr] at hx
  exact hx

end Go.Proofs.YtgcedalggnmooabGreatDoor

namespace Go.Proofs.YtgcedalggnmooabGreatDoor
set_option linter.unusedSimpArgs false
set_option linter.unusedVariables false
open Go.RowKit
set_option maxRecDepth 100000

/-- What is not logged changes nothing. -/
theorem not_logged {s : Sv} {c : Nat × List Nat} (h1 : 1 ≤ c.1) (h2 : c.1 ≤ 12) (hf : Pl.cmd (Pl.cmdB c.1 c.2) = .ok c) (hl : c.2.length = (Pl.kindsL c.1).length) (hn : ¬ ((repV s (.ok c)).getD 0 1 = 0 ∧ c.1 ≤ 10)) : stepV s (.ok c) = s := by
  by_cases h10 : c.1 ≤ 10
  · have hne : (repV s (.ok c)).getD 0 1 ≠ 0 := fun h => hn ⟨h, h10⟩
    have hrn : repV s (.ok c) ≠ [] := by have := rep_bytes_ne s.rcs s.td s.os s.ls (Pl.cmdB c.1 c.2); rw [hf] at this; exact this
    have h0 : (repV s (.ok c)).getD 0 0 ≠ 0 := by
      cases hq : repV s (.ok c) with
      | nil => exact absurd hq hrn
      | cons b r => rw [hq] at hne; exact hne
    obtain ⟨_, e⟩ := err_same s.rcs s.td s.os s.ls (.ok c) h0
    have hlg : lgC s.lg (.ok (c.1, c.2)) (stepR s.rcs s.td s.os s.ls (.ok c)).1 = s.lg := by unfold lgC; exact if_neg hn
    unfold stepV
    rw [e]
    show Sv.mk s.td s.os s.rcs s.ls (lgC s.lg (.ok (c.1, c.2)) (stepR s.rcs s.td s.os s.ls (.ok c)).1) = s
    rw [hlg]
  · obtain ⟨n, ns⟩ := c
    rcases (show n = 11 ∨ n = 12 by simp at h10 h2; omega) with rfl | rfl
    · obtain ⟨a, rfl⟩ := len1 (show ns.length = 1 from hl)
      exact (lookV s a).2
    · obtain ⟨a, b, rfl⟩ := len2 (show ns.length = 2 from hl)
      exact (supV s a b).2

/-- A state that is what its log tells. -/
def Lgd (s : Sv) : Prop := ∃ cs, Lgs sNil cs ∧ s = runV sNil cs
theorem Lgd.step {s : Sv} (h : Lgd s) {c : Nat × List Nat} (h1 : 1 ≤ c.1) (h2 : c.1 ≤ 12) (hf : Pl.cmd (Pl.cmdB c.1 c.2) = .ok c) (hl : c.2.length = (Pl.kindsL c.1).length) (hlen : (Pl.cmdB c.1 c.2).length ≤ 100) : Lgd (stepV s (.ok c)) := by
  by_cases hn : (repV s (.ok c)).getD 0 1 = 0 ∧ c.1 ≤ 10
  · obtain ⟨cs, h3, rfl⟩ := h
    refine ⟨cs ++ [c], (Lgs_append _ _ _).2 ⟨h3, ⟨⟨h1, hn.2⟩, hf, hlen, hn.1⟩, trivial⟩, ?_⟩
    rw [runV_append]; rfl
  · rw [not_logged h1 h2 hf hl hn]; exact h
theorem Lgd.stepX {s : Sv} (h : Lgd s) (X : Nat → Nat → Int) (i : Nat) : Lgd (stepV s (.ok (spX X i))) := by
  obtain ⟨h1, h2, h3, h4, h5⟩ := sp_code (X i 0) (X i 1) (X i 2) (X i 3) (X i 4)
  have hk := kinds_len h1 h2
  have hn : ∀ n ∈ (spX X i).2, n < 9223372036854775808 := fun n hn => by have := h4 n hn; omega
  have hl := Pl.toldB_len (spX X i).2 hn
  have h3' : (spX X i).2.length = (Pl.kindsL (spX X i).1).length := h3
  have hk' : (Pl.kindsL (spX X i).1).length ≤ 5 := hk
  refine h.step h1 h2 ?_ h3 (by unfold Pl.cmdB; rw [List.length_cons]; omega)
  exact cmd_cmdB h1 h2 h3 hn h5
theorem lgd_s2 : Lgd s2 := by
  have d1 := cmd_cmdB (c := 2) (ns := [13, 9, 5, 100]) (by omega) (by omega) rfl (by intro n hn; simp at hn; omega) (by kernel_rfl)
  have d2 := cmd_cmdB (c := 3) (ns := [13, 14, 2]) (by omega) (by omega) rfl (by intro n hn; simp at hn; omega) (by kernel_rfl)
  have e1 : stepV sNil (.ok (2, [13, 9, 5, 100])) = s1 := s1_step.1
  have r1 : repV sNil (.ok (2, [13, 9, 5, 100])) = [0] := s1_step.2
  refine ⟨[(2, [13, 9, 5, 100]), (3, [13, 14, 2])], ⟨⟨⟨by decide, by decide⟩, d1, of_decide_eq_true (by kernel_rfl), by rw [r1]; rfl⟩, ⟨⟨by decide, by decide⟩, d2, of_decide_eq_true (by kernel_rfl), by rw [e1, s2_step.2]; rfl⟩, trivial⟩, ?_⟩
  show s2 = stepV (stepV sNil (.ok (2, [13, 9, 5, 100]))) (.ok (3, [13, 14, 2]))
  rw [e1, s2_step.1]

/-- The lot 13, as the heads leave it. -/
def lot13 : L := ⟨13, 9, 100, 1, 5, 3, 0, 0, 0, 2, []⟩
/-- Scripts leave the lot 13 as it is. -/
structure T13 (s : Sv) : Prop where
  pos : 0 < s.ls.length
  l0 : s.ls.getD 0 L0 = lot13
  os : ∀ o ∈ s.os, ∀ p ∈ o.lines, p.1 ≠ 13
theorem t13_s2 : T13 s2 := ⟨by decide, rfl, fun o ho => by cases ho⟩

theorem idx_ne0 {ls : List L} (h0 : ls.getD 0 L0 = lot13) (hp : 0 < ls.length) {n : Nat} (hn : n ≠ 13) : idx n ls ≠ 0 := fun h => by
  have := idx_id (ls := ls) (n := n) (by omega)
  rw [h, h0] at this
  exact hn this.symm
theorem set_0 {ls : List L} {j : Nat} (hj : j ≠ 0) (l : L) : (ls.set j l).getD 0 L0 = ls.getD 0 L0 := gset_ne (Ne.symm hj) l
theorem snoc_0 {ls : List L} (hp : 0 < ls.length) (l : L) : (ls ++ [l]).getD 0 L0 = ls.getD 0 L0 := by rw [List.getD_eq_getElem?_getD, List.getElem?_append_left hp, ← List.getD_eq_getElem?_getD]
theorem holdS_0 : ∀ (l : List (Nat × Nat)) (ls : List L), (∀ p ∈ l, p.1 ≠ 0) → (holdS ls l).getD 0 L0 = ls.getD 0 L0
  | [], _, _ => rfl
  | p :: r, ls, h => by
    simp only [holdS]
    rw [holdS_0 r _ (fun q hq => h q (List.mem_cons_of_mem _ hq)), set_0 (h p List.mem_cons_self)]
theorem linesQ_ne0 {rcs : List (Nat × Nat)} {td goods count gate way : Nat} {ls : List L} (h0 : ls.getD 0 L0 = lot13) (hg : goods ≠ 9) : ∀ p ∈ linesQ rcs td goods count gate way ls, p.1 ≠ 0 ∧ srv (recB rcs ls) td goods gate (ls.getD p.1 L0) = true := fun p hp => by
  have hm : p.1 ∈ queue rcs (wayF way) td goods gate ls := (giveQ_sub ls (queue rcs (wayF way) td goods gate ls) count).subset (List.mem_map.2 ⟨p, hp, rfl⟩)
  have hs := (queue_mem.1 hm).2
  refine ⟨fun h => ?_, hs⟩
  rw [h, h0] at hs
  simp only [srv, Bool.and_eq_true, beq_iff_eq] at hs
  exact hg hs.1.1.1.symm
theorem fin_0 (g : L → Nat → L) {s : Sv} (h : T13 s) (a : Nat) : (s.ls.map (finL g s.os a)).getD 0 L0 = lot13 := by
  rw [map_getD h.pos, h.l0]
  unfold finL
  have : lineOf s.os a lot13.id = none := by
    unfold lineOf
    cases hf : s.os.find? (fun o => o.id == a) with
    | none => rfl
    | some o =>
      show o.lines.lookup 13 = none
      have ho := List.mem_of_find?_eq_some hf
      rw [List.lookup_eq_none_iff]
      intro p hp
      have := h.os o ho p hp
      simpa using Ne.symm this
  rw [this]

theorem T13.step {s : Sv} (h : T13 s) (hg : Good s.os s.ls) (k a b c d : Int) : T13 (stepV s (.ok (sp k a b c d))) := by
  have h2 := pk_lt a (n := 12) (by omega)
  have h6 := pk_lt b (n := 12) (by omega)
  have h7 := pk_lt c (n := 12) (by omega)
  have h3 := pk_lt b (n := 3) (by omega)
  have hp := h.pos
  have hgr := gr_step s k a b c d
  have hpos : 0 < (stepV s (.ok (sp k a b c d))).ls.length := Nat.lt_of_lt_of_le hp hgr.len
  suffices hx : (stepV s (.ok (sp k a b c d))).ls.getD 0 L0 = lot13 ∧ ∀ o ∈ (stepV s (.ok (sp k a b c d))).os, ∀ p ∈ o.lines, p.1 ≠ 13 from ⟨hpos, hx.1, hx.2⟩
  have hf : ∀ n : Nat, ∀ o ∈ s.os.filter (fun o => o.id != n), ∀ p ∈ o.lines, p.1 ≠ 13 := fun n o ho => h.os o (List.mem_filter.1 ho).1
  clear hpos hgr
  unfold sp
  split
  · refine ⟨?_, h.os⟩
    show ((stepS s.rcs s.td s.ls (.ok (1, [pk a 40]))).2.2).getD 0 L0 = _
    have e : (stepS s.rcs s.td s.ls (.ok (1, [pk a 40]))).2.2 = s.ls := by simp only [stepS]; split <;> rfl
    rw [e]; exact h.l0
  · refine ⟨?_, h.os⟩
    show (if roomC s.ls (1 + pk a 12) = 0 then s.ls ++ [newL s.ls (1 + pk a 12) (1 + pk b 3) (1 + pk c 400) (pk d 40)] else s.ls).getD 0 L0 = _
    split
    · rw [snoc_0 hp]; exact h.l0
    · exact h.l0
  · refine ⟨?_, h.os⟩
    show (splitS s.ls (1 + pk a 12) (1 + pk b 12) (1 + pk c 400)).getD 0 L0 = _
    unfold splitS
    split
    · rw [snoc_0 (by rw [List.length_set]; exact hp), set_0 (idx_ne0 h.l0 hp (by omega))]; exact h.l0
    · exact h.l0
  · refine ⟨?_, h.os⟩
    show (mergeS s.ls (1 + pk a 12) (1 + pk b 12) (1 + pk c 12)).getD 0 L0 = _
    unfold mergeS
    split
    · rw [snoc_0 (by rw [List.length_set, List.length_set]; exact hp), set_0 (idx_ne0 h.l0 hp (by omega)), set_0 (idx_ne0 h.l0 hp (by omega))]; exact h.l0
    · exact h.l0
  · refine ⟨?_, ?_⟩
    · show (askL s.rcs s.os s.td s.ls (1 + pk a 4) (1 + pk b 3) (1 + pk c 400) (pk d 10) (pk (d.tdiv 16) 4)).getD 0 L0 = _
      unfold askL
      split
      · rw [holdS_0 _ _ (fun p hp => (linesQ_ne0 h.l0 (by omega) p hp).1)]; exact h.l0
      · exact h.l0
    · show ∀ o ∈ askO s.rcs s.os s.td s.ls (1 + pk a 4) (1 + pk b 3) (1 + pk c 400) (pk d 10) (pk (d.tdiv 16) 4), ∀ p ∈ o.lines, p.1 ≠ 13
      unfold askO
      split
      · intro o ho
        rcases List.mem_append.1 ho with ho | ho
        · exact h.os o ho
        · simp at ho; subst ho
          intro p hp
          obtain ⟨q, hq, rfl⟩ := List.mem_map.1 hp
          obtain ⟨q0, q1⟩ := linesQ_ne0 h.l0 (by omega) q hq
          have hql := (linesQ_facts (rcs := s.rcs) s.td (1 + pk b 3) (1 + pk c 400) (pk d 10) (pk (d.tdiv 16) 4) s.ls)
          show (s.ls.getD q.1 L0).id ≠ 13
          intro h13
          have hqm : q.1 ∈ queue s.rcs (wayF (pk (d.tdiv 16) 4)) s.td (1 + pk b 3) (pk d 10) s.ls := (giveQ_sub s.ls _ _).subset (List.mem_map.2 ⟨q, hq, rfl⟩)
          have hlt := (queue_mem.1 hqm).1
          have e1 := idx_of hg hlt
          have e2 := idx_of hg h.pos
          rw [h13] at e1
          rw [h.l0] at e2
          have e2' : idx 13 s.ls = 0 := e2
          omega
      · exact h.os
  · exact ⟨fin_0 freeL h _, hf _⟩
  · exact ⟨fin_0 shipL h _, hf _⟩
  · exact ⟨h.l0, h.os⟩
  · exact ⟨h.l0, h.os⟩
  · refine ⟨?_, h.os⟩
    show (scrapS s.ls (1 + pk a 12) (1 + pk c 400)).getD 0 L0 = _
    unfold scrapS
    split
    · rw [set_0 (idx_ne0 h.l0 hp (by omega))]; exact h.l0
    · exact h.l0
  · refine ⟨?_, h.os⟩
    show ((stepS s.rcs s.td s.ls (.ok (11, [1 + pk a 12]))).2.2).getD 0 L0 = _
    have e : (stepS s.rcs s.td s.ls (.ok (11, [1 + pk a 12]))).2.2 = s.ls := by simp only [stepS]; split <;> rfl
    rw [e]; exact h.l0
  · exact ⟨h.l0, h.os⟩

/-- The lot 13 can be scrapped by one. -/
theorem T13.scrap {s : Sv} (h : T13 s) : scrapC s.ls 13 1 = 0 := by
  have e : idx 13 s.ls = 0 := idx_hit h.pos (fun j hj => absurd hj (by omega)) (by rw [h.l0]; rfl)
  unfold scrapC
  rw [e, if_pos h.pos, h.l0]
  rfl

end Go.Proofs.YtgcedalggnmooabGreatDoor
