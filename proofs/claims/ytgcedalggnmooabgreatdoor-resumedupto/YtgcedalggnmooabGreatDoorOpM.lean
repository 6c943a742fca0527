import Derived.Test.YtgcedalggnmooabGreatDoorOpKX
import Derived.Test.YtgcedalggnmooabGreatDoorOpFX
namespace Go.Proofs.YtgcedalggnmooabGreatDoor
set_option linter.unusedSimpArgs false
set_option linter.unusedVariables false
open Go.RowKit
set_option maxRecDepth 100000

/-- A row of strings. -/
def Sx (l : List (Nat × List Nat)) : List Value := l.map fun c => Value.string ⟨(Pl.cmdB c.1 c.2).toArray⟩
theorem info9 : (Tryz.prog.info? 9).map (fun i => (i.zero, i.size, i.bytes)) = some (some (.string ⟨#[]⟩), 1, 16) := by kernel_rfl
theorem tUStrs : Tryz.prog.underlying 31 = some (.slice 9) := by kernel_rfl

/-- What is told. -/
def TT (X : Nat → Nat → Int) (len : Nat) : List (Nat × List Nat) := [(2, [13, 9, 5, 100]), (3, [13, 14, 2])] ++ (List.range len).map (spX X)
theorem TT_len (X : Nat → Nat → Int) (len : Nat) : (TT X len).length = len + 2 := by unfold TT; simp
theorem TT_at (X : Nat → Nat → Int) {len k : Nat} (hk : k < len) : (TT X len).getD (k + 2) (0, []) = spX X k := by
  unfold TT; simp [List.getD_eq_getElem?_getD, hk]
theorem TT_wf (X : Nat → Nat → Int) (len : Nat) : ∀ c ∈ TT X len, Wf c := by
  intro c hc
  unfold TT at hc
  rcases List.mem_append.1 hc with hc | hc
  · have d1 := cmd_cmdB (c := 2) (ns := [13, 9, 5, 100]) (by omega) (by omega) rfl (by intro n hn; simp at hn; omega) (by kernel_rfl)
    have d2 := cmd_cmdB (c := 3) (ns := [13, 14, 2]) (by omega) (by omega) rfl (by intro n hn; simp at hn; omega) (by kernel_rfl)
    simp only [List.mem_cons, List.not_mem_nil, or_false] at hc
    rcases hc with rfl | rfl
    · exact ⟨by decide, by decide, d1, rfl, of_decide_eq_true (by kernel_rfl)⟩
    · exact ⟨by decide, by decide, d2, rfl, of_decide_eq_true (by kernel_rfl)⟩
  · obtain ⟨i, _, rfl⟩ := List.mem_map.1 hc
    exact wf_x X i
theorem TT_two (X : Nat → Nat → Int) (len : Nat) : stI (TT X len) 2 = s2 ∧ (TT X len).take 2 = [(2, [13, 9, 5, 100]), (3, [13, 14, 2])] := by
  have e : (TT X len).take 2 = [(2, [13, 9, 5, 100]), (3, [13, 14, 2])] := by unfold TT; simp
  refine ⟨?_, e⟩
  unfold stI
  rw [e]
  show stepV (stepV sNil (.ok (2, [13, 9, 5, 100]))) (.ok (3, [13, 14, 2])) = s2
  rw [show stepV sNil (.ok (2, [13, 9, 5, 100])) = s1 from s1_step.1, s2_step.1]
theorem TT_take (X : Nat → Nat → Int) {len k : Nat} (hk : k < len) : (TT X len).take (k + 2 + 1) = (TT X len).take (k + 2) ++ [spX X k] := by
  have hl : k + 2 < (TT X len).length := by rw [TT_len]; omega
  rw [List.take_succ_eq_append_getElem hl]
  have := TT_at X hk
  rw [List.getD_eq_getElem?_getD, List.getElem?_eq_getElem hl] at this
  rw [show (TT X len)[k + 2] = spX X k from this]
theorem kv_grown {B : Nat} {w0 w w' : World} {Z : Nat → Prop} {Lb : Nat} {s : Sv} {row : Option Nat} (h : Kv B w0 w Z Lb s) (hg : w.grownBy w' row) (hr : ∀ k, row = some k → ¬ Z k ∧ B ≤ k) : Kv B w0 w' Z Lb s :=
  h.keep (h.old.grown hg h.size (fun k hk => (hr k hk).2)) hg.size (fun k hz => hg.block k (h.zin k hz).2 (fun e => (hr k e.symm).1 hz))

set_option maxHeartbeats 400000 in
theorem pick_big (c : Int) (hc : Raw c) (n : Nat) (hn : 0 < n) (h2 : n ≤ 1000000000000) (w : World) :
    Calls Tryz.prog 14 #[.int .i64 c, .int .i64 (n : Int)] w fun e w' => e = .returned (.int .i64 (pk c n : Int)) ∧ w' = w := by
  obtain ⟨q1, q2⟩ := hc
  have HP := hide (pk_eq c hn)
  by_cases h : c < 0
  · rw [if_pos h] at HP
    have HT : Hid (-(Int.tmod (c + 1) (n : Int)) = (pk c n : Int)) := by unfold Hid; rw [← Int.neg_tmod, Int.tmod_eq_emod_of_nonneg (by omega), HP.out]
    have hlt := pk_lt c hn
    generalize pk c n = p at *
    go_enter Tryz.func14, Tryz.ntmps14
    go_wp2_with fail
    go_ret
    exact ⟨by rw [HT.out]; rfl, rfl⟩
  · rw [if_neg h] at HP
    have HT : Hid (Int.tmod c (n : Int) = (pk c n : Int)) := by unfold Hid; rw [Int.tmod_eq_emod_of_nonneg (by omega), HP.out]
    have hlt := pk_lt c hn
    generalize pk c n = p at *
    go_enter Tryz.func14, Tryz.ntmps14
    go_wp2_with fail
    go_ret
    exact ⟨by rw [HP.out]; rfl, rfl⟩
theorem Kv.fresh {B : Nat} {w0 w w' : World} {Z Z' : Nat → Prop} {Lb Lb' : Nat} {s s' : Sv} (h : Kv B w0 w Z Lb s) (k : Kv w.heap.size w w' Z' Lb' s') : Two B w0 w' Z Lb s Z' Lb' s' :=
  ⟨h.below k.old, k.wide h.old h.size h.two, fun j hz hz' => by have := (h.zin j hz).2; have := (k.zin j hz').1; omega⟩
/-- A command that was told. -/
theorem handle_w {B : Nat} {w0 w : World} {Z : Nat → Prop} {Lb : Nat} {s : Sv} (h : Kv B w0 w Z Lb s) {c : Nat × List Nat} (hc : Wf c) (hlg : s.lg.length ≤ 35184372088832) :
    Calls Tryz.prog 10 #[.pointer (some ⟨Lb, 0, none⟩), .string ⟨(Pl.cmdB c.1 c.2).toArray⟩] w fun e w' => (∃ r, e = .returned (.string r)) ∧ ∃ Z', Kv B w0 w' Z' Lb (stepV s (.ok c)) ∧ Kn Z w Z' w' := by
  refine (handle_kv h c.1 c.2 hc.hi hc.form (by have := hc.len; omega) (fun _ => hlg)).mono ?_
  rintro e w' ⟨he, hr⟩
  exact ⟨⟨_, he⟩, hr⟩

theorem rowS_cell {w : World} {base g n cap : Nat} {T : List (Nat × List Nat)} (h : w.ownsRow base 9 1 (.slice (some ⟨g, 0, none⟩) n cap) n (Sx T)) (hl : T.length = n) (k : Nat) (hk : k < n) :
    w.cell? ⟨g, k, none⟩ = some (.string ⟨(Pl.cmdB (T.getD k (0, [])).1 (T.getD k (0, [])).2).toArray⟩) := by
  have := h.cellAt k (by simp [Sx, hl]; omega)
  rw [this]
  have hk' : k < T.length := by omega
  simp [Sx, hk', List.getD_eq_getElem?_getD]
/-- The larder r is told on. -/
structure Rs (w w' : World) (Zp : Nat → Prop) (Lp : Nat) (sp : Sv) (Zq : Nat → Prop) (Lq : Nat) (sq : Sv) (g cap : Nat) (T : List (Nat × List Nat)) (Zr : Nat → Prop) (Lr : Nat) (sr : Sv) : Prop where
  pr : Two w.heap.size w w' Zp Lp sp Zr Lr sr
  qr : Two w.heap.size w w' Zq Lq sq Zr Lr sr
  row : w'.ownsRow w.heap.size 9 1 (.slice (some ⟨g, 0, none⟩) T.length cap) T.length (Sx T)
  out : ¬ Zr g
theorem Rs.step {w w1 w2 : World} {Zp Zq Zr Zr' : Nat → Prop} {Lp Lq Lr g cap : Nat} {sp sq sr sr' : Sv} {T : List (Nat × List Nat)} (h : Rs w w1 Zp Lp sp Zq Lq sq g cap T Zr Lr sr) (hk : Kv w.heap.size w w2 Zr' Lr sr') (hn : Kn Zr w1 Zr' w2) : Rs w w2 Zp Lp sp Zq Lq sq g cap T Zr' Lr sr' := by
  obtain ⟨r1, r2⟩ := hn.own h.row (fun q hq => by cases hq; exact h.out)
  exact ⟨(h.pr.swap.stepP hk hn).swap, (h.qr.swap.stepP hk hn).swap, r1, r2 g rfl⟩

theorem pre_same {P Q cs : List (Nat × List Nat)} (hP : P <+: cs) (hQ : Q <+: cs) (h : P.length = Q.length) : P = Q := (List.prefix_of_prefix_length_le hP hQ (by omega)).eq_of_length h
/-- The larder next is told on. -/
structure Rn (w w' : World) (Zp : Nat → Prop) (Lp : Nat) (sp : Sv) (Zq : Nat → Prop) (Lq : Nat) (sq : Sv) (Zr : Nat → Prop) (Lr : Nat) (g cap : Nat) (T : List (Nat × List Nat)) (Zn : Nat → Prop) (Ln : Nat) (sn : Sv) : Prop where
  pn : Two w.heap.size w w' Zp Lp sp Zn Ln sn
  qn : Two w.heap.size w w' Zq Lq sq Zn Ln sn
  rn : Two w.heap.size w w' Zr Lr sq Zn Ln sn
  row : w'.ownsRow w.heap.size 9 1 (.slice (some ⟨g, 0, none⟩) T.length cap) T.length (Sx T)
  out : ¬ Zn g
theorem Rn.step {w w1 w2 : World} {Zp Zq Zr Zn Zn' : Nat → Prop} {Lp Lq Lr Ln g cap : Nat} {sp sq sn sn' : Sv} {T : List (Nat × List Nat)} (h : Rn w w1 Zp Lp sp Zq Lq sq Zr Lr g cap T Zn Ln sn) (hk : Kv w.heap.size w w2 Zn' Ln sn') (hn : Kn Zn w1 Zn' w2) : Rn w w2 Zp Lp sp Zq Lq sq Zr Lr g cap T Zn' Ln sn' := by
  obtain ⟨r1, r2⟩ := hn.own h.row (fun q hq => by cases hq; exact h.out)
  exact ⟨(h.pn.swap.stepP hk hn).swap, (h.qn.swap.stepP hk hn).swap, (h.rn.swap.stepP hk hn).swap, r1, r2 g rfl⟩
/-- Where next is not told on, it has passed what was cut off. -/
theorem next_end {T : List (Nat × List Nat)} {cs c1 c2 : List (Nat × List Nat)} (hcs : cs = lgl sNil T) (hd : cs = c1 ++ c2) {i c : Nat} (hl : (lgI T i).length ≤ c1.length + 1) (h4 : ∀ d ds, c2 = d :: ds → c < (frms (c1 ++ [d])).length) (hf : (frms c1).length < (frms (lgI T i)).length) : c < (frms (lgI T i)).length := by
  have hp : lgI T i <+: cs := by rw [hcs]; exact lgI_pre T i
  have h1 : c1 <+: cs := ⟨c2, hd.symm⟩
  have hlen : c1.length < (lgI T i).length := by
    rcases Nat.lt_or_ge c1.length (lgI T i).length with h | h
    · exact h
    · rcases Nat.lt_or_ge (lgI T i).length c1.length with h' | h'
      · have := pre_lt hp h1 h'; omega
      · rw [pre_same hp h1 (by omega)] at hf; omega
  cases hc2 : c2 with
  | nil =>
    have := hp.length_le
    rw [hd, hc2, List.append_nil] at this
    omega
  | cons d ds =>
    have hq : c1 ++ [d] <+: cs := ⟨ds, by rw [hd, hc2]; simp⟩
    rw [pre_same hp hq (by rw [List.length_append, List.length_singleton]; omega)]
    exact h4 d ds hc2
theorem next_more {T : List (Nat × List Nat)} {cs c1 c2 : List (Nat × List Nat)} (hcs : cs = lgl sNil T) (hd : cs = c1 ++ c2) {i : Nat} (hi : i < T.length) (hf : (frms (lgI T i)).length ≤ (frms c1).length) : (lgI T (i + 1)).length ≤ c1.length + 1 := by
  have hp : lgI T i <+: cs := by rw [hcs]; exact lgI_pre T i
  have h1 : c1 <+: cs := ⟨c2, hd.symm⟩
  have := lgI_succ hi
  rcases Nat.lt_or_ge c1.length (lgI T i).length with h | h
  · have := pre_lt h1 hp h; omega
  · omega
/-- Where r is not told on, it stands at what was taken. -/
theorem told_end {T : List (Nat × List Nat)} (hT : ∀ c ∈ T, Wf c) {cs c1 c2 : List (Nat × List Nat)} (hcs : cs = lgl sNil T) (hd : cs = c1 ++ c2) {i : Nat} (hi : i ≤ T.length) (hl : (lgI T i).length ≤ c1.length) (hc : ¬ (i < T.length ∧ (frms (lgI T i)).length < (frms c1).length)) : lgI T i = c1 ∧ stI T i = runV sNil c1 := by
  have hp : lgI T i <+: cs := by rw [hcs]; exact lgI_pre T i
  have h1 : c1 <+: cs := ⟨c2, hd.symm⟩
  have e : lgI T i = c1 := by
    rcases Nat.lt_or_ge (lgI T i).length c1.length with h | h
    · exfalso
      have hf := pre_lt hp h1 h
      have hit : i = T.length := by
        apply Decidable.byContradiction
        intro hne
        exact hc ⟨by omega, hf⟩
      rw [hit, lgI_all, ← hcs] at h
      have := congrArg List.length hd
      rw [List.length_append] at this
      omega
    · exact pre_same hp h1 (by omega)
  exact ⟨e, by rw [(stI_lg hT i).2.1, e]⟩
theorem told_more {T : List (Nat × List Nat)} {cs c1 c2 : List (Nat × List Nat)} (hcs : cs = lgl sNil T) (hd : cs = c1 ++ c2) {i : Nat} (hi : i < T.length) (hl : (lgI T i).length ≤ c1.length) (hf : (frms (lgI T i)).length < (frms c1).length) : (lgI T (i + 1)).length ≤ c1.length := by
  have hp : lgI T i <+: cs := by rw [hcs]; exact lgI_pre T i
  have h1 : c1 <+: cs := ⟨c2, hd.symm⟩
  have := lgI_succ hi
  rcases Nat.lt_or_ge (lgI T i).length c1.length with h | h
  · omega
  · rw [pre_same hp h1 (by omega)] at hf; omega

set_option maxHeartbeats 3200000 in
theorem resumed_any (a0 : Option Addr) (len cap : Nat) (hlen : len ≤ 1048576) (X : Nat → Nat → Int) (x1 : Int) (hr1 : Raw x1) (a2 : Option Addr) (len2 cap2 : Nat) (hlen2 : len2 ≤ 1048576) (X2 : Nat → Nat → Int) (w : World) (hg : Gl w) (hm : GmB w.heap.size w) (hx : 0 < len → ∃ b off, a0 = some ⟨b, off, none⟩ ∧ Scr w b off len X) (hx2 : 0 < len2 → ∃ b off, a2 = some ⟨b, off, none⟩ ∧ Scr w b off len2 X2) :
    Calls Tryz.prog 4 #[.slice a0 len cap, .int .i64 x1, .slice a2 len2 cap2] w fun e w' => e = .returned (.bool true) ∧ Below w.heap.size w w' := by
  obtain ⟨i0, hi, hz0, hz1, hz2⟩ := info_parts info9
  have HOP := hide (opened_any w hg)
  have HHD := hide heads_any
  have HX0 := hide hx
  have HX2 := hide hx2
  clear hx hx2
  go_enter Tryz.func4, Tryz.ntmps4
  go_wp2_with (go_at_call 11; refine (HOP.out).mono ?_; rintro e w1 ⟨Lp, Z1, rfl, hkv1⟩; clear HOP)
  have HK1 := hide hkv1
  clear hkv1
  go_wp2_with (first | (go_at_call 12; refine (HHD.out _).mono ?_; rintro e w2 ⟨hb2, g, rfl, hg1, hg2, hc1, hc2⟩; clear HHD) | (at_builtin; refine wpList_append_own_at _ rfl _ _ 31 rfl w.heap.size 9 i0 (.string ⟨#[]⟩) 1 16 tUStrs hi hz0 hz1 hz2 rfl (by decide) _ 0 [] rfl ?c0 ⟨g, 0, none⟩ 2 2 [.string head1, .string head2] rfl rfl ?c1 ?c2 ?c3 ?c4 ?c5 ?_))
  case c0 => exact World.ownsRow_nil _ _ _ _
  case c1 =>
    intro j u hj
    rcases j with _ | _ | j
    · simp at hj; subst hj; simpa [Addr.add] using hc1
    · simp at hj; subst hj; simpa [Addr.add] using hc2
    · simp at hj
  case c2 => intro u hu; simp at hu; rcases hu with rfl | rfl <;> rfl
  case c3 => unfold maxLen; omega
  case c4 => omega
  case c5 => exact Nat.le_trans HK1.out.size hb2.size
  intro v3 w3 hown3 hgrow3 hnn3 hat3
  have hv3 : v3.ownBlock = some w2.heap.size := by
    rcases hat3 with h | h
    · exfalso
      rcases hown3.2 with ⟨hv, _⟩ | ⟨g', cap', cur, hv, _⟩
      · exact hnn3 hv
      · rw [hv] at h; cases h
    · exact h
  have hk2 := HK1.out.below hb2
  have HK3 := hide (kv_grown hk2 hgrow3 (fun k hk => by cases hk))
  have hz3 : ∀ q, v3.ownBlock = some q → ¬ Z1 q := fun q hq hz => by
    rw [hv3] at hq
    have := (hk2.zin q hz).2
    injection hq with hq
    omega
  have hh1 : head1 = ⟨(Pl.cmdB 2 [13, 9, 5, 100]).toArray⟩ := rfl
  have hh2 : head2 = ⟨(Pl.cmdB 3 [13, 14, 2]).toArray⟩ := rfl
  have HO3 : Hid (w3.ownsRow w.heap.size 9 1 v3 2 (Sx ((TT X len).take 2))) := by
    rw [(TT_two X len).2]
    exact hown3
  have HZ3 := hide hz3
  clear hown3 hgrow3 hnn3 hat3 hv3 hk2 hz3 HK1 hb2 hg1 hg2 hc1 hc2 hh1 hh2
  have HT2 := hide (TT_two X len).1
  rw [← HT2.out] at HK3
  go_wp2_with fail
  go_loopw [9, 10] (fun tv ii wr => ∃ (k : Nat) (Z' : Nat → Prop), ii = .int .i64 k ∧ k ≤ len ∧ Kv w.heap.size w wr Z' Lp (stI (TT X len) (k + 2)) ∧ wr.ownsRow w.heap.size 9 1 tv (k + 2) (Sx ((TT X len).take (k + 2))) ∧ (∀ q, tv.ownBlock = some q → ¬ Z' q) ∧ (stI (TT X len) (k + 2)).lg.length ≤ 200 + 64 * k) (fun _ ii _ => len - (intOf ii).toNat)
  case atStart => exact ⟨0, Z1, rfl, by omega, HK3.out, HO3.out, HZ3.out, by rw [HT2.out]; exact s2_lg⟩
  case round =>
    clear HK3 HO3 HZ3 HT2
    obtain ⟨k, Z4, rfl, hk, hkv, hrow, hzr, hlg⟩ := hrel
    by_cases hlt : k < len
    · obtain ⟨b, off, ha0, hxs⟩ := HX0.out (by omega)
      subst ha0
      have hblt := hxs.lt
      have HX := hide hxs
      clear hxs
      have c0 : wr.cell? ⟨b, off + k * 5, none⟩ = some (.int .i64 (X k 0)) := (hkv.old.cell (p := ⟨b, off + k * 5 + 0, none⟩) hblt).trans (HX.out.cell k hlt 0 (by omega))
      have c1 := (hkv.old.cell (p := ⟨b, off + k * 5 + 1, none⟩) hblt).trans (HX.out.cell k hlt 1 (by omega))
      have c2 := (hkv.old.cell (p := ⟨b, off + k * 5 + 2, none⟩) hblt).trans (HX.out.cell k hlt 2 (by omega))
      have c3 := (hkv.old.cell (p := ⟨b, off + k * 5 + 3, none⟩) hblt).trans (HX.out.cell k hlt 3 (by omega))
      have c4 := (hkv.old.cell (p := ⟨b, off + k * 5 + 4, none⟩) hblt).trans (HX.out.cell k hlt 4 (by omega))
      have HSP := hide (spelt_x HX.out k hlt)
      have hss : stI (TT X len) (k + 1 + 2) = stepV (stI (TT X len) (k + 2)) (.ok (spX X k)) := by
        rw [show k + 1 + 2 = (k + 2) + 1 by omega, stI_succ (by rw [TT_len]; omega), TT_at X hlt]
      have HSS := hide hss
      have HLN : Hid ((stI (TT X len) (k + 1 + 2)).lg.length ≤ 200 + 64 * (k + 1)) := by have := spX_lg X k (stI (TT X len) (k + 2)); unfold Hid; rw [hss]; omega
      have HHD : Hid (∀ w2, Below wr.heap.size wr w2 → Calls Tryz.prog 10 #[.pointer (some ⟨Lp, 0, none⟩), .string (cmdX X k)] w2 fun e w' => ∃ r, e = .returned (.string r) ∧ ∃ Z', Kv w.heap.size w w' Z' Lp (stI (TT X len) (k + 1 + 2)) ∧ Kn Z4 w2 Z' w') := fun w2 hb2 => (handle_x (hkv.below hb2) (by omega) X k).mono (by
        rintro e w' ⟨he, Z', h1, h2⟩
        rw [← hss] at h1
        exact ⟨_, he, Z', h1, h2⟩)
      have HRW : Hid (∀ w2, Below wr.heap.size wr w2 → w2.ownsRow w.heap.size 9 1 u9 (k + 2) (Sx ((TT X len).take (k + 2)))) := fun w2 hb2 => own_congr hrow (fun q hq => hb2.block q (hrow.lt q hq).2)
      have HZR := hide hzr
      have HTK := hide (TT_take X hlt)
      have HCX : Hid (Value.string (cmdX X k) = Value.string ⟨(Pl.cmdB (spX X k).1 (spX X k).2).toArray⟩) := rfl
      clear hss hkv hrow hzr
      generalize X k 0 = x0 at *
      generalize X k 1 = y1 at *
      generalize X k 2 = x2 at *
      generalize X k 3 = x3 at *
      generalize X k 4 = x4 at *
      go_wp2_with (go_at_call 13; refine (HSP.out _).mono ?_; rintro e w2 ⟨rfl, hb2⟩; have HH2 := hide (HHD.out w2 hb2); have HR2 := hide (HRW.out w2 hb2))
      refine (HH2.out).mono ?_
      rintro e w4 ⟨r, rfl, Z5, hkv4, hkn4⟩
      obtain ⟨hrow4, hz4⟩ := hkn4.own HR2.out HZR.out
      have HK4 := hide hkv4
      clear HH2 HHD HR2 HRW hkv4 hkn4
      go_wp2_with (at_builtin; refine wpList_append_own_at _ rfl _ _ 31 rfl w.heap.size 9 i0 (.string ⟨#[]⟩) 1 16 tUStrs hi hz0 hz1 hz2 rfl (by decide) _ (k + 2) (Sx ((TT X len).take (k + 2))) rfl (hrow4.alloc _) ⟨w4.heap.size, 0, none⟩ 1 1 [.string (cmdX X k)] rfl rfl ?c1 ?c2 ?c3 ?c4 ?c5 ?_)
      case c1 => exact one_new _ _ _
      case c2 => intro u hu; simp at hu; subst hu; rfl
      case c3 => unfold maxLen; omega
      case c4 => omega
      case c5 => have := HK4.out.size; simp; omega
      intro v5 w5 hown5 hgrow5 hnn5 hat5
      have hka := HK4.out.below (al1 w4 (.cells #[.string (cmdX X k)] 9))
      have HK5 := hide (kv_grown hka hgrow5 (fun q hq => ⟨hz4 q hq, (hrow4.lt q hq).1⟩))
      have HZ5 : Hid (∀ q, v5.ownBlock = some q → ¬ Z5 q) := fun q hq => by
        rcases hat5 with h | h
        · exact hz4 q (h ▸ hq)
        · intro hz
          rw [h] at hq
          injection hq with hq
          have h1 := (HK4.out.zin q hz).2
          have h2 : (w4.alloc (.cells #[.string (cmdX X k)] 9)).heap.size = w4.heap.size + 1 := Array.size_push ..
          omega
      have HO5 : Hid (w5.ownsRow w.heap.size 9 1 v5 (k + 1 + 2) (Sx ((TT X len).take (k + 1 + 2)))) := by
        have e : Sx ((TT X len).take (k + 1 + 2)) = Sx ((TT X len).take (k + 2)) ++ [Value.string (cmdX X k)] := by
          rw [show k + 1 + 2 = k + 2 + 1 by omega, HTK.out]
          unfold Sx
          rw [List.map_append]
          rfl
        unfold Hid
        rw [e, show k + 1 + 2 = k + 2 + 1 by omega]
        exact hown5
      clear hown5 hgrow5 hnn5 hat5 hka hrow4 hz4 HK4
      go_wp2_with fail
      refine ⟨⟨k + 1, Z5, by go_num, by omega, HK5.out, HO5.out, HZ5.out, HLN.out⟩, ?_⟩
      simp [intOf]; omega
    · obtain rfl : len = k := by omega
      clear hk hlt HX0
      obtain ⟨T, HT⟩ : ∃ T, Hid (T = TT X len) := ⟨_, rfl⟩
      have hTl : T.length = len + 2 := by rw [HT.out]; exact TT_len X len
      have HTW : Hid (∀ c ∈ T, Wf c) := by rw [HT.out]; exact TT_wf X len
      rw [← HT.out] at hkv hrow hlg
      rw [← hTl, List.take_length] at hrow
      rw [← hTl] at hkv hlg
      obtain ⟨f1, f2, f3⟩ := stI_lg HTW.out T.length
      rw [lgI_all] at f1 f2 f3
      obtain ⟨cs, HCS⟩ : ∃ cs, Hid (cs = lgl sNil T) := ⟨_, rfl⟩
      rw [← HCS.out] at f1 f2 f3
      obtain ⟨s, HS⟩ : ∃ s, Hid (s = stI T T.length) := ⟨_, rfl⟩
      rw [← HS.out] at hkv hlg f2 f3
      have HF1 := hide f1
      have HF2 := hide f2
      have HF3 := hide f3
      have hcl : ∀ d ∈ cs, (Pl.cmdB d.1 d.2).length ≤ 100 := by
        have : ∀ (ds : List (Nat × List Nat)) (s : Sv), Lgs s ds → ∀ d ∈ ds, (Pl.cmdB d.1 d.2).length ≤ 100 := by
          intro ds
          induction ds with
          | nil => intro s _ d hd; cases hd
          | cons x xs ih =>
            intro s h d hd
            rcases List.mem_cons.1 hd with rfl | hd
            · exact h.1.len
            · exact ih _ h.2 d hd
        exact this cs sNil f1
      have HPK := hide (fun w => pick_big x1 hr1 (s.lg.length + 1) (by omega) (by omega) w)
      have hpk := pk_lt x1 (n := s.lg.length + 1) (by omega)
      generalize pk x1 (s.lg.length + 1) = c at HPK hpk
      obtain ⟨c1, c2, rest, d1, d2, d3, d4⟩ := cut_at cs c hcl
      rw [← f3] at d2 d4
      have HD1 := hide d1
      have HD2 := hide d2
      have HD3 := hide d3
      have HD4 := hide d4
      have HLG := hide (log_kv hkv)
      obtain ⟨LOG, HLOG⟩ : ∃ G : ByteArray, Hid (G = ⟨s.lg.toArray⟩) := ⟨_, rfl⟩
      have hlsz : LOG.size = s.lg.length := by rw [HLOG.out]; show s.lg.toArray.size = _; simp
      rw [← HLOG.out] at HLG
      have HKV := hide hkv
      have HRO := hide hrow
      have HZR := hide hzr
      clear f1 f2 f3 d1 d2 d3 d4 hkv hrow hzr hcl hr1
      have HPK' : Hid (∀ w, Calls Tryz.prog 14 #[.int .i64 x1, .int .i64 ((s.lg.length : Int) + 1)] w fun e w' => e = .returned (.int .i64 (c : Int)) ∧ w' = w) := fun w => by
        have := HPK.out w
        rw [show ((s.lg.length + 1 : Nat) : Int) = (s.lg.length : Int) + 1 by omega] at this
        exact this
      clear HPK
      go_wp2_with (first | (go_at_call 9; refine (HLG.out).mono ?_; rintro e w5 ⟨rfl, rfl⟩; clear HLG) | (go_at_call 14; refine (HPK'.out _).mono ?_; rintro e w6 ⟨rfl, rfl⟩; clear HPK'))
      have hL1 : Lgs sNil c1 := ((Lgs_append _ _ _).1 (HD1.out ▸ HF1.out)).1
      have hblg : (runV sNil c1).lg = frms c1 := runV_lg c1 sNil hL1
      obtain ⟨PART, HP⟩ : ∃ P, Hid (P = LOG.extract 0 c) := ⟨_, rfl⟩
      have hpl : PART = ⟨(frms c1 ++ rest).toArray⟩ := by
        apply WideShapes.bytes_inj
        rw [HP.out, ex_list, HLOG.out]
        show (s.lg.toArray.toList.take c).drop 0 = (frms c1 ++ rest).toArray.toList
        rw [List.drop_zero]
        exact HD2.out
      have hlr : (frms c1 ++ rest).length = c := by rw [← HD2.out, List.length_take]; omega
      have hpsz : PART.size = c := by rw [hpl]; show (frms c1 ++ rest).toArray.size = c; simpa using hlr
      have hn1 : (frms c1).length ≤ c := by rw [List.length_append] at hlr; omega
      have hop := open_run w6 HKV.out.gl (hm.up HKV.out.old HKV.out.size) hL1 (frms c1 ++ rest) rest (by rw [hblg]) HD3.out (by omega)
      rw [← hpl] at hop
      obtain ⟨b, HBB⟩ : ∃ b, Hid (b = runV sNil c1) := ⟨_, rfl⟩
      rw [← HBB.out] at hop hblg
      rw [hblg] at hop
      have HOP := hide hop
      have HPL := hide hpl
      have HBL := hide hblg
      have HL1 := hide hL1
      rw [← HP.out]
      clear hop hpl hblg hL1
      refine (HOP.out).mono ?_
      rintro e w7 ⟨Lq, Zq, rfl, hkq⟩
      clear HOP
      have HPQ := hide (HKV.out.fresh hkq)
      have HRO7 := hide (own_congr HRO.out (fun q hq => hkq.old.block q (HRO.out.lt q hq).2))
      have HNW := hide (new_any w7 hkq.gl)
      have HZR7 : Hid (∀ q, u9.ownBlock = some q → q < w6.heap.size) := fun q hq => (HRO.out.lt q hq).2
      have HB67 : Hid (w6.heap.size ≤ w7.heap.size) := hkq.old.size
      clear hkq HKV HRO
      go_wp2_with (go_at_call 16; refine (HNW.out).mono ?_; rintro e w8 ⟨Lr, Zr, rfl, hkr⟩; clear HNW)
      have HPR := hide (HPQ.out.p.fresh hkr)
      have HQR := hide (HPQ.out.q.fresh hkr)
      have HRO8 := hide (own_congr HRO7.out (fun q hq => hkr.old.block q (HRO7.out.lt q hq).2))
      have HZ8 : Hid (∀ q, u9.ownBlock = some q → ¬ Zr q) := fun q hq hz => by have := (hkr.zin q hz).1; have := (HRO7.out.lt q hq).2; omega
      have HGQ := hide (log_kv HQR.out.p)
      have HGR := hide (log_kv HQR.out.q)
      obtain ⟨KEPT, HKE⟩ : ∃ G : ByteArray, Hid (G = ⟨b.lg.toArray⟩) := ⟨_, rfl⟩
      rw [← HKE.out] at HGQ
      clear hkr HRO7
      obtain ⟨g9, cap9, hu9, _, _⟩ := own_some' HRO8.out (by omega)
      subst hu9
      have HRS : Hid (Rs w w8 Z4 Lp s Zq Lq b g9 cap9 T Zr Lr (stI T 0)) := ⟨HPR.out, HQR.out, HRO8.out, HZ8.out g9 rfl⟩
      have HGR' : Hid (Calls Tryz.prog 9 #[.pointer (some ⟨Lr, 0, none⟩)] w8 fun e w' => e = .returned (.string ⟨(stI T 0).lg.toArray⟩) ∧ w' = w8) := HGR.out
      have HDPQ := hide HPQ.out.dis
      clear HGR HPR HQR HRO8 HZ8 HPQ HZR7 HB67 HZR
      refine (HGQ.out).mono ?_
      rintro e w9 ⟨rfl, rfl⟩
      clear HGQ
      go_wp2_with fail
      refine (HGR'.out).mono ?_
      rintro e w10 ⟨rfl, rfl⟩
      clear HGR'
      go_wp2_with fail
      go_loopw [18, 19] (fun gv ii wr => ∃ (i : Nat) (Zx : Nat → Prop), ii = .int .i64 i ∧ i ≤ T.length ∧ gv = .string ⟨(stI T i).lg.toArray⟩ ∧ Rs w wr Z4 Lp s Zq Lq b g9 cap9 T Zx Lr (stI T i) ∧ (lgI T i).length ≤ c1.length) (fun _ ii _ => T.length - (intOf ii).toNat)
      case atStart => exact ⟨0, Zr, rfl, by omega, rfl, HRS.out, Nat.zero_le _⟩
      case round =>
        clear HRS
        obtain ⟨i, Zx, rfl, hi1, rfl, hrs, hlc⟩ := hrel
        have HRS := hide hrs
        have hlgi := (stI_lg HTW.out i).2.2
        obtain ⟨G, HG⟩ : ∃ G : ByteArray, Hid (G = ⟨(stI T i).lg.toArray⟩) := ⟨_, rfl⟩
        have hGs : G.size = (frms (lgI T i)).length := by rw [HG.out]; show (stI T i).lg.toArray.size = _; rw [hlgi]; simp
        rw [← HG.out]
        by_cases hc : i < T.length ∧ (frms (lgI T i)).length < (frms c1).length
        · obtain ⟨ha, hb⟩ := hc
          have hcell := rowS_cell hrs.row rfl i ha
          have hmem : T.getD i (0, []) ∈ T := by rw [List.getD_eq_getElem?_getD, List.getElem?_eq_getElem ha]; exact List.getElem_mem ha
          have HHW := hide (handle_w hrs.pr.q (HTW.out _ hmem) (by rw [hlgi]; omega))
          rw [← stI_succ ha] at HHW
          have HMO := hide (told_more HCS.out HD1.out ha hlc hb)
          generalize T.getD i (0, []) = cc at *
          clear hrs hmem
          go_wp2_with (go_at_call 10; refine (HHW.out).mono ?_; rintro e w11 ⟨⟨r, rfl⟩, Zy, hky, hkny⟩; clear HHW)
          have HR2 := hide (HRS.out.step hky hkny)
          have HL2 := hide (log_kv hky)
          clear hky hkny
          refine (HL2.out).mono ?_
          rintro e w12 ⟨rfl, rfl⟩
          clear HL2
          go_wp2_with fail
          refine ⟨⟨i + 1, Zy, by go_num, by omega, rfl, HR2.out, HMO.out⟩, ?_⟩
          simp [intOf]; omega
        · obtain ⟨q1, q2⟩ := told_end HTW.out HCS.out HD1.out hi1 hlc hc
          have hGK : G = KEPT := by rw [HG.out, q2, ← HBB.out, HKE.out]
          have hKs : KEPT.size = (frms c1).length := by rw [HKE.out]; show b.lg.toArray.size = _; rw [HBL.out]; simp
          rw [q2, ← HBB.out] at HRS
          have hkp : PART.extract 0 (frms c1).length = KEPT := by
            apply WideShapes.bytes_inj
            rw [ex_list, HPL.out, HKE.out]
            show (((frms c1 ++ rest).toArray.toList).take (frms c1).length).drop 0 = b.lg.toArray.toList
            rw [HBL.out, List.drop_zero]
            simp
          have H4 : Hid (∀ d ds, c2 = d :: ds → c < (frms (c1 ++ [d])).length) := fun d ds h => by
            have := HD4.out d ds h
            rw [List.length_take] at this
            omega
          have HNW := hide (new_any wr HRS.out.pr.p.gl)
          rw [hGK]
          clear hrs hlgi hGs HG hGK q1 q2 hc hlc HD4
          by_cases hit : i < T.length
          · go_wp2_with fail
            refine (HNW.out).mono ?_
            rintro e w13 ⟨Ln, Zn, rfl, hkn⟩
            have HRN : Hid (Rn w w13 Z4 Lp s Zq Lq b Zx Lr g9 cap9 T Zn Ln (stI T 0)) := ⟨HRS.out.pr.p.fresh hkn, HRS.out.qr.p.fresh hkn, HRS.out.pr.q.fresh hkn, own_congr HRS.out.row (fun q hq => hkn.old.block q (HRS.out.row.lt q hq).2), fun hz => by have := (hkn.zin g9 hz).1; have := (HRS.out.row.lt g9 rfl).2; omega⟩
            have HGN : Hid (Calls Tryz.prog 9 #[.pointer (some ⟨Ln, 0, none⟩)] w13 fun e w' => e = .returned (.string ⟨(stI T 0).lg.toArray⟩) ∧ w' = w13) := log_kv HRN.out.pn.q
            have HDPR := hide HRS.out.pr.dis
            have HDQR := hide HRS.out.qr.dis
            clear hkn HNW HRS
            go_wp2_with fail
            refine (HGN.out).mono ?_
            rintro e w14 ⟨rfl, rfl⟩
            clear HGN
            go_wp2_with fail
            go_loopw [21, 22] (fun fv kk wr => ∃ (j : Nat) (Zy : Nat → Prop), kk = .int .i64 j ∧ j ≤ T.length ∧ fv = .string ⟨(stI T j).lg.toArray⟩ ∧ Rn w wr Z4 Lp s Zq Lq b Zx Lr g9 cap9 T Zy Ln (stI T j) ∧ (lgI T j).length ≤ c1.length + 1) (fun _ kk _ => T.length - (intOf kk).toNat)
            case atStart => exact ⟨0, Zn, rfl, by omega, rfl, HRN.out, Nat.zero_le _⟩
            case round =>
              clear HRN
              obtain ⟨j, Zy, rfl, hj1, rfl, hrn, hlj⟩ := hrel
              have HRN := hide hrn
              have hlgj := (stI_lg HTW.out j).2.2
              obtain ⟨F, HF⟩ : ∃ G : ByteArray, Hid (G = ⟨(stI T j).lg.toArray⟩) := ⟨_, rfl⟩
              have hFs : F.size = (frms (lgI T j)).length := by rw [HF.out]; show (stI T j).lg.toArray.size = _; rw [hlgj]; simp
              rw [← HF.out]
              by_cases hc : j < T.length ∧ (frms (lgI T j)).length ≤ (frms c1).length
              · obtain ⟨ha, hb⟩ := hc
                have hcell := rowS_cell hrn.row rfl j ha
                have hmem : T.getD j (0, []) ∈ T := by rw [List.getD_eq_getElem?_getD, List.getElem?_eq_getElem ha]; exact List.getElem_mem ha
                have HHW := hide (handle_w hrn.pn.q (HTW.out _ hmem) (by rw [hlgj]; omega))
                rw [← stI_succ ha] at HHW
                have HMO := hide (next_more HCS.out HD1.out ha hb)
                generalize T.getD j (0, []) = cc at *
                clear hrn hmem
                go_wp2_with (go_at_call 10; refine (HHW.out).mono ?_; rintro e w15 ⟨⟨r, rfl⟩, Zv, hky, hkny⟩; clear HHW)
                have HR2 := hide (HRN.out.step hky hkny)
                have HL2 := hide (log_kv hky)
                clear hky hkny
                refine (HL2.out).mono ?_
                rintro e w16 ⟨rfl, rfl⟩
                clear HL2
                go_wp2_with fail
                refine ⟨⟨j + 1, Zv, by go_num, by omega, rfl, HR2.out, HMO.out⟩, ?_⟩
                simp [intOf]; omega
              · have HAL := hide (alike_any (Two.mk hrn.qn.p hrn.rn.p HDQR.out) a2 len2 cap2 (by omega) X2 (fun h => by obtain ⟨b, off, h1, h2⟩ := HX2.out h; exact ⟨b, off, h1, h2, h2.lt⟩) (by rw [HBL.out]; omega))
                have hfar : (frms c1).length < F.size → c < F.size := fun h => by rw [hFs] at h ⊢; exact next_end HCS.out HD1.out hlj H4.out h
                have hnot : ¬ (j < T.length ∧ F.size ≤ (frms c1).length) := by rw [hFs]; exact hc
                clear hrn hlgj hFs HF hlj hc
                by_cases hjt : j < T.length
                · have hgt : (frms c1).length < F.size := by omega
                  have hgc := hfar hgt
                  clear hnot hfar
                  go_wp2_with fail
                  refine (HAL.out).mono ?_
                  rintro e w20 ⟨rfl, Z7, Z8, s7, htw, hkn7⟩
                  clear HAL
                  have HP20 := hide (HRN.out.pn.p.keep htw.p.old hkn7.size (fun k hz => (hkn7.keep k (HRN.out.pn.p.zin k hz).2 (fun hu => hu.elim (HDPQ.out k hz) (HDPR.out k hz))).1))
                  have hop := open_run w20 HP20.out.gl (hm.up HP20.out.old HP20.out.size) HF1.out s.lg [] (by rw [← HF2.out, List.append_nil]) rfl (by omega)
                  rw [← HF2.out, ← HLOG.out] at hop
                  have HOP := hide hop
                  clear hop htw hkn7
                  go_wp2_with fail
                  refine (HOP.out).mono ?_
                  rintro e w21 ⟨Lw, Zw, rfl, hkw⟩
                  clear HOP
                  have HAL2 := hide (alike_any (HP20.out.fresh hkw).swap a2 len2 cap2 (by omega) X2 (fun h => by obtain ⟨b, off, h1, h2⟩ := HX2.out h; exact ⟨b, off, h1, h2, h2.lt⟩) (by omega))
                  clear hkw HP20
                  go_wp2_with fail
                  refine (HAL2.out).mono ?_
                  rintro e w22 ⟨rfl, Z9, Z10, s9, htw2, _⟩
                  have hb22 := htw2.p.old
                  clear HAL2 htw2
                  go_wp2_with fail
                  go_ret
                  exact ⟨rfl, hb22⟩
                · clear hnot
                  by_cases hgt : (frms c1).length < F.size
                  · have hgc := hfar hgt
                    clear hfar
                    go_wp2_with fail
                    refine (HAL.out).mono ?_
                    rintro e w20 ⟨rfl, Z7, Z8, s7, htw, hkn7⟩
                    clear HAL
                    have HP20 := hide (HRN.out.pn.p.keep htw.p.old hkn7.size (fun k hz => (hkn7.keep k (HRN.out.pn.p.zin k hz).2 (fun hu => hu.elim (HDPQ.out k hz) (HDPR.out k hz))).1))
                    have hop := open_run w20 HP20.out.gl (hm.up HP20.out.old HP20.out.size) HF1.out s.lg [] (by rw [← HF2.out, List.append_nil]) rfl (by omega)
                    rw [← HF2.out, ← HLOG.out] at hop
                    have HOP := hide hop
                    clear hop htw hkn7
                    go_wp2_with fail
                    refine (HOP.out).mono ?_
                    rintro e w21 ⟨Lw, Zw, rfl, hkw⟩
                    clear HOP
                    have HAL2 := hide (alike_any (HP20.out.fresh hkw).swap a2 len2 cap2 (by omega) X2 (fun h => by obtain ⟨b, off, h1, h2⟩ := HX2.out h; exact ⟨b, off, h1, h2, h2.lt⟩) (by omega))
                    clear hkw HP20
                    go_wp2_with fail
                    refine (HAL2.out).mono ?_
                    rintro e w22 ⟨rfl, Z9, Z10, s9, htw2, _⟩
                    have hb22 := htw2.p.old
                    clear HAL2 htw2
                    go_wp2_with fail
                    go_ret
                    exact ⟨rfl, hb22⟩
                  · clear hfar
                    go_wp2_with fail
                    refine (HAL.out).mono ?_
                    rintro e w20 ⟨rfl, Z7, Z8, s7, htw, hkn7⟩
                    clear HAL
                    have HP20 := hide (HRN.out.pn.p.keep htw.p.old hkn7.size (fun k hz => (hkn7.keep k (HRN.out.pn.p.zin k hz).2 (fun hu => hu.elim (HDPQ.out k hz) (HDPR.out k hz))).1))
                    have hop := open_run w20 HP20.out.gl (hm.up HP20.out.old HP20.out.size) HF1.out s.lg [] (by rw [← HF2.out, List.append_nil]) rfl (by omega)
                    rw [← HF2.out, ← HLOG.out] at hop
                    have HOP := hide hop
                    clear hop htw hkn7
                    go_wp2_with fail
                    refine (HOP.out).mono ?_
                    rintro e w21 ⟨Lw, Zw, rfl, hkw⟩
                    clear HOP
                    have HAL2 := hide (alike_any (HP20.out.fresh hkw).swap a2 len2 cap2 (by omega) X2 (fun h => by obtain ⟨b, off, h1, h2⟩ := HX2.out h; exact ⟨b, off, h1, h2, h2.lt⟩) (by omega))
                    clear hkw HP20
                    go_wp2_with fail
                    refine (HAL2.out).mono ?_
                    rintro e w22 ⟨rfl, Z9, Z10, s9, htw2, _⟩
                    have hb22 := htw2.p.old
                    clear HAL2 htw2
                    go_wp2_with fail
                    go_ret
                    exact ⟨rfl, hb22⟩
          · go_wp2_with fail
            refine (HNW.out).mono ?_
            rintro e w13 ⟨Ln, Zn, rfl, hkn⟩
            have HRN : Hid (Rn w w13 Z4 Lp s Zq Lq b Zx Lr g9 cap9 T Zn Ln (stI T 0)) := ⟨HRS.out.pr.p.fresh hkn, HRS.out.qr.p.fresh hkn, HRS.out.pr.q.fresh hkn, own_congr HRS.out.row (fun q hq => hkn.old.block q (HRS.out.row.lt q hq).2), fun hz => by have := (hkn.zin g9 hz).1; have := (HRS.out.row.lt g9 rfl).2; omega⟩
            have HGN : Hid (Calls Tryz.prog 9 #[.pointer (some ⟨Ln, 0, none⟩)] w13 fun e w' => e = .returned (.string ⟨(stI T 0).lg.toArray⟩) ∧ w' = w13) := log_kv HRN.out.pn.q
            have HDPR := hide HRS.out.pr.dis
            have HDQR := hide HRS.out.qr.dis
            clear hkn HNW HRS
            go_wp2_with fail
            refine (HGN.out).mono ?_
            rintro e w14 ⟨rfl, rfl⟩
            clear HGN
            go_wp2_with fail
            go_loopw [21, 22] (fun fv kk wr => ∃ (j : Nat) (Zy : Nat → Prop), kk = .int .i64 j ∧ j ≤ T.length ∧ fv = .string ⟨(stI T j).lg.toArray⟩ ∧ Rn w wr Z4 Lp s Zq Lq b Zx Lr g9 cap9 T Zy Ln (stI T j) ∧ (lgI T j).length ≤ c1.length + 1) (fun _ kk _ => T.length - (intOf kk).toNat)
            case atStart => exact ⟨0, Zn, rfl, by omega, rfl, HRN.out, Nat.zero_le _⟩
            case round =>
              clear HRN
              obtain ⟨j, Zy, rfl, hj1, rfl, hrn, hlj⟩ := hrel
              have HRN := hide hrn
              have hlgj := (stI_lg HTW.out j).2.2
              obtain ⟨F, HF⟩ : ∃ G : ByteArray, Hid (G = ⟨(stI T j).lg.toArray⟩) := ⟨_, rfl⟩
              have hFs : F.size = (frms (lgI T j)).length := by rw [HF.out]; show (stI T j).lg.toArray.size = _; rw [hlgj]; simp
              rw [← HF.out]
              by_cases hc : j < T.length ∧ (frms (lgI T j)).length ≤ (frms c1).length
              · obtain ⟨ha, hb⟩ := hc
                have hcell := rowS_cell hrn.row rfl j ha
                have hmem : T.getD j (0, []) ∈ T := by rw [List.getD_eq_getElem?_getD, List.getElem?_eq_getElem ha]; exact List.getElem_mem ha
                have HHW := hide (handle_w hrn.pn.q (HTW.out _ hmem) (by rw [hlgj]; omega))
                rw [← stI_succ ha] at HHW
                have HMO := hide (next_more HCS.out HD1.out ha hb)
                generalize T.getD j (0, []) = cc at *
                clear hrn hmem
                go_wp2_with (go_at_call 10; refine (HHW.out).mono ?_; rintro e w15 ⟨⟨r, rfl⟩, Zv, hky, hkny⟩; clear HHW)
                have HR2 := hide (HRN.out.step hky hkny)
                have HL2 := hide (log_kv hky)
                clear hky hkny
                refine (HL2.out).mono ?_
                rintro e w16 ⟨rfl, rfl⟩
                clear HL2
                go_wp2_with fail
                refine ⟨⟨j + 1, Zv, by go_num, by omega, rfl, HR2.out, HMO.out⟩, ?_⟩
                simp [intOf]; omega
              · have HAL := hide (alike_any (Two.mk hrn.qn.p hrn.rn.p HDQR.out) a2 len2 cap2 (by omega) X2 (fun h => by obtain ⟨b, off, h1, h2⟩ := HX2.out h; exact ⟨b, off, h1, h2, h2.lt⟩) (by rw [HBL.out]; omega))
                have hfar : (frms c1).length < F.size → c < F.size := fun h => by rw [hFs] at h ⊢; exact next_end HCS.out HD1.out hlj H4.out h
                have hnot : ¬ (j < T.length ∧ F.size ≤ (frms c1).length) := by rw [hFs]; exact hc
                clear hrn hlgj hFs HF hlj hc
                by_cases hjt : j < T.length
                · have hgt : (frms c1).length < F.size := by omega
                  have hgc := hfar hgt
                  clear hnot hfar
                  go_wp2_with fail
                  refine (HAL.out).mono ?_
                  rintro e w20 ⟨rfl, Z7, Z8, s7, htw, hkn7⟩
                  clear HAL
                  have HP20 := hide (HRN.out.pn.p.keep htw.p.old hkn7.size (fun k hz => (hkn7.keep k (HRN.out.pn.p.zin k hz).2 (fun hu => hu.elim (HDPQ.out k hz) (HDPR.out k hz))).1))
                  have hop := open_run w20 HP20.out.gl (hm.up HP20.out.old HP20.out.size) HF1.out s.lg [] (by rw [← HF2.out, List.append_nil]) rfl (by omega)
                  rw [← HF2.out, ← HLOG.out] at hop
                  have HOP := hide hop
                  clear hop htw hkn7
                  go_wp2_with fail
                  refine (HOP.out).mono ?_
                  rintro e w21 ⟨Lw, Zw, rfl, hkw⟩
                  clear HOP
                  have HAL2 := hide (alike_any (HP20.out.fresh hkw).swap a2 len2 cap2 (by omega) X2 (fun h => by obtain ⟨b, off, h1, h2⟩ := HX2.out h; exact ⟨b, off, h1, h2, h2.lt⟩) (by omega))
                  clear hkw HP20
                  go_wp2_with fail
                  refine (HAL2.out).mono ?_
                  rintro e w22 ⟨rfl, Z9, Z10, s9, htw2, _⟩
                  have hb22 := htw2.p.old
                  clear HAL2 htw2
                  go_wp2_with fail
                  go_ret
                  exact ⟨rfl, hb22⟩
                · clear hnot
                  by_cases hgt : (frms c1).length < F.size
                  · have hgc := hfar hgt
                    clear hfar
                    go_wp2_with fail
                    refine (HAL.out).mono ?_
                    rintro e w20 ⟨rfl, Z7, Z8, s7, htw, hkn7⟩
                    clear HAL
                    have HP20 := hide (HRN.out.pn.p.keep htw.p.old hkn7.size (fun k hz => (hkn7.keep k (HRN.out.pn.p.zin k hz).2 (fun hu => hu.elim (HDPQ.out k hz) (HDPR.out k hz))).1))
                    have hop := open_run w20 HP20.out.gl (hm.up HP20.out.old HP20.out.size) HF1.out s.lg [] (by rw [← HF2.out, List.append_nil]) rfl (by omega)
                    rw [← HF2.out, ← HLOG.out] at hop
                    have HOP := hide hop
                    clear hop htw hkn7
                    go_wp2_with fail
                    refine (HOP.out).mono ?_
                    rintro e w21 ⟨Lw, Zw, rfl, hkw⟩
                    clear HOP
                    have HAL2 := hide (alike_any (HP20.out.fresh hkw).swap a2 len2 cap2 (by omega) X2 (fun h => by obtain ⟨b, off, h1, h2⟩ := HX2.out h; exact ⟨b, off, h1, h2, h2.lt⟩) (by omega))
                    clear hkw HP20
                    go_wp2_with fail
                    refine (HAL2.out).mono ?_
                    rintro e w22 ⟨rfl, Z9, Z10, s9, htw2, _⟩
                    have hb22 := htw2.p.old
                    clear HAL2 htw2
                    go_wp2_with fail
                    go_ret
                    exact ⟨rfl, hb22⟩
                  · clear hfar
                    go_wp2_with fail
                    refine (HAL.out).mono ?_
                    rintro e w20 ⟨rfl, Z7, Z8, s7, htw, hkn7⟩
                    clear HAL
                    have HP20 := hide (HRN.out.pn.p.keep htw.p.old hkn7.size (fun k hz => (hkn7.keep k (HRN.out.pn.p.zin k hz).2 (fun hu => hu.elim (HDPQ.out k hz) (HDPR.out k hz))).1))
                    have hop := open_run w20 HP20.out.gl (hm.up HP20.out.old HP20.out.size) HF1.out s.lg [] (by rw [← HF2.out, List.append_nil]) rfl (by omega)
                    rw [← HF2.out, ← HLOG.out] at hop
                    have HOP := hide hop
                    clear hop htw hkn7
                    go_wp2_with fail
                    refine (HOP.out).mono ?_
                    rintro e w21 ⟨Lw, Zw, rfl, hkw⟩
                    clear HOP
                    have HAL2 := hide (alike_any (HP20.out.fresh hkw).swap a2 len2 cap2 (by omega) X2 (fun h => by obtain ⟨b, off, h1, h2⟩ := HX2.out h; exact ⟨b, off, h1, h2, h2.lt⟩) (by omega))
                    clear hkw HP20
                    go_wp2_with fail
                    refine (HAL2.out).mono ?_
                    rintro e w22 ⟨rfl, Z9, Z10, s9, htw2, _⟩
                    have hb22 := htw2.p.old
                    clear HAL2 htw2
                    go_wp2_with fail
                    go_ret
                    exact ⟨rfl, hb22⟩

end Go.Proofs.YtgcedalggnmooabGreatDoor
