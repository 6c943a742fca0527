import Derived.Test.YtgcedalggnmooabGreatDoorOpDX
namespace Go.Proofs.YtgcedalggnmooabGreatDoor
set_option linter.unusedSimpArgs false
set_option linter.unusedVariables false
open Go.RowKit
set_option maxRecDepth 100000

/-! What is told, what of it is logged, and where a log is cut. -/
/-- A command as a script spells one. -/
structure Wf (c : Nat × List Nat) : Prop where
  lo : 1 ≤ c.1
  hi : c.1 ≤ 12
  form : Pl.cmd (Pl.cmdB c.1 c.2) = .ok c
  kinds : c.2.length = (Pl.kindsL c.1).length
  len : (Pl.cmdB c.1 c.2).length ≤ 100
theorem wf_x (X : Nat → Nat → Int) (i : Nat) : Wf (spX X i) := by
  obtain ⟨h1, h2, h3, h4, h5⟩ := sp_code (X i 0) (X i 1) (X i 2) (X i 3) (X i 4)
  have hk := kinds_len h1 h2
  have hn : ∀ n ∈ (spX X i).2, n < 9223372036854775808 := fun n hn => by have := h4 n hn; omega
  have hl := Pl.toldB_len (spX X i).2 hn
  have h3' : (spX X i).2.length = (Pl.kindsL (spX X i).1).length := h3
  have hk' : (Pl.kindsL (spX X i).1).length ≤ 5 := hk
  exact ⟨h1, h2, cmd_cmdB h1 h2 h3 hn h5, h3, by unfold Pl.cmdB; rw [List.length_cons]; omega⟩
/-- What of the told is logged. -/
def lgl : Sv → List (Nat × List Nat) → List (Nat × List Nat)
  | _, [] => []
  | s, c :: T => if (repV s (.ok c)).getD 0 1 = 0 ∧ c.1 ≤ 10 then c :: lgl (stepV s (.ok c)) T else lgl (stepV s (.ok c)) T
theorem lgl_run : ∀ (T : List (Nat × List Nat)) (s : Sv), (∀ c ∈ T, Wf c) → Lgs s (lgl s T) ∧ runV s (lgl s T) = runV s T
  | [], s, _ => ⟨trivial, rfl⟩
  | c :: T, s, h => by
    have hc := h c List.mem_cons_self
    have ih := lgl_run T (stepV s (.ok c)) (fun d hd => h d (List.mem_cons_of_mem _ hd))
    unfold lgl
    by_cases hl : (repV s (.ok c)).getD 0 1 = 0 ∧ c.1 ≤ 10
    · rw [if_pos hl]
      exact ⟨⟨⟨⟨hc.lo, hl.2⟩, hc.form, hc.len, hl.1⟩, ih.1⟩, ih.2⟩
    · rw [if_neg hl]
      have e := not_logged hc.lo hc.hi hc.form hc.kinds hl
      show _ ∧ _ = runV (stepV s (.ok c)) T
      rw [e] at ih ⊢
      exact ih
theorem lgl_append : ∀ (T U : List (Nat × List Nat)) (s : Sv), lgl s (T ++ U) = lgl s T ++ lgl (runV s T) U
  | [], _, _ => rfl
  | c :: T, U, s => by
    have ih := lgl_append T U (stepV s (.ok c))
    simp only [List.cons_append, lgl, runV, ih]
    split <;> rfl
theorem lgl_one (s : Sv) (c : Nat × List Nat) : (lgl s [c]).length ≤ 1 := by
  simp only [lgl]; split <;> simp
theorem frms_append (a b : List (Nat × List Nat)) : frms (a ++ b) = frms a ++ frms b := by simp [frms]

/-- Where a log is cut: frames that are whole, and a part of the next. -/
theorem cut_at : ∀ (cs : List (Nat × List Nat)) (c : Nat), (∀ d ∈ cs, (Pl.cmdB d.1 d.2).length ≤ 100) → ∃ c1 c2 rest, cs = c1 ++ c2 ∧ (frms cs).take c = frms c1 ++ rest ∧ frP rest = none ∧ (∀ d ds, c2 = d :: ds → (frms cs).length < c ∨ ((frms cs).take c).length < (frms (c1 ++ [d])).length)
  | [], c, _ => ⟨[], [], [], rfl, by simp [frms], rfl, fun d ds h => by cases h⟩
  | d :: cs, c, h => by
    have hd := h d List.mem_cons_self
    have e : frms (d :: cs) = frmB (Pl.cmdB d.1 d.2) ++ frms cs := rfl
    by_cases hc : (frmB (Pl.cmdB d.1 d.2)).length ≤ c
    · obtain ⟨c1, c2, rest, h1, h2, h3, h4⟩ := cut_at cs (c - (frmB (Pl.cmdB d.1 d.2)).length) (fun x hx => h x (List.mem_cons_of_mem _ hx))
      refine ⟨d :: c1, c2, rest, by rw [h1]; rfl, ?_, h3, fun x ds hx => ?_⟩
      · rw [e, List.take_append, List.take_of_length_le hc, h2]
        show _ = (frmB (Pl.cmdB d.1 d.2) ++ frms c1) ++ rest
        rw [List.append_assoc]
      · have := h4 x ds hx
        have e2 : (frms (d :: (c1 ++ [x]))).length = (frmB (Pl.cmdB d.1 d.2)).length + (frms (c1 ++ [x])).length := by show (frmB (Pl.cmdB d.1 d.2) ++ frms (c1 ++ [x])).length = _; rw [List.length_append]
        rw [e, List.cons_append, e2, List.length_take, List.length_append]
        rw [List.length_take] at this
        omega
    · refine ⟨[], d :: cs, (frmB (Pl.cmdB d.1 d.2)).take c, rfl, ?_, frP_cut (by omega) (by omega), fun x ds hx => ?_⟩
      · rw [e, List.take_append_of_le_length (by omega)]; rfl
      · obtain ⟨rfl, rfl⟩ := List.cons.inj hx
        right
        rw [e, List.take_append_of_le_length (by omega), List.length_take]
        show _ < (frmB (Pl.cmdB d.1 d.2) ++ frms []).length
        rw [List.length_append]
        omega

/-- Of two beginnings of a list of frames the shorter has fewer bytes. -/
theorem pre_lt {P Q cs : List (Nat × List Nat)} (hP : P <+: cs) (hQ : Q <+: cs) (h : P.length < Q.length) : (frms P).length < (frms Q).length := by
  obtain ⟨R, hR⟩ := List.prefix_of_prefix_length_le hP hQ (by omega)
  have hr : R ≠ [] := fun e => by rw [e, List.append_nil] at hR; rw [hR] at h; omega
  have h1 := frms_len R
  have h2 : 0 < R.length := List.length_pos_iff.2 hr
  rw [← hR, frms_append, List.length_append]
  omega
theorem pre_eq {P Q cs : List (Nat × List Nat)} (hP : P <+: cs) (hQ : Q <+: cs) (h : (frms P).length = (frms Q).length) : P = Q := by
  rcases Nat.lt_trichotomy P.length Q.length with hl | hl | hl
  · have := pre_lt hP hQ hl; omega
  · obtain ⟨R, hR⟩ := List.prefix_of_prefix_length_le hP hQ (by omega)
    have : R = [] := by
      have := congrArg List.length hR
      rw [List.length_append] at this
      exact List.length_eq_zero_iff.1 (by omega)
    rw [← hR, this, List.append_nil]
  · have := pre_lt hQ hP hl; omega

/-- The state behind the first i that were told. -/
def stI (T : List (Nat × List Nat)) (i : Nat) : Sv := runV sNil (T.take i)
def lgI (T : List (Nat × List Nat)) (i : Nat) : List (Nat × List Nat) := lgl sNil (T.take i)
theorem lgI_pre (T : List (Nat × List Nat)) (i : Nat) : lgI T i <+: lgl sNil T := by
  refine ⟨lgl (stI T i) (T.drop i), ?_⟩
  unfold lgI stI
  rw [← lgl_append, List.take_append_drop]
theorem lgI_all (T : List (Nat × List Nat)) : lgI T T.length = lgl sNil T := by unfold lgI; rw [List.take_length]
theorem stI_succ {T : List (Nat × List Nat)} {i : Nat} (hi : i < T.length) : stI T (i + 1) = stepV (stI T i) (.ok (T.getD i (0, []))) := by
  unfold stI
  rw [List.take_succ_eq_append_getElem hi, runV_append, List.getD_eq_getElem?_getD, List.getElem?_eq_getElem hi]
  rfl
theorem lgI_succ {T : List (Nat × List Nat)} {i : Nat} (hi : i < T.length) : (lgI T (i + 1)).length ≤ (lgI T i).length + 1 := by
  unfold lgI
  rw [List.take_succ_eq_append_getElem hi, lgl_append, List.length_append]
  have := lgl_one (runV sNil (T.take i)) T[i]
  omega
theorem stI_lg {T : List (Nat × List Nat)} (hT : ∀ c ∈ T, Wf c) (i : Nat) : Lgs sNil (lgI T i) ∧ stI T i = runV sNil (lgI T i) ∧ (stI T i).lg = frms (lgI T i) := by
  have h := lgl_run (T.take i) sNil (fun c hc => hT c (List.mem_of_mem_take hc))
  refine ⟨h.1, h.2.symm, ?_⟩
  show (runV sNil (T.take i)).lg = _
  rw [← h.2, runV_lg _ _ h.1]
  rfl

end Go.Proofs.YtgcedalggnmooabGreatDoor

namespace Go.Proofs.YtgcedalggnmooabGreatDoor
set_option linter.unusedSimpArgs false
set_option linter.unusedVariables false
open Go.RowKit
set_option maxRecDepth 100000

theorem Kv.keep {B : Nat} {w0 w w' : World} {Z : Nat → Prop} {Lb : Nat} {s : Sv} (h : Kv B w0 w Z Lb s) (hb : Below B w0 w') (hs : w.heap.size ≤ w'.heap.size) (hk : ∀ k, Z k → w'.heap[k]? = w.heap[k]?) : Kv B w0 w' Z Lb s := by
  have h2 := h.two
  refine ⟨hb, Nat.le_trans h.size hs, h.two, ?_, h.pl.congr hk, fun k hz => ⟨(h.zin k hz).1, Nat.lt_of_lt_of_le (h.zin k hz).2 hs⟩, h.good⟩
  obtain ⟨⟨t0, v0, g0⟩, ⟨t1, v1, g1⟩, g2⟩ := h.gl
  have hq : ∀ b, b < B → w'.heap[b]? = w.heap[b]? := fun b hb' => (hb.block b hb').trans (h.old.block b hb').symm
  exact ⟨⟨t0, v0, (World.cell?_of_block (a := ⟨2, 0, none⟩) (hq _ (by show 2 < B; omega))).trans g0⟩, ⟨t1, v1, (World.cell?_of_block (a := ⟨3, 0, none⟩) (hq _ (by show 3 < B; omega))).trans g1⟩, Nat.le_trans g2 hs⟩
theorem Kv.wide {B B' : Nat} {w0 w1 w : World} {Z : Nat → Prop} {Lb : Nat} {s : Sv} (h : Kv B' w1 w Z Lb s) (hb : Below B w0 w1) (hB : B ≤ B') (h2 : 4 ≤ B) : Kv B w0 w Z Lb s :=
  ⟨hb.trans (h.old.mono hB), Nat.le_trans hB h.size, h2, h.gl, h.pl, fun k hz => ⟨Nat.le_trans hB (h.zin k hz).1, (h.zin k hz).2⟩, h.good⟩

/-- Two larders apart from each other. -/
structure Two (B : Nat) (w0 w : World) (Zp : Nat → Prop) (Lp : Nat) (sp : Sv) (Zq : Nat → Prop) (Lq : Nat) (sq : Sv) : Prop where
  p : Kv B w0 w Zp Lp sp
  q : Kv B w0 w Zq Lq sq
  dis : ∀ k, Zp k → ¬ Zq k
theorem Two.swap {B : Nat} {w0 w : World} {Zp Zq : Nat → Prop} {Lp Lq : Nat} {sp sq : Sv} (h : Two B w0 w Zp Lp sp Zq Lq sq) : Two B w0 w Zq Lq sq Zp Lp sp := ⟨h.q, h.p, fun k hq hp => h.dis k hp hq⟩
theorem Two.stepP {B : Nat} {w0 w w' : World} {Zp Zq Zp' : Nat → Prop} {Lp Lq : Nat} {sp sq sp' : Sv} (h : Two B w0 w Zp Lp sp Zq Lq sq) (hk : Kv B w0 w' Zp' Lp sp') (hn : Kn Zp w Zp' w') : Two B w0 w' Zp' Lp sp' Zq Lq sq :=
  ⟨hk, h.q.keep hk.old hn.size (fun k hz => (hn.keep k (h.q.zin k hz).2 (fun hp => h.dis k hp hz)).1), fun k hp hq => (hn.keep k (h.q.zin k hq).2 (fun hp' => h.dis k hp' hq)).2 hp⟩
theorem Two.below {B : Nat} {w0 w w' : World} {Zp Zq : Nat → Prop} {Lp Lq : Nat} {sp sq : Sv} (h : Two B w0 w Zp Lp sp Zq Lq sq) (hb : Below w.heap.size w w') : Two B w0 w' Zp Lp sp Zq Lq sq := ⟨h.p.below hb, h.q.below hb, h.dis⟩
abbrev Zu (Zp Zq : Nat → Prop) (k : Nat) : Prop := Zp k ∨ Zq k
theorem Two.knP {Zp Zq Zp' : Nat → Prop} {w w' : World} {B : Nat} {w0 : World} {Lp Lq : Nat} {sp sq : Sv} (h : Two B w0 w Zp Lp sp Zq Lq sq) (hn : Kn Zp w Zp' w') : Kn (Zu Zp Zq) w (Zu Zp' Zq) w' :=
  ⟨hn.size, fun k hk hz => ⟨(hn.keep k hk (fun hp => hz (Or.inl hp))).1, fun hz' => by
    rcases hz' with hz' | hz'
    · exact (hn.keep k hk (fun hp => hz (Or.inl hp))).2 hz'
    · exact hz (Or.inr hz')⟩⟩
theorem Two.knQ {Zp Zq Zq' : Nat → Prop} {w w' : World} {B : Nat} {w0 : World} {Lp Lq : Nat} {sp sq : Sv} (h : Two B w0 w Zp Lp sp Zq Lq sq) (hn : Kn Zq w Zq' w') : Kn (Zu Zp Zq) w (Zu Zp Zq') w' :=
  ⟨hn.size, fun k hk hz => ⟨(hn.keep k hk (fun hp => hz (Or.inr hp))).1, fun hz' => by
    rcases hz' with hz' | hz'
    · exact hz (Or.inl hz')
    · exact (hn.keep k hk (fun hp => hz (Or.inr hp))).2 hz'⟩⟩

set_option maxHeartbeats 3200000 in
theorem alike_any {B : Nat} {w0 w : World} {Zp Zq : Nat → Prop} {Lp Lq : Nat} {s : Sv} (h : Two B w0 w Zp Lp s Zq Lq s) (a1 : Option Addr) (len cap : Nat) (hlen : len ≤ 2097152) (X : Nat → Nat → Int) (hx : 0 < len → ∃ b off, a1 = some ⟨b, off, none⟩ ∧ Scr w0 b off len X ∧ b < B) (hlg : s.lg.length ≤ 1000000000) :
    Calls Tryz.prog 17 #[.pointer (some ⟨Lp, 0, none⟩), .pointer (some ⟨Lq, 0, none⟩), .slice a1 len cap] w fun e w' => e = .returned (.bool true) ∧ ∃ Zp' Zq' s', Two B w0 w' Zp' Lp s' Zq' Lq s' ∧ Kn (Zu Zp Zq) w (Zu Zp' Zq') w' := by
  have HX0 := hide hx
  have HT0 := hide h
  clear hx h
  go_enter Tryz.func17, Tryz.ntmps17
  go_wp2_with fail
  go_loopw [7] (fun ii wr => ∃ (k : Nat) (Z1 Z2 : Nat → Prop) (s1 : Sv), ii = .int .i64 k ∧ k ≤ len ∧ Two B w0 wr Z1 Lp s1 Z2 Lq s1 ∧ Kn (Zu Zp Zq) w (Zu Z1 Z2) wr ∧ s1.lg.length ≤ 1000000000 + 64 * k) (fun ii _ => len - (intOf ii).toNat)
  case atStart => exact ⟨0, Zp, Zq, s, rfl, by omega, HT0.out, Kn.refl _ _, by omega⟩
  case round =>
    clear HT0
    obtain ⟨k, Z1, Z2, s1, rfl, hk, htw, hkn, hslg⟩ := hrel
    have HTW := hide htw
    have HKN := hide hkn
    by_cases hlt : k < len
    · obtain ⟨b, off, ha0, hxs, hbB⟩ := HX0.out (by omega)
      subst ha0
      have HX := hide hxs
      clear hxs
      have c0 : wr.cell? ⟨b, off + k * 5, none⟩ = some (.int .i64 (X k 0)) := (htw.p.old.cell (p := ⟨b, off + k * 5 + 0, none⟩) hbB).trans (HX.out.cell k hlt 0 (by omega))
      have c1 := (htw.p.old.cell (p := ⟨b, off + k * 5 + 1, none⟩) hbB).trans (HX.out.cell k hlt 1 (by omega))
      have c2 := (htw.p.old.cell (p := ⟨b, off + k * 5 + 2, none⟩) hbB).trans (HX.out.cell k hlt 2 (by omega))
      have c3 := (htw.p.old.cell (p := ⟨b, off + k * 5 + 3, none⟩) hbB).trans (HX.out.cell k hlt 3 (by omega))
      have c4 := (htw.p.old.cell (p := ⟨b, off + k * 5 + 4, none⟩) hbB).trans (HX.out.cell k hlt 4 (by omega))
      have HSP := hide (spelt_x HX.out k hlt)
      have HLN : Hid ((stepV s1 (.ok (spX X k))).lg.length ≤ 1000000000 + 64 * (k + 1)) := by have := spX_lg X k s1; unfold Hid; omega
      have HHD : Hid (∀ (s2 : Sv) (w2 : World) (Z : Nat → Prop) (Lb : Nat), s2.lg.length ≤ 35184372088832 → Kv B w0 w2 Z Lb s2 → Calls Tryz.prog 10 #[.pointer (some ⟨Lb, 0, none⟩), .string (cmdX X k)] w2 fun e w' => e = .returned (.string ⟨(repV s2 (.ok (spX X k))).toArray⟩) ∧ ∃ Z', Kv B w0 w' Z' Lb (stepV s2 (.ok (spX X k))) ∧ Kn Z w2 Z' w') := fun s2 w2 Z Lb hl hk => handle_x hk hl X k
      obtain ⟨R, HR⟩ : ∃ R, Hid (R = repV s1 (.ok (spX X k))) := ⟨_, rfl⟩
      generalize cmdX X k = t at *
      generalize spX X k = cc at *
      generalize X k 0 = x0 at *
      generalize X k 1 = x1 at *
      generalize X k 2 = x2 at *
      generalize X k 3 = x3 at *
      generalize X k 4 = x4 at *
      clear htw hkn
      go_wp2_with (go_at_call 13; refine (HSP.out _).mono ?_; rintro e w2 ⟨rfl, hb2⟩; have HT2 := hide (HTW.out.below hb2); have HH2 := hide (HHD.out s1 w2 Z1 Lp (by omega) HT2.out.p); rw [← HR.out] at HH2)
      refine (HH2.out).mono ?_
      rintro e w3 ⟨rfl, Z3, hkv3, hkn3⟩
      have HT3 := hide (HT2.out.stepP hkv3 hkn3)
      have HK3 := hide ((HKN.out.trans (Kn.below hb2)).trans (HT2.out.knP hkn3))
      have HH3 := hide (HHD.out s1 w3 Z2 Lq (by omega) HT3.out.q)
      rw [← HR.out] at HH3
      clear HH2 HHD hkv3 hkn3
      go_wp2_with fail
      refine (HH3.out).mono ?_
      rintro e w4 ⟨rfl, Z4, hkv4, hkn4⟩
      have HT4 := hide (HT3.out.swap.stepP hkv4 hkn4).swap
      have HK4 := hide (HK3.out.trans (HT3.out.knQ hkn4))
      clear HH3 hkv4 hkn4
      go_wp2_with fail
      refine ⟨⟨k + 1, Z3, Z4, stepV s1 (.ok cc), by go_num, by omega, HT4.out, HK4.out, HLN.out⟩, ?_⟩
      simp [intOf]; omega
    · obtain rfl : k = len := by omega
      clear hlt HX0
      obtain ⟨T, HT⟩ : ∃ T : ByteArray, Hid (T = ⟨(spB s1 9).toArray⟩) := ⟨_, rfl⟩
      obtain ⟨G, HG⟩ : ∃ G : ByteArray, Hid (G = ⟨s1.lg.toArray⟩) := ⟨_, rfl⟩
      have HLP := hide (looked_any htw.p)
      rw [← HT.out] at HLP
      clear htw hkn
      go_wp2_with fail
      refine (HLP.out).mono ?_
      rintro e w2 ⟨rfl, Z3, hkv3, hkn3⟩
      have HT3 := hide (HTW.out.stepP hkv3 hkn3)
      have HK3 := hide (HKN.out.trans (HTW.out.knP hkn3))
      have HLQ := hide (looked_any HT3.out.q)
      rw [← HT.out] at HLQ
      clear HLP hkv3 hkn3
      go_wp2_with fail
      refine (HLQ.out).mono ?_
      rintro e w3 ⟨rfl, Z4, hkv4, hkn4⟩
      have HT4 := hide (HT3.out.swap.stepP hkv4 hkn4).swap
      have HK4 := hide (HK3.out.trans (HT3.out.knQ hkn4))
      have HGP := hide (log_kv HT4.out.p)
      have HGQ := hide (log_kv HT4.out.q)
      rw [← HG.out] at HGP HGQ
      clear HLQ hkv4 hkn4
      go_wp2_with fail
      refine (HGP.out).mono ?_
      rintro e w5 ⟨rfl, rfl⟩
      go_wp2_with fail
      refine (HGQ.out).mono ?_
      rintro e w6 ⟨rfl, rfl⟩
      go_wp2_with fail
      go_ret
      exact ⟨rfl, Z3, Z4, s1, HT4.out, HK4.out⟩

end Go.Proofs.YtgcedalggnmooabGreatDoor
