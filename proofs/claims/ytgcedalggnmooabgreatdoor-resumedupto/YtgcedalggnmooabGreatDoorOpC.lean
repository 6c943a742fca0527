import Derived.Test.YtgcedalggnmooabGreatDoorOpB
import Derived.Deep.RegionHeld
namespace Go.Proofs.YtgcedalggnmooabGreatDoor
set_option linter.unusedSimpArgs false
set_option linter.unusedVariables false
open Go.RowKit
set_option maxRecDepth 100000

/-- What a log's bytes do to a larder. -/
def rp : Nat → List UInt8 → Sv → Sv
  | 0, _, s => s
  | f + 1, l, s => if s.lg.length < l.length then
      (match frP (l.drop s.lg.length) with
      | none => s
      | some (c, _) => if (stepB s ⟨c.toArray⟩).lg.length = s.lg.length then stepB s ⟨c.toArray⟩ else rp f l (stepB s ⟨c.toArray⟩))
    else s

/-- What is wanted of the states on the way. -/
structure Way (l : List UInt8) (I : Sv → Prop) : Prop where
  small : ∀ s, I s → s.lg.length ≤ 35184372088832
  step : ∀ s c n, I s → s.lg.length < l.length → frP (l.drop s.lg.length) = some (c, n) → c.length ≤ 2097152 ∧ (s.lg = [] → c.getD 0 0 ≠ 13) ∧ I (stepB s ⟨c.toArray⟩)

theorem stepB_grows (s : Sv) (t : ByteArray) : s.lg.length ≤ (stepB s t).lg.length := by
  show _ ≤ (lgX _ _ _).length
  unfold lgX
  split
  · rw [List.length_append]; omega
  · omega

def lenAt (w : World) (Lb : Nat) : Nat := match w.cell? ⟨Lb, 1, none⟩ with | some (.slice _ n _) => n | _ => 0
theorem kv_set {B : Nat} {w0 w : World} {Z : Nat → Prop} {Lb : Nat} {s : Sv} (h : Kv B w0 w Z Lb s) {b : Nat} (hz : ¬ Z b) (hB : B ≤ b) (i : Nat) (u : Value) : Kv B w0 (w.setCell ⟨b, i, none⟩ u) Z Lb s := by
  have hsz : (w.setCell ⟨b, i, none⟩ u).heap.size = w.heap.size := by simp [World.setCell]
  have hne : ∀ k, k ≠ b → (w.setCell ⟨b, i, none⟩ u).heap[k]? = w.heap[k]? := fun k hk => Below.heap_setCell _ _ _ _ hk
  have h2 := h.two
  refine ⟨⟨h.old.os, h.old.tape, h.old.output, by rw [hsz]; exact h.old.size, fun k hk => (hne k (by omega)).trans (h.old.block k hk)⟩, by rw [hsz]; exact h.size, h.two, ?_, h.pl.congr (fun k hk => hne k (fun e => hz (e ▸ hk))), fun k hk => by rw [hsz]; exact h.zin k hk, h.good⟩
  obtain ⟨⟨t0, v0, g0⟩, ⟨t1, v1, g1⟩, g2⟩ := h.gl
  exact ⟨⟨t0, v0, (World.cell?_of_block (a := ⟨2, 0, none⟩) (hne 2 (by omega))).trans g0⟩, ⟨t1, v1, (World.cell?_of_block (a := ⟨3, 0, none⟩) (hne 3 (by omega))).trans g1⟩, by rw [hsz]; exact g2⟩
theorem kn_set {Z Z' : Nat → Prop} {w w' : World} (h : Kn Z w Z' w') {b : Nat} (hb : w.heap.size ≤ b) (i : Nat) (u : Value) : Kn Z w Z' (w'.setCell ⟨b, i, none⟩ u) :=
  ⟨by simp [World.setCell]; exact h.size, fun k hk hz => ⟨(Below.heap_setCell _ _ _ _ (show k ≠ b by omega)).trans (h.keep k hk hz).1, (h.keep k hk hz).2⟩⟩

/-- A post whose panics say of the frame its deferred calls and one temporary alone. -/
def PQ (Qn : Act → World → Prop) (D : List Deferred) (p : Value) (G : List PanicEntry → World → Prop) (e : Exit) (a : Act) (w : World) : Prop :=
  match e with
  | .normal => Qn a w
  | .panic ch => a.defers = D ∧ a.tmps.getD 4 undef = p ∧ G ch w
  | _ => False
theorem pq_put {Qn : Act → World → Prop} {D : List Deferred} {p : Value} {G : List PanicEntry → World → Prop} (d : Nat) (hd : d ≠ 4) (v : Value) : ∀ c a w, PQ Qn D p G (.panic c) (a.put (some d) v) w → PQ Qn D p G (.panic c) a w := by
  rintro c a w ⟨h1, h2, h3⟩
  refine ⟨h1, ?_, h3⟩
  have h2' : (a.tmps.setIfInBounds d v).getD 4 undef = p := h2
  rw [← h2']
  simp [Array.getD_eq_getD_getElem?, Array.getElem?_setIfInBounds_ne hd]
theorem wp_split {P : Program} {c : Code} {Q : Exit → Act → World → Prop} {a : Act} {w : World} (D : List Deferred) (p : Value) (G : List PanicEntry → World → Prop) (hG : ∀ ch a' w', a'.defers = D → a'.tmps.getD 4 undef = p → G ch w' → Q (.panic ch) a' w')
    (h : c.wp P (PQ (Q .normal) D p G) a w) : c.wp P Q a w :=
  Code.wp_mono (fun e a w q => by cases e <;> first | exact q | exact hG _ _ _ q.1 q.2.1 q.2.2 | exact False.elim q) h

/-- How a replay breaks off. -/
structure Rpx (B : Nat) (w0 w : World) (Z : Nat → Prop) (Lb : Nat) (sf : Sv) (ch : List PanicEntry) (w2 : World) : Prop where
  one : ∃ tp vp, ch = [{ v := .iface tp vp, recovered := false }]
  kv : ∃ Z2, Kv B w0 w2 Z2 Lb sf ∧ Kn Z w Z2 w2 ∧ ¬ Z2 (w.heap.size + 1)
  box : w2.cell? ⟨w.heap.size, 0, none⟩ = some (.pointer (some ⟨Lb, 0, none⟩))
  tak : w2.heap[w.heap.size + 1]? = some (.cells #[.int .i64 0] 3 (0, 0))
  sml : sf.lg.length ≤ 70368744177664

abbrev laid2 (w : World) (Lb : Nat) : World := (w.alloc (.cells #[.pointer (some ⟨Lb, 0, none⟩)] 23)).alloc (.cells #[.int .i64 0] 3)

set_option maxHeartbeats 3200000 in
theorem replay_any {B : Nat} {w0 w : World} {Z : Nat → Prop} {Lb : Nat} {s : Sv} (h : Kv B w0 w Z Lb s) (hm : GmB B w0) (log : ByteArray) (hlog : log.size ≤ 35184372088832) (I : Sv → Prop) (hI0 : I s) (hI : Way log.data.toList I) :
    Calls Tryz.prog 28 #[.pointer (some ⟨Lb, 0, none⟩), .string log] w fun e w' => e = .returned (.int .i64 (((rp log.size log.data.toList s).lg.length : Nat) : Int)) ∧ ∃ Z', Kv B w0 w' Z' Lb (rp log.size log.data.toList s) ∧ Kn Z w Z' w' := by
  have hmf : ∀ (fn : Fn) (first cap : Array Value) (w : World), (Instr.makeFunc fn first cap).run Tryz.prog w = .ok (.func fn first cap) w := fun _ _ _ _ => rfl
  have hb2 : Below w.heap.size w (laid2 w Lb) := (al1 w _).trans ((al1 _ _).mono (by show _ ≤ (w.heap.push _).size; rw [Array.size_push]; omega))
  have h2 := h.below hb2
  have hsz : (laid2 w Lb).heap.size = w.heap.size + 2 := by show ((w.heap.push _).push _).size = _; rw [Array.size_push, Array.size_push]
  have hh0 : (laid2 w Lb).heap[w.heap.size]? = some (.cells #[.pointer (some ⟨Lb, 0, none⟩)] 23 (0, 0)) := by
    show ((w.heap.push _).push _)[w.heap.size]? = _
    rw [Array.getElem?_push, if_neg (by simp), Array.getElem?_push, if_pos rfl]
  have hh1 : (laid2 w Lb).heap[w.heap.size + 1]? = some (.cells #[.int .i64 0] 3 (0, 0)) := by
    show ((w.heap.push _).push _)[w.heap.size + 1]? = _
    rw [Array.getElem?_push, if_pos (by simp)]
  have hnz0 : ¬ Z w.heap.size := fun hz => by have := (h.zin _ hz).2; omega
  have hnz1 : ¬ Z (w.heap.size + 1) := fun hz => by have := (h.zin _ hz).2; omega
  have hknw : ∀ {Z' : Nat → Prop} {w' : World}, Kn Z (laid2 w Lb) Z' w' → Kn Z w Z' w' := fun hk => (Kn.below hb2).trans hk
  obtain ⟨l, HL⟩ : ∃ l, Hid (l = log.data.toList) := ⟨_, rfl⟩
  have hll : l.length = log.size := by rw [HL.out, Array.length_toList]; rfl
  rw [← HL.out] at hI ⊢
  obtain ⟨sf, HSF⟩ : ∃ sf, Hid (sf = rp log.size l s) := ⟨_, rfl⟩
  rw [← HSF.out]
  go_enter_defers Tryz.func28, Tryz.ntmps28
  go_wp2_with fail
  go_loopw [6] (fun _ wr => ∃ (Z' : Nat → Prop) (s' : Sv) (f : Nat), Kv B w0 wr Z' Lb s' ∧ Kn Z (laid2 w Lb) Z' wr ∧ I s' ∧ log.size - s'.lg.length ≤ f ∧ rp f l s' = sf) (fun _ wr => log.size - lenAt wr Lb)
  case atStart => exact ⟨Z, s, log.size, h2, Kn.refl _ _, hI0, by omega, HSF.out.symm⟩
  case round =>
    obtain ⟨Z1, s1, f, hkv, hkn, hi, hf, hrp⟩ := hrel
    obtain ⟨a1, c1, hl1⟩ := hkv.logv
    obtain ⟨k0, z0⟩ := hkn.keep w.heap.size (by rw [hsz]; omega) hnz0
    obtain ⟨k1, z1⟩ := hkn.keep (w.heap.size + 1) (by rw [hsz]; omega) hnz1
    have c0 : wr.cell? ⟨w.heap.size, 0, none⟩ = some (.pointer (some ⟨Lb, 0, none⟩)) := by rw [blk_cell (k0.trans hh0)]; rfl
    have c1x : wr.cell? ⟨w.heap.size + 1, 0, none⟩ = some (.int .i64 0) := by rw [blk_cell (k1.trans hh1)]; rfl
    have f1 : wr.frozen? ⟨w.heap.size + 1, 0, none⟩ = false := blk_free (k1.trans hh1) 0
    have hs1 := hI.small s1 hi
    by_cases hlt : s1.lg.length < log.size
    · have hb1 : (0 : Int) ≤ (s1.lg.length : Int) := by omega
      have hb2 : (s1.lg.length : Int) ≤ (log.size : Int) := by omega
      have hD : Below wr.heap.size wr wr.drew := ⟨rfl, rfl, rfl, Nat.le_refl _, fun _ _ => rfl⟩
      have hkvD := hkv.below hD
      have hff := ffirst_any (log.extract s1.lg.length log.size) (by rw [ByteArray.size_extract]; omega) wr.drew hkvD.gl (hm.at hkvD.old).chk (Nat.lt_of_lt_of_le hm.lt2 hkvD.size)
      have hlx : (log.extract s1.lg.length log.size).data.toList = l.drop s1.lg.length := by rw [ex_list, ← HL.out, List.take_of_length_le (l := l) (by omega)]
      rw [hlx] at hff
      have HF0 := hide hff
      have hw2 : ∀ w2, Below wr.drew.heap.size wr.drew w2 → Kv B w0 w2 Z1 Lb s1 ∧ Kn Z w Z1 w2 ∧ w2.heap[w.heap.size]? = some (.cells #[.pointer (some ⟨Lb, 0, none⟩)] 23 (0, 0)) ∧ w2.heap[w.heap.size + 1]? = some (.cells #[.int .i64 0] 3 (0, 0)) := fun w2 hb => by
        have hb' : Below wr.heap.size wr w2 := hD.trans hb
        exact ⟨hkv.below hb', (hknw hkn).trans (Kn.below hb'), (hb'.block _ (blk_lt (k0.trans hh0))).trans (k0.trans hh0), (hb'.block _ (blk_lt (k1.trans hh1))).trans (k1.trans hh1)⟩
      have HW2 := hide hw2
      clear hff hw2 hkvD
      go_wp2_with fail
      refine wp_split [{ target := .fn (.func 38) #[.pointer (some ⟨w.heap.size, 0, none⟩), .pointer (some ⟨w.heap.size + 1, 0, none⟩)], args := #[] }] (.pointer (some ⟨w.heap.size + 1, 0, none⟩)) (Rpx B w0 w Z Lb sf) ?_ ?_
      · rintro ch ⟨T, D⟩ w2 hDD hT ⟨⟨tp, vp, rfl⟩, ⟨Z2, hkvP, hknP, zP⟩, c0P, b1P, hsmP⟩
        obtain rfl : D = _ := hDD
        have hT4 : T.getD 4 undef = .pointer (some ⟨w.heap.size + 1, 0, none⟩) := hT
        have hT5 : T[4]?.getD undef = .pointer (some ⟨w.heap.size + 1, 0, none⟩) := by rw [← hT4]; simp
        have c1P : w2.cell? ⟨w.heap.size + 1, 0, none⟩ = some (.int .i64 0) := by rw [blk_cell b1P]; rfl
        have f1P : w2.frozen? ⟨w.heap.size + 1, 0, none⟩ = false := blk_free b1P 0
        go_wp2_with fail
        have hfin := World.cell?_setCell_same w2 ⟨w.heap.size + 1, 0, none⟩ (Value.int .i64 (sf.lg.length : Int)) c1P
        obtain ⟨aP, cP, hlP⟩ := hkvP.logv
        have hk := kv_set hkvP zP (Nat.le_trans h.size (by omega)) 0 (Value.int .i64 (sf.lg.length : Int))
        have hn := kn_set hknP (b := w.heap.size + 1) (by omega) 0 (Value.int .i64 (sf.lg.length : Int))
        have hpost : ∃ Z', Kv B w0 (w2.setCell ⟨w.heap.size + 1, 0, none⟩ (Value.int .i64 (sf.lg.length : Int))) Z' Lb sf ∧ Kn Z w Z' (w2.setCell ⟨w.heap.size + 1, 0, none⟩ (Value.int .i64 (sf.lg.length : Int))) := ⟨Z2, hk, hn⟩
        refine leaves_cons (f := 38) (args := #[.pointer (some ⟨w.heap.size, 0, none⟩), .pointer (some ⟨w.heap.size + 1, 0, none⟩)]) (by simp) (by simp [go_sem]) ?_
        refine (rcatch_panicking ⟨w.heap.size, 0, none⟩ ⟨w.heap.size + 1, 0, none⟩ Lb aP sf.lg.length cP (.int .i64 0) tp vp [] w2 hsmP c0P hlP c1P f1P).mono ?_
        rintro e u' w'' ⟨rfl, rfl, rfl⟩
        clear hk hn hlP
        generalize (w2.setCell ⟨w.heap.size + 1, 0, none⟩ (Value.int .i64 (sf.lg.length : Int))) = W at hfin hpost ⊢
        simp [Leaves, settle, results, Tryz.results28, go_sem, hfin, hpost, hT5]
      have hSd : wr.drew.cell? ⟨w.heap.size, 0, none⟩ = some (.pointer (some ⟨Lb, 0, none⟩)) := c0
      refine wp_region_held_drew (S := fun w' => w'.cell? ⟨w.heap.size, 0, none⟩ = some (.pointer (some ⟨Lb, 0, none⟩))) (by kernel_rfl) hSd (fun _ => ?_)
      refine wpAnyH_take (i := 0) (v := .pointer (some ⟨Lb, 0, none⟩)) rfl (by kernel_rfl) (by kernel_rfl) (by kernel_rfl) (pq_put _ (by decide) _) (Or.inl ⟨by rfl, fun w hSw => by dsimp only at hSw; go_simp⟩) hSd ?_
      simp only [Act.put, List.setIfInBounds_toArray, List.set_cons_zero, List.set_cons_succ]
      refine wpAnyH_take (i := 1) (v := .string log) rfl (by kernel_rfl) (by kernel_rfl) (by kernel_rfl) (pq_put _ (by decide) _) (Or.inl ⟨by rfl, fun w hSw => by dsimp only at hSw; go_simp⟩) hSd ?_
      simp only [Act.put, List.setIfInBounds_toArray, List.set_cons_zero, List.set_cons_succ]
      refine wpAnyH_take (i := 2) (v := .pointer (some ⟨Lb, 0, none⟩)) rfl (by kernel_rfl) (by kernel_rfl) (by kernel_rfl) (pq_put _ (by decide) _) (Or.inl ⟨by rfl, fun w hSw => by dsimp only at hSw; go_simp⟩) hSd ?_
      simp only [Act.put, List.setIfInBounds_toArray, List.set_cons_zero, List.set_cons_succ]
      refine wpAnyH_take (i := 3) (v := .pointer (some ⟨Lb, 0, none⟩)) rfl (by kernel_rfl) (by kernel_rfl) (by kernel_rfl) (pq_put _ (by decide) _) (Or.inl ⟨by rfl, fun w hSw => by dsimp only at hSw; go_simp⟩) hSd ?_
      simp only [Act.put, List.setIfInBounds_toArray, List.set_cons_zero, List.set_cons_succ]
      refine wpAnyH_take (i := 4) (v := .pointer (some ⟨Lb, 1, none⟩)) rfl (by kernel_rfl) (by kernel_rfl) (by kernel_rfl) (pq_put _ (by decide) _) (Or.inl ⟨by rfl, fun w hSw => by dsimp only at hSw; go_simp⟩) hSd ?_
      simp only [Act.put, List.setIfInBounds_toArray, List.set_cons_zero, List.set_cons_succ]
      refine wpAnyH_ready (rs := [5]) (by kernel_rfl) (by simp) (AllReadyH.cons rfl (fun K hK => ?_) AllReadyH.nil)
      go_simp
      refine hK.out _ _ hSd (fun _ => ?_)
      clear hK K
      refine wpAnyH_ready (rs := [6]) (by kernel_rfl) (by simp) (AllReadyH.cons rfl (fun K hK => ?_) AllReadyH.nil)
      go_simp
      refine hK.out _ _ hSd (fun _ => ?_)
      clear hK K
      refine wpAnyH_ready (rs := [7]) (by kernel_rfl) (by simp) (AllReadyH.cons rfl (fun K hK => ?_) AllReadyH.nil)
      go_simp
      refine hK.out _ _ hSd (fun _ => ?_)
      clear hK K
      cases hfr : frP (l.drop s1.lg.length) with
      | none =>
        have hsf : sf = s1 := by
          rw [← hrp]
          obtain ⟨f', rfl⟩ : ∃ f', f = f' + 1 := ⟨f - 1, by omega⟩
          show (if s1.lg.length < l.length then _ else _) = _
          rw [if_pos (by omega), hfr]
        subst hsf
        have HFF : Hid (Calls Tryz.prog 40 #[.string (log.extract sf.lg.length log.size)] wr.drew fun e w2 => (∃ tp vp, e = .panicked [{ v := .iface tp vp, recovered := false }]) ∧ Below wr.drew.heap.size wr.drew w2) := HF0.out.mono fun e w2 ⟨q1, q2⟩ => by
          rw [hfr] at q2
          exact ⟨q2, q1⟩
        clear HF0
        refine wpAnyH_ready (rs := [8]) (by kernel_rfl) (by simp) (AllReadyH.cons rfl (fun K hK => ?_) AllReadyH.nil)
        go_simp
        refine (HFF.out).mono ?_
        rintro e w2 ⟨⟨tp, vp, rfl⟩, hb2⟩
        obtain ⟨hkv2, hkn2, e0, e1⟩ := HW2.out w2 hb2
        refine ⟨rfl, rfl, ⟨tp, vp, rfl⟩, ⟨Z1, hkv2, hkn2, z1⟩, ?_, e1, by omega⟩
        rw [blk_cell e0]; rfl
      | some p =>
        obtain ⟨c, n⟩ := p
        obtain ⟨hc1, hc2, hc3⟩ := hI.step s1 c n hi (by omega) hfr
        have HFF : Hid (Calls Tryz.prog 40 #[.string (log.extract s1.lg.length log.size)] wr.drew fun e w2 => e = .returned (.string ⟨c.toArray⟩) ∧ Below wr.drew.heap.size wr.drew w2) := HF0.out.mono fun e w2 ⟨q1, q2⟩ => by
          rw [hfr] at q2
          exact ⟨q2, q1⟩
        clear HF0
        refine wpAnyH_ready (rs := [8]) (by kernel_rfl) (by simp) (AllReadyH.cons rfl (fun K hK => ?_) AllReadyH.nil)
        go_simp
        refine (HFF.out).mono ?_
        clear HFF
        rintro e w2 ⟨rfl, hb2⟩
        obtain ⟨hkv2, hkn2, e0, e1⟩ := HW2.out w2 hb2
        have hS2 : w2.cell? ⟨w.heap.size, 0, none⟩ = some (.pointer (some ⟨Lb, 0, none⟩)) := by rw [blk_cell e0]; rfl
        have HRD := hide (redo_any hkv2 hm ⟨c.toArray⟩ (by show c.toArray.size ≤ _; simpa using hc1) hs1 (by simpa using hc2))
        refine hK.out _ _ hS2 (fun _ => ?_)
        clear hK K
        refine wpAnyH_ready (rs := [9]) (by kernel_rfl) (by simp) (AllReadyH.cons rfl (fun K hK => ?_) AllReadyH.nil)
        go_simp
        refine (HRD.out).mono ?_
        clear HRD
        rintro e w3 ⟨(⟨hne, rfl⟩ | ⟨heq, tp, vp, rfl⟩), Z3, hkv3, hkn3⟩
        · obtain ⟨q0, x0⟩ := hkn3.keep w.heap.size (blk_lt e0) z0
          have hS3 : w3.cell? ⟨w.heap.size, 0, none⟩ = some (.pointer (some ⟨Lb, 0, none⟩)) := by rw [blk_cell (q0.trans e0)]; rfl
          refine hK.out _ _ hS3 (fun _ => ?_)
          clear hK K
          refine wpAnyH_done (by kernel_rfl) ?_ _
          have hst := stepB_grows s1 ⟨c.toArray⟩
          simp only [PQ]
          go_wp2_with fail
          obtain ⟨a3, c3, hl3⟩ := hkv3.logv
          have m1 : lenAt wr Lb = s1.lg.length := by unfold lenAt; rw [hl1]
          have m3 : lenAt w3 Lb = (stepB s1 ⟨c.toArray⟩).lg.length := by unfold lenAt; rw [hl3]
          rw [m1, m3]
          refine ⟨⟨Z3, stepB s1 ⟨c.toArray⟩, f - 1, hkv3, (hkn.trans (Kn.below (hD.trans hb2))).trans hkn3, hc3, by omega, ?_⟩, by omega⟩
          rw [← hrp]
          obtain ⟨f', rfl⟩ : ∃ f', f = f' + 1 := ⟨f - 1, by omega⟩
          symm
          show (if s1.lg.length < l.length then _ else _) = _
          rw [if_pos (by omega), hfr]
          exact if_neg hne
        · obtain ⟨q0, x0⟩ := hkn3.keep w.heap.size (blk_lt e0) z0
          obtain ⟨q1, x1⟩ := hkn3.keep (w.heap.size + 1) (blk_lt e1) z1
          have hsf : sf = stepB s1 ⟨c.toArray⟩ := by
            rw [← hrp]
            obtain ⟨f', rfl⟩ : ∃ f', f = f' + 1 := ⟨f - 1, by omega⟩
            show (if s1.lg.length < l.length then _ else _) = _
            rw [if_pos (by omega), hfr]
            exact if_pos heq
          subst hsf
          refine ⟨rfl, rfl, ⟨tp, vp, rfl⟩, ⟨Z3, hkv3, hkn2.trans hkn3, x1⟩, ?_, q1.trans e1, by omega⟩
          rw [blk_cell (q0.trans e0)]; rfl
    · have hsf : sf = s1 := by
        rw [← hrp]
        cases f with
        | zero => rfl
        | succ f' =>
          show (if s1.lg.length < l.length then _ else _) = _
          rw [if_neg (by omega)]
      subst hsf
      go_wp2_with fail
      have hfin := World.cell?_setCell_same wr ⟨w.heap.size + 1, 0, none⟩ (Value.int .i64 (sf.lg.length : Int)) c1x
      have hk := kv_set hkv z1 (Nat.le_trans h.size (by omega)) 0 (Value.int .i64 (sf.lg.length : Int))
      have hn := kn_set (hknw hkn) (b := w.heap.size + 1) (by omega) 0 (Value.int .i64 (sf.lg.length : Int))
      refine leaves_cons (f := 38) (args := #[.pointer (some ⟨w.heap.size, 0, none⟩), .pointer (some ⟨w.heap.size + 1, 0, none⟩)]) (by simp) (by simp [go_sem]) ?_
      refine (rcatch_idle ⟨w.heap.size, 0, none⟩ ⟨w.heap.size + 1, 0, none⟩ _).mono ?_
      rintro e u' w'' ⟨rfl, rfl, rfl⟩
      have hpost : ∃ Z', Kv B w0 (wr.setCell ⟨w.heap.size + 1, 0, none⟩ (Value.int .i64 (sf.lg.length : Int))) Z' Lb sf ∧ Kn Z w Z' (wr.setCell ⟨w.heap.size + 1, 0, none⟩ (Value.int .i64 (sf.lg.length : Int))) := ⟨Z1, hk, hn⟩
      clear hk hn
      generalize (wr.setCell ⟨w.heap.size + 1, 0, none⟩ (Value.int .i64 (sf.lg.length : Int))) = W at hfin hpost ⊢
      simp [Leaves, settle, results, Tryz.results28, go_sem, hfin, hpost]

/-- Opening. -/
def GmW (w : World) : Prop := GmB w.heap.size w
set_option maxHeartbeats 1600000 in
theorem open_any (w : World) (hg : Gl w) (hm : GmB w.heap.size w) (log : ByteArray) (hlog : log.size ≤ 35184372088832) (I : Sv → Prop) (hI0 : I sNil) (hI : Way log.data.toList I) :
    Calls Tryz.prog 15 #[.string log] w fun e w' => ∃ Lb Z, e = .returned (.tuple #[.pointer (some ⟨Lb, 0, none⟩), .int .i64 (((rp log.size log.data.toList sNil).lg.length : Nat) : Int)]) ∧ Kv w.heap.size w w' Z Lb (rp log.size log.data.toList sNil) := by
  have HNW := hide (new_any w hg)
  go_enter Tryz.func15, Tryz.ntmps15
  go_wp2_with (go_at_call 16; refine (HNW.out).mono ?_; rintro e w1 ⟨Lb, Z, rfl, hkv⟩; clear HNW)
  have HRP := hide (replay_any hkv hm log hlog I hI0 hI)
  clear hI hI0
  refine (HRP.out).mono ?_
  rintro e w2 ⟨rfl, Z2, hkv2, hkn2⟩
  clear HRP
  go_wp2_with fail
  go_ret2
  exact ⟨Lb, Z2, rfl, hkv2⟩

end Go.Proofs.YtgcedalggnmooabGreatDoor
