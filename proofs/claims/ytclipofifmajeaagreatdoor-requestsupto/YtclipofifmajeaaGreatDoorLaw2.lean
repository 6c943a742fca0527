import Derived.Test.YtclipofifmajeaaGreatDoorTop1
import Derived.Test.YtclipofifmajeaaGreatDoorGd
namespace Go.Proofs.YtclipofifmajeaaGreatDoor
set_option linter.unusedSimpArgs false
set_option linter.unusedVariables false
open Go.RowKit
set_option maxRecDepth 100000

theorem PV.bound {w : World} {S : Nat} {M : Mx} {v : Value} {td : Nat} {bs : List Nat} {pvs : List Value} {ls : List L} {os : List O} {Z : Nat → Prop} (h : PV os w S M v td bs pvs ls) (hi : PIn Z S M v bs pvs) : PIn (fun k => Z k ∧ k < w.heap.size) S M v bs pvs where
  s := ⟨hi.s, blk_lt h.store⟩
  m := by obtain ⟨c, hc⟩ := h.recalls; exact ⟨hi.m, blk_lt hc⟩
  mo := by obtain ⟨_, _, hc⟩ := h.maps.mo; exact ⟨hi.mo, blk_lt hc⟩
  mh := by obtain ⟨_, _, hc⟩ := h.maps.mh; exact ⟨hi.mh, blk_lt hc⟩
  v := fun g hg => by obtain ⟨cs, hc⟩ := own_ty h.row hg; exact ⟨hi.v g hg, blk_lt hc⟩
  b := fun k hk => by
    refine ⟨hi.b k hk, ?_⟩
    obtain ⟨i, hil, rfl⟩ := List.getElem_of_mem hk
    have := blk_lt (h.lot i (by rw [← h.len]; exact hil))
    rw [List.getD_eq_getElem?_getD, List.getElem?_eq_getElem hil] at this
    simpa using this
  p := fun pv hp q hq => by
    refine ⟨hi.p pv hp q hq, ?_⟩
    obtain ⟨i, hil, rfl⟩ := List.getElem_of_mem hp
    have hpar := h.par i (by rw [← h.plen]; exact hil)
    rw [List.getD_eq_getElem?_getD, List.getElem?_eq_getElem hil] at hpar
    simp only [Option.getD_some] at hpar
    rcases hpar with h1 | ⟨q', n, cap, cs, h1, h2, h3, h4⟩
    · rw [h1] at hq; cases hq
    · rw [h1] at hq; cases hq; exact blk_lt h3

theorem PL.bound {Z : Nat → Prop} {w : World} {Lb td : Nat} {ls : List L} {os : List O} (h : PL os Z w Lb td ls) : PL os (fun k => Z k ∧ k < w.heap.size) w Lb td ls := by
  obtain ⟨S, Zs, h1, h2, h3, h4, M, v, bs, pvs, h5, h6⟩ := h
  exact ⟨S, fun k => Zs k ∧ k < w.heap.size, h1, ⟨h2, blk_lt h1⟩, fun h => h3 h.1, fun k hk => ⟨h4 k hk.1, hk.2⟩, M, v, bs, pvs, h5, h5.bound h6⟩
theorem PL.congr {Z : Nat → Prop} {w w' : World} {Lb td : Nat} {ls : List L} {os : List O} (h : PL os Z w Lb td ls) (hq : ∀ k, Z k → w'.heap[k]? = w.heap[k]?) : PL os Z w' Lb td ls := by
  obtain ⟨S, Zs, h1, h2, h3, h4, M, v, bs, pvs, h5, h6⟩ := h
  exact ⟨S, Zs, (hq Lb h2).trans h1, h2, h3, h4, M, v, bs, pvs, h5.congr h6 (fun k hk => hq k (h4 k hk)), h6⟩
theorem RI.bound {Z : Nat → Prop} {w : World} {R td : Nat} {rec : ByteArray} {ls : List L} {os : List O} (h : RI os Z w R td rec ls) : RI os (fun k => Z k ∧ k < w.heap.size) w R td rec ls := by
  obtain ⟨v, fs, ro, h1, h2, h3, h4⟩ := h
  exact ⟨v, fs, ro, h1, ⟨h2, blk_lt h1.store⟩, fun g hg => by obtain ⟨cs, hc⟩ := own_ty h1.row hg; exact ⟨h3 g hg, blk_lt hc⟩, fun g hg => ⟨h4 g hg, h1.ord.lt hg⟩⟩

theorem Gl.kp {Z : Nat → Prop} {w w' : World} (h : Gl w) (k : Kp Z w w') (h0 : ¬ Z 0) (h1 : ¬ Z 1) : Gl w' := by
  obtain ⟨⟨t0, v0, q0⟩, ⟨t1, v1, q1⟩, q2⟩ := h
  exact ⟨⟨t0, v0, (World.cell?_of_block (a := ⟨0, 0, none⟩) (k.block 0 (by omega) h0)).trans q0⟩, ⟨t1, v1, (World.cell?_of_block (a := ⟨1, 0, none⟩) (k.block 1 (by omega) h1)).trans q1⟩, Nat.le_trans q2 k.size⟩

theorem good_stepS {os : List O} {td : Nat} {ls : List L} (h : Good os ls) (c : Pl.Cmd) : Good os (stepS td ls c).2.2 := by
  cases c with
  | error e => exact h
  | ok p =>
    obtain ⟨n, ns⟩ := p
    unfold stepS
    split
    · exact h
    · split <;> exact h
    · rename_i a b c d heq
      show Good os (if roomC ls a = 0 then ls ++ [newL ls a b c d] else ls)
      by_cases hr : roomC ls a = 0
      · rw [if_pos hr]; exact h.snoc (room_fresh hr) rfl rfl
      · rw [if_neg hr]; exact h
    · split <;> exact h
    · exact h
    · exact h

/-- The pair at Q: both sides stand alike; nothing older than B has turned since w0. -/
structure Inv (B : Nat) (w0 w : World) (Q N : Nat) : Prop where
  old : Below B w0 w
  size : B ≤ w.heap.size
  two : 2 ≤ B
  gl : Gl w
  q : B ≤ Q
  both : ∃ Lb R Zp Zr td ls os rec, w.heap[Q]? = some (.cells #[.pointer (some ⟨Lb, 0, none⟩), .pointer (some ⟨R, 0, none⟩)] 43 (0, 0)) ∧ PL os Zp w Lb td ls ∧ RI os Zr w R td rec ls ∧
    (∀ k, Zp k → B ≤ k ∧ k < w.heap.size ∧ k ≠ Q ∧ ¬ Zr k) ∧ (∀ k, Zr k → B ≤ k ∧ k < w.heap.size ∧ k ≠ Q) ∧ rec.size ≤ N ∧ Good os ls

theorem Inv.below {B Q N : Nat} {w0 w w' : World} (h : Inv B w0 w Q N) (hb : Below w.heap.size w w') : Inv B w0 w' Q N := by
  obtain ⟨Lb, R, Zp, Zr, td, ls, os, rec, h1, h2, h3, h4, h5, h6⟩ := h.both
  have hs := hb.size
  exact ⟨h.old.trans (hb.mono h.size), Nat.le_trans h.size hs, h.two, h.gl.below hb, h.q, Lb, R, Zp, Zr, td, ls, os, rec, (hb.block Q (blk_lt h1)).trans h1, h2.below hb, h3.below hb,
    fun k hk => ⟨(h4 k hk).1, by have := (h4 k hk).2.1; omega, (h4 k hk).2.2⟩, fun k hk => ⟨(h5 k hk).1, by have := (h5 k hk).2.1; omega, (h5 k hk).2.2⟩, h6⟩

/-- Both have taken a step. -/
theorem Inv.step {B Q N n Lb R td' : Nat} {w0 w2 w3 w5 : World} {Zp Zr : Nat → Prop} {ls' : List L} {os' : List O} {rec' : ByteArray} (ho : Below B w0 w2) (hsz : B ≤ w2.heap.size) (htwo : 2 ≤ B) (hgl : Gl w2) (hQ : B ≤ Q)
    (h1 : w2.heap[Q]? = some (.cells #[.pointer (some ⟨Lb, 0, none⟩), .pointer (some ⟨R, 0, none⟩)] 43 (0, 0)))
    (h4 : ∀ k, Zp k → B ≤ k ∧ k < w2.heap.size ∧ k ≠ Q ∧ ¬ Zr k) (h5 : ∀ k, Zr k → B ≤ k ∧ k < w2.heap.size ∧ k ≠ Q)
    (hk3 : Kp Zp w2 w3) (hpl : PL os' (Zn Zp w2) w3 Lb td' ls') (hk5 : Kp Zr w3 w5) (hri : RI os' (Zn Zr w3) w5 R td' rec' ls') (hrec : rec'.size ≤ N + n) (hgo : Good os' ls') : Inv B w0 w5 Q (N + n) := by
  have hQl := blk_lt h1
  have hQp : ¬ Zp Q := fun h => (h4 Q h).2.2.1 rfl
  have hQr : ¬ Zr Q := fun h => (h5 Q h).2.2 rfl
  have hs3 := hk3.size
  have hs5 := hk5.size
  have h3Q := (hk3.block Q hQl hQp).trans h1
  have h5Q := (hk5.block Q (blk_lt h3Q) hQr).trans h3Q
  have old3 : Below B w2 w3 := ⟨hk3.os, hk3.tape, hk3.output, hk3.size, fun k hk => hk3.block k (by omega) (fun h => by have := (h4 k h).1; omega)⟩
  have old5 : Below B w3 w5 := ⟨hk5.os, hk5.tape, hk5.output, hk5.size, fun k hk => hk5.block k (by omega) (fun h => by have := (h5 k h).1; omega)⟩
  refine ⟨(ho.trans old3).trans old5, by omega, htwo, (hgl.kp hk3 (fun h => by have := (h4 0 h).1; omega) (fun h => by have := (h4 1 h).1; omega)).kp hk5 (fun h => by have := (h5 0 h).1; omega) (fun h => by have := (h5 1 h).1; omega), hQ,
    Lb, R, fun k => Zn Zp w2 k ∧ k < w3.heap.size, fun k => Zn Zr w3 k ∧ k < w5.heap.size, td', ls', os', rec', h5Q, ?_, hri.bound, ?_, ?_, hrec, hgo⟩
  · refine hpl.bound.congr (fun k hk => hk5.block k hk.2 (fun hz => ?_))
    rcases hk.1 with h | h
    · exact (h4 k h).2.2.2 hz
    · have := (h5 k hz).2.1; omega
  · rintro k ⟨hk, hlt⟩
    refine ⟨?_, by omega, ?_, ?_⟩
    · rcases hk with h | h
      · exact (h4 k h).1
      · omega
    · rcases hk with h | h
      · exact (h4 k h).2.2.1
      · omega
    · rintro ⟨hz, _⟩
      rcases hk with h | h
      · rcases hz with hz | hz
        · exact (h4 k h).2.2.2 hz
        · have := (h4 k h).2.1; omega
      · rcases hz with hz | hz
        · have := (h5 k hz).2.1; omega
        · omega
  · rintro k ⟨hk, hlt⟩
    refine ⟨?_, hlt, ?_⟩
    · rcases hk with h | h
      · exact (h5 k h).1
      · omega
    · rcases hk with h | h
      · exact (h5 k h).2.2
      · omega

end Go.Proofs.YtclipofifmajeaaGreatDoor
