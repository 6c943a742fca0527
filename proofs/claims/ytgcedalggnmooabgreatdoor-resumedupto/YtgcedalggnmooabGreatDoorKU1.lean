import Derived.Test.YtgcedalggnmooabGreatDoorKU0
import Derived.Test.YtgcedalggnmooabGreatDoorKH
namespace Go.Proofs.YtgcedalggnmooabGreatDoor
set_option linter.unusedSimpArgs false
set_option linter.unusedVariables false
open Go.RowKit
set_option maxRecDepth 100000

set_option maxHeartbeats 1600000 in
theorem played_any (a0 : Option Addr) (len cap : Nat) (hlen : len ≤ 2097152) (X : Nat → Nat → Int) (w : World) (hg : Gl w) (hx : 0 < len → ∃ b off, a0 = some ⟨b, off, none⟩ ∧ Scr w b off len X) :
    Calls Tryz.prog 7 #[.slice a0 len cap] w fun e w' => ∃ Lb Z s, e = .returned (.tuple #[.pointer (some ⟨Lb, 0, none⟩), .bool true]) ∧ Kv w.heap.size w w' Z Lb s ∧ Sc s ∧ s.lg.length ≤ 200 + 64 * len := by
  have HOP := hide (opened_any w hg)
  have HX0 := hide hx
  clear hg hx
  go_enter Tryz.func7, Tryz.ntmps7
  go_wp2_with (go_at_call 11; refine (HOP.out).mono ?_; rintro e w1 ⟨Lb, Z, rfl, hkv⟩)
  have HINI := hide hkv
  clear hkv HOP
  go_loopw [6] (fun ii wr => ∃ (k : Nat) (Z' : Nat → Prop) (s : Sv), ii = .int .i64 k ∧ k ≤ len ∧ Kv w.heap.size w wr Z' Lb s ∧ Sc s ∧ s.lg.length ≤ 200 + 64 * k) (fun ii _ => len - (intOf ii).toNat)
  case atStart => exact ⟨0, Z, s2, rfl, by omega, HINI.out, sc_s2, s2_lg⟩
  case round =>
    clear HINI
    obtain ⟨k, Z1, s, rfl, hk, hkv, hsc, hslg⟩ := hrel
    by_cases hlt : k < len
    · obtain ⟨b, off, ha0, hxs⟩ := HX0.out (by omega)
      subst ha0
      have hblt := hxs.lt
      have HX := hide hxs
      clear hxs
      have c0 : wr.cell? ⟨b, off + k * 5, none⟩ = some (.int .i64 (X k 0)) := (hkv.old.cell (p := ⟨b, off + k * 5 + 0, none⟩) hblt).trans (HX.out.cell k hlt 0 (by omega))
      have c1 := (hkv.old.cell (p := ⟨b, off + k * 5 + 1, none⟩) hblt).trans (HX.out.cell k hlt 1 (by omega))
      have c2 := (hkv.old.cell (p := ⟨b, off + k * 5 + 2, none⟩) hblt).trans (HX.out.cell k hlt 2 (by omega))
      have c3 := (hkv.old.cell (p := ⟨b, off + k * 5 + 3, none⟩) hblt).trans (HX.out.cell k hlt 3 (by omega))
      have c4 := (hkv.old.cell (p := ⟨b, off + k * 5 + 4, none⟩) hblt).trans (HX.out.cell k hlt 4 (by omega))
      have HSP := hide (spelt_x HX.out k hlt)
      have HHD : Hid (∀ w2, Below wr.heap.size wr w2 → Calls Tryz.prog 10 #[.pointer (some ⟨Lb, 0, none⟩), .string (cmdX X k)] w2 fun e w' => ∃ r, e = .returned (.string r) ∧ ∃ Z', Kv w.heap.size w w' Z' Lb (stepV s (.ok (spX X k)))) := fun w2 hb2 => (handle_x (hkv.below hb2) (by omega) X k).mono (fun e w' h => ⟨_, h.1, h.2.imp (fun Z' h' => h'.1)⟩)
      have HLN : Hid ((stepV s (.ok (spX X k))).lg.length ≤ 200 + 64 * (k + 1)) := by have := spX_lg X k s; unfold Hid; omega
      have HSC : Hid (Sc (stepV s (.ok (spX X k)))) := hsc.step _ _ _ _ _
      generalize cmdX X k = t at *
      generalize X k 0 = x0 at *
      generalize X k 1 = x1 at *
      generalize X k 2 = x2 at *
      generalize X k 3 = x3 at *
      generalize X k 4 = x4 at *
      clear hkv hsc
      go_wp2_with (go_at_call 13; refine (HSP.out _).mono ?_; rintro e w2 ⟨rfl, hb2⟩; have HH2 := hide (HHD.out w2 hb2))
      refine (HH2.out).mono ?_
      rintro e w3 ⟨r, rfl, Z3, hkv3⟩
      have HK3 := hide hkv3
      clear hkv3 HH2 HHD
      go_wp2_with fail
      go_roundw
      case rel => exact ⟨k + 1, Z3, _, by go_num, by omega, HK3.out, HSC.out, HLN.out⟩
      case measure => simp [intOf]; omega
    · obtain rfl : k = len := by omega
      have HKV := hide hkv
      have HSC := hide hsc
      clear hkv hsc hlt
      go_wp2_with fail
      go_ret2
      exact ⟨Lb, Z1, s, rfl, HKV.out, HSC.out, hslg⟩

/-- What all lots show, one behind the other; and the supply of all goods. -/
def lkB (s : Sv) : Nat → List UInt8
  | 0 => []
  | k + 1 => lkB s k ++ repV s (.ok (11, [k + 1])) ++ [47]
def spB (s : Sv) : Nat → List UInt8
  | 0 => lkB s 14
  | k + 1 => spB s k ++ repV s (.ok (12, [k + 1, 0])) ++ [47]

theorem srv_small {B : Nat} {w0 w : World} {Z : Nat → Prop} {Lb : Nat} {s : Sv} (h : Kv B w0 w Z Lb s) (a b : Nat) : ∀ n ∈ supL s.rcs s.td a b s.ls, n < 9223372036854775808 := by
  have hl : (srvI s.rcs s.td a b s.ls s.ls.length).length ≤ 30 := Nat.le_trans (srvI_len _ _ _ _ _) h.room
  intro n hn
  simp only [supL, List.mem_cons, List.not_mem_nil, or_false] at hn
  rcases hn with rfl | rfl
  · omega
  · have := freeOf_le s.ls h.ok (srvI s.rcs s.td a b s.ls s.ls.length) (fun i hi => by simp [srvI] at hi; exact hi.1)
    omega

theorem rep_look_len {B : Nat} {w0 w : World} {Z : Nat → Prop} {Lb : Nat} {s : Sv} (h : Kv B w0 w Z Lb s) (i : Nat) : (repV s (.ok (11, [i]))).length ≤ 100 := by
  rw [(lookV s i).1, List.length_cons]
  obtain ⟨h1, h2⟩ := lookN_small h i
  have := Pl.toldB_len _ h1
  omega
theorem rep_sup_len {B : Nat} {w0 w : World} {Z : Nat → Prop} {Lb : Nat} {s : Sv} (h : Kv B w0 w Z Lb s) (a b : Nat) : (repV s (.ok (12, [a, b]))).length ≤ 100 := by
  rw [(supV s a b).1, List.length_cons]
  have := Pl.toldB_len _ (srv_small h a b)
  simp only [supL, List.length_cons, List.length_nil] at this ⊢
  omega
theorem lkB_len {B : Nat} {w0 w : World} {Z : Nat → Prop} {Lb : Nat} {s : Sv} (h : Kv B w0 w Z Lb s) : ∀ k, (lkB s k).length ≤ 101 * k
  | 0 => by simp [lkB]
  | k + 1 => by
    have := lkB_len h k
    have := rep_look_len h (k + 1)
    simp only [lkB, List.length_append, List.length_cons, List.length_nil]
    omega
theorem spB_len {B : Nat} {w0 w : World} {Z : Nat → Prop} {Lb : Nat} {s : Sv} (h : Kv B w0 w Z Lb s) : ∀ k, (spB s k).length ≤ 1414 + 101 * k
  | 0 => lkB_len h 14
  | k + 1 => by
    have := spB_len h k
    have := rep_sup_len h (k + 1) 0
    simp only [spB, List.length_append, List.length_cons, List.length_nil]
    omega

/-- A command written out, and told to the larder. -/
theorem lit_cmd (c : Nat) (h1 : 1 ≤ c) (h2 : c ≤ 12) (ns : List Nat) (hl : ns.length = (Pl.kindsL c).length) (hn : ∀ n ∈ ns, n < 9223372036854775808) (hm : Pl.mays (Pl.kindsL c) ns = true) {B : Nat} {w0 w : World} {Z : Nat → Prop} {Lb : Nat} {s : Sv} (h : Kv B w0 w Z Lb s) (hlg : c ≤ 10 → s.lg.length ≤ 35184372088832) :
    Calls Tryz.prog 10 #[.pointer (some ⟨Lb, 0, none⟩), .string ⟨(Pl.cmdB c ns).toArray⟩] w fun e w' => e = .returned (.string ⟨(repV s (.ok (c, ns))).toArray⟩) ∧ ∃ Z', Kv B w0 w' Z' Lb (stepV s (.ok (c, ns))) ∧ Kn Z w Z' w' := by
  have hk := kinds_len h1 h2
  have hbl : (Pl.cmdB c ns).length ≤ 100 := by
    have := Pl.toldB_len ns hn
    unfold Pl.cmdB; rw [List.length_cons]; omega
  exact handle_kv h c ns h2 (cmd_cmdB h1 h2 hl hn hm) (by omega) hlg

set_option maxHeartbeats 1600000 in
theorem looked_any {B : Nat} {w0 w : World} {Z : Nat → Prop} {Lb : Nat} {s : Sv} (h : Kv B w0 w Z Lb s) :
    Calls Tryz.prog 8 #[.pointer (some ⟨Lb, 0, none⟩)] w fun e w' => e = .returned (.string ⟨(spB s 9).toArray⟩) ∧ ∃ Z', Kv B w0 w' Z' Lb s ∧ Kn Z w Z' w' := by
  have HC := hide (fun (i : Nat) (hi : i ≤ 14) (w1 : World) => kcommand_lit 11 (by omega) [i] (by simp) (by intro n hn; simp at hn; omega) w1)
  have HC' : Hid (∀ (i : Nat) (hi : i ≤ 14) (w1 : World), Calls Tryz.prog 22 #[.int .i64 11, .slice (some ⟨w1.heap.size, 0, none⟩) 1 1] (w1.alloc (.cells #[.int .i64 (i : Int)] 3)) fun e w' => e = .returned (.string ⟨(Pl.cmdB 11 [i]).toArray⟩) ∧ Below w1.heap.size w1 w') := fun i hi w1 => HC.out i hi w1
  have HD := hide (fun (i : Nat) (hi : i ≤ 14) (w1 : World) => kcommand_lit 12 (by omega) [i, 0] (by simp) (by intro n hn; simp at hn; omega) w1)
  have HD' : Hid (∀ (i : Nat) (hi : i ≤ 14) (w1 : World), Calls Tryz.prog 22 #[.int .i64 12, .slice (some ⟨w1.heap.size, 0, none⟩) 2 2] (w1.alloc (.cells #[.int .i64 (i : Int), .int .i64 0] 3)) fun e w' => e = .returned (.string ⟨(Pl.cmdB 12 [i, 0]).toArray⟩) ∧ Below w1.heap.size w1 w') := fun i hi w1 => HD.out i hi w1
  have HL : Hid (∀ (i : Nat), 1 ≤ i → i ≤ 14 → ∀ (w1 : World) (Z1 : Nat → Prop), Kv B w0 w1 Z1 Lb s → Calls Tryz.prog 10 #[.pointer (some ⟨Lb, 0, none⟩), .string ⟨(Pl.cmdB 11 [i]).toArray⟩] w1 fun e w' => e = .returned (.string ⟨(repV s (.ok (11, [i]))).toArray⟩) ∧ ∃ Z', Kv B w0 w' Z' Lb s ∧ Kn Z1 w1 Z' w') := fun i h1 h2 w1 Z1 hk => by
    have := lit_cmd 11 (by omega) (by omega) [i] rfl (by intro n hn; simp at hn; omega) (by simp [Pl.mays, Pl.kindsL, Pl.mayB]; omega) hk (fun q => absurd q (by omega))
    rw [(lookV s i).2] at this
    exact this
  have HS : Hid (∀ (i : Nat), 1 ≤ i → i ≤ 14 → ∀ (w1 : World) (Z1 : Nat → Prop), Kv B w0 w1 Z1 Lb s → Calls Tryz.prog 10 #[.pointer (some ⟨Lb, 0, none⟩), .string ⟨(Pl.cmdB 12 [i, 0]).toArray⟩] w1 fun e w' => e = .returned (.string ⟨(repV s (.ok (12, [i, 0]))).toArray⟩) ∧ ∃ Z', Kv B w0 w' Z' Lb s ∧ Kn Z1 w1 Z' w') := fun i h1 h2 w1 Z1 hk => by
    have := lit_cmd 12 (by omega) (by omega) [i, 0] rfl (by intro n hn; simp at hn; omega) (by simp [Pl.mays, Pl.kindsL, Pl.mayB]; omega) hk (fun q => absurd q (by omega))
    rw [(supV s i 0).2] at this
    exact this
  have HINI := hide h
  clear h HC HD
  go_enter Tryz.func8, Tryz.ntmps8
  go_wp2_with fail
  go_loopw [3, 4, 5] (fun sv ii _ wr => ∃ (k : Nat) (Z' : Nat → Prop), sv = .string ⟨(lkB s k).toArray⟩ ∧ ii = .int .i64 ((k + 1 : Nat) : Int) ∧ k ≤ 14 ∧ Kv B w0 wr Z' Lb s ∧ Kn Z w Z' wr) (fun _ ii _ _ => 15 - (intOf ii).toNat)
  case atStart => exact ⟨0, Z, rfl, rfl, by omega, HINI.out, Kn.refl _ _⟩
  case round =>
    obtain ⟨k, Z1, rfl, rfl, hk, hkv, hkn⟩ := hrel
    have hsl := lkB_len hkv k
    by_cases hlt : k < 14
    · have HC1 := hide (HC'.out (k + 1) (by omega) wr)
      have HL1 : Hid (∀ w1, Below wr.heap.size wr w1 → Calls Tryz.prog 10 #[.pointer (some ⟨Lb, 0, none⟩), .string ⟨(Pl.cmdB 11 [k + 1]).toArray⟩] w1 fun e w' => e = .returned (.string ⟨(repV s (.ok (11, [k + 1]))).toArray⟩) ∧ ∃ Z', Kv B w0 w' Z' Lb s ∧ Kn Z w Z' w') := fun w1 hb => (HL.out (k + 1) (by omega) (by omega) w1 Z1 (hkv.below hb)).mono (fun e w' hh => ⟨hh.1, by obtain ⟨Z', q1, q2⟩ := hh.2; exact ⟨Z', q1, (hkn.trans (Kn.below hb)).trans q2⟩⟩)
      have hrl := rep_look_len hkv (k + 1)
      have HST : Hid (lkB s (k + 1) = lkB s k ++ repV s (.ok (11, [k + 1])) ++ [47]) := rfl
      generalize Pl.cmdB 11 [k + 1] = cb at *
      generalize repV s (.ok (11, [k + 1])) = rb at *
      generalize lkB s k = pb at *
      clear hkv hkn
      go_wp2_with (go_at_call 22; refine (HC1.out).mono ?_; rintro e w2 ⟨rfl, hb2⟩; have HH2 := hide (HL1.out w2 hb2); clear hb2)
      refine (HH2.out).mono ?_
      rintro e w3 ⟨rfl, Z3, hkv3, hkn3⟩
      have HK3 := hide hkv3
      have HN3 := hide hkn3
      clear hkv3 hkn3 HH2
      go_wp2_with fail
      go_roundw
      case rel => exact ⟨k + 1, Z3, by rw [HST.out]; rfl, by go_num, by omega, HK3.out, HN3.out⟩
      case measure => simp [intOf]; omega
    · obtain rfl : k = 14 := by omega
      rw [show ((14 + 1 : Nat) : Int) = 15 from rfl]
      have HKV := hide hkv
      have HKN := hide hkn
      clear hkv hkn hlt HL
      go_wp2_with fail
      go_loopw [3, 6, 7] (fun sv ii _ wr => ∃ (k : Nat) (Z' : Nat → Prop), sv = .string ⟨(spB s k).toArray⟩ ∧ ii = .int .i64 ((k + 1 : Nat) : Int) ∧ k ≤ 9 ∧ Kv B w0 wr Z' Lb s ∧ Kn Z w Z' wr) (fun _ ii _ _ => 10 - (intOf ii).toNat)
      case atStart => exact ⟨0, Z1, rfl, rfl, by omega, HKV.out, HKN.out⟩
      case round =>
        clear HKV HKN hsl
        obtain ⟨k, Z2, rfl, rfl, hk, hkv, hkn⟩ := hrel
        have hsl := spB_len hkv k
        by_cases hlt : k < 9
        · have HC1 := hide (HD'.out (k + 1) (by omega) wr)
          have HL1 : Hid (∀ w1, Below wr.heap.size wr w1 → Calls Tryz.prog 10 #[.pointer (some ⟨Lb, 0, none⟩), .string ⟨(Pl.cmdB 12 [k + 1, 0]).toArray⟩] w1 fun e w' => e = .returned (.string ⟨(repV s (.ok (12, [k + 1, 0]))).toArray⟩) ∧ ∃ Z', Kv B w0 w' Z' Lb s ∧ Kn Z w Z' w') := fun w1 hb => (HS.out (k + 1) (by omega) (by omega) w1 Z2 (hkv.below hb)).mono (fun e w' hh => ⟨hh.1, by obtain ⟨Z', q1, q2⟩ := hh.2; exact ⟨Z', q1, (hkn.trans (Kn.below hb)).trans q2⟩⟩)
          have hrl := rep_sup_len hkv (k + 1) 0
          have HST : Hid (spB s (k + 1) = spB s k ++ repV s (.ok (12, [k + 1, 0])) ++ [47]) := rfl
          generalize Pl.cmdB 12 [k + 1, 0] = cb at *
          generalize repV s (.ok (12, [k + 1, 0])) = rb at *
          generalize spB s k = pb at *
          clear hkv hkn
          go_wp2_with (go_at_call 22; refine (HC1.out).mono ?_; rintro e w2 ⟨rfl, hb2⟩; have HH2 := hide (HL1.out w2 hb2); clear hb2)
          refine (HH2.out).mono ?_
          rintro e w3 ⟨rfl, Z3, hkv3, hkn3⟩
          have HK3 := hide hkv3
          have HN3 := hide hkn3
          clear hkv3 hkn3 HH2
          go_wp2_with fail
          go_roundw
          case rel => exact ⟨k + 1, Z3, by rw [HST.out]; rfl, by go_num, by omega, HK3.out, HN3.out⟩
          case measure => simp [intOf]; omega
        · obtain rfl : k = 9 := by omega
          have HKV := hide hkv
          have HKN := hide hkn
          clear hkv hkn hlt
          go_wp2_with fail
          go_ret
          exact ⟨rfl, Z2, HKV.out, HKN.out⟩

theorem looked_x {j B : Nat} {w0 w : World} {Z : Nat → Prop} {Lb : Nat} {s : Sv} (h : Kx j B w0 w Z Lb s) :
    Calls Tryz.prog 8 #[.pointer (some ⟨Lb, 0, none⟩)] w fun e w' => e = .returned (.string ⟨(spB s 9).toArray⟩) ∧ ∃ Z', Kx j B w0 w' Z' Lb s ∧ Kn Z w Z' w' := by
  obtain ⟨lg, hlg, hk⟩ := h
  refine (looked_any hk).mono ?_
  rintro e w' ⟨he, Z', hkv, hkn⟩
  exact ⟨he, Z', ⟨lg, hlg, hkv⟩, hkn⟩

end Go.Proofs.YtgcedalggnmooabGreatDoor
