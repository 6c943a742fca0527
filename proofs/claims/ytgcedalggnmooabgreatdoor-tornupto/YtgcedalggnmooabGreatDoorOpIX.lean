import Derived.Test.YtgcedalggnmooabGreatDoorOpH
namespace Go.Proofs.YtgcedalggnmooabGreatDoor
set_option linter.unusedSimpArgs false
set_option linter.unusedVariables false
open Go.RowKit
set_option maxRecDepth 100000

set_option maxHeartbeats 1600000 in
theorem played_g (R : Sv → Prop) (hR0 : R s2) (a0 : Option Addr) (len cap : Nat) (hlen : len ≤ 2097152) (X : Nat → Nat → Int) (w : World) (hR : ∀ s i, Good s.os s.ls → R s → R (stepV s (.ok (spX X i)))) (hg : Gl w) (hx : 0 < len → ∃ b off, a0 = some ⟨b, off, none⟩ ∧ Scr w b off len X) :
    Calls Tryz.prog 7 #[.slice a0 len cap] w fun e w' => ∃ Lb Z s, e = .returned (.tuple #[.pointer (some ⟨Lb, 0, none⟩), .bool true]) ∧ Kv w.heap.size w w' Z Lb s ∧ R s ∧ s.lg.length ≤ 200 + 64 * len := by
  have HOP := hide (opened_any w hg)
  have HX0 := hide hx
  clear hg hx
  go_enter Tryz.func7, Tryz.ntmps7
  go_wp2_with (go_at_call 11; refine (HOP.out).mono ?_; rintro e w1 ⟨Lb, Z, rfl, hkv⟩)
  have HINI := hide hkv
  clear hkv HOP
  go_loopw [6] (fun ii wr => ∃ (k : Nat) (Z' : Nat → Prop) (s : Sv), ii = .int .i64 k ∧ k ≤ len ∧ Kv w.heap.size w wr Z' Lb s ∧ R s ∧ s.lg.length ≤ 200 + 64 * k) (fun ii _ => len - (intOf ii).toNat)
  case atStart => exact ⟨0, Z, s2, rfl, by omega, HINI.out, hR0, s2_lg⟩
  case round =>
    clear HINI
    obtain ⟨k, Z1, s, rfl, hk, hkv, hsc, hslg⟩ := hrel
    by_cases hlt : k < len
    · obtain ⟨b, off, ha0, hxs⟩ := HX0.out (by omega)
      subst ha0
      have hblt := hxs.lt
      have HX := hide hxs
      clear hxs
      have c0 : wr.cell? ⟨b, off + k * 5, none⟩ = some (.int .i64 (X k 0)) := (hkv.old.cell (p := ⟨b, off + k * 5 + 0, none⟩) hblt).trans (HX.out.cell k hlt 0 (by omega))
      have c1 := (hkv.old.cell (p := ⟨b, off + k * 5 + 1, none⟩) hblt).trans (HX.out.cell k hlt 1 (by omega))
      have c2 := (hkv.old.cell (p := ⟨b, off + k * 5 + 2, none⟩) hblt).trans (HX.out.cell k hlt 2 (by omega))
      have c3 := (hkv.old.cell (p := ⟨b, off + k * 5 + 3, none⟩) hblt).trans (HX.out.cell k hlt 3 (by omega))
      have c4 := (hkv.old.cell (p := ⟨b, off + k * 5 + 4, none⟩) hblt).trans (HX.out.cell k hlt 4 (by omega))
      have HSP := hide (spelt_x HX.out k hlt)
      have HHD : Hid (∀ w2, Below wr.heap.size wr w2 → Calls Tryz.prog 10 #[.pointer (some ⟨Lb, 0, none⟩), .string (cmdX X k)] w2 fun e w' => ∃ r, e = .returned (.string r) ∧ ∃ Z', Kv w.heap.size w w' Z' Lb (stepV s (.ok (spX X k)))) := fun w2 hb2 => (handle_x (hkv.below hb2) (by omega) X k).mono (fun e w' h => ⟨_, h.1, h.2.imp (fun Z' h' => h'.1)⟩)
      have HLN : Hid ((stepV s (.ok (spX X k))).lg.length ≤ 200 + 64 * (k + 1)) := by have := spX_lg X k s; unfold Hid; omega
      have HSC : Hid (R (stepV s (.ok (spX X k)))) := hR _ _ hkv.good hsc
      generalize cmdX X k = t at *
      generalize X k 0 = x0 at *
      generalize X k 1 = x1 at *
      generalize X k 2 = x2 at *
      generalize X k 3 = x3 at *
      generalize X k 4 = x4 at *
      clear hkv hsc
      go_wp2_with (go_at_call 13; refine (HSP.out _).mono ?_; rintro e w2 ⟨rfl, hb2⟩; have HH2 := hide (HHD.out w2 hb2))
      refine (HH2.out).mono ?_
      rintro e w3 ⟨r, rfl, Z3, hkv3⟩
      have HK3 := hide hkv3
      clear hkv3 HH2 HHD
      go_wp2_with fail
      go_roundw
      case rel => exact ⟨k + 1, Z3, _, by go_num, by omega, HK3.out, HSC.out, HLN.out⟩
      case measure => simp [intOf]; omega
    · obtain rfl : k = len := by omega
      have HKV := hide hkv
      have HSC := hide hsc
      clear hkv hsc hlt
      go_wp2_with fail
      go_ret2
      exact ⟨Lb, Z1, s, rfl, HKV.out, HSC.out, hslg⟩


theorem GmB.up {B : Nat} {w0 w : World} (h : GmB B w0) (hb : Below B w0 w) (hs : B ≤ w.heap.size) : GmB w.heap.size w := by
  have := h.at hb
  exact ⟨this.nogo, this.chk, Nat.lt_of_lt_of_le this.lt1 hs, Nat.lt_of_lt_of_le this.lt2 hs⟩
theorem scrap13 {B : Nat} {w0 w : World} {Z : Nat → Prop} {Lb : Nat} {s : Sv} (h : Kv B w0 w Z Lb s) (ht : T13 s) (hlg : s.lg.length ≤ 35184372088832) :
    Calls Tryz.prog 20 #[.pointer (some ⟨Lb, 0, none⟩), .int .i64 10, .slice (some ⟨w.heap.size, 0, none⟩) 2 2] (w.alloc (.cells #[.int .i64 13, .int .i64 1] 3)) fun e w' => ∃ Z' v, e = .returned (.tuple #[.int .i64 0, v]) ∧ Kv B w0 w' Z' Lb (stepV s (.ok (10, [13, 1]))) := by
  have hr : repV s (.ok (10, [13, 1])) = UInt8.ofNat 0 :: Pl.toldB [] := by
    show [UInt8.ofNat (scrapC s.ls 13 1)] = _
    rw [ht.scrap]; rfl
  have := ask_lit h 10 (by omega) (by omega) (fun _ => hlg) [13, 1] rfl (by intro n hn; simp at hn; omega) (by kernel_rfl) 0 [] (by omega) hr (by simp) (by simp)
  refine this.mono ?_
  rintro e w' ⟨Z', v, he, hkv, _⟩
  exact ⟨Z', v, he, hkv⟩
theorem scrapLg {s : Sv} (ht : T13 s) : Lg1 s (10, [13, 1]) := by
  have hr : repV s (.ok (10, [13, 1])) = [0] := by
    show [UInt8.ofNat (scrapC s.ls 13 1)] = _
    rw [ht.scrap]; rfl
  exact ⟨⟨by decide, by decide⟩, cmd_cmdB (c := 10) (ns := [13, 1]) (by omega) (by omega) rfl (by intro n hn; simp at hn; omega) (by kernel_rfl), of_decide_eq_true (by kernel_rfl), by rw [hr]; rfl⟩
/-- The frame of Scrap 13 1, but for its first byte. -/
def f13 : List UInt8 := [10, 13, 1] ++ chkB [3, 10, 13, 1]
theorem f13_len : f13.length = 7 := by unfold f13; rw [List.length_append, chkB_len]; rfl
theorem frm13 : frmB (Pl.cmdB 10 [13, 1]) = 3 :: f13 := by
  have e : Pl.cmdB 10 [13, 1] = [10, 13, 1] := by kernel_rfl
  rw [e, frm_short (by decide)]
  rfl
theorem f13_ok : (f13.drop 3).take 4 = chkB (3 :: f13.take 3) := by
  unfold f13
  show (chkB [3, 10, 13, 1]).take 4 = _
  rw [List.take_of_length_le (by rw [chkB_len]; omega)]
  rfl
/-- A torn frame is not read. -/
theorem torn_none {t : List UInt8} (ht7 : t.length = 7) {X at0 : Nat} (hat : at0 < 56) (h1 : n7 t = n7 f13 ^^^ X) (h2 : X < 2 ^ (56 - at0)) (h3 : X % 2 ^ (24 - at0) = 0) (hne : t ≠ f13) : frP (3 :: t) = none := by
  rw [frP_short 3 (by decide)]
  have e3 : (3 : UInt8).toNat = 3 := rfl
  rw [e3, if_neg (by omega), if_neg (by omega), if_neg]
  intro hch
  apply hne
  have hX : X = 0 := by
    refine torn_frame f13_len ht7 f13_ok hch (b := 24 - at0) (by omega) ?_ h3 h1
    rw [two32, ← Nat.pow_add]
    exact Nat.lt_of_lt_of_le h2 (Nat.pow_le_pow_right (by omega) (by omega))
  rw [hX, Nat.xor_zero] at h1
  exact n7_inj f13_len ht7 h1

end Go.Proofs.YtgcedalggnmooabGreatDoor

namespace Go.Proofs.YtgcedalggnmooabGreatDoor
set_option linter.unusedSimpArgs false
set_option linter.unusedVariables false
open Go.RowKit
set_option maxRecDepth 100000

set_option maxHeartbeats 3200000 in
theorem torn_any (a0 : Option Addr) (len cap : Nat) (hlen : len ≤ 2097152) (X : Nat → Nat → Int) (x1 x2 : Int) (hr1 : Raw x1) (hr2 : Raw x2) (w : World) (hg : Gl w) (hm : GmB w.heap.size w) (hx : 0 < len → ∃ b off, a0 = some ⟨b, off, none⟩ ∧ Scr w b off len X) :
    Calls Tryz.prog 6 #[.slice a0 len cap, .int .i64 x1, .int .i64 x2] w fun e w' => e = .returned (.bool true) ∧ Below w.heap.size w w' := by
  have HPL := hide (played_g (fun s => Lgd s ∧ T13 s) ⟨lgd_s2, t13_s2⟩ a0 len cap hlen X w (fun s i hgo h => ⟨h.1.stepX X i, h.2.step hgo _ _ _ _ _⟩) hg hx)
  have HPK : Hid (∀ w, Calls Tryz.prog 14 #[.int .i64 x1, .int .i64 56] w fun e w' => e = .returned (.int .i64 (pk x1 56 : Int)) ∧ w' = w) := fun w => pick_any x1 hr1 56 (by omega) (by omega) w
  have hpk := pk_lt x1 (n := 56) (by omega)
  clear hg hx hr1 hr2
  generalize pk x1 56 = at0 at HPK hpk
  go_enter Tryz.func6, Tryz.ntmps6
  go_wp2_with (go_at_call 7; refine (HPL.out).mono ?_; rintro e w1 ⟨Lb, Z1, s, rfl, hkv1, ⟨⟨cs, hcs, hscs⟩, ht13⟩, hslg⟩; clear HPL)
  have HL1 := hide (log_kv hkv1)
  obtain ⟨LOG, HLOG⟩ : ∃ G1 : ByteArray, Hid (G1 = ⟨s.lg.toArray⟩) := ⟨_, rfl⟩
  have hlsz : LOG.size = s.lg.length := by rw [HLOG.out]; show s.lg.toArray.size = _; simp
  rw [← HLOG.out] at HL1
  have HAS := hide (scrap13 hkv1 ht13 (by omega))
  have HCS := hide hcs
  have HSC := hide hscs
  have HLG1 := hide (scrapLg ht13)
  clear hkv1 hcs hscs ht13
  go_wp2_with (go_at_call 9; refine (HL1.out).mono ?_; rintro e w2 ⟨rfl, rfl⟩; clear HL1)
  refine (HAS.out).mono ?_
  rintro e w3 ⟨Z3, v3, rfl, hkv3⟩
  clear HAS
  have HL3 := hide (log_kv hkv3)
  have hlg3 := HLG1.out.lg
  obtain ⟨ALL, HALL⟩ : ∃ G1 : ByteArray, Hid (G1 = ⟨(stepV s (.ok (10, [13, 1]))).lg.toArray⟩) := ⟨_, rfl⟩
  have hall : ALL.data.toList = s.lg ++ 3 :: f13 := by rw [HALL.out]; show (stepV s (.ok (10, [13, 1]))).lg.toArray.toList = _; rw [hlg3, frm13]
  have hasz : ALL.size = LOG.size + 8 := by
    have : ALL.size = ALL.data.toList.length := by rw [Array.length_toList]; rfl
    rw [this, hall, hlsz, List.length_append, List.length_cons, f13_len]
  rw [← HALL.out] at HL3
  have HHALL := hide hall
  clear hall hlg3
  go_wp2_with (go_at_call 9; refine (HL3.out).mono ?_; rintro e w4 ⟨rfl, rfl⟩; clear HL3)
  obtain ⟨FB, HFB⟩ : ∃ FB, Hid (FB = ALL.extract (s.lg.length + 1) (s.lg.length + 8)) := ⟨_, rfl⟩
  have hfl : FB.data.toList = f13 := by
    rw [HFB.out, ex_list, HHALL.out]
    have e : (s.lg ++ 3 :: f13).take (s.lg.length + 8) = s.lg ++ 3 :: f13 := List.take_of_length_le (Nat.le_of_eq (by rw [List.length_append, List.length_cons, f13_len]))
    rw [e, List.drop_append, List.drop_of_length_le (by omega)]
    rw [show s.lg.length + 1 - s.lg.length = 1 by omega]
    rfl
  have hf7 : FB.size = 7 := by
    have : FB.size = FB.data.toList.length := by rw [Array.length_toList]; rfl
    rw [this, hfl, f13_len]
  have HTU := hide (turned_any FB hf7 at0 hpk x2 w4)
  rw [hfl] at HTU
  have HFL := hide hfl
  clear hfl
  rw [← HFB.out]
  go_wp2_with (go_at_call 14; refine (HPK.out _).mono ?_; rintro e w5 ⟨rfl, rfl⟩)
  refine (HTU.out).mono ?_
  rintro e w6 ⟨hb6, t, rfl, ht7, XX, hX1, hX2, hX3⟩
  clear HTU HPK
  have hkv6 := hkv3.below hb6
  have hcat : ALL.extract 0 (s.lg.length + 1) ++ (⟨t.toArray⟩ : ByteArray) = ⟨(s.lg ++ 3 :: t).toArray⟩ := by
    apply WideShapes.bytes_inj
    rw [ByteArray.data_append, Array.toList_append, ex_list, HHALL.out]
    rw [List.take_append, List.take_of_length_le (by omega), show s.lg.length + 1 - s.lg.length = 1 by omega]
    simp
  have hgm6 : GmB w6.heap.size w6 := hm.up hkv6.old hkv6.size
  have hbel6 := hkv6.old
  have hsz6 := hkv6.size
  have htl : (⟨t.toArray⟩ : ByteArray).toList = t := by rw [ByteArray.toList_eq]
  have hfbl : FB.toList = f13 := by rw [ByteArray.toList_eq]; exact HFL.out
  have hlen8 : (s.lg ++ 3 :: t).length = s.lg.length + 8 := by rw [List.length_append, List.length_cons, ht7]
  by_cases hq : t = f13
  · have hlgA : (runV sNil (cs ++ [(10, [13, 1])])).lg = s.lg ++ 3 :: t := by
      rw [runV_append, ← HSC.out, hq, ← frm13]
      exact HLG1.out.lg
    have hop := open_run w6 hkv6.gl hgm6 (cs := cs ++ [(10, [13, 1])]) ((Lgs_append _ _ _).2 ⟨HCS.out, by rw [← HSC.out]; exact ⟨HLG1.out, trivial⟩⟩) (s.lg ++ 3 :: t) [] (by rw [hlgA, List.append_nil]) rfl (by omega)
    rw [hlgA, hlen8] at hop
    have HOP := hide hop
    have hteq : (t == FB.toList) = true := by rw [hfbl, hq]; exact beq_self_eq_true _
    clear htl hfbl hq hop hkv6 hkv3 hX1 hX2 hX3 hgm6 hlgA
    go_wp2_with fail
    refine (HOP.out).mono ?_
    clear HOP
    rintro e w7 ⟨Lb7, Z7, rfl, hkv7⟩
    have hb7 : Below w.heap.size w w7 := hbel6.trans (hkv7.old.mono hsz6)
    clear hkv7 hcat
    go_wp2_with fail
    go_ret
    exact ⟨rfl, hb7⟩
  · have hfr := torn_none ht7 hpk hX1 hX2 hX3 hq
    have hop := open_run w6 hkv6.gl hgm6 HCS.out (s.lg ++ 3 :: t) (3 :: t) (by rw [← HSC.out]) hfr (by omega)
    rw [← HSC.out] at hop
    have HOP := hide hop
    have hteq : (t == FB.toList) = false := by rw [hfbl]; exact beq_eq_false_iff_ne.2 hq
    clear htl hfbl hq hop hkv6 hkv3 hX1 hX2 hX3 hgm6 hfr
    go_wp2_with fail
    refine (HOP.out).mono ?_
    clear HOP
    rintro e w7 ⟨Lb7, Z7, rfl, hkv7⟩
    have hb7 : Below w.heap.size w w7 := hbel6.trans (hkv7.old.mono hsz6)
    clear hkv7 hcat
    go_wp2_with fail
    go_ret
    exact ⟨rfl, hb7⟩

end Go.Proofs.YtgcedalggnmooabGreatDoor
