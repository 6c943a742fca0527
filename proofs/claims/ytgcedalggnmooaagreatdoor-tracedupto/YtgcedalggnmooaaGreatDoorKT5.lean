import Derived.Test.YtgcedalggnmooaaGreatDoorKT3X
namespace Go.Proofs.YtgcedalggnmooaaGreatDoor
set_option linter.unusedSimpArgs false
set_option linter.unusedVariables false
open Go.RowKit
set_option maxRecDepth 100000

set_option maxHeartbeats 40000000 in
theorem traced_any (a0 : Option Addr) (len cap : Nat) (hlen : len ≤ 2097152) (X : Nat → Nat → Int) (xv : Int) (hx0 : Raw xv) (w : World) (hg : Gl w) (hx : 0 < len → ∃ b off, a0 = some ⟨b, off, none⟩ ∧ Scr w b off len X) :
    Calls Tryz.prog 14 #[.slice a0 len cap, .int .i64 xv] w fun e w' => e = .returned (.bool true) ∧ Below w.heap.size w w' := by
  have HOP := hide (opened_any w hg)
  have HX0 := hide hx
  have HID := hide (id_any xv hx0 12 (by omega) (by omega))
  have HID' : Hid (∀ w, Calls Tryz.prog 26 #[.int .i64 xv, .int .i64 12] w fun e w' => e = .returned (.int .i64 ((1 + pk xv 12 : Nat) : Int)) ∧ w' = w) := fun w => HID.out w
  have hab : 1 ≤ 1 + pk xv 12 ∧ 1 + pk xv 12 ≤ 12 := by have := pk_lt xv (n := 12) (by omega); omega
  generalize 1 + pk xv 12 = a at *
  obtain ⟨i0, hi, hz0, hz1, hz2⟩ := info_parts info3K
  have hmk := mk14
  have hmkB := mkB14
  clear HID hg hx hx0
  go_enter Tryz.func14, Tryz.ntmps14
  go_wp2_with (go_at_call 21; refine (HOP.out).mono ?_; rintro e w1 ⟨Lb, Z, rfl, hkv⟩)
  have HINI := hide hkv
  clear hkv HOP
  go_loopw [7, 8, 9, 10, 11, 12, 13] (fun cv pv rv ii _ _ _ wr => ∃ (k : Nat) (Z' : Nat → Prop) (s : Sv) (es : List (Nat × Nat)), rv = .int .i64 (s.rcs.length : Int) ∧ ii = .int .i64 k ∧ k ≤ len ∧ Kv w.heap.size w wr Z' Lb s ∧ Tr s es ∧ s.lg.length ≤ 200 + 64 * k ∧ Ro2 w.heap.size wr Z' cv pv (es.map Prod.fst) (es.map Prod.snd)) (fun _ _ _ ii _ _ _ _ => len - (intOf ii).toNat)
  case atStart => exact ⟨0, Z, s2, [], rfl, rfl, by omega, HINI.out, tr_s2, s2_lg, World.ownsRow_nil _ _ _ _, World.ownsRow_nil _ _ _ _, fun g hg => by simp [Value.ownBlock] at hg, fun g hg => by simp [Value.ownBlock] at hg, fun g hg => by simp [Value.ownBlock] at hg⟩
  case round =>
    clear HINI
    obtain ⟨k, Z1, s, es, rfl, rfl, hk, hkv, htr, hslg, hro⟩ := hrel
    have hrl := Tr.rclen hkv
    have hel := htr.eslen hkv
    by_cases hlt : k < len
    · obtain ⟨b, off, ha0, hxs⟩ := HX0.out (by omega)
      subst ha0
      have hblt := hxs.lt
      have HX := hide hxs
      clear hxs
      have c0 : wr.cell? ⟨b, off + k * 5, none⟩ = some (.int .i64 (X k 0)) := (hkv.old.cell (p := ⟨b, off + k * 5 + 0, none⟩) hblt).trans (HX.out.cell k hlt 0 (by omega))
      have c1 := (hkv.old.cell (p := ⟨b, off + k * 5 + 1, none⟩) hblt).trans (HX.out.cell k hlt 1 (by omega))
      have c2 := (hkv.old.cell (p := ⟨b, off + k * 5 + 2, none⟩) hblt).trans (HX.out.cell k hlt 2 (by omega))
      have c3 := (hkv.old.cell (p := ⟨b, off + k * 5 + 3, none⟩) hblt).trans (HX.out.cell k hlt 3 (by omega))
      have c4 := (hkv.old.cell (p := ⟨b, off + k * 5 + 4, none⟩) hblt).trans (HX.out.cell k hlt 4 (by omega))
      have HSP := hide (spelt_x HX.out k hlt)
      have HTR : Hid (Tr (stepV s (.ok (spX X k))) (es ++ (newP s (spX X k)).flatMap entP)) := htr.step _ _ _ _ _
      have HLN : Hid ((stepV s (.ok (spX X k))).lg.length ≤ 200 + 64 * (k + 1)) := by have := spX_lg X k s; unfold Hid; omega
      obtain ⟨f1, f2, f3, f4, f5⟩ := cmdX_facts X k
      have hne : repV s (.ok (spX X k)) ≠ [] := rep_ne s _ _ _ _ _
      have HNM := hide (knumbers_any (cmdX X k) (by omega))
      rw [f4, Pl.dec_told _ (fun n hn => by have := (sp_code (X k 0) (X k 1) (X k 2) (X k 3) (X k 4)).2.2.2.1 n hn; omega)] at HNM
      have HT0 : Hid ((cmdX X k)[0].toNat = (spX X k).1) := by
        have hc := sp_code (X k 0) (X k 1) (X k 2) (X k 3) (X k 4)
        have := ba_getD (cmdX X k) 0 f2
        unfold Hid
        rw [← this, f5, UInt8.toNat_ofNat']
        have q1 : (spX X k).1 ≤ 12 := hc.2.1
        omega
      have HSX : Hid (spX X k = sp (X k 0) (X k 1) (X k 2) (X k 3) (X k 4)) := rfl
      obtain ⟨r, HR⟩ : ∃ r : ByteArray, Hid (r = ⟨(repV s (.ok (spX X k))).toArray⟩) := ⟨_, rfl⟩
      have HHD : Hid (∀ w2, Below wr.heap.size wr w2 → Calls Tryz.prog 23 #[.pointer (some ⟨Lb, 0, none⟩), .string (cmdX X k)] w2 fun e w' => e = .returned (.string r) ∧ ∃ Z', Kv w.heap.size w w' Z' Lb (stepV s (.ok (spX X k))) ∧ Ro2 w.heap.size w' Z' u7 u8 (es.map Prod.fst) (es.map Prod.snd)) := fun w2 hb2 => (handle_x (hkv.below hb2) (by omega) X k).mono (fun e w' h => ⟨by rw [HR.out]; exact h.1, by obtain ⟨Z', h1, h2⟩ := h.2; exact ⟨Z', h1, hro.kn ((Kn.below hb2).trans h2)⟩⟩)
      have hrl' : r.data.toList = repV s (.ok (spX X k)) := by rw [HR.out]
      have hr0 : 0 < r.size := by
        have : r.size = r.data.toList.length := by simp
        rw [this, hrl']; exact List.length_pos_iff.2 hne
      have hreq : r.toList.isEmpty = false := by
        rw [ByteArray.toList_eq, hrl']
        cases hq : repV s (.ok (spX X k)) with
        | nil => exact absurd hq hne
        | cons => rfl
      have HR0 : Hid (r[0].toNat = ((repV s (.ok (spX X k))).getD 0 0).toNat) := by unfold Hid; rw [← ba_getD r 0 hr0, hrl']
      have HRL : Hid (r.toList = repV s (.ok (spX X k))) := by unfold Hid; rw [ByteArray.toList_eq, hrl']
      have hr256 : r[0].toNat < 256 := UInt8.toNat_lt _
      have ht256 : (cmdX X k)[0].toNat < 256 := UInt8.toNat_lt _
      have hro0 := hro
      clear hkv htr hro hne hrl' f1 f3 f4 f5 HX
      by_cases h8 : (spX X k).1 = 8
      · have t8 : (cmdX X k)[0].toNat = 8 := HT0.out.trans h8
        have t9 : ¬ (cmdX X k)[0].toNat = 9 := by rw [HT0.out]; omega
        have t3 : ¬ (cmdX X k)[0].toNat = 3 := by rw [HT0.out]; omega
        have t4 : ¬ (cmdX X k)[0].toNat = 4 := by rw [HT0.out]; omega
        rw [new_none (by omega) (by omega), List.append_nil] at HTR
        rcases st8 (s := s) (p := spX X k) (sp_8 h8) with ⟨q1, q2, q3⟩ | ⟨q1, q2, q3⟩
        · have hr00 : r[0].toNat = 0 := by rw [HR0.out]; exact q1
          have hq : ¬ r.toList = [0] := by rw [HRL.out]; exact q2
          have HRC := hide q3
          clear q1 q2 q3 HR0 HRL HR HT0 hro0 h8
          generalize cmdX X k = t at *
          generalize X k 0 = x0 at *
          generalize hx1 : X k 1 = x1 at *
          generalize hx2 : X k 2 = x2 at *
          generalize hx3 : X k 3 = x3 at *
          generalize hx4 : X k 4 = x4 at *
          clear hx1 hx2 hx3 hx4
          go_wp2_with (go_at_call 22; refine (HSP.out _).mono ?_; rintro e w2 ⟨rfl, hb2⟩; have HH2 := hide (HHD.out w2 hb2); clear hb2)
          refine (HH2.out).mono ?_
          rintro e w3 ⟨rfl, Z3, hkv3, hro3⟩
          have HK3 := hide hkv3
          have HO3 := hide hro3
          clear hkv3 hro3 HH2 HHD
          go_wp2_with (go_at_call 24; refine (HNM.out _).mono ?_; rintro e w4 ⟨hb4, nv, rfl, _⟩; have HB4 := hide hb4; clear hb4)
          go_roundw
          case rel => exact ⟨k + 1, Z3, _, es, by rw [HRC.out]; go_num, by go_num, by omega, HK3.out.below HB4.out, HTR.out, HLN.out, HO3.out.kn (Kn.below HB4.out)⟩
          case measure => simp [intOf]; omega
        · have hr00 : ¬ r[0].toNat = 0 := by rw [HR0.out]; exact q1
          have hq : ¬ r.toList = [0] := by rw [HRL.out]; exact q2
          have HRC := hide q3
          clear q1 q2 q3 HR0 HRL HR HT0 hro0 h8
          generalize cmdX X k = t at *
          generalize X k 0 = x0 at *
          generalize hx1 : X k 1 = x1 at *
          generalize hx2 : X k 2 = x2 at *
          generalize hx3 : X k 3 = x3 at *
          generalize hx4 : X k 4 = x4 at *
          clear hx1 hx2 hx3 hx4
          go_wp2_with (go_at_call 22; refine (HSP.out _).mono ?_; rintro e w2 ⟨rfl, hb2⟩; have HH2 := hide (HHD.out w2 hb2); clear hb2)
          refine (HH2.out).mono ?_
          rintro e w3 ⟨rfl, Z3, hkv3, hro3⟩
          have HK3 := hide hkv3
          have HO3 := hide hro3
          clear hkv3 hro3 HH2 HHD
          go_wp2_with (go_at_call 24; refine (HNM.out _).mono ?_; rintro e w4 ⟨hb4, nv, rfl, _⟩; have HB4 := hide hb4; clear hb4)
          go_roundw
          case rel => exact ⟨k + 1, Z3, _, es, congrArg (fun n : Nat => Value.int .i64 (n : Int)) HRC.out.symm, by go_num, by omega, HK3.out.below HB4.out, HTR.out, HLN.out, HO3.out.kn (Kn.below HB4.out)⟩
          case measure => simp [intOf]; omega
      · by_cases h9 : (spX X k).1 = 9
        · have t8 : ¬ (cmdX X k)[0].toNat = 8 := by rw [HT0.out]; omega
          have t9 : (cmdX X k)[0].toNat = 9 := HT0.out.trans h9
          have t3 : ¬ (cmdX X k)[0].toNat = 3 := by rw [HT0.out]; omega
          have t4 : ¬ (cmdX X k)[0].toNat = 4 := by rw [HT0.out]; omega
          rw [new_none (by omega) (by omega), List.append_nil] at HTR
          rcases st9 (s := s) (p := spX X k) (sp_9 h9) with ⟨q1, q2, q3⟩ | ⟨q1, q2, q3⟩
          · have hr00 : r[0].toNat = 0 := by rw [HR0.out]; exact q1
            have hq : r.toList = [0] := by rw [HRL.out]; exact q2
            have HRC := hide q3
            have hpos : 1 ≤ s.rcs.length := by omega
            clear q1 q2 q3 HR0 HRL HR HT0 hro0 h9
            generalize cmdX X k = t at *
            generalize X k 0 = x0 at *
            generalize hx1 : X k 1 = x1 at *
            generalize hx2 : X k 2 = x2 at *
            generalize hx3 : X k 3 = x3 at *
            generalize hx4 : X k 4 = x4 at *
            clear hx1 hx2 hx3 hx4
            go_wp2_with (go_at_call 22; refine (HSP.out _).mono ?_; rintro e w2 ⟨rfl, hb2⟩; have HH2 := hide (HHD.out w2 hb2); clear hb2)
            refine (HH2.out).mono ?_
            rintro e w3 ⟨rfl, Z3, hkv3, hro3⟩
            have HK3 := hide hkv3
            have HO3 := hide hro3
            clear hkv3 hro3 HH2 HHD
            go_wp2_with (go_at_call 24; refine (HNM.out _).mono ?_; rintro e w4 ⟨hb4, nv, rfl, _⟩; have HB4 := hide hb4; clear hb4)
            go_roundw
            case rel => exact ⟨k + 1, Z3, _, es, congrArg (Value.int .i64) (by have := HRC.out; omega), by go_num, by omega, HK3.out.below HB4.out, HTR.out, HLN.out, HO3.out.kn (Kn.below HB4.out)⟩
            case measure => simp [intOf]; omega
          · have hr00 : ¬ r[0].toNat = 0 := by rw [HR0.out]; exact q1
            have hq : ¬ r.toList = [0] := by rw [HRL.out]; exact q2
            have HRC := hide q3
            clear q1 q2 q3 HR0 HRL HR HT0 hro0 h9
            generalize cmdX X k = t at *
            generalize X k 0 = x0 at *
            generalize hx1 : X k 1 = x1 at *
            generalize hx2 : X k 2 = x2 at *
            generalize hx3 : X k 3 = x3 at *
            generalize hx4 : X k 4 = x4 at *
            clear hx1 hx2 hx3 hx4
            go_wp2_with (go_at_call 22; refine (HSP.out _).mono ?_; rintro e w2 ⟨rfl, hb2⟩; have HH2 := hide (HHD.out w2 hb2); clear hb2)
            refine (HH2.out).mono ?_
            rintro e w3 ⟨rfl, Z3, hkv3, hro3⟩
            have HK3 := hide hkv3
            have HO3 := hide hro3
            clear hkv3 hro3 HH2 HHD
            go_wp2_with (go_at_call 24; refine (HNM.out _).mono ?_; rintro e w4 ⟨hb4, nv, rfl, _⟩; have HB4 := hide hb4; clear hb4)
            go_roundw
            case rel => exact ⟨k + 1, Z3, _, es, congrArg (fun n : Nat => Value.int .i64 (n : Int)) HRC.out.symm, by go_num, by omega, HK3.out.below HB4.out, HTR.out, HLN.out, HO3.out.kn (Kn.below HB4.out)⟩
            case measure => simp [intOf]; omega
        · by_cases h3 : (spX X k).1 = 3
          · have t8 : ¬ (cmdX X k)[0].toNat = 8 := by rw [HT0.out]; omega
            have t9 : ¬ (cmdX X k)[0].toNat = 9 := by rw [HT0.out]; omega
            have t3 : (cmdX X k)[0].toNat = 3 := HT0.out.trans h3
            have t4 : ¬ (cmdX X k)[0].toNat = 4 := by rw [HT0.out]; omega
            have hrc : (stepV s (.ok (spX X k))).rcs = s.rcs := rcs_same (by show (spX X k).1 ≠ 8; omega) (by show (spX X k).1 ≠ 9; omega)
            have HRC : Hid ((stepV s (.ok (spX X k))).rcs.length = s.rcs.length) := by rw [hrc]; rfl
            have hsp := sp_3 h3
            have HSX2 : Hid (spX X k = (3, [1 + pk (X k 1) 12, 1 + pk (X k 2) 12, 1 + pk (X k 3) 400])) := hsp
            rcases st3 (s := s) (p := spX X k) HSX2.out with ⟨q1, q2, q3⟩ | ⟨q1, q2, q3⟩
            · have hr00 : r[0].toNat = 0 := by rw [HR0.out]; exact q1
              have hq : r.toList = [0] := by rw [HRL.out]; exact q2
              rw [q3] at HTR
              rw [HSX2.out] at HNM
              have HN2 := hide (nums_at HNM.out (by simp))
              have HN3 : Hid (∀ w, Calls Tryz.prog 24 #[.string (cmdX X k)] w fun e w' => Below w.heap.size w w' ∧ ∃ q qc, e = .returned (.slice (some ⟨q, 0, none⟩) 3 qc) ∧ w.heap.size ≤ q ∧ q < w'.heap.size ∧ w'.cell? ⟨q, 0, none⟩ = some (.int .i64 ((1 + pk (X k 1) 12 : Nat) : Int)) ∧ w'.cell? ⟨q, 1, none⟩ = some (.int .i64 ((1 + pk (X k 2) 12 : Nat) : Int))) := fun w => (HN2.out w).mono (fun e w' hh => by obtain ⟨g1, q, qc, g2, g3, g4, g5⟩ := hh; exact ⟨g1, q, qc, g2, g3, g4, g5 0 (by simp), g5 1 (by simp)⟩)
              have hb1 := pk_lt (X k 1) (n := 12) (by omega)
              have hb2 := pk_lt (X k 2) (n := 12) (by omega)
              have hb3 := pk_lt (X k 3) (n := 12) (by omega)
              generalize 1 + pk (X k 1) 12 = na at *
              generalize 1 + pk (X k 2) 12 = nb at *
              obtain ⟨ca, cc, hcv⟩ := own_shapeV hro0.c
              obtain ⟨pa, pc, hpv⟩ := own_shapeV hro0.p
              subst hcv
              subst hpv
              obtain ⟨ls1, hls1⟩ : ∃ l, l = es.map Prod.fst := ⟨_, rfl⟩
              obtain ⟨ls2, hls2⟩ : ∃ l, l = es.map Prod.snd := ⟨_, rfl⟩
              rw [← hls1, ← hls2] at HHD
              rw [← hls1, ← hls2]
              have hl1 : ls1.length ≤ 60 := by rw [hls1, List.length_map]; exact hel
              have hl2 : ls2.length ≤ 60 := by rw [hls2, List.length_map]; exact hel
              have HE1 : Hid (ls1 ++ [nb] = (es ++ [(nb, na)]).map Prod.fst ∧ ls2 ++ [na] = (es ++ [(nb, na)]).map Prod.snd) := by unfold Hid; rw [hls1, hls2]; simp
              clear q1 q2 q3 HR0 HRL HR HT0 HNM HN2 HSX2 hsp hrc hls1 hls2 hro0 h3
              generalize cmdX X k = t at *
              generalize X k 0 = x0 at *
              generalize hx1 : X k 1 = x1 at *
              generalize hx2 : X k 2 = x2 at *
              generalize hx3 : X k 3 = x3 at *
              generalize hx4 : X k 4 = x4 at *
              clear hx1 hx2 hx3 hx4
              go_wp2_with (go_at_call 22; refine (HSP.out _).mono ?_; rintro e w2 ⟨rfl, hb2⟩; have HH2 := hide (HHD.out w2 hb2); clear hb2)
              refine (HH2.out).mono ?_
              rintro e w3 ⟨rfl, Z3, hkv3, hro3⟩
              have HK3 := hide hkv3
              have HO3 := hide hro3
              clear hkv3 hro3 HH2 HHD
              have HZR := hide HO3.out.c.lt
              go_wp2_with (first | (go_at_call 24; refine (HN3.out _).mono ?_; rintro e w4 ⟨hb4, q, qc, rfl, hq3, hq4, cq0, cq1⟩; have HB4 := hide hb4; have HQ3 := hide hq3; clear hb4 hq3) | (at_builtin; refine wpList_append_own_at _ rfl _ _ 55 rfl w.heap.size 3 i0 (.int .i64 0) 1 8 tU48 hi hz0 hz1 hz2 rfl (by decide) (.slice ca ls1.length cc) ls1.length (I ls1) rfl ?ho ⟨w4.heap.size, 0, none⟩ 1 1 [.int .i64 (nb : Int)] rfl rfl ?c1 ?c2 ?c3 ?c4 ?c5 ?_))
              case ho => exact (HO3.out.kn (Kn.below HB4.out)).c.alloc _
              case c1 => exact one_new _ _ _
              case c2 => intro u hu; simp at hu; first | (subst hu; rfl) | (rcases hu with rfl | rfl <;> rfl)
              case c3 => unfold maxLen; omega
              case c4 => omega
              case c5 => have := (HK3.out.below HB4.out).size; simp; omega
              intro v5 w5 hown5 hg5 hnn5 hat5
              have HA5 := hide (Ro2.app (ns := [nb]) ((HO3.out.kn (Kn.below HB4.out)).kn (Kn.below (al1 w4 _))) ((HK3.out.below HB4.out).below (al1 w4 _)) hown5 rfl hg5 (hat5.imp id (fun h => h.trans (by simp))))
              have hqb : w5.heap[q]? = w4.heap[q]? := (hg5.block q (by simp; omega) (fun e => by have h1 := (HZR.out q e.symm).2; have h2 := HQ3.out; omega)).trans (Below.heap_alloc _ _ _ hq4)
              have cq0' : w5.cell? ⟨q, 0, none⟩ = some (.int .i64 (na : Int)) := (World.cell?_of_block (a := ⟨q, 0, none⟩) hqb).trans cq0
              have cq1' : w5.cell? ⟨q, 1, none⟩ = some (.int .i64 (nb : Int)) := (World.cell?_of_block (a := ⟨q, 1, none⟩) hqb).trans cq1
              have hw5 := HA5.out.2.size
              clear hown5 hg5 hnn5 hat5 hqb
              go_wp2_with (at_builtin; refine wpList_append_own_at _ rfl _ _ 55 rfl w.heap.size 3 i0 (.int .i64 0) 1 8 tU48 hi hz0 hz1 hz2 rfl (by decide) (.slice pa ls2.length pc) ls2.length (I ls2) rfl ?ho6 ⟨w5.heap.size, 0, none⟩ 1 1 [.int .i64 (na : Int)] rfl rfl ?c16 ?c26 ?c36 ?c46 ?c56 ?_)
              case ho6 => exact HA5.out.1.p.alloc _
              case c16 => exact one_new _ _ _
              case c26 => intro u hu; simp at hu; first | (subst hu; rfl) | (rcases hu with rfl | rfl <;> rfl)
              case c36 => unfold maxLen; omega
              case c46 => omega
              case c56 => have := HA5.out.2.size; simp; omega
              intro v6 w6 hown6 hg6 hnn6 hat6
              have HA6 := hide (Ro2.app (ns := [na]) (HA5.out.1.swap.kn (Kn.below (al1 w5 _))) (HA5.out.2.below (al1 w5 _)) hown6 rfl hg6 (hat6.imp id (fun h => h.trans (by simp))))
              clear hown6 hg6 hnn6 hat6
              go_wp2_with fail
              go_roundw
              case rel => exact ⟨k + 1, Z3, _, _, congrArg (fun n : Nat => Value.int .i64 (n : Int)) HRC.out.symm, by go_num, by omega, HA6.out.2, HTR.out, HLN.out, by rw [← HE1.out.1, ← HE1.out.2]; exact HA6.out.1.swap⟩
              case measure => simp [intOf]; omega
            · have hr00 : ¬ r[0].toNat = 0 := by rw [HR0.out]; exact q1
              have hq : ¬ r.toList = [0] := by rw [HRL.out]; exact q2
              rw [q3, List.append_nil] at HTR
              clear q1 q2 q3 HR0 HRL HR HT0 HSX2 hsp hrc hro0 h3
              generalize cmdX X k = t at *
              generalize X k 0 = x0 at *
              generalize hx1 : X k 1 = x1 at *
              generalize hx2 : X k 2 = x2 at *
              generalize hx3 : X k 3 = x3 at *
              generalize hx4 : X k 4 = x4 at *
              clear hx1 hx2 hx3 hx4
              go_wp2_with (go_at_call 22; refine (HSP.out _).mono ?_; rintro e w2 ⟨rfl, hb2⟩; have HH2 := hide (HHD.out w2 hb2); clear hb2)
              refine (HH2.out).mono ?_
              rintro e w3 ⟨rfl, Z3, hkv3, hro3⟩
              have HK3 := hide hkv3
              have HO3 := hide hro3
              clear hkv3 hro3 HH2 HHD
              go_wp2_with (go_at_call 24; refine (HNM.out _).mono ?_; rintro e w4 ⟨hb4, nv, rfl, _⟩; have HB4 := hide hb4; clear hb4)
              go_roundw
              case rel => exact ⟨k + 1, Z3, _, es, congrArg (fun n : Nat => Value.int .i64 (n : Int)) HRC.out.symm, by go_num, by omega, HK3.out.below HB4.out, HTR.out, HLN.out, HO3.out.kn (Kn.below HB4.out)⟩
              case measure => simp [intOf]; omega
          · by_cases h4 : (spX X k).1 = 4
            · have t8 : ¬ (cmdX X k)[0].toNat = 8 := by rw [HT0.out]; omega
              have t9 : ¬ (cmdX X k)[0].toNat = 9 := by rw [HT0.out]; omega
              have t3 : ¬ (cmdX X k)[0].toNat = 3 := by rw [HT0.out]; omega
              have t4 : (cmdX X k)[0].toNat = 4 := HT0.out.trans h4
              have hrc : (stepV s (.ok (spX X k))).rcs = s.rcs := rcs_same (by show (spX X k).1 ≠ 8; omega) (by show (spX X k).1 ≠ 9; omega)
              have HRC : Hid ((stepV s (.ok (spX X k))).rcs.length = s.rcs.length) := by rw [hrc]; rfl
              have hsp := sp_4 h4
              have HSX2 : Hid (spX X k = (4, [1 + pk (X k 1) 12, 1 + pk (X k 2) 12, 1 + pk (X k 3) 12])) := hsp
              rcases st4 (s := s) (p := spX X k) HSX2.out with ⟨q1, q2, q3⟩ | ⟨q1, q2, q3⟩
              · have hr00 : r[0].toNat = 0 := by rw [HR0.out]; exact q1
                have hq : r.toList = [0] := by rw [HRL.out]; exact q2
                rw [q3] at HTR
                rw [HSX2.out] at HNM
                have HN2 := hide (nums_at HNM.out (by simp))
                have HN3 : Hid (∀ w, Calls Tryz.prog 24 #[.string (cmdX X k)] w fun e w' => Below w.heap.size w w' ∧ ∃ q qc, e = .returned (.slice (some ⟨q, 0, none⟩) 3 qc) ∧ w.heap.size ≤ q ∧ q < w'.heap.size ∧ w'.cell? ⟨q, 0, none⟩ = some (.int .i64 ((1 + pk (X k 1) 12 : Nat) : Int)) ∧ w'.cell? ⟨q, 1, none⟩ = some (.int .i64 ((1 + pk (X k 2) 12 : Nat) : Int)) ∧ w'.cell? ⟨q, 2, none⟩ = some (.int .i64 ((1 + pk (X k 3) 12 : Nat) : Int))) := fun w => (HN2.out w).mono (fun e w' hh => by obtain ⟨g1, q, qc, g2, g3, g4, g5⟩ := hh; exact ⟨g1, q, qc, g2, g3, g4, g5 0 (by simp), g5 1 (by simp), g5 2 (by simp)⟩)
                have hb1 := pk_lt (X k 1) (n := 12) (by omega)
                have hb2 := pk_lt (X k 2) (n := 12) (by omega)
                have hb3 := pk_lt (X k 3) (n := 12) (by omega)
                generalize 1 + pk (X k 1) 12 = na at *
                generalize 1 + pk (X k 2) 12 = nb at *
                generalize 1 + pk (X k 3) 12 = nm at *
                obtain ⟨ca, cc, hcv⟩ := own_shapeV hro0.c
                obtain ⟨pa, pc, hpv⟩ := own_shapeV hro0.p
                subst hcv
                subst hpv
                obtain ⟨ls1, hls1⟩ : ∃ l, l = es.map Prod.fst := ⟨_, rfl⟩
                obtain ⟨ls2, hls2⟩ : ∃ l, l = es.map Prod.snd := ⟨_, rfl⟩
                rw [← hls1, ← hls2] at HHD
                rw [← hls1, ← hls2]
                have hl1 : ls1.length ≤ 60 := by rw [hls1, List.length_map]; exact hel
                have hl2 : ls2.length ≤ 60 := by rw [hls2, List.length_map]; exact hel
                have HE1 : Hid (ls1 ++ [nm, nm] = (es ++ [(nm, na), (nm, nb)]).map Prod.fst ∧ ls2 ++ [na, nb] = (es ++ [(nm, na), (nm, nb)]).map Prod.snd) := by unfold Hid; rw [hls1, hls2]; simp
                clear q1 q2 q3 HR0 HRL HR HT0 HNM HN2 HSX2 hsp hrc hls1 hls2 hro0 h4
                generalize cmdX X k = t at *
                generalize X k 0 = x0 at *
                generalize hx1 : X k 1 = x1 at *
                generalize hx2 : X k 2 = x2 at *
                generalize hx3 : X k 3 = x3 at *
                generalize hx4 : X k 4 = x4 at *
                clear hx1 hx2 hx3 hx4
                go_wp2_with (go_at_call 22; refine (HSP.out _).mono ?_; rintro e w2 ⟨rfl, hb2⟩; have HH2 := hide (HHD.out w2 hb2); clear hb2)
                refine (HH2.out).mono ?_
                rintro e w3 ⟨rfl, Z3, hkv3, hro3⟩
                have HK3 := hide hkv3
                have HO3 := hide hro3
                clear hkv3 hro3 HH2 HHD
                have HZR := hide HO3.out.c.lt
                go_wp2_with (go_at_call 24; refine (HN3.out _).mono ?_; rintro e w4 ⟨hb4, q, qc, rfl, hq3, hq4, cq0, cq1, cq2⟩; have HB4 := hide hb4; have HQ3 := hide hq3; clear hb4 hq3)
                have HR4 := hide (HO3.out.kn (Kn.below HB4.out))
                have HK4 := hide (HK3.out.below HB4.out)
                have hown4 := HR4.out.c
                have hbl : Below w4.heap.size w4 (w4.alloc (.cells #[.int .i64 (nm : Int), .int .i64 (nm : Int)] 3)).drew := (al1 w4 _).drew
                have hbk : (w4.alloc (.cells #[.int .i64 (nm : Int), .int .i64 (nm : Int)] 3)).drew.heap[w4.heap.size]? = some (.cells #[.int .i64 (nm : Int), .int .i64 (nm : Int)] 3 (0, 0)) := heap_alloc_new w4 _
                have hone : ∀ u ∈ ([.int .i64 (nm : Int), .int .i64 (nm : Int)] : List Value), u.oneCell' = true := by intro u hu; simp at hu; subst hu; rfl
                have hw4 := HK4.out.size
                go_region_law (refine step_append_lies _ rfl _ _ 55 rfl w.heap.size 3 i0 (.int .i64 0) 1 8 tU48 hi hz0 hz1 hz2 rfl (by decide) (.slice ca ls1.length cc) ls1.length (I ls1) rfl (own_below hown4 hbl) ⟨w4.heap.size, 0, none⟩ 2 2 [.int .i64 (nm : Int), .int .i64 (nm : Int)] rfl rfl (World.news_of_block hbk) hone (by decide) (by unfold maxLen; omega) (by omega) (by simp; omega) (w4.heap.size + 1) (by simp) ?_; intro g5 cap5 w5 hown5 hg5 hat5 hlt5)
                all_goals
                  have HA5 := hide (Ro2.app (ns := [nm, nm]) (HR4.out.kn (Kn.below hbl)) (HK4.out.below hbl) hown5 rfl hg5 (hat5.elim (fun h => Or.inl h.symm) (fun h => Or.inr (by rw [h]; simp [Value.ownBlock]))))
                  have hqb : w5.heap[q]? = w4.heap[q]? := (hg5.block q (by simp; omega) (fun e => by have h1 := (HZR.out q e.symm).2; have h2 := HQ3.out; omega)).trans (hbl.block q hq4)
                  have cq0' : w5.cell? ⟨q, 0, none⟩ = some (.int .i64 (na : Int)) := (World.cell?_of_block (a := ⟨q, 0, none⟩) hqb).trans cq0
                  have cq1' : w5.cell? ⟨q, 1, none⟩ = some (.int .i64 (nb : Int)) := (World.cell?_of_block (a := ⟨q, 1, none⟩) hqb).trans cq1
                  have hw5 := HA5.out.2.size
                  clear hown5 hg5 hat5 hlt5 hqb hbl hbk hone hown4 cq0 cq1 cq2
                  go_wp2_with fail
                  have hown5 := HA5.out.1.p
                  have hbl : Below w5.heap.size w5 (w5.alloc (.cells #[.int .i64 (na : Int), .int .i64 (nb : Int)] 3)).drew := (al1 w5 _).drew
                  have hbk : (w5.alloc (.cells #[.int .i64 (na : Int), .int .i64 (nb : Int)] 3)).drew.heap[w5.heap.size]? = some (.cells #[.int .i64 (na : Int), .int .i64 (nb : Int)] 3 (0, 0)) := heap_alloc_new w5 _
                  have hone : ∀ u ∈ ([.int .i64 (na : Int), .int .i64 (nb : Int)] : List Value), u.oneCell' = true := by intro u hu; simp at hu; rcases hu with rfl | rfl <;> rfl
                  go_region_law (refine step_append_lies _ rfl _ _ 55 rfl w.heap.size 3 i0 (.int .i64 0) 1 8 tU48 hi hz0 hz1 hz2 rfl (by decide) (.slice pa ls2.length pc) ls2.length (I ls2) rfl (own_below hown5 hbl) ⟨w5.heap.size, 0, none⟩ 2 2 [.int .i64 (na : Int), .int .i64 (nb : Int)] rfl rfl (World.news_of_block hbk) hone (by decide) (by unfold maxLen; omega) (by omega) (by simp; omega) (w5.heap.size + 1) (by simp) ?_; intro g6 cap6 w6 hown6 hg6 hat6 hlt6)
                  all_goals
                    have HA6 := hide (Ro2.app (ns := [na, nb]) (HA5.out.1.swap.kn (Kn.below hbl)) (HA5.out.2.below hbl) hown6 rfl hg6 (hat6.elim (fun h => Or.inl h.symm) (fun h => Or.inr (by rw [h]; simp [Value.ownBlock]))))
                    clear hown6 hg6 hat6 hlt6 hbl hbk hone hown5 cq0' cq1'
                    go_wp2_with fail
                    go_roundw
                    case rel => exact ⟨k + 1, Z3, _, _, congrArg (fun n : Nat => Value.int .i64 (n : Int)) HRC.out.symm, by go_num, by omega, HA6.out.2, HTR.out, HLN.out, by rw [← HE1.out.1, ← HE1.out.2]; exact HA6.out.1.swap⟩
                    case measure => simp [intOf]; omega
              · have hr00 : ¬ r[0].toNat = 0 := by rw [HR0.out]; exact q1
                have hq : ¬ r.toList = [0] := by rw [HRL.out]; exact q2
                rw [q3, List.append_nil] at HTR
                clear q1 q2 q3 HR0 HRL HR HT0 HSX2 hsp hrc hro0 h4
                generalize cmdX X k = t at *
                generalize X k 0 = x0 at *
                generalize hx1 : X k 1 = x1 at *
                generalize hx2 : X k 2 = x2 at *
                generalize hx3 : X k 3 = x3 at *
                generalize hx4 : X k 4 = x4 at *
                clear hx1 hx2 hx3 hx4
                go_wp2_with (go_at_call 22; refine (HSP.out _).mono ?_; rintro e w2 ⟨rfl, hb2⟩; have HH2 := hide (HHD.out w2 hb2); clear hb2)
                refine (HH2.out).mono ?_
                rintro e w3 ⟨rfl, Z3, hkv3, hro3⟩
                have HK3 := hide hkv3
                have HO3 := hide hro3
                clear hkv3 hro3 HH2 HHD
                go_wp2_with (go_at_call 24; refine (HNM.out _).mono ?_; rintro e w4 ⟨hb4, nv, rfl, _⟩; have HB4 := hide hb4; clear hb4)
                go_roundw
                case rel => exact ⟨k + 1, Z3, _, es, congrArg (fun n : Nat => Value.int .i64 (n : Int)) HRC.out.symm, by go_num, by omega, HK3.out.below HB4.out, HTR.out, HLN.out, HO3.out.kn (Kn.below HB4.out)⟩
                case measure => simp [intOf]; omega
            · have t8 : ¬ (cmdX X k)[0].toNat = 8 := by rw [HT0.out]; omega
              have t9 : ¬ (cmdX X k)[0].toNat = 9 := by rw [HT0.out]; omega
              have t3 : ¬ (cmdX X k)[0].toNat = 3 := by rw [HT0.out]; omega
              have t4 : ¬ (cmdX X k)[0].toNat = 4 := by rw [HT0.out]; omega
              have hrc : (stepV s (.ok (spX X k))).rcs = s.rcs := rcs_same h8 h9
              have HRC : Hid ((stepV s (.ok (spX X k))).rcs.length = s.rcs.length) := by rw [hrc]; rfl
              rw [new_none h3 h4, List.append_nil] at HTR
              clear hrc HT0 HR0 HR HRL hro0 h8 h9 h3 h4
              generalize cmdX X k = t at *
              generalize X k 0 = x0 at *
              generalize hx1 : X k 1 = x1 at *
              generalize hx2 : X k 2 = x2 at *
              generalize hx3 : X k 3 = x3 at *
              generalize hx4 : X k 4 = x4 at *
              clear hx1 hx2 hx3 hx4
              by_cases hr00 : r[0].toNat = 0
              · by_cases hq : r.toList = [0]
                · go_wp2_with (go_at_call 22; refine (HSP.out _).mono ?_; rintro e w2 ⟨rfl, hb2⟩; have HH2 := hide (HHD.out w2 hb2); clear hb2)
                  refine (HH2.out).mono ?_
                  rintro e w3 ⟨rfl, Z3, hkv3, hro3⟩
                  have HK3 := hide hkv3
                  have HO3 := hide hro3
                  clear hkv3 hro3 HH2 HHD
                  go_wp2_with (go_at_call 24; refine (HNM.out _).mono ?_; rintro e w4 ⟨hb4, nv, rfl, _⟩; have HB4 := hide hb4; clear hb4)
                  go_roundw
                  case rel => exact ⟨k + 1, Z3, _, es, congrArg (fun n : Nat => Value.int .i64 (n : Int)) HRC.out.symm, by go_num, by omega, HK3.out.below HB4.out, HTR.out, HLN.out, HO3.out.kn (Kn.below HB4.out)⟩
                  case measure => simp [intOf]; omega
                · go_wp2_with (go_at_call 22; refine (HSP.out _).mono ?_; rintro e w2 ⟨rfl, hb2⟩; have HH2 := hide (HHD.out w2 hb2); clear hb2)
                  refine (HH2.out).mono ?_
                  rintro e w3 ⟨rfl, Z3, hkv3, hro3⟩
                  have HK3 := hide hkv3
                  have HO3 := hide hro3
                  clear hkv3 hro3 HH2 HHD
                  go_wp2_with (go_at_call 24; refine (HNM.out _).mono ?_; rintro e w4 ⟨hb4, nv, rfl, _⟩; have HB4 := hide hb4; clear hb4)
                  go_roundw
                  case rel => exact ⟨k + 1, Z3, _, es, congrArg (fun n : Nat => Value.int .i64 (n : Int)) HRC.out.symm, by go_num, by omega, HK3.out.below HB4.out, HTR.out, HLN.out, HO3.out.kn (Kn.below HB4.out)⟩
                  case measure => simp [intOf]; omega
              · by_cases hq : r.toList = [0]
                · go_wp2_with (go_at_call 22; refine (HSP.out _).mono ?_; rintro e w2 ⟨rfl, hb2⟩; have HH2 := hide (HHD.out w2 hb2); clear hb2)
                  refine (HH2.out).mono ?_
                  rintro e w3 ⟨rfl, Z3, hkv3, hro3⟩
                  have HK3 := hide hkv3
                  have HO3 := hide hro3
                  clear hkv3 hro3 HH2 HHD
                  go_wp2_with (go_at_call 24; refine (HNM.out _).mono ?_; rintro e w4 ⟨hb4, nv, rfl, _⟩; have HB4 := hide hb4; clear hb4)
                  go_roundw
                  case rel => exact ⟨k + 1, Z3, _, es, congrArg (fun n : Nat => Value.int .i64 (n : Int)) HRC.out.symm, by go_num, by omega, HK3.out.below HB4.out, HTR.out, HLN.out, HO3.out.kn (Kn.below HB4.out)⟩
                  case measure => simp [intOf]; omega
                · go_wp2_with (go_at_call 22; refine (HSP.out _).mono ?_; rintro e w2 ⟨rfl, hb2⟩; have HH2 := hide (HHD.out w2 hb2); clear hb2)
                  refine (HH2.out).mono ?_
                  rintro e w3 ⟨rfl, Z3, hkv3, hro3⟩
                  have HK3 := hide hkv3
                  have HO3 := hide hro3
                  clear hkv3 hro3 HH2 HHD
                  go_wp2_with (go_at_call 24; refine (HNM.out _).mono ?_; rintro e w4 ⟨hb4, nv, rfl, _⟩; have HB4 := hide hb4; clear hb4)
                  go_roundw
                  case rel => exact ⟨k + 1, Z3, _, es, congrArg (fun n : Nat => Value.int .i64 (n : Int)) HRC.out.symm, by go_num, by omega, HK3.out.below HB4.out, HTR.out, HLN.out, HO3.out.kn (Kn.below HB4.out)⟩
                  case measure => simp [intOf]; omega
    · have hkl : len = k := by omega
      subst hkl
      have HMK := hide (marked_x (s := s) (w := wr) (Kx.of (j := 0) hkv (by omega)))
      have HTR := hide htr
      have HRO := hide hro
      have HRM := hide htr.marks
      have HGD := hide hkv.good
      have HB0 := hide hkv.size
      clear hkv htr hro hlt
      go_wp2_with (first | (go_at_call 26; refine (HID'.out _).mono ?_; rintro e w2 ⟨rfl, hw⟩; have hw' := hw.symm; subst hw'; clear hw) | (go_at_call 34; refine (HMK.out).mono ?_; rintro e w3 ⟨Z3, b1, rfl, hkv3, hkn3, hr1, hz1, hb1⟩))
      have HTI : Hid (TI 0 w Lb s [(3, b1, upF 13 (fun i => .int .i64 (markF s i)) (.int .i64 0))] w3 Z3) := ⟨hkv3, fun x hx => by simp at hx; subst hx; exact ⟨hr1, hz1⟩⟩
      have HR3 := hide (HRO.out.kn hkn3)
      have HHL := hide (helds_x (s := s) (w := w3) hkv3)
      clear hkv3 hkn3 hr1 hz1 hb1 HMK HRO
      refine (HHL.out).mono ?_
      rintro e w4 ⟨Z4, b2, rfl, hkv4, hkn4, hr2, hz2, hb2⟩
      have HT4 := hide ((HTI.out.kn hkv4 hkn4).add hr2 hz2)
      have HR4 := hide (HR3.out.kn hkn4)
      clear hkn4 hr2 hz2 hb2 HHL HTI HR3
      by_cases hia : idx a s.ls < s.ls.length
      · by_cases h10 : 10 ≤ s.rcs.length
        · have HQ := hide (rcl_full hia HRM.out h10)
          have HRC : Hid (Calls Tryz.prog 25 #[.pointer (some ⟨Lb, 0, none⟩), .int .i64 8, .slice (some ⟨w4.heap.size, 0, none⟩) 2 2] (w4.alloc (.cells #[.int .i64 (a : Int), .int .i64 77] 3)) fun e w' => ∃ Z' v, e = .returned (.tuple #[.int .i64 6, v]) ∧ Kx 1 w.heap.size w w' Z' Lb s ∧ Kn Z4 w4 Z' w') := (ask_two hkv4 (by omega) 8 (Or.inl rfl) a 77 ⟨hab.1, by omega⟩ (by omega) 6 [] s (by omega) HQ.out (by simp) (by simp)).mono (fun e w' hh => by obtain ⟨Z', v, q1, q2, q3, _, _⟩ := hh; exact ⟨Z', v, q1, q2, q3⟩)
          have hmk0 : markF s a = if recB s.rcs s.ls a = true then 1 else 0 := by rw [mark_eq, if_pos ((idx_ids a s.ls).1 hia)]
          obtain ⟨ma, hma⟩ : ∃ ma : Int, ma = markF s a := ⟨_, rfl⟩
          have hmab : 0 ≤ ma ∧ ma ≤ 1 := by rw [hma, hmk0]; split <;> omega
          have HUA : Hid (upF 13 (fun i => .int .i64 (markF s i)) (.int .i64 0) a = .int .i64 ma) := by unfold Hid upF; rw [if_pos ⟨hab.1, by omega⟩, hma]
          clear hkv4 hmk0 hma HQ
          go_wp2_with fail
          refine (HRC.out).mono ?_
          rintro e w5 ⟨Z5, v5, rfl, hkv5, hkn5⟩
          have cb := (HT4.out.kn hkv5 hkn5).tail.head.1.cell a (by omega)
          rw [HUA.out] at cb
          have HOL := hide hkv5.old
          have hdm : decide (ma < 0) = false := decide_eq_false (by omega)
          clear hkv5 hkn5 HRC HT4 HR4
          go_wp2_with fail
          go_ret
          exact ⟨rfl, HOL.out⟩
        · have HQ := hide (rcl_ok hia HRM.out h10)
          have hsm := heldT_small hkv4.ok hkv4.room a
          have HRC : Hid (Calls Tryz.prog 25 #[.pointer (some ⟨Lb, 0, none⟩), .int .i64 8, .slice (some ⟨w4.heap.size, 0, none⟩) 2 2] (w4.alloc (.cells #[.int .i64 (a : Int), .int .i64 77] 3)) fun e w' => ∃ Z' v, e = .returned (.tuple #[.int .i64 0, v]) ∧ Kx 1 w.heap.size w w' Z' Lb (sR s a) ∧ Kn Z4 w4 Z' w' ∧ w'.ownsRow w4.heap.size 3 1 v (toldQ s.ls (heldQ s.ls a)).length (I (toldQ s.ls (heldQ s.ls a))) ∧ ∀ q, v.ownBlock = some q → ¬ Z' q) := ask_two hkv4 (by omega) 8 (Or.inl rfl) a 77 ⟨hab.1, by omega⟩ (by omega) 0 _ (sR s a) (by omega) HQ.out hsm.1 (by omega)
          have hmk0 : markF s a = if recB s.rcs s.ls a = true then 1 else 0 := by rw [mark_eq, if_pos ((idx_ids a s.ls).1 hia)]
          obtain ⟨ma, hma⟩ : ∃ ma : Int, ma = markF s a := ⟨_, rfl⟩
          have hmab : 0 ≤ ma ∧ ma ≤ 1 := by rw [hma, hmk0]; split <;> omega
          have HUA : Hid (upF 13 (fun i => .int .i64 (markF s i)) (.int .i64 0) a = .int .i64 ma) := by unfold Hid upF; rw [if_pos ⟨hab.1, by omega⟩, hma]
          have HWT := hide (wtL_told HGD.out HTR.out hab hia)
          generalize hrs : toldQ s.ls (heldQ s.ls a) = rs at *
          have hrl61 := hsm.2
          have HTS := hide hsm.1
          clear hkv4 hsm hmk0 hma hrs HQ
          go_wp2_with fail
          refine (HRC.out).mono ?_
          rintro e w5 ⟨Z5, v5, rfl, hkv5, hkn5, hrow5, hnz5⟩
          have hrs0 : 0 < rs.length := by rw [← HWT.out]; simp [wtL]
          obtain ⟨t0, tc, hv, _, ht0⟩ := own_some hrow5 hrs0
          subst hv
          have HT5 := hide (HT4.out.kn hkv5 hkn5)
          have HR5 := hide (HR4.out.kn hkn5)
          have HTL : Hid (Cl w5 t0 rs ∧ ¬ Z5 t0) := ⟨⟨ht0, fun j hj => ownInts_cell hrow5 j hj⟩, hnz5 t0 rfl⟩
          have cb := (HT5.out.rows (3, b1, upF 13 (fun i => .int .i64 (markF s i)) (.int .i64 0)) (by simp)).1.cell a (by omega)
          simp only [] at cb
          rw [HUA.out] at cb
          have HZ5 : Hid (∀ k, Z5 k → k < w5.heap.size) := fun k hk => (hkv5.zin k hk).2
          have HS5 := hide hkv5.size
          have hdm : decide (ma < 0) = false := decide_eq_false (by omega)
          clear hkv5 hkn5 hrow5 hnz5 HRC HT4 HR4
          have hcW : (w5.alloc (.cells (z14 (.bool false)) 4)).cell? ⟨w5.heap.size, a, none⟩ = some (.bool false) := (mkB14_row w5).cell a (by omega)
          have fW := blk_free (heap_alloc_new w5 (.cells (z14 (.bool false)) 4)) a
          have HT6 : Hid (TI 1 w Lb (sR s a) [(4, w5.heap.size, cmF es a 0), (3, b2, upF 13 (fun i => .int .i64 (heldF s i : Int)) (.int .i64 0)), (3, b1, upF 13 (fun i => .int .i64 (markF s i)) (.int .i64 0))] (w5.alloc (.cells ((z14 (.bool false)).setIfInBounds a (.bool true)) 4)) Z5) := by
            refine (HT5.out.below (al1 w5 (.cells ((z14 (.bool false)).setIfInBounds a (.bool true)) 4))).add (R14.new 4 w5 _ (by simp [z14_size]) _ (fun i hi => ?_)) (fun hz => by have := HZ5.out _ hz; omega)
            rw [← cmF_zero es a]
            by_cases hia : i = a
            · subst hia; simp [z14_size, hi]
            · rw [Array.getElem?_setIfInBounds_ne (by omega), z14_get _ i hi]; simp [hia]
          have HR6 : Hid (Ro2 w.heap.size (w5.alloc (.cells ((z14 (.bool false)).setIfInBounds a (.bool true)) 4)) Z5 u7 u8 (es.map Prod.fst) (es.map Prod.snd) ∧ (∀ g, u7.ownBlock = some g → g < w5.heap.size) ∧ ∀ g, u8.ownBlock = some g → g < w5.heap.size) :=
            ⟨HR5.out.kn (Kn.below (al1 w5 _)), fun g hg => (HR5.out.c.lt g hg).2, fun g hg => (HR5.out.p.lt g hg).2⟩
          have HTL6 : Hid (Cl (w5.alloc (.cells ((z14 (.bool false)).setIfInBounds a (.bool true)) 4)) t0 rs ∧ t0 < w5.heap.size) := ⟨((Kn.below (Z := Z5) (al1 w5 _)).cl HTL.out.1 HTL.out.2).1, ht0⟩
          have HZS : Hid (¬ Z5 t0) := HTL.out.2
          obtain ⟨na, nc, hcv⟩ := own_shapeV HR5.out.c
          obtain ⟨ca', cc', hpv⟩ := own_shapeV HR5.out.p
          rw [List.length_map] at hcv hpv
          subst hcv
          subst hpv
          have HEN := hide HTR.out.ent
          have HCA := hide (cmF_all HTR.out hab.2)
          clear HT5 HR5 HTL
          go_wp2_with fail
          obtain ⟨wq, HWQ⟩ : ∃ wq, Hid (wq = w5.alloc (.cells ((z14 (.bool false)).setIfInBounds a (.bool true)) 4)) := ⟨_, rfl⟩
          rw [← HWQ.out] at HT6 HR6 HTL6
          rw [← HWQ.out]
          obtain ⟨b3, HB3⟩ : ∃ b3, Hid (b3 = w5.heap.size) := ⟨_, rfl⟩
          rw [← HB3.out] at HT6 HR6 HTL6
          rw [← HB3.out]
          have hb30 : w.heap.size ≤ b3 := by rw [HB3.out]; exact HS5.out
          clear HWQ hcW fW cb
          go_loopw [20] (fun ii wx => ∃ i : Nat, ii = .int .i64 (i : Int) ∧ i ≤ es.length ∧ TI 1 w Lb (sR s a) [(4, b3, cmF es a i), (3, b2, upF 13 (fun i => .int .i64 (heldF s i : Int)) (.int .i64 0)), (3, b1, upF 13 (fun i => .int .i64 (markF s i)) (.int .i64 0))] wx Z5 ∧ Ro2 w.heap.size wx Z5 (.slice na es.length nc) (.slice ca' es.length cc') (es.map Prod.fst) (es.map Prod.snd) ∧ Cl wx t0 rs) (fun ii _ => es.length - (intOf ii).toNat)
          case atStart => exact ⟨0, rfl, by omega, HT6.out, HR6.out.1, HTL6.out.1⟩
          case round =>
            obtain ⟨i, rfl, hi', hti, hro, hcl⟩ := hrel
            by_cases hlt : i < es.length
            · have he := HEN.out (es.getD i (0, 0)) (by simp [List.getD_eq_getElem?_getD, hlt])
              obtain ⟨cb, ccap, hcv, _, _⟩ := own_some hro.c (by simp; omega)
              obtain ⟨pb, pcap, hpv, _, _⟩ := own_some hro.p (by simp; omega)
              rw [List.length_map] at hcv hpv
              simp only [Value.slice.injEq] at hcv hpv
              obtain ⟨rfl, _, rfl⟩ := hcv
              obtain ⟨rfl, _, rfl⟩ := hpv
              have cc1 : wr.cell? ⟨cb, i, none⟩ = some (.int .i64 ((es.getD i (0, 0)).1 : Int)) := by
                have h := hro.c
                rw [List.length_map] at h
                have := ownInts_cell (ns := es.map Prod.fst) (by rw [List.length_map]; exact h) i (by simp; exact hlt)
                rw [show (es.map Prod.fst).getD i 0 = (es.getD i (0, 0)).1 by simp [List.getD_eq_getElem?_getD, hlt]] at this
                exact this
              have cp1 : wr.cell? ⟨pb, i, none⟩ = some (.int .i64 ((es.getD i (0, 0)).2 : Int)) := by
                have h := hro.p
                rw [List.length_map] at h
                have := ownInts_cell (ns := es.map Prod.snd) (by rw [List.length_map]; exact h) i (by simp; exact hlt)
                rw [show (es.map Prod.snd).getD i 0 = (es.getD i (0, 0)).2 by simp [List.getD_eq_getElem?_getD, hlt]] at this
                exact this
              have hrow := (hti.rows (4, b3, cmF es a i) (by simp)).1
              have cm1 : wr.cell? ⟨b3, (es.getD i (0, 0)).2, none⟩ = some (.bool ((es.take i).foldl comF (fun m => m == a) (es.getD i (0, 0)).2)) := hrow.cell _ (by omega)
              by_cases hf : (es.take i).foldl comF (fun m => m == a) (es.getD i (0, 0)).2 = true
              · have cx1 : wr.cell? ⟨b3, (es.getD i (0, 0)).1, none⟩ = some (.bool ((es.take i).foldl comF (fun m => m == a) (es.getD i (0, 0)).1)) := hrow.cell _ (by omega)
                obtain ⟨csq, hcs, _, _⟩ := hrow
                have fx1 := blk_free hcs (es.getD i (0, 0)).1
                have HTN := hide (hti.setB (by simp) hb30 (es.getD i (0, 0)).1 (by omega) (.bool true))
                rw [cmF_yes hlt hf] at HTN
                have HRN := hide (Ro2.setO (b := b3) hro (fun g hg e => by have := HR6.out.2.1 g hg; omega) (fun g hg e => by have := HR6.out.2.2 g hg; omega) (es.getD i (0, 0)).1 (.bool true))
                have HCN := hide (hcl.setO (show t0 ≠ b3 by have := HTL6.out.2; omega) (es.getD i (0, 0)).1 (.bool true))
                rw [hf] at cm1
                generalize (es.take i).foldl comF (fun m => m == a) (es.getD i (0, 0)).1 = bb at *
                generalize (es.getD i (0, 0)).1 = ci at *
                generalize (es.getD i (0, 0)).2 = pi at *
                clear hti hro hcl hcs hf
                go_wp2_with fail
                go_roundw
                case rel => exact ⟨i + 1, by go_num, by omega, HTN.out, HRN.out, HCN.out⟩
                case measure => simp [intOf]; omega
              · have hf' : (es.take i).foldl comF (fun m => m == a) (es.getD i (0, 0)).2 = false := by simpa using hf
                have HTN := hide hti
                rw [cmF_no hlt hf'] at HTN
                have HRN := hide hro
                have HCN := hide hcl
                rw [hf'] at cm1
                clear hrow hti hro hcl hf hf'
                generalize (es.getD i (0, 0)).1 = ci at *
                generalize (es.getD i (0, 0)).2 = pi at *
                go_wp2_with fail
                go_roundw
                case rel => exact ⟨i + 1, by go_num, by omega, HTN.out, HRN.out, HCN.out⟩
                case measure => simp [intOf]; omega
            · obtain rfl : i = es.length := by omega
              have HT7 := hide hti
              rw [HCA.out] at HT7
              have HC7 := hide hcl
              clear hti hro hcl hlt
              have HMN := hide (marked_x HT7.out.kv)
              go_wp2_with fail
              refine (HMN.out).mono ?_
              rintro e w7 ⟨Z7, b4, rfl, hkv7, hkn7, hr4, hz4, hb4⟩
              have HT8 := hide ((HT7.out.kn hkv7 hkn7).add hr4 hz4)
              have HC8 := hide (hkn7.cl HC7.out HZS.out)
              have HZ7 : Hid (∀ k, Z7 k → k < w7.heap.size) := fun k hk => (hkv7.zin k hk).2
              have HS7 := hide hkv7.size
              clear hkv7 hkn7 hr4 hz4 hb4 HT7 HC7 HMN
              have HTW : Hid (TI 1 w Lb (sR s a) [(3, b4, upF 13 (fun i => .int .i64 (markF (sR s a) i)) (.int .i64 0)), (4, b3, fun n => .bool (comB s.ls a n)), (3, b2, upF 13 (fun i => .int .i64 (heldF s i : Int)) (.int .i64 0)), (3, b1, upF 13 (fun i => .int .i64 (markF s i)) (.int .i64 0))] (w7.alloc (.cells #[.int .i64 0] 3)) Z7) := HT8.out.below (al1 w7 _)
              have HCW : Hid (Cl (w7.alloc (.cells #[.int .i64 0] 3)) t0 rs ∧ t0 < w7.heap.size) := ⟨HC8.out.1.below (al1 w7 _), HC8.out.1.1⟩
              have HWW : Hid ((w7.alloc (.cells #[.int .i64 0] 3)).ownsRow w7.heap.size 3 1 (.slice (some ⟨w7.heap.size, 0, none⟩) 1 1) (wtL s.ls a 0).length (I (wtL s.ls a 0))) := own_lit w7 [0] (by simp)
              have HBL : Hid (b1 < w7.heap.size ∧ b2 < w7.heap.size ∧ b3 < w7.heap.size ∧ b4 < w7.heap.size) := ⟨HT8.out.tail.tail.tail.head.1.lt, HT8.out.tail.tail.head.1.lt, HT8.out.tail.head.1.lt, HT8.out.head.1.lt⟩
              clear HT8 HC8 HT6 HR6 HTL6
              go_wp2_with fail
              obtain ⟨wq2, HWQ⟩ : ∃ wq, Hid (wq = w7.alloc (.cells #[.int .i64 0] 3)) := ⟨_, rfl⟩
              rw [← HWQ.out] at HTW HCW HWW
              rw [← HWQ.out]
              obtain ⟨wB, HWB⟩ : ∃ wB, Hid (wB = w7.heap.size) := ⟨_, rfl⟩
              rw [← HWB.out] at HCW HWW HBL HZ7 HS7
              rw [← HWB.out]
              clear HWQ HWB
              go_loopw [22, 23] (fun wv ii wx => ∃ (k : Nat), ii = .int .i64 ((k + 1 : Nat) : Int) ∧ k ≤ 13 ∧ TI 1 w Lb (sR s a) [(3, b4, upF 13 (fun i => .int .i64 (markF (sR s a) i)) (.int .i64 0)), (4, b3, fun n => .bool (comB s.ls a n)), (3, b2, upF 13 (fun i => .int .i64 (heldF s i : Int)) (.int .i64 0)), (3, b1, upF 13 (fun i => .int .i64 (markF s i)) (.int .i64 0))] wx Z7 ∧ Cl wx t0 rs ∧ wx.ownsRow wB 3 1 wv (wtL s.ls a k).length (I (wtL s.ls a k)) ∧ wB ≤ wx.heap.size) (fun _ ii _ => 14 - (intOf ii).toNat)
              case atStart => exact ⟨0, rfl, by omega, HTW.out, HCW.out.1, HWW.out, by have := (HWW.out.lt wB rfl).2; omega⟩
              case round =>
                clear HTW HWW
                obtain ⟨k, rfl, hk, hti, hcl, hwt, hwB⟩ := hrel
                have hwl := wtL_len s.ls a k
                by_cases hlt : k < 13
                · have r4 : wr.cell? ⟨b4, k + 1, none⟩ = some (.int .i64 (markF (sR s a) (k + 1))) := by
                    have := hti.head.1.cell (k + 1) (by omega)
                    rw [upF_at (by omega) (by omega)] at this; exact this
                  have r3 : wr.cell? ⟨b3, k + 1, none⟩ = some (.bool (comB s.ls a (k + 1))) := hti.tail.head.1.cell (k + 1) (by omega)
                  have r2 : wr.cell? ⟨b2, k + 1, none⟩ = some (.int .i64 (heldF s (k + 1) : Int)) := by
                    have := hti.tail.tail.head.1.cell (k + 1) (by omega)
                    rw [upF_at (by omega) (by omega)] at this; exact this
                  have r1 : wr.cell? ⟨b1, k + 1, none⟩ = some (.int .i64 (markF s (k + 1))) := by
                    have := hti.tail.tail.tail.head.1.cell (k + 1) (by omega)
                    rw [upF_at (by omega) (by omega)] at this; exact this
                  have hmb := markF_le s (k + 1)
                  have hmb' := markF_le (sR s a) (k + 1)
                  have hhb : heldF s (k + 1) < 9223372036854775808 := heldF_ltx (s := s) hti.kv rfl (k + 1)
                  cases hcm : comB s.ls a (k + 1) with
                  | false =>
                    have HMM : Hid (markF (sR s a) (k + 1) = markF s (k + 1)) := mark_no hcm
                    have HWN : Hid (wtL s.ls a (k + 1) = wtL s.ls a k) := wtL_no (fun h => by rw [hcm] at h; cases h.1)
                    rw [hcm] at r3
                    rw [HMM.out] at r4
                    have HTI := hide hti
                    have HCL := hide hcl
                    have HWT2 := hide hwt
                    rw [← HWN.out] at HWT2
                    generalize markF s (k + 1) = mk at *
                    generalize heldF s (k + 1) = hl at *
                    clear hti hcl hwt HMM HWN hmb'
                    go_wp2_with fail
                    go_quiet (fail)
                    go_wp2_with fail
                    go_roundw
                    case rel => exact ⟨k + 1, by go_num, by omega, HTI.out.below (below_drewN (Below.refl _ _) nq), HCL.out.below (below_drewN (Below.refl _ _) nq), own_below HWT2.out (below_drewN (Below.refl _ _) nq), Nat.le_trans hwB (below_drewN (Below.refl _ _) nq : Below wr.heap.size wr _).size⟩
                    case measure => simp [intOf]; omega
                  | true =>
                    have hci := comB_in hia hcm
                    have HMM : Hid (markF (sR s a) (k + 1) = 1) := mark_yes hia hcm
                    have HHE : Hid (heldF s (k + 1) = heldOfN s.ls (k + 1)) := held_eq s (k + 1) hci
                    rw [hcm] at r3
                    rw [HMM.out] at r4
                    obtain ⟨g, wc, hwv, hg1, hg2⟩ := own_some hwt (by simp [wtL])
                    subst hwv
                    by_cases hpos : 0 < heldF s (k + 1)
                    · have HWY := hide (wtL_yes (ls := s.ls) (a := a) (k := k) hcm (by rw [← HHE.out]; exact hpos))
                      rw [← HHE.out] at HWY
                      obtain ⟨qn, hqn⟩ : ∃ qn, qn = (hN s.ls (cmL s.ls a k)).length := ⟨_, rfl⟩
                      obtain ⟨tl, htl⟩ : ∃ tl, tl = tN s.ls (hN s.ls (cmL s.ls a k)) := ⟨_, rfl⟩
                      have hwk : wtL s.ls a k = qn :: tl := by rw [hqn, htl]; rfl
                      have htn : tl.length = qn * 2 := by rw [htl, hqn, tN_len]
                      rw [hwk] at hwt hwl ⊢
                      rw [← hqn, ← htl] at HWY
                      have hln : (qn :: tl).length = 1 + qn * 2 := by rw [List.length_cons, htn]; omega
                      rw [hln] at hwt hwl ⊢
                      have hqb : qn ≤ 13 := by omega
                      have cw0 : wr.cell? ⟨g, 0, none⟩ = some (.int .i64 (qn : Int)) := by
                        have := ownInts_cell (ns := qn :: tl) (by rw [hln]; exact hwt) 0 (by simp)
                        exact this
                      obtain ⟨cw, hcw⟩ := own_ty hwt (g := g) rfl
                      have fw0 := blk_free hcw 0
                      have HOT : Hid ((wr.setCell ⟨g, 0, none⟩ (.int .i64 ((qn : Int) + 1))).ownsRow wB 3 1 (.slice (some ⟨g, 0, none⟩) (1 + qn * 2) wc) (1 + qn * 2) (I ((qn + 1) :: tl))) := (hwt.stored 0 (.int .i64 ((qn : Int) + 1))).1
                      have hzg : ¬ Z7 g := fun hz => by have := HZ7.out g hz; omega
                      have hbl4 := HBL.out
                      have hneR : ∀ x ∈ ([(3, b4, upF 13 (fun i => .int .i64 (markF (sR s a) i)) (.int .i64 0)), (4, b3, fun n => .bool (comB s.ls a n)), (3, b2, upF 13 (fun i => .int .i64 (heldF s i : Int)) (.int .i64 0)), (3, b1, upF 13 (fun i => .int .i64 (markF s i)) (.int .i64 0))] : List (TypeId × Nat × (Nat → Value))), x.2.1 ≠ g := by
                        intro x hx e
                        simp only [List.mem_cons, List.not_mem_nil, or_false] at hx
                        rcases hx with rfl | rfl | rfl | rfl <;> (simp only at e; omega)
                      have hS7 := HS7.out
                      have HTT := hide (hti.setO hneR hzg (by omega) 0 (.int .i64 ((qn : Int) + 1)))
                      have HCT := hide (hcl.setO (show t0 ≠ g by have := HCW.out.2; omega) 0 (.int .i64 ((qn : Int) + 1)))
                      have z2 : (wr.setCell ⟨g, 0, none⟩ (.int .i64 ((qn : Int) + 1))).cell? ⟨b2, k + 1, none⟩ = some (.int .i64 (heldF s (k + 1) : Int)) := (World.cell?_of_block (a := ⟨b2, k + 1, none⟩) (Below.heap_setCell _ _ _ _ (show b2 ≠ g by omega))).trans r2
                      have z3 : (wr.setCell ⟨g, 0, none⟩ (.int .i64 ((qn : Int) + 1))).cell? ⟨b3, k + 1, none⟩ = some (.bool true) := (World.cell?_of_block (a := ⟨b3, k + 1, none⟩) (Below.heap_setCell _ _ _ _ (show b3 ≠ g by omega))).trans r3
                      have z4 : (wr.setCell ⟨g, 0, none⟩ (.int .i64 ((qn : Int) + 1))).cell? ⟨b4, k + 1, none⟩ = some (.int .i64 1) := (World.cell?_of_block (a := ⟨b4, k + 1, none⟩) (Below.heap_setCell _ _ _ _ (show b4 ≠ g by omega))).trans r4
                      have HNR := hide hneR
                      have HTN2 := hide htn
                      generalize heldF s (k + 1) = hl at *
                      clear hti hcl hwt hcw hqn htl hwk htn hln HMM HHE hci hmb hmb' hneR hbl4 hS7
                      go_wp2_with (at_builtin; refine wpList_append_own_at _ rfl _ _ 55 rfl wB 3 i0 (.int .i64 0) 1 8 tU48 hi hz0 hz1 hz2 rfl (by decide) (.slice (some ⟨g, 0, none⟩) (1 + qn * 2) wc) (1 + qn * 2) (I ((qn + 1) :: tl)) rfl ?ho ⟨wr.heap.size, 0, none⟩ 2 2 [.int .i64 ((k : Int) + 1), .int .i64 (hl : Int)] rfl rfl ?c1 ?c2 ?c3 ?c4 ?c5 ?_)
                      case ho => exact HOT.out.alloc _
                      case c1 => exact two_new' _ _ _ _ _ (by simp [World.setCell])
                      case c2 => intro u hu; simp at hu; rcases hu with rfl | rfl <;> rfl
                      case c3 => unfold maxLen; omega
                      case c4 => omega
                      case c5 => simp [World.setCell]; omega
                      intro v9 w9 hown9 hg9 hnn9 hat9
                      have hbk9 : ∀ b, b < wB → w9.heap[b]? = (wr.setCell ⟨g, 0, none⟩ (.int .i64 ((qn : Int) + 1))).heap[b]? := fun b hb => (hg9.block b (by simp [World.setCell]; omega) (by simp [Value.ownBlock]; omega)).trans (Below.heap_alloc _ _ _ (by simp [World.setCell]; omega))
                      have hsz9 : (wr.setCell ⟨g, 0, none⟩ (.int .i64 ((qn : Int) + 1))).heap.size ≤ w9.heap.size := Nat.le_trans (by simp) hg9.size
                      have HT9 := hide ((HTT.out.below (al1 _ (.cells #[.int .i64 ((k : Int) + 1), .int .i64 (hl : Int)] 3))).grown hg9 (fun b e => by simp [Value.ownBlock] at e; subst e; exact ⟨hzg, by have := HS7.out; omega⟩) (fun x hx e => by simp [Value.ownBlock] at e; exact HNR.out x hx e.symm))
                      have HC9 := hide (HCT.out.keep (hbk9 t0 HCW.out.2) hsz9)
                      have hb4' := HBL.out
                      have y3 : w9.cell? ⟨b3, k + 1, none⟩ = some (.bool true) := (World.cell?_of_block (a := ⟨b3, k + 1, none⟩) (hbk9 b3 (by omega))).trans z3
                      have y4 : w9.cell? ⟨b4, k + 1, none⟩ = some (.int .i64 1) := (World.cell?_of_block (a := ⟨b4, k + 1, none⟩) (hbk9 b4 (by omega))).trans z4
                      have HO9 : Hid (w9.ownsRow wB 3 1 v9 (wtL s.ls a (k + 1)).length (I (wtL s.ls a (k + 1)))) := by
                        unfold Hid
                        rw [HWY.out]
                        have e1 : I ((qn + 1) :: (tl ++ [k + 1, hl])) = I ((qn + 1) :: tl) ++ [.int .i64 ((k : Int) + 1), .int .i64 (hl : Int)] := by simp [I]
                        have e2 : ((qn + 1) :: (tl ++ [k + 1, hl])).length = 1 + qn * 2 + 2 := by
                          have := HTN2.out
                          simp only [List.length_cons, List.length_append, List.length_nil]; omega
                        rw [e1, e2]; exact hown9
                      have hw9 : wB ≤ w9.heap.size := Nat.le_trans (by simp [World.setCell]; omega) hsz9
                      clear hown9 hg9 hnn9 hat9 hbk9 hsz9 hb4' z2 z3 z4 cw0 fw0 r1 r2 r3 r4
                      go_wp2_with fail
                      go_quiet (fail)
                      go_wp2_with fail
                      go_roundw
                      case rel => exact ⟨k + 1, by go_num, by omega, HT9.out.below (below_drewN (Below.refl _ _) nq), HC9.out.below (below_drewN (Below.refl _ _) nq), own_below HO9.out (below_drewN (Below.refl _ _) nq), Nat.le_trans hw9 (below_drewN (Below.refl _ _) nq : Below w9.heap.size w9 _).size⟩
                      case measure => simp [intOf]; omega
                    · have HWN : Hid (wtL s.ls a (k + 1) = wtL s.ls a k) := wtL_no (fun h => by rw [← HHE.out] at h; exact hpos h.2)
                      have hz : heldF s (k + 1) = 0 := by omega
                      rw [hz] at r2
                      have HTI := hide hti
                      have HCL := hide hcl
                      have HWT2 := hide hwt
                      rw [← HWN.out] at HWT2
                      obtain ⟨wl, hwl'⟩ : ∃ wl, wl = (wtL s.ls a k).length := ⟨_, rfl⟩
                      clear hti hcl hwt HMM HHE hci hmb hmb' hpos hz
                      go_wp2_with fail
                      go_quiet (fail)
                      go_wp2_with fail
                      go_roundw
                      case rel => exact ⟨k + 1, by go_num, by omega, HTI.out.below (below_drewN (Below.refl _ _) nq), HCL.out.below (below_drewN (Below.refl _ _) nq), own_below (by rw [HWN.out] at HWT2 ⊢; exact HWT2.out) (below_drewN (Below.refl _ _) nq), Nat.le_trans hwB (below_drewN (Below.refl _ _) nq : Below wr.heap.size wr _).size⟩
                      case measure => simp [intOf]; omega
                · obtain rfl : k = 13 := by omega
                  rw [HWT.out] at hwt
                  obtain ⟨g, wc, hwv, hg1, hg2⟩ := own_some hwt hrs0
                  subst hwv
                  rw [show ((13 + 1 : Nat) : Int) = 14 from rfl]
                  have HINI2 : Hid (TI 1 w Lb (sR s a) [(3, b1, upF 13 (fun i => .int .i64 (markF s i)) (.int .i64 0))] wr Z7 ∧ Cl wr t0 rs ∧ wr.ownsRow wB 3 1 (.slice (some ⟨g, 0, none⟩) rs.length wc) rs.length (I rs)) := ⟨hti.tail.tail.tail, hcl, hwt⟩
                  clear hti hcl hwt hlt hwl hk hg2 hwB
                  go_wp2_with fail
                  go_loopw [24] (fun ii wx => ∃ k : Nat, ii = .int .i64 (k : Int) ∧ k ≤ rs.length ∧ TI 1 w Lb (sR s a) [(3, b1, upF 13 (fun i => .int .i64 (markF s i)) (.int .i64 0))] wx Z7 ∧ Cl wx t0 rs ∧ wx.ownsRow wB 3 1 (.slice (some ⟨g, 0, none⟩) rs.length wc) rs.length (I rs)) (fun ii _ => rs.length - (intOf ii).toNat)
                  case atStart => exact ⟨0, rfl, by omega, HINI2.out.1, HINI2.out.2.1, HINI2.out.2.2⟩
                  case round =>
                    clear HINI2
                    obtain ⟨k, rfl, hk, hti, hcl, hwt⟩ := hrel
                    by_cases hlt : k < rs.length
                    · have c1 := hcl.2 k hlt
                      have c2 := ownInts_cell hwt k hlt
                      have hxb : rs.getD k 0 < 9223372036854775808 := HTS.out _ (by simp [List.getD_eq_getElem?_getD, hlt])
                      have HTI := hide hti
                      have HCL := hide hcl
                      have HWT2 := hide hwt
                      generalize rs.getD k 0 = x at *
                      clear hti hcl hwt
                      go_wp2_with fail
                      go_quiet (fail)
                      go_wp2_with fail
                      go_roundw
                      case rel => exact ⟨k + 1, by go_num, by omega, HTI.out.below (below_drewN (Below.refl _ _) nq), HCL.out.below (below_drewN (Below.refl _ _) nq), own_below HWT2.out (below_drewN (Below.refl _ _) nq)⟩
                      case measure => simp [intOf]; omega
                    · obtain rfl : k = rs.length := by omega
                      have HTX0 := hide hti
                      have hle : lookE (sR s a) a = 0 := by unfold lookE; rw [if_pos (show idx a (sR s a).ls < (sR s a).ls.length from hia)]
                      have hfr4 : (lookN (sR s a) a).getD 4 0 = (lotAt s.ls a).free := by unfold lookN; rw [if_pos (show idx a (sR s a).ls < (sR s a).ls.length from hia)]; rfl
                      have HLK : Hid (Calls Tryz.prog 25 #[.pointer (some ⟨Lb, 0, none⟩), .int .i64 11, .slice (some ⟨wr.heap.size, 0, none⟩) 1 1] (wr.alloc (.cells #[.int .i64 (a : Int)] 3)) fun e w' => ∃ Z' q qc, e = .returned (.tuple #[.int .i64 0, .slice (some ⟨q, 0, none⟩) 10 qc]) ∧ TI 1 w Lb (sR s a) [(3, b1, upF 13 (fun i => .int .i64 (markF s i)) (.int .i64 0))] w' Z' ∧ w'.cell? ⟨q, 4, none⟩ = some (.int .i64 ((lotAt s.ls a).free : Int))) := (look_numx hti.kv a hab.1 (by omega) hle).mono (fun e w' hh => by
                        obtain ⟨Z', q, qc, q1, q2, q3, q4, q5, q6⟩ := hh
                        have h4 := q6 4 (by omega)
                        rw [hfr4] at h4
                        exact ⟨Z', q, qc, q1, hti.kn q2 q3, h4⟩)
                      have hfb : (lotAt s.ls a).free < 9223372036854775808 := by rw [← hfr4]; exact lookN_ltx hti.kv a 4
                      have HFR : Hid (0 < (lotAt s.ls a).free → repV (sR s a) (.ok (3, [a, 99, 1])) = UInt8.ofNat 0 :: Pl.toldB [] ∧ stepZ (sR s a) (.ok (3, [a, 99, 1])) = sP s a) := fun h => split_step HGD.out HTR.out hia h
                      have HF9 : Hid (0 < (lotAt s.ls a).free → lookE (sP s a) 99 = 0 ∧ (lookN (sP s a) 99).length = 10 ∧ (lookN (sP s a) 99).getD 9 0 = 1) := fun h => look99 HGD.out HTR.out hia h
                      have HFS : Hid (0 < (lotAt s.ls a).free → repV (sP s a) (.ok (10, [99, 1])) = UInt8.ofNat 0 :: Pl.toldB [] ∧ stepZ (sP s a) (.ok (10, [99, 1])) = sQ s a) := fun h => scrap_step HGD.out HTR.out hia h
                      have HFI : Hid (0 < (lotAt s.ls a).free → (scrapS (splitS s.ls a 99 1) 99 1).map idp = s.ls.map idp ++ [(99, [(a, 1)])]) := fun h => by rw [scrap_idp]; exact split99_idp hia (split99 HGD.out HTR.out hia h)
                      clear hti hcl hwt hlt hle hfr4 HTX0 HWT
                      generalize (lotAt s.ls a).free = fr at *
                      by_cases hfr : 0 < fr
                      · have HSP1 : Hid (∀ (w2 : World) (Z2 : Nat → Prop), Kx 1 w.heap.size w w2 Z2 Lb (sR s a) → Calls Tryz.prog 25 #[.pointer (some ⟨Lb, 0, none⟩), .int .i64 3, .slice (some ⟨w2.heap.size, 0, none⟩) 3 3] (w2.alloc (.cells #[.int .i64 (a : Int), .int .i64 99, .int .i64 1] 3)) fun e w' => ∃ Z' v, e = .returned (.tuple #[.int .i64 0, v]) ∧ Kx 2 w.heap.size w w' Z' Lb (sP s a) ∧ Kn Z2 w2 Z' w') := fun w2 Z2 h2 => ask_split h2 (by omega) a ⟨hab.1, by omega⟩ _ (HFR.out hfr)
                        have HSP2 : Hid (∀ (w2 : World) (Z2 : Nat → Prop), Kx 2 w.heap.size w w2 Z2 Lb (sP s a) → Calls Tryz.prog 25 #[.pointer (some ⟨Lb, 0, none⟩), .int .i64 11, .slice (some ⟨w2.heap.size, 0, none⟩) 1 1] (w2.alloc (.cells #[.int .i64 99] 3)) fun e w' => ∃ Z' q qc, e = .returned (.tuple #[.int .i64 0, .slice (some ⟨q, 0, none⟩) 10 qc]) ∧ Kx 2 w.heap.size w w' Z' Lb (sP s a) ∧ Kn Z2 w2 Z' w' ∧ q < w'.heap.size ∧ w'.cell? ⟨q, 9, none⟩ = some (.int .i64 1) ∧ ¬ Z' q) := fun w2 Z2 h2 => (look_numZx h2 99 (by omega) (by omega) (HF9.out hfr).1).mono (fun e w' hh => by
                          obtain ⟨Z', q, qc, q1, q2, q3, q4, q5, q6, q7⟩ := hh
                          have h9 := q6 9 (by omega)
                          rw [(HF9.out hfr).2.2] at h9
                          exact ⟨Z', q, qc, q1, q2, q3, q5, h9, q7⟩)
                        have HSP3 : Hid (∀ (w2 : World) (Z2 : Nat → Prop), Kx 2 w.heap.size w w2 Z2 Lb (sP s a) → Calls Tryz.prog 25 #[.pointer (some ⟨Lb, 0, none⟩), .int .i64 10, .slice (some ⟨w2.heap.size, 0, none⟩) 2 2] (w2.alloc (.cells #[.int .i64 99, .int .i64 1] 3)) fun e w' => ∃ Z' v, e = .returned (.tuple #[.int .i64 0, v]) ∧ Kx 3 w.heap.size w w' Z' Lb (sQ s a) ∧ Kn Z2 w2 Z' w') := fun w2 Z2 h2 => (ask_two h2 (by omega) 10 (Or.inr (Or.inr rfl)) 99 1 (by omega) (by omega) 0 [] (sQ s a) (by omega) (HFS.out hfr) (by simp) (by simp)).mono (fun e w' hh => by obtain ⟨Z', v, q1, q2, q3, _, _⟩ := hh; exact ⟨Z', v, q1, q2, q3⟩)
                        have HMI := hide (HFI.out hfr)
                        clear HFR HF9 HFS HFI
                        go_wp2_with (go_at_call 25; with_reducible refine (HLK.out).mono ?_; rintro e w10 ⟨Z10, q, qc, rfl, ht10, c4⟩; have HT10 := hide ht10; clear ht10)
                        have HA := hide (HSP1.out _ _ HT10.out.kv)
                        refine (HA.out).mono ?_
                        rintro e w11 ⟨Z11, v11, rfl, hkv11, hkn11⟩
                        have HT11 := hide (HT10.out.kn hkv11 hkn11)
                        have HB := hide (HSP2.out _ _ hkv11)
                        clear hkv11 hkn11 HT10 HA HSP1 HSP2 HLK c4
                        go_wp2_with fail
                        refine (HB.out).mono ?_
                        rintro e w12 ⟨Z12, q9, qc9, rfl, hkv12, hkn12, hq9l, c9, hq9z⟩
                        have HT12 := hide (HT11.out.kn hkv12 hkn12)
                        have HC := hide (HSP3.out _ _ hkv12)
                        clear hkv12 hkn12 HT11 HB HSP3
                        go_wp2_with fail
                        refine (HC.out).mono ?_
                        rintro e w13 ⟨Z13, v13, rfl, hkv13, hkn13⟩
                        have c9' : w13.cell? ⟨q9, 9, none⟩ = some (.int .i64 1) := (World.cell?_of_block (a := ⟨q9, 9, none⟩) (hkn13.keep q9 hq9l hq9z).1).trans c9
                        have HTX := hide (HT12.out.kn hkv13 hkn13)
                        clear hkv13 hkn13 HT12 HC c9 hq9z
                        go_wp2_with fail
                        have HE1 : Hid (∀ (w2 : World) (Z2 : Nat → Prop), Kx 3 w.heap.size w w2 Z2 Lb (sQ s a) → Calls Tryz.prog 25 #[.pointer (some ⟨Lb, 0, none⟩), .int .i64 9, .slice (some ⟨w2.heap.size, 0, none⟩) 2 2] (w2.alloc (.cells #[.int .i64 (a : Int), .int .i64 77] 3)) fun e w' => ∃ Z' v, e = .returned (.tuple #[.int .i64 0, v]) ∧ Kx 4 w.heap.size w w' Z' Lb (sE s a) ∧ Kn Z2 w2 Z' w') := fun w2 Z2 h2 => (ask_two h2 (by omega) 9 (Or.inr (Or.inl rfl)) a 77 ⟨hab.1, by omega⟩ (by omega) 0 [] (sE s a) (by omega) (release_step (s' := sQ s a) HRM.out rfl) (by simp) (by simp)).mono (fun e w' hh => by obtain ⟨Z', v, q1, q2, q3, _, _⟩ := hh; exact ⟨Z', v, q1, q2, q3⟩)
                        have HE2 : Hid (∀ (w2 : World) (Z2 : Nat → Prop), Kx 4 w.heap.size w w2 Z2 Lb (sE s a) → Calls Tryz.prog 25 #[.pointer (some ⟨Lb, 0, none⟩), .int .i64 9, .slice (some ⟨w2.heap.size, 0, none⟩) 2 2] (w2.alloc (.cells #[.int .i64 (a : Int), .int .i64 77] 3)) fun e w' => ∃ Z' v, e = .returned (.tuple #[.int .i64 10, v]) ∧ Kx 5 w.heap.size w w' Z' Lb (sE s a) ∧ Kn Z2 w2 Z' w') := fun w2 Z2 h2 => (ask_two h2 (by omega) 9 (Or.inr (Or.inl rfl)) a 77 ⟨hab.1, by omega⟩ (by omega) 10 [] (sE s a) (by omega) (release_none (s' := sE s a) HRM.out a) (by simp) (by simp)).mono (fun e w' hh => by obtain ⟨Z', v, q1, q2, q3, _, _⟩ := hh; exact ⟨Z', v, q1, q2, q3⟩)
                        have HME : Hid (∀ i, i ≤ 13 → markF (sE s a) i = markF s i) := fun i hi => mark_back (s := s) (s' := sE s a) rfl HMI.out hi
                        have HA1 := hide (HE1.out _ _ HTX.out.kv)
                        refine (HA1.out).mono ?_
                        rintro e w20 ⟨Z20, v20, rfl, hkv20, hkn20⟩
                        have HT20 := hide (HTX.out.kn hkv20 hkn20)
                        have HA2 := hide (HE2.out _ _ hkv20)
                        clear hkv20 hkn20 HA1 HE1 HE2
                        go_wp2_with fail
                        refine (HA2.out).mono ?_
                        rintro e w21 ⟨Z21, v21, rfl, hkv21, hkn21⟩
                        have HT21 := hide (HT20.out.kn hkv21 hkn21)
                        have HM21 := hide (marked_x hkv21)
                        clear hkv21 hkn21 HT20 HA2
                        go_wp2_with fail
                        refine (HM21.out).mono ?_
                        rintro e w22 ⟨Z22, b5, rfl, hkv22, hkn22, hr5, hz5, hb5⟩
                        have HT22 := hide ((HT21.out.kn hkv22 hkn22).add hr5 hz5)
                        clear hkv22 hkn22 hr5 hz5 hb5 HT21 HM21
                        go_wp2_with fail
                        go_loopw [32] (fun ii wx => ∃ k : Nat, ii = .int .i64 ((k + 1 : Nat) : Int) ∧ k ≤ 13 ∧ TI 5 w Lb (sE s a) [(3, b5, upF 13 (fun i => .int .i64 (markF (sE s a) i)) (.int .i64 0)), (3, b1, upF 13 (fun i => .int .i64 (markF s i)) (.int .i64 0))] wx Z22) (fun ii _ => 14 - (intOf ii).toNat)
                        case atStart => exact ⟨0, rfl, by omega, HT22.out⟩
                        case round =>
                          clear HT22
                          obtain ⟨k, rfl, hk, hti⟩ := hrel
                          by_cases hlt : k < 13
                          · have s5 : wr.cell? ⟨b5, k + 1, none⟩ = some (.int .i64 (markF s (k + 1))) := by
                              have := hti.head.1.cell (k + 1) (by omega)
                              rw [upF_at (by omega) (by omega)] at this; rw [← HME.out (k + 1) (by omega)]; exact this
                            have s1 : wr.cell? ⟨b1, k + 1, none⟩ = some (.int .i64 (markF s (k + 1))) := by
                              have := hti.tail.head.1.cell (k + 1) (by omega)
                              rw [upF_at (by omega) (by omega)] at this; exact this
                            have hmb := markF_le s (k + 1)
                            have HTI := hide hti
                            generalize markF s (k + 1) = mk at *
                            clear hti
                            go_wp2_with fail
                            go_quiet (fail)
                            go_wp2_with fail
                            go_roundw
                            case rel => exact ⟨k + 1, by go_num, by omega, HTI.out.below (below_drewN (Below.refl _ _) nq)⟩
                            case measure => simp [intOf]; omega
                          · obtain rfl : k = 13 := by omega
                            have HOL := hide hti.kv.old
                            clear hti hlt
                            go_wp2_with fail
                            go_ret
                            exact ⟨rfl, HOL.out⟩
                      · have HTXX := hide HLK.out
                        clear HFR HF9 HFS HFI
                        go_wp2_with (go_at_call 25; with_reducible refine (HLK.out).mono ?_; rintro e w10 ⟨Z10, q, qc, rfl, ht10, c4⟩; have HTX := hide ht10; clear ht10)
                        have HE1 : Hid (∀ (w2 : World) (Z2 : Nat → Prop), Kx 1 w.heap.size w w2 Z2 Lb (sR s a) → Calls Tryz.prog 25 #[.pointer (some ⟨Lb, 0, none⟩), .int .i64 9, .slice (some ⟨w2.heap.size, 0, none⟩) 2 2] (w2.alloc (.cells #[.int .i64 (a : Int), .int .i64 77] 3)) fun e w' => ∃ Z' v, e = .returned (.tuple #[.int .i64 0, v]) ∧ Kx 2 w.heap.size w w' Z' Lb (s) ∧ Kn Z2 w2 Z' w') := fun w2 Z2 h2 => (ask_two h2 (by omega) 9 (Or.inr (Or.inl rfl)) a 77 ⟨hab.1, by omega⟩ (by omega) 0 [] (s) (by omega) (release_step (s' := sR s a) HRM.out rfl) (by simp) (by simp)).mono (fun e w' hh => by obtain ⟨Z', v, q1, q2, q3, _, _⟩ := hh; exact ⟨Z', v, q1, q2, q3⟩)
                        have HE2 : Hid (∀ (w2 : World) (Z2 : Nat → Prop), Kx 2 w.heap.size w w2 Z2 Lb (s) → Calls Tryz.prog 25 #[.pointer (some ⟨Lb, 0, none⟩), .int .i64 9, .slice (some ⟨w2.heap.size, 0, none⟩) 2 2] (w2.alloc (.cells #[.int .i64 (a : Int), .int .i64 77] 3)) fun e w' => ∃ Z' v, e = .returned (.tuple #[.int .i64 10, v]) ∧ Kx 3 w.heap.size w w' Z' Lb (s) ∧ Kn Z2 w2 Z' w') := fun w2 Z2 h2 => (ask_two h2 (by omega) 9 (Or.inr (Or.inl rfl)) a 77 ⟨hab.1, by omega⟩ (by omega) 10 [] (s) (by omega) (release_none HRM.out a) (by simp) (by simp)).mono (fun e w' hh => by obtain ⟨Z', v, q1, q2, q3, _, _⟩ := hh; exact ⟨Z', v, q1, q2, q3⟩)
                        have HA1 := hide (HE1.out _ _ HTX.out.kv)
                        refine (HA1.out).mono ?_
                        rintro e w20 ⟨Z20, v20, rfl, hkv20, hkn20⟩
                        have HT20 := hide (HTX.out.kn hkv20 hkn20)
                        have HA2 := hide (HE2.out _ _ hkv20)
                        clear hkv20 hkn20 HA1 HE1 HE2
                        go_wp2_with fail
                        refine (HA2.out).mono ?_
                        rintro e w21 ⟨Z21, v21, rfl, hkv21, hkn21⟩
                        have HT21 := hide (HT20.out.kn hkv21 hkn21)
                        have HM21 := hide (marked_x hkv21)
                        clear hkv21 hkn21 HT20 HA2
                        go_wp2_with fail
                        refine (HM21.out).mono ?_
                        rintro e w22 ⟨Z22, b5, rfl, hkv22, hkn22, hr5, hz5, hb5⟩
                        have HT22 := hide ((HT21.out.kn hkv22 hkn22).add hr5 hz5)
                        clear hkv22 hkn22 hr5 hz5 hb5 HT21 HM21
                        go_wp2_with fail
                        go_loopw [32] (fun ii wx => ∃ k : Nat, ii = .int .i64 ((k + 1 : Nat) : Int) ∧ k ≤ 13 ∧ TI 3 w Lb (s) [(3, b5, upF 13 (fun i => .int .i64 (markF (s) i)) (.int .i64 0)), (3, b1, upF 13 (fun i => .int .i64 (markF s i)) (.int .i64 0))] wx Z22) (fun ii _ => 14 - (intOf ii).toNat)
                        case atStart => exact ⟨0, rfl, by omega, HT22.out⟩
                        case round =>
                          clear HT22
                          obtain ⟨k, rfl, hk, hti⟩ := hrel
                          by_cases hlt : k < 13
                          · have s5 : wr.cell? ⟨b5, k + 1, none⟩ = some (.int .i64 (markF s (k + 1))) := by
                              have := hti.head.1.cell (k + 1) (by omega)
                              rw [upF_at (by omega) (by omega)] at this; exact this
                            have s1 : wr.cell? ⟨b1, k + 1, none⟩ = some (.int .i64 (markF s (k + 1))) := by
                              have := hti.tail.head.1.cell (k + 1) (by omega)
                              rw [upF_at (by omega) (by omega)] at this; exact this
                            have hmb := markF_le s (k + 1)
                            have HTI := hide hti
                            generalize markF s (k + 1) = mk at *
                            clear hti
                            go_wp2_with fail
                            go_quiet (fail)
                            go_wp2_with fail
                            go_roundw
                            case rel => exact ⟨k + 1, by go_num, by omega, HTI.out.below (below_drewN (Below.refl _ _) nq)⟩
                            case measure => simp [intOf]; omega
                          · obtain rfl : k = 13 := by omega
                            have HOL := hide hti.kv.old
                            clear hti hlt
                            go_wp2_with fail
                            go_ret
                            exact ⟨rfl, HOL.out⟩

      · have HQ := hide (rcl_none (s := s) hia)
        have HRC : Hid (Calls Tryz.prog 25 #[.pointer (some ⟨Lb, 0, none⟩), .int .i64 8, .slice (some ⟨w4.heap.size, 0, none⟩) 2 2] (w4.alloc (.cells #[.int .i64 (a : Int), .int .i64 77] 3)) fun e w' => ∃ Z' v, e = .returned (.tuple #[.int .i64 4, v]) ∧ Kx 1 w.heap.size w w' Z' Lb s ∧ Kn Z4 w4 Z' w') := (ask_two hkv4 (by omega) 8 (Or.inl rfl) a 77 ⟨hab.1, by omega⟩ (by omega) 4 [] s (by omega) HQ.out (by simp) (by simp)).mono (fun e w' hh => by obtain ⟨Z', v, q1, q2, q3, _, _⟩ := hh; exact ⟨Z', v, q1, q2, q3⟩)
        have hmk0 : markF s a = -1 := by rw [mark_eq, if_neg (fun h => hia ((idx_ids a s.ls).2 h))]
        have HUA : Hid (upF 13 (fun i => .int .i64 (markF s i)) (.int .i64 0) a = .int .i64 (-1)) := by unfold Hid upF; rw [if_pos ⟨hab.1, by omega⟩]; show Value.int .i64 (markF s a) = _; rw [hmk0]
        clear hkv4 hmk0 HQ
        go_wp2_with fail
        refine (HRC.out).mono ?_
        rintro e w5 ⟨Z5, v5, rfl, hkv5, hkn5⟩
        have cb := (HT4.out.kn hkv5 hkn5).tail.head.1.cell a (by omega)
        rw [HUA.out] at cb
        have HOL := hide hkv5.old
        clear hkv5 hkn5 HRC HT4 HR4
        go_wp2_with fail
        go_ret
        exact ⟨rfl, HOL.out⟩

end Go.Proofs.YtgcedalggnmooaaGreatDoor
