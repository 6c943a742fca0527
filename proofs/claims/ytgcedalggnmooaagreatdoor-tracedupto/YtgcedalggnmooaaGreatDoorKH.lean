import Derived.Test.YtgcedalggnmooaaGreatDoorKQ
import Derived.Test.YtgcedalggnmooaaGreatDoorKG
namespace Go.Proofs.YtgcedalggnmooaaGreatDoor
set_option linter.unusedSimpArgs false
set_option linter.unusedVariables false
open Go.RowKit
set_option maxRecDepth 100000

/-- A script in memory: five numbers a step. -/
structure Scr (w : World) (b off len : Nat) (X : Nat → Nat → Int) : Prop where
  lt : b < w.heap.size
  raw : ∀ i, i < len → ∀ f, f < 5 → Raw (X i f)
  cell : ∀ i, i < len → ∀ f, f < 5 → w.cell? ⟨b, off + i * 5 + f, none⟩ = some (.int .i64 (X i f))

theorem kinds_len {c : Nat} (h1 : 1 ≤ c) (h2 : c ≤ 12) : (Pl.kindsL c).length ≤ 5 := by
  rcases (show c = 1 ∨ c = 2 ∨ c = 3 ∨ c = 4 ∨ c = 5 ∨ c = 6 ∨ c = 7 ∨ c = 8 ∨ c = 9 ∨ c = 10 ∨ c = 11 ∨ c = 12 by omega) with rfl | rfl | rfl | rfl | rfl | rfl | rfl | rfl | rfl | rfl | rfl | rfl <;> simp [Pl.kindsL]

/-- The command of a script's step. -/
def spX (X : Nat → Nat → Int) (i : Nat) : Nat × List Nat := sp (X i 0) (X i 1) (X i 2) (X i 3) (X i 4)
def cmdX (X : Nat → Nat → Int) (i : Nat) : ByteArray := ⟨(Pl.cmdB (spX X i).1 (spX X i).2).toArray⟩

theorem cmdX_facts (X : Nat → Nat → Int) (i : Nat) : Pl.cmd (cmdX X i).data.toList = .ok (spX X i) ∧ 0 < (cmdX X i).size ∧ (cmdX X i).size ≤ 2097143 ∧ (cmdX X i).data.toList.drop 1 = Pl.toldB (spX X i).2 ∧ (cmdX X i).data.toList.getD 0 0 = UInt8.ofNat (spX X i).1 := by
  obtain ⟨h1, h2, h3, h4, h5⟩ := sp_code (X i 0) (X i 1) (X i 2) (X i 3) (X i 4)
  have hd : (cmdX X i).data.toList = Pl.cmdB (spX X i).1 (spX X i).2 := by unfold cmdX; simp
  have hn : ∀ n ∈ (spX X i).2, n < 9223372036854775808 := fun n hn => by have := h4 n hn; omega
  have hk := kinds_len h1 h2
  have hl := Pl.toldB_len (spX X i).2 hn
  have h3' : (spX X i).2.length = (Pl.kindsL (sp (X i 0) (X i 1) (X i 2) (X i 3) (X i 4)).1).length := h3
  have hs : (cmdX X i).size = 1 + (Pl.toldB (spX X i).2).length := by
    show (Pl.cmdB (spX X i).1 (spX X i).2).toArray.size = _
    unfold Pl.cmdB; simp; omega
  refine ⟨?_, by omega, by omega, by rw [hd]; rfl, by rw [hd]; rfl⟩
  rw [hd]
  exact cmd_cmdB h1 h2 h3 hn h5

theorem spelt_x {w : World} {b off len : Nat} {X : Nat → Nat → Int} (h : Scr w b off len X) (i : Nat) (hi : i < len) (w1 : World) :
    Calls Tryz.prog 22 #[.agg #[.int .i64 (X i 0), .int .i64 (X i 1), .int .i64 (X i 2), .int .i64 (X i 3), .int .i64 (X i 4)]] w1 fun e w' => e = .returned (.string (cmdX X i)) ∧ Below w1.heap.size w1 w' :=
  spelt_any _ _ _ _ _ (h.raw i hi 0 (by omega)) (h.raw i hi 1 (by omega)) (h.raw i hi 2 (by omega)) (h.raw i hi 3 (by omega)) (h.raw i hi 4 (by omega)) w1

theorem handle_x {B : Nat} {w0 w : World} {Z : Nat → Prop} {Lb : Nat} {s : Sv} (h : Kv B w0 w Z Lb s) (hlg : s.lg.length ≤ 35184372088832) (X : Nat → Nat → Int) (i : Nat) :
    Calls Tryz.prog 23 #[.pointer (some ⟨Lb, 0, none⟩), .string (cmdX X i)] w fun e w' => e = .returned (.string ⟨(repV s (.ok (spX X i))).toArray⟩) ∧ ∃ Z', Kv B w0 w' Z' Lb (stepV s (.ok (spX X i))) ∧ Kn Z w Z' w' := by
  obtain ⟨h1, h2, h3, h4, h5⟩ := sp_code (X i 0) (X i 1) (X i 2) (X i 3) (X i 4)
  have hd : (cmdX X i).data.toList = Pl.cmdB (spX X i).1 (spX X i).2 := by unfold cmdX; simp
  have hcf := (cmdX_facts X i).1
  rw [hd] at hcf
  have hsz := (cmdX_facts X i).2.2.1
  have hsl : (cmdX X i).size = (Pl.cmdB (spX X i).1 (spX X i).2).length := by rw [← hd, Array.length_toList]; rfl
  exact handle_kv h (spX X i).1 (spX X i).2 h2 hcf (by omega) (fun _ => hlg)
theorem spX_lg (X : Nat → Nat → Int) (i : Nat) (s : Sv) : (stepV s (.ok (spX X i))).lg.length ≤ s.lg.length + 64 := by
  obtain ⟨h1, h2, h3, h4, h5⟩ := sp_code (X i 0) (X i 1) (X i 2) (X i 3) (X i 4)
  have hk := kinds_len h1 h2
  exact lgC_len s.lg _ (spX X i).1 (spX X i).2 (by have h3' : (spX X i).2.length = _ := h3; omega) (fun n hn => by have := h4 n hn; omega)

set_option maxHeartbeats 3200000 in
theorem conserved_any (a0 : Option Addr) (len cap : Nat) (hlen : len ≤ 2097152) (X : Nat → Nat → Int) (w : World) (hg : Gl w) (hx : 0 < len → ∃ b off, a0 = some ⟨b, off, none⟩ ∧ Scr w b off len X) :
    Calls Tryz.prog 11 #[.slice a0 len cap] w fun e w' => e = .returned (.bool true) ∧ Below w.heap.size w w' := by
  have HOP := hide (opened_any w hg)
  have HX0 := hide hx
  clear hg hx
  go_enter Tryz.func11, Tryz.ntmps11
  go_wp2_with (go_at_call 21; refine (HOP.out).mono ?_; rintro e w1 ⟨Lb, Z, rfl, hkv⟩)
  have HINI : Hid (Kv w.heap.size w w1 Z Lb s2 ∧ Cn s2.ls 5) := ⟨hkv, ⟨fun i hi => by
    rcases (show i = 0 ∨ i = 1 by have : i < 2 := hi; omega) with rfl | rfl <;> (unfold Lw; decide), by decide⟩⟩
  clear hkv HOP
  go_loopw [5, 6, 7, 8, 9] (fun rv ii _ _ _ wr => ∃ (k R : Nat) (Z' : Nat → Prop) (s : Sv), rv = .int .i64 (R : Int) ∧ ii = .int .i64 k ∧ k ≤ len ∧ Kv w.heap.size w wr Z' Lb s ∧ Cn s.ls R ∧ s.lg.length ≤ 200 + 64 * k) (fun _ ii _ _ _ _ => len - (intOf ii).toNat)
  case atStart => exact ⟨0, 5, Z, s2, rfl, rfl, by omega, HINI.out.1, HINI.out.2, s2_lg⟩
  case round =>
    clear HINI
    obtain ⟨k, R, Z1, s, rfl, rfl, hk, hkv, hcn, hslg⟩ := hrel
    have hRb : R ≤ 64424509410 := by
      have h1 := sumF_le L.got 2147483647 s.ls (fun l hl => (hkv.ok l hl).got)
      have h2 := hkv.room
      have h3 := hcn.sum
      have h4 : s.ls.length * 2147483647 ≤ 30 * 2147483647 := Nat.mul_le_mul_right _ h2
      omega
    by_cases hlt : k < len
    · obtain ⟨b, off, ha0, hxs⟩ := HX0.out (by omega)
      subst ha0
      have hblt := hxs.lt
      have HX := hide hxs
      clear hxs
      have c0 : wr.cell? ⟨b, off + k * 5, none⟩ = some (.int .i64 (X k 0)) := (hkv.old.cell (p := ⟨b, off + k * 5 + 0, none⟩) hblt).trans (HX.out.cell k hlt 0 (by omega))
      have c1 := (hkv.old.cell (p := ⟨b, off + k * 5 + 1, none⟩) hblt).trans (HX.out.cell k hlt 1 (by omega))
      have c2 := (hkv.old.cell (p := ⟨b, off + k * 5 + 2, none⟩) hblt).trans (HX.out.cell k hlt 2 (by omega))
      have c3 := (hkv.old.cell (p := ⟨b, off + k * 5 + 3, none⟩) hblt).trans (HX.out.cell k hlt 3 (by omega))
      have c4 := (hkv.old.cell (p := ⟨b, off + k * 5 + 4, none⟩) hblt).trans (HX.out.cell k hlt 4 (by omega))
      have HSP := hide (spelt_x HX.out k hlt)
      have HHD : Hid (∀ w2, Below wr.heap.size wr w2 → Calls Tryz.prog 23 #[.pointer (some ⟨Lb, 0, none⟩), .string (cmdX X k)] w2 fun e w' => e = .returned (.string ⟨(repV s (.ok (spX X k))).toArray⟩) ∧ ∃ Z', Kv w.heap.size w w' Z' Lb (stepV s (.ok (spX X k)))) := fun w2 hb2 => (handle_x (hkv.below hb2) (by omega) X k).mono (fun e w' h => ⟨h.1, h.2.imp (fun Z' h' => h'.1)⟩)
      have HLN : Hid ((stepV s (.ok (spX X k))).lg.length ≤ 200 + 64 * (k + 1)) := by have := spX_lg X k s; unfold Hid; omega
      have HCN : Hid (Cn (stepV s (.ok (spX X k))).ls (R + brings s (spX X k))) := hcn.step hkv.good hkv.room _ _ _ _ _
      obtain ⟨f1, f2, f3, f4, f5⟩ := cmdX_facts X k
      have hne : repV s (.ok (spX X k)) ≠ [] := rep_ne s _ _ _ _ _
      have HTW : Hid ((spX X k).1 = 2 → spX X k = (2, [1 + pk (X k 1) 12, 1 + pk (X k 2) 3, 1 + pk (X k 3) 400, pk (X k 4) 40])) := fun h => sp_two h
      have HNM := hide (knumbers_any (cmdX X k) (by omega))
      rw [f4, Pl.dec_told _ (fun n hn => by have := (sp_code (X k 0) (X k 1) (X k 2) (X k 3) (X k 4)).2.2.2.1 n hn; omega)] at HNM
      have HT0 : Hid ((cmdX X k)[0].toNat = (spX X k).1) := by
        have hc := sp_code (X k 0) (X k 1) (X k 2) (X k 3) (X k 4)
        have := ba_getD (cmdX X k) 0 f2
        unfold Hid
        rw [← this, f5, UInt8.toNat_ofNat']
        have q1 : (spX X k).1 ≤ 12 := hc.2.1
        omega
      obtain ⟨r, HR⟩ : ∃ r : ByteArray, Hid (r = ⟨(repV s (.ok (spX X k))).toArray⟩) := ⟨_, rfl⟩
      rw [← HR.out] at HHD
      have hrl : r.data.toList = repV s (.ok (spX X k)) := by rw [HR.out]
      have hr0 : 0 < r.size := by
        have : r.size = r.data.toList.length := by simp
        rw [this, hrl]; exact List.length_pos_iff.2 hne
      have hreq : r.toList.isEmpty = false := by
        rw [ByteArray.toList_eq, hrl]
        cases hq : repV s (.ok (spX X k)) with
        | nil => exact absurd hq hne
        | cons => rfl
      have HR0 : Hid (r[0].toNat = ((repV s (.ok (spX X k))).getD 0 0).toNat) := by unfold Hid; rw [← ba_getD r 0 hr0, hrl]
      have hr256 : r[0].toNat < 256 := UInt8.toNat_lt _
      have ht256 : (cmdX X k)[0].toNat < 256 := UInt8.toNat_lt _
      clear hkv hcn hne hrl f1 f3 f4 f5
      by_cases h2 : (spX X k).1 = 2
      · have HSPX := hide (HTW.out h2)
        have ht2 : (cmdX X k)[0].toNat = 2 := HT0.out.trans h2
        have hbr : brings s (spX X k) = if roomC s.ls (1 + pk (X k 1) 12) = 0 then 1 + pk (X k 3) 400 else 0 := by rw [HSPX.out]; rfl
        have hrp : repV s (.ok (spX X k)) = [UInt8.ofNat (roomC s.ls (1 + pk (X k 1) 12))] := by rw [HSPX.out]; rfl
        have hrle := roomC_le s.ls (1 + pk (X k 1) 12)
        have hr0v : r[0].toNat = roomC s.ls (1 + pk (X k 1) 12) := by
          rw [HR0.out, hrp]
          show (UInt8.ofNat _).toNat = _
          rw [UInt8.toNat_ofNat']; omega
        have hpc := pk_lt (X k 3) (n := 400) (by omega)
        by_cases hz : roomC s.ls (1 + pk (X k 1) 12) = 0
        · rw [if_pos hz] at hbr
          rw [hz] at hr0v
          rw [hbr] at HCN
          rw [HSPX.out] at HNM
          have HNM' : Hid (∀ w, Calls Tryz.prog 24 #[.string (cmdX X k)] w fun e w' => Below w.heap.size w w' ∧ ∃ q qc, e = .returned (.slice (some ⟨q, 0, none⟩) 4 qc) ∧ w'.cell? ⟨q, 2, none⟩ = some (.int .i64 ((1 + pk (X k 3) 400 : Nat) : Int))) := fun w => by
            refine (HNM.out w).mono ?_
            rintro e w' ⟨hb, v, he, hrow⟩
            obtain ⟨q, qc, hv, _, _⟩ := own_some hrow (by simp)
            subst hv
            exact ⟨hb, q, qc, he, ownInts_cell hrow 2 (by simp)⟩
          generalize hcnt : 1 + pk (X k 3) 400 = cnt at *
          have hcb : cnt ≤ 400 := by omega
          clear hrp hbr hz hcnt HSPX HTW HNM HR0 HT0 h2
          generalize cmdX X k = t at *
          generalize X k 0 = x0 at *
          generalize hx1 : X k 1 = x1 at *
          generalize hx2 : X k 2 = x2 at *
          generalize X k 3 = x3 at *
          generalize hx4 : X k 4 = x4 at *
          clear hx1 hx2 hx4
          go_wp2_with (go_at_call 22; refine (HSP.out _).mono ?_; rintro e w2 ⟨rfl, hb2⟩; have HH2 := hide (HHD.out w2 hb2))
          refine (HH2.out).mono ?_
          rintro e w3 ⟨rfl, Z3, hkv3⟩
          have HK3 := hide hkv3
          clear hkv3 HH2 HHD
          go_wp2_with (go_at_call 24; refine (HNM'.out _).mono ?_; rintro e w4 ⟨hb4, q, qc, rfl, hq2⟩; have HB4 := hide hb4; clear hb4)
          go_roundw
          case rel => exact ⟨k + 1, R + cnt, Z3, _, by go_num, by go_num, by omega, HK3.out.below HB4.out, HCN.out, HLN.out⟩
          case measure => simp [intOf]; omega
        · rw [if_neg hz] at hbr
          rw [hbr] at HCN
          have hr0n : ¬ r[0].toNat = 0 := by rw [hr0v]; exact hz
          clear hrp hbr hz hr0v HSPX HTW HNM HR0 HT0 h2
          generalize cmdX X k = t at *
          generalize X k 0 = x0 at *
          generalize hx1 : X k 1 = x1 at *
          generalize hx2 : X k 2 = x2 at *
          generalize X k 3 = x3 at *
          generalize hx4 : X k 4 = x4 at *
          clear hx1 hx2 hx4
          go_wp2_with (go_at_call 22; refine (HSP.out _).mono ?_; rintro e w2 ⟨rfl, hb2⟩; have HH2 := hide (HHD.out w2 hb2))
          refine (HH2.out).mono ?_
          rintro e w3 ⟨rfl, Z3, hkv3⟩
          have HK3 := hide hkv3
          clear hkv3 HH2 HHD
          go_wp2_with fail
          go_roundw
          case rel => exact ⟨k + 1, R, Z3, _, rfl, by go_num, by omega, HK3.out, HCN.out, HLN.out⟩
          case measure => simp [intOf]; omega
      · have hbr : brings s (spX X k) = 0 := by
          generalize spX X k = p at h2
          obtain ⟨c, ns⟩ := p
          unfold brings
          split
          · rename_i he; cases he; exact absurd rfl h2
          · rfl
        rw [hbr] at HCN
        have ht2 : ¬ (cmdX X k)[0].toNat = 2 := by rw [HT0.out]; exact h2
        clear hbr HTW HNM HR0 HT0 h2
        generalize cmdX X k = t at *
        generalize X k 0 = x0 at *
        generalize X k 1 = x1 at *
        generalize X k 2 = x2 at *
        generalize X k 3 = x3 at *
        generalize X k 4 = x4 at *
        go_wp2_with (go_at_call 22; refine (HSP.out _).mono ?_; rintro e w2 ⟨rfl, hb2⟩; have HH2 := hide (HHD.out w2 hb2))
        refine (HH2.out).mono ?_
        rintro e w3 ⟨rfl, Z3, hkv3⟩
        have HK3 := hide hkv3
        clear hkv3 HH2 HHD
        go_wp2_with fail
        go_roundw
        case rel => exact ⟨k + 1, R, Z3, _, rfl, by go_num, by omega, HK3.out, HCN.out, HLN.out⟩
        case measure => simp [intOf]; omega
    · obtain rfl : k = len := by omega
      have HKV := hide hkv
      have HCN := hide hcn
      clear hkv hcn hlt
      have HND := hide HKV.out.good.nodup
      have HSG : Hid (sumF L.got s.ls ≤ 64424509410 ∧ sumF L.given s.ls ≤ 64424509410) := by
        have h1 := sumF_le L.got 2147483647 s.ls (fun l hl => (HKV.out.ok l hl).got)
        have h2 := HKV.out.room
        have h3 := HCN.out.sum
        have h4 : s.ls.length * 2147483647 ≤ 30 * 2147483647 := Nat.mul_le_mul_right _ h2
        exact ⟨by omega, by omega⟩
      go_wp2_with fail
      obtain ⟨wk, rfl⟩ : ∃ wk, wk = wr := ⟨wr, rfl⟩
      go_loopw [10, 11, 12, 13, 14] (fun gv hv ii _ _ wr => ∃ (j : Nat) (Z' : Nat → Prop), gv = .int .i64 (cntF L.got s.ls j : Int) ∧ hv = .int .i64 (cntF L.given s.ls j : Int) ∧ ii = .int .i64 ((j + 1 : Nat) : Int) ∧ j ≤ 14 ∧ Kv w.heap.size w wr Z' Lb s) (fun _ _ ii _ _ _ => 15 - (intOf ii).toNat)
      case atStart => exact ⟨0, Z1, by rw [cntF_zero]; rfl, by rw [cntF_zero]; rfl, rfl, by omega, HKV.out⟩
      case round =>
        obtain ⟨j, Z2, rfl, rfl, rfl, hj, hkv⟩ := hrel
        have hc1 := cntF_le L.got s.ls j
        have hc2 := cntF_le L.given s.ls j
        have hc1b : cntF L.got s.ls j ≤ 64424509410 := Nat.le_trans hc1 HSG.out.1
        have hc2b : cntF L.given s.ls j ≤ 64424509410 := Nat.le_trans hc2 HSG.out.2
        by_cases hlt : j < 14
        · have HLK := hide (look_lit hkv (j + 1) (by omega) (by omega))
          have HS1 := hide (cntF_succ L.got HND.out j)
          have HS2 := hide (cntF_succ L.given HND.out j)
          by_cases hi : idx (j + 1) s.ls < s.ls.length
          · have hle : lookE s (j + 1) = 0 := by unfold lookE; rw [if_pos hi]
            have hln : lookN s (j + 1) = lookL (recB s.rcs s.ls) (s.ls.getD (idx (j + 1) s.ls) L0) := by unfold lookN; rw [if_pos hi]
            have ha1 : atF L.got s.ls (j + 1) = (s.ls.getD (idx (j + 1) s.ls) L0).got := by unfold atF; rw [if_pos hi]
            have ha2 : atF L.given s.ls (j + 1) = (s.ls.getD (idx (j + 1) s.ls) L0).given := by unfold atF; rw [if_pos hi]
            rw [hle, hln] at HLK
            rw [ha1] at HS1
            rw [ha2] at HS2
            have hw := HCN.out.each _ hi
            have hok := hkv.ok _ (mem_getD hi)
            generalize s.ls.getD (idx (j + 1) s.ls) L0 = l at *
            obtain ⟨w1', w2', w3', w4'⟩ := hw
            have hgb := hok.got
            have HLK' : Hid (Calls Tryz.prog 25 #[.pointer (some ⟨Lb, 0, none⟩), .int .i64 11, .slice (some ⟨wr.heap.size, 0, none⟩) 1 1] (wr.alloc (.cells #[.int .i64 ((j + 1 : Nat) : Int)] 3)) fun e w' => ∃ Z' q qc, e = .returned (.tuple #[.int .i64 0, .slice (some ⟨q, 0, none⟩) 10 qc]) ∧ Kv w.heap.size w w' Z' Lb s ∧ w'.cell? ⟨q, 3, none⟩ = some (.int .i64 (l.got : Int)) ∧ w'.cell? ⟨q, 4, none⟩ = some (.int .i64 (l.free : Int)) ∧ w'.cell? ⟨q, 5, none⟩ = some (.int .i64 (l.held : Int)) ∧ w'.cell? ⟨q, 6, none⟩ = some (.int .i64 (l.shipped : Int)) ∧ w'.cell? ⟨q, 7, none⟩ = some (.int .i64 (l.scrapped : Int)) ∧ w'.cell? ⟨q, 8, none⟩ = some (.int .i64 (l.given : Int))) := by
              refine (HLK.out).mono ?_
              rintro e w' ⟨Z', v, he, hk', _, hrow, _⟩
              obtain ⟨q, qc, hv, _, _⟩ := own_some hrow (by simp [lookL])
              subst hv
              exact ⟨Z', q, qc, he, hk', ownInts_cell hrow 3 (by simp [lookL]), ownInts_cell hrow 4 (by simp [lookL]), ownInts_cell hrow 5 (by simp [lookL]), ownInts_cell hrow 6 (by simp [lookL]), ownInts_cell hrow 7 (by simp [lookL]), ownInts_cell hrow 8 (by simp [lookL])⟩
            clear hkv HLK hle hln ha1 ha2 hok
            generalize cntF L.got s.ls j = gj at *
            generalize cntF L.given s.ls j = hj' at *
            have hsumeq : ((l.got : Int) != (l.free : Int) + (l.held : Int) + (l.shipped : Int) + (l.scrapped : Int) + (l.given : Int)) = false := by rw [bne_eq_false_iff_eq]; omega
            obtain ⟨g0, HG0⟩ : ∃ g0, Hid (g0 = l.got) := ⟨_, rfl⟩
            obtain ⟨d0, HD0⟩ : ∃ d0, Hid (d0 = l.given) := ⟨_, rfl⟩
            have hgot1 : 1 ≤ l.got := w1'
            have HEQ := hide w2'
            have hdg : decide ((l.got : Int) < 1) = false := decide_eq_false (by omega)
            have hfb : l.free ≤ 2147483647 := by omega
            have hhb : l.held ≤ 2147483647 := by omega
            have hsb : l.shipped ≤ 2147483647 := by omega
            have hcb : l.scrapped ≤ 2147483647 := by omega
            have hvb : l.given ≤ 2147483647 := by omega
            clear w2' w1'
            go_wp2_with (go_at_call 25; refine (HLK'.out).mono ?_; rintro e w3 ⟨Z3, q, qc, rfl, hk3, q3, q4, q5, q6, q7, q8⟩; have HK3 := hide hk3; clear hk3)
            go_quiet (fail)
            go_wp2_with fail
            go_roundw
            case rel => exact ⟨j + 1, Z3, by rw [HS1.out]; go_num, by rw [HS2.out]; go_num, by go_num, by omega, HK3.out.below (below_drewN (Below.refl _ _) nq)⟩
            case measure => simp [intOf]; omega
          · have hle : lookE s (j + 1) = 4 := by unfold lookE; rw [if_neg hi]
            have hln : lookN s (j + 1) = [] := by unfold lookN; rw [if_neg hi]
            have ha1 : atF L.got s.ls (j + 1) = 0 := by unfold atF; rw [if_neg hi]
            have ha2 : atF L.given s.ls (j + 1) = 0 := by unfold atF; rw [if_neg hi]
            rw [hle, hln] at HLK
            rw [ha1] at HS1
            rw [ha2] at HS2
            have HLK' : Hid (Calls Tryz.prog 25 #[.pointer (some ⟨Lb, 0, none⟩), .int .i64 11, .slice (some ⟨wr.heap.size, 0, none⟩) 1 1] (wr.alloc (.cells #[.int .i64 ((j + 1 : Nat) : Int)] 3)) fun e w' => ∃ Z' v, e = .returned (.tuple #[.int .i64 4, v]) ∧ Kv w.heap.size w w' Z' Lb s) := (HLK.out).mono (fun e w' h => by obtain ⟨Z', v, he, hk', _⟩ := h; exact ⟨Z', v, he, hk'⟩)
            clear hkv HLK hle hln ha1 ha2
            generalize cntF L.got s.ls j = gj at *
            generalize cntF L.given s.ls j = hj' at *
            go_wp2_with (go_at_call 25; refine (HLK'.out).mono ?_; rintro e w3 ⟨Z3, v, rfl, hk3⟩; have HK3 := hide hk3; clear hk3)
            go_roundw
            case rel => exact ⟨j + 1, Z3, by rw [HS1.out]; rfl, by rw [HS2.out]; rfl, by go_num, by omega, HK3.out⟩
            case measure => simp [intOf]; omega
        · obtain rfl : j = 14 := by omega
          have hids : ∀ l ∈ s.ls, 1 ≤ l.id ∧ l.id ≤ 14 := fun l hl => by
            obtain ⟨i, hi, rfl⟩ := List.getElem_of_mem hl
            have := HCN.out.each i hi
            rw [show s.ls.getD i L0 = s.ls[i] by simp [List.getD_eq_getElem?_getD, hi]] at this
            exact this.2.2
          have HA1 := hide (cntF_all L.got s.ls hids)
          have HA2 := hide (cntF_all L.given s.ls hids)
          rw [HA1.out] at hc1b
          rw [HA2.out] at hc2b
          rw [HA1.out, HA2.out]
          have hfin : ((sumF L.got s.ls : Int) - (sumF L.given s.ls : Int) == (R : Int)) = true := by
            have := HCN.out.sum
            rw [beq_iff_eq]; omega
          have HK := hide hkv.old
          generalize sumF L.got s.ls = gj at *
          generalize sumF L.given s.ls = hj' at *
          clear hkv hc1 hc2 hids hlt
          go_wp2_with fail
          go_ret
          exact ⟨rfl, HK.out⟩

end Go.Proofs.YtgcedalggnmooaaGreatDoor
