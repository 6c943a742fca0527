import Derived.Test.YtgcedalggnmooabGreatDoorKS
import Derived.Test.YtgcedalggnmooabGreatDoorHnX
namespace Go.Proofs.YtgcedalggnmooabGreatDoor
set_option linter.unusedSimpArgs false
set_option linter.unusedVariables false
open Go.RowKit
set_option maxRecDepth 100000

/-- A larder as it stands: day, orders, recalls, lots, log. -/
structure Sv where
  td : Nat
  os : List O
  rcs : List (Nat × Nat)
  ls : List L
  lg : List UInt8

/-- What a command makes of a log. -/
def lgC (lg : List UInt8) (c : Pl.Cmd) (rep : List UInt8) : List UInt8 := match c with
  | .ok (n, ns) => if rep.getD 0 1 = 0 ∧ n ≤ 10 then lg ++ frmB (Pl.cmdB n ns) else lg
  | .error _ => lg

def stepV (s : Sv) (c : Pl.Cmd) : Sv := ⟨(stepR s.rcs s.td s.os s.ls c).2.1, (stepR s.rcs s.td s.os s.ls c).2.2.1, (stepR s.rcs s.td s.os s.ls c).2.2.2.1, (stepR s.rcs s.td s.os s.ls c).2.2.2.2, lgC s.lg c (stepR s.rcs s.td s.os s.ls c).1⟩
def repV (s : Sv) (c : Pl.Cmd) : List UInt8 := (stepR s.rcs s.td s.os s.ls c).1

/-- The step, the log left out. -/
def stepZ (s : Sv) (c : Pl.Cmd) : Sv := { stepV s c with lg := s.lg }

/-- A larder at Lb that stands at s; all that it uses lies in Z; nothing older than B has turned since w0. -/
structure Kv (B : Nat) (w0 w : World) (Z : Nat → Prop) (Lb : Nat) (s : Sv) : Prop where
  old : Below B w0 w
  size : B ≤ w.heap.size
  two : 4 ≤ B
  gl : Gl w
  pl : PL s.lg s.os s.rcs Z w Lb s.td s.ls
  zin : ∀ k, Z k → B ≤ k ∧ k < w.heap.size
  good : Good s.os s.ls

theorem Kv.below {B : Nat} {w0 w w' : World} {Z : Nat → Prop} {Lb : Nat} {s : Sv} (h : Kv B w0 w Z Lb s) (hb : Below w.heap.size w w') : Kv B w0 w' Z Lb s :=
  ⟨h.old.trans (hb.mono h.size), Nat.le_trans h.size hb.size, h.two, h.gl.below hb, h.pl.below hb, fun k hk => ⟨(h.zin k hk).1, Nat.lt_of_lt_of_le (h.zin k hk).2 hb.size⟩, h.good⟩
theorem Kv.room {B : Nat} {w0 w : World} {Z : Nat → Prop} {Lb : Nat} {s : Sv} (h : Kv B w0 w Z Lb s) : s.ls.length ≤ 30 := by
  obtain ⟨S, Zs, lv, _, _, _, _, ⟨M, v, bs, pvs, hP, _⟩, _⟩ := h.pl
  exact hP.room
theorem Kv.ok {B : Nat} {w0 w : World} {Z : Nat → Prop} {Lb : Nat} {s : Sv} (h : Kv B w0 w Z Lb s) : ∀ l ∈ s.ls, L.Ok l := by
  obtain ⟨S, Zs, lv, _, _, _, _, ⟨M, v, bs, pvs, hP, _⟩, _⟩ := h.pl
  exact hP.ok

/-- What lies outside of Z stays, and stays outside. -/
structure Kn (Z : Nat → Prop) (w : World) (Z' : Nat → Prop) (w' : World) : Prop where
  size : w.heap.size ≤ w'.heap.size
  keep : ∀ k, k < w.heap.size → ¬ Z k → w'.heap[k]? = w.heap[k]? ∧ ¬ Z' k
theorem Kn.refl (Z : Nat → Prop) (w : World) : Kn Z w Z w := ⟨Nat.le_refl _, fun k _ hz => ⟨rfl, hz⟩⟩
theorem Kn.trans {Z Z' Z'' : Nat → Prop} {w w' w'' : World} (h : Kn Z w Z' w') (k : Kn Z' w' Z'' w'') : Kn Z w Z'' w'' :=
  ⟨Nat.le_trans h.size k.size, fun i hi hz => by
    obtain ⟨h1, h2⟩ := h.keep i hi hz
    obtain ⟨k1, k2⟩ := k.keep i (Nat.lt_of_lt_of_le hi h.size) h2
    exact ⟨k1.trans h1, k2⟩⟩
theorem Kn.below {Z : Nat → Prop} {w w' : World} (hb : Below w.heap.size w w') : Kn Z w Z w' := ⟨hb.size, fun k hk hz => ⟨hb.block k hk, hz⟩⟩
theorem Kn.cl {Z Z' : Nat → Prop} {w w' : World} (h : Kn Z w Z' w') {g : Nat} {ns : List Nat} (hc : Cl w g ns) (hz : ¬ Z g) : Cl w' g ns ∧ ¬ Z' g :=
  ⟨⟨Nat.lt_of_lt_of_le hc.1 h.size, fun j hj => (World.cell?_of_block (a := ⟨g, j, none⟩) (h.keep g hc.1 hz).1).trans (hc.2 j hj)⟩, (h.keep g hc.1 hz).2⟩
theorem Kn.own {Z Z' : Nat → Prop} {w w' : World} (h : Kn Z w Z' w') {base e size n : Nat} {v : Value} {xs : List Value} (hc : w.ownsRow base e size v n xs) (hz : ∀ g, v.ownBlock = some g → ¬ Z g) : w'.ownsRow base e size v n xs ∧ ∀ g, v.ownBlock = some g → ¬ Z' g :=
  ⟨own_congr hc (fun g hg => (h.keep g (hc.lt g hg).2 (hz g hg)).1), fun g hg => (h.keep g (hc.lt g hg).2 (hz g hg)).2⟩

theorem lgX_cmd {c : Nat} (hc : c ≤ 12) (ns : List Nat) (lg rep : List UInt8) : lgX lg ⟨(Pl.cmdB c ns).toArray⟩ rep = lgC lg (.ok (c, ns)) rep := by
  have e1 : (⟨(Pl.cmdB c ns).toArray⟩ : ByteArray).data.toList = Pl.cmdB c ns := by simp
  unfold lgX logsB lgC
  rw [e1]
  have e2 : ((Pl.cmdB c ns).getD 0 0).toNat = c := by unfold Pl.cmdB; rw [List.getD_cons_zero, UInt8.toNat_ofNat']; omega
  rw [e2]
  by_cases h1 : rep.getD 0 1 = 0 <;> by_cases h2 : c ≤ 10 <;> simp [h1, h2]

theorem handle_kv {B : Nat} {w0 w : World} {Z : Nat → Prop} {Lb : Nat} {s : Sv} (h : Kv B w0 w Z Lb s) (c : Nat) (ns : List Nat) (hc12 : c ≤ 12) (hcf : Pl.cmd (Pl.cmdB c ns) = .ok (c, ns)) (ht : (Pl.cmdB c ns).length ≤ 2097152) (hlg : c ≤ 10 → s.lg.length ≤ 35184372088832) :
    Calls Tryz.prog 10 #[.pointer (some ⟨Lb, 0, none⟩), .string ⟨(Pl.cmdB c ns).toArray⟩] w fun e w' => e = .returned (.string ⟨(repV s (.ok (c, ns))).toArray⟩) ∧ ∃ Z', Kv B w0 w' Z' Lb (stepV s (.ok (c, ns))) ∧ Kn Z w Z' w' := by
  have e1 : (⟨(Pl.cmdB c ns).toArray⟩ : ByteArray).data.toList = Pl.cmdB c ns := by simp
  have e2 : ((Pl.cmdB c ns).getD 0 0).toNat = c := by unfold Pl.cmdB; rw [List.getD_cons_zero, UInt8.toNat_ofNat']; omega
  have hx := handlePR_any h.pl h.good h.gl ⟨(Pl.cmdB c ns).toArray⟩ (by show (Pl.cmdB c ns).toArray.size ≤ _; simp; omega) (by rw [e1, e2]; exact hlg)
  rw [e1, hcf, lgX_cmd hc12] at hx
  have hgs : Good (stepR s.rcs s.td s.os s.ls (.ok (c, ns))).2.2.1 (stepR s.rcs s.td s.os s.ls (.ok (c, ns))).2.2.2.2 := by
    have := good_stepR (rcs := s.rcs) (td := s.td) h.good h.room (Pl.cmdB c ns)
    rw [hcf] at this; exact this
  refine hx.mono ?_
  rintro e w' ⟨hk, he, hpl⟩
  refine ⟨he, fun k => Zn Z w k ∧ k < w'.heap.size, ⟨h.old.trans ⟨hk.os, hk.tape, hk.output, hk.size, fun k hkB => hk.block k (Nat.lt_of_lt_of_le hkB h.size) (fun hz => by have := (h.zin k hz).1; omega)⟩, Nat.le_trans h.size hk.size, h.two, h.gl.kp hk (fun hz => by have := (h.zin 2 hz).1; have := h.two; omega) (fun hz => by have := (h.zin 3 hz).1; have := h.two; omega), hpl.bound, ?_, hgs⟩, hk.size, fun k hkl hz => ⟨hk.block k hkl hz, ?_⟩⟩
  · rintro k ⟨hz, hlt⟩
    rcases hz with hz | hz
    · exact ⟨(h.zin k hz).1, hlt⟩
    · exact ⟨Nat.le_trans h.size hz, hlt⟩
  · rintro ⟨hq, _⟩
    rcases hq with hq | hq
    · exact hz hq
    · omega

theorem lgC_len (lg rep : List UInt8) (c : Nat) (ns : List Nat) (hl : ns.length ≤ 5) (hn : ∀ n ∈ ns, n < 9223372036854775808) : (lgC lg (.ok (c, ns)) rep).length ≤ lg.length + 64 := by
  have h1 := Pl.toldB_len ns hn
  have h2 : (Pl.cmdB c ns).length ≤ 46 := by unfold Pl.cmdB; rw [List.length_cons]; omega
  have h3 := frmB_len (Pl.cmdB c ns) (by omega)
  unfold lgC
  simp only []
  split
  · rw [List.length_append]; omega
  · omega

set_option maxHeartbeats 1600000 in
theorem ask_any {B : Nat} {w0 w : World} {Z : Nat → Prop} {Lb : Nat} {s : Sv} (h : Kv B w0 w Z Lb s) (c : Nat) (h1 : 1 ≤ c) (h2 : c ≤ 12) (hlg : c ≤ 10 → s.lg.length ≤ 35184372088832) (g cap : Nat) (ns : List Nat) (hcl : Cl w g ns) (hl : ns.length = (Pl.kindsL c).length) (hn : ∀ n ∈ ns, n < 9223372036854775808) (hm : Pl.mays (Pl.kindsL c) ns = true)
    (x : Nat) (rs : List Nat) (hx : x ≤ 255) (hrep : repV s (.ok (c, ns)) = UInt8.ofNat x :: Pl.toldB rs) (hrs : ∀ n ∈ rs, n < 9223372036854775808) (hrl : rs.length ≤ 100) :
    Calls Tryz.prog 20 #[.pointer (some ⟨Lb, 0, none⟩), .int .i64 (c : Int), .slice (some ⟨g, 0, none⟩) ns.length cap] w fun e w' => ∃ Z' v, e = .returned (.tuple #[.int .i64 (x : Int), v]) ∧ Kv B w0 w' Z' Lb (stepV s (.ok (c, ns))) ∧ Kn Z w Z' w' ∧ w'.ownsRow w.heap.size 3 1 v rs.length (I rs) ∧ ∀ q, v.ownBlock = some q → ¬ Z' q := by
  have hkl : (Pl.kindsL c).length ≤ 5 := by
    rcases (show c = 1 ∨ c = 2 ∨ c = 3 ∨ c = 4 ∨ c = 5 ∨ c = 6 ∨ c = 7 ∨ c = 8 ∨ c = 9 ∨ c = 10 ∨ c = 11 ∨ c = 12 by omega) with rfl | rfl | rfl | rfl | rfl | rfl | rfl | rfl | rfl | rfl | rfl | rfl <;> simp [Pl.kindsL]
  have HCM := hide (kcommand_any c (by omega) g cap ns (by omega) hn w hcl)
  have hcf := cmd_cmdB h1 h2 hl hn hm
  have hbl : (Pl.cmdB c ns).length ≤ 100 := by
    have := Pl.toldB_len ns hn
    unfold Pl.cmdB; rw [List.length_cons]; omega
  have htl := Pl.toldB_len rs hrs
  obtain ⟨r, HR⟩ : ∃ r : ByteArray, Hid (r = ⟨(UInt8.ofNat x :: Pl.toldB rs).toArray⟩) := ⟨_, rfl⟩
  have hr0 : 0 < r.size := by rw [HR.out]; show 0 < (UInt8.ofNat x :: Pl.toldB rs).toArray.size; simp
  have hrsz : r.size ≤ 2097152 := by rw [HR.out]; show (UInt8.ofNat x :: Pl.toldB rs).toArray.size ≤ _; simp; omega
  have HRB : Hid (r[0].toNat = x) := by
    unfold Hid
    have : r[0] = UInt8.ofNat x := by subst HR; rfl
    rw [this, UInt8.toNat_ofNat']; omega
  have HDE : Hid ((Pl.dec (r.data.toList.drop 1)).1 = rs) := by
    have : r.data.toList.drop 1 = Pl.toldB rs := by rw [HR.out]; simp
    unfold Hid; rw [this, Pl.dec_told rs hrs]
  have hreq : r.toList.isEmpty = false := by rw [ByteArray.toList_eq, HR.out]; rfl
  have hr256 : r[0].toNat < 256 := UInt8.toNat_lt _
  have HHD : Hid (∀ w1, Below w.heap.size w w1 → Calls Tryz.prog 10 #[.pointer (some ⟨Lb, 0, none⟩), .string ⟨(Pl.cmdB c ns).toArray⟩] w1 fun e w' => e = .returned (.string r) ∧ ∃ Z', Kv B w0 w' Z' Lb (stepV s (.ok (c, ns))) ∧ Kn Z w Z' w') := fun w1 hb1 => by
    refine (handle_kv (h.below hb1) c ns h2 hcf (by omega) hlg).mono ?_
    rintro e w' ⟨he, Z', hkv, hkn⟩
    exact ⟨by rw [he, hrep, HR.out], Z', hkv, (Kn.below hb1).trans hkn⟩
  have HNM := hide (knumbers_any r hrsz)
  rw [HDE.out] at HNM
  clear hcl hn hm hrep hrs h hcf hl hlg
  go_enter Tryz.func20, Tryz.ntmps20
  go_wp2_with (go_at_call 22; refine (HCM.out).mono ?_; rintro e w1 ⟨rfl, hb1⟩; have HH1 := hide (HHD.out w1 hb1); clear hb1)
  refine (HH1.out).mono ?_
  rintro e w2 ⟨rfl, Z', hkv, hkn⟩
  have HKV := hide hkv
  have HKN := hide hkn
  clear hkv hkn HH1 HHD
  go_wp2_with (go_at_call 32; refine (HNM.out _).mono ?_; rintro e w3 ⟨hb3, v, rfl, hrow⟩)
  have HBB := hide hb3
  have HRW := hide hrow
  clear hb3 hrow
  go_ret2
  refine ⟨Z', v, by rw [HRB.out]; rfl, HKV.out.below HBB.out, HKN.out.trans (Kn.below HBB.out), own_weaken HRW.out HKN.out.size, fun q hq => ?_⟩
  exact fun hz => by have h1 := (HRW.out.lt q hq).1; have h2 := (HKV.out.zin q hz).2; omega

/-- A larder that stands at s but for its log, which is not longer than some number and j frames. -/
def Kx (j : Nat) (B : Nat) (w0 w : World) (Z : Nat → Prop) (Lb : Nat) (s : Sv) : Prop := ∃ lg, lg.length ≤ 200000000 + 64 * j ∧ Kv B w0 w Z Lb { s with lg := lg }
theorem Kx.of {j B : Nat} {w0 w : World} {Z : Nat → Prop} {Lb : Nat} {s : Sv} (h : Kv B w0 w Z Lb s) (hl : s.lg.length ≤ 200000000 + 64 * j) : Kx j B w0 w Z Lb s := ⟨s.lg, hl, h⟩
theorem Kx.below {j B : Nat} {w0 w w' : World} {Z : Nat → Prop} {Lb : Nat} {s : Sv} (h : Kx j B w0 w Z Lb s) (hb : Below w.heap.size w w') : Kx j B w0 w' Z Lb s := by
  obtain ⟨lg, h1, h2⟩ := h
  exact ⟨lg, h1, h2.below hb⟩
theorem Kx.old {j B : Nat} {w0 w : World} {Z : Nat → Prop} {Lb : Nat} {s : Sv} (h : Kx j B w0 w Z Lb s) : Below B w0 w := h.choose_spec.2.old
theorem Kx.size {j B : Nat} {w0 w : World} {Z : Nat → Prop} {Lb : Nat} {s : Sv} (h : Kx j B w0 w Z Lb s) : B ≤ w.heap.size := h.choose_spec.2.size
theorem Kx.zin {j B : Nat} {w0 w : World} {Z : Nat → Prop} {Lb : Nat} {s : Sv} (h : Kx j B w0 w Z Lb s) : ∀ k, Z k → B ≤ k ∧ k < w.heap.size := h.choose_spec.2.zin
theorem Kx.good {j B : Nat} {w0 w : World} {Z : Nat → Prop} {Lb : Nat} {s : Sv} (h : Kx j B w0 w Z Lb s) : Good s.os s.ls := h.choose_spec.2.good
theorem Kx.room {j B : Nat} {w0 w : World} {Z : Nat → Prop} {Lb : Nat} {s : Sv} (h : Kx j B w0 w Z Lb s) : s.ls.length ≤ 30 := h.choose_spec.2.room
theorem Kx.ok {j B : Nat} {w0 w : World} {Z : Nat → Prop} {Lb : Nat} {s : Sv} (h : Kx j B w0 w Z Lb s) : ∀ l ∈ s.ls, L.Ok l := h.choose_spec.2.ok
theorem Kx.up {j j' B : Nat} {w0 w : World} {Z : Nat → Prop} {Lb : Nat} {s : Sv} (h : Kx j B w0 w Z Lb s) (hj : j ≤ j') : Kx j' B w0 w Z Lb s := by
  obtain ⟨lg, h1, h2⟩ := h
  exact ⟨lg, by omega, h2⟩
/-- A step of the larder, its log left out. -/
theorem Kx.step {j B : Nat} {w0 w : World} {Z : Nat → Prop} {Lb : Nat} {s : Sv} {lg : List UInt8} (hlg : lg.length ≤ 200000000 + 64 * j) {c : Nat} {ns : List Nat} (hl : ns.length ≤ 5) (hn : ∀ n ∈ ns, n < 9223372036854775808) (h : Kv B w0 w Z Lb (stepV { s with lg := lg } (.ok (c, ns)))) : Kx (j + 1) B w0 w Z Lb (stepZ s (.ok (c, ns))) :=
  ⟨_, by have := lgC_len lg (repV s (.ok (c, ns))) c ns hl hn; exact Nat.le_trans this (by omega), h⟩

end Go.Proofs.YtgcedalggnmooabGreatDoor
