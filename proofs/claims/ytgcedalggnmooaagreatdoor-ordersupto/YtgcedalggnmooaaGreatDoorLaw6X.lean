/- The card of 'Orders', for arguments of bulk at most the given bound. -/
import Derived.Test.YtgcedalggnmooaaGreatDoorDc5X
import Derived.Deep.RegionHeld3
import Derived.Test.YtgcedalggnmooaaGreatDoorCards
import Derived.Test.YtgcedalggnmooaaGreatDoorTie
import Derived.Test.YtgcedalggnmooaaGreatDoorBulkX
import Derived.ProofKit
import Derived.OpenShut
import Derived.Carry
import Derived.LaidLaws
import Derived.LaidMore
import Derived.Deep.DeepHandedRow
import Derived.Deep.DeepWitnessRowRef
namespace Go.Proofs.YtgcedalggnmooaaGreatDoor
set_option linter.unusedSimpArgs false
set_option linter.unusedVariables false
open Go.RowKit
set_option maxRecDepth 100000

set_option maxHeartbeats 1600000 in
theorem answersO_any (b off len cap : Nat) (ss : List ByteArray) (hl : len ≤ ss.length) (hlen : len ≤ 2097152) (hss : ∀ j, j < len → (ss.getD j ByteArray.empty).size ≤ 2097143) (w : World) (hg : Gl w) (hb : b < w.heap.size)
    (hc : ∀ j, j < len → w.cell? ⟨b, off + j, none⟩ = some (.string (ss.getD j ByteArray.empty))) :
    Calls Tryz.prog 18 #[.slice (some ⟨b, off, none⟩) len cap, .string ⟨#[1, 2, 3, 4, 10, 11, 12, 5, 6, 7]⟩] w fun e w' => e = .returned (.bool true) ∧ Below w.heap.size w w' := by
  go_enter Tryz.func18, Tryz.ntmps18
  go_wp2_with (go_at_call 15; refine (begun_any _ hg).mono ?_; rintro e w1 ⟨Q, rfl, hinv⟩)
  go_loopw [6, 7, 8] (fun ok i _ wr => ∃ k : Nat, k ≤ len ∧ ok = .bool true ∧ i = .int .i64 k ∧ Inv w.heap.size w wr Q (k * 4000000)) (fun _ i _ _ => len - (intOf i).toNat)
  case atStart => exact ⟨0, by omega, rfl, rfl, by simpa using hinv⟩
  case round =>
    clear hinv
    obtain ⟨k, hk, rfl, rfl, hinv⟩ := hrel
    by_cases hlt : k < len
    · obtain ⟨s, HS⟩ : ∃ s, Hid (s = ss.getD k ByteArray.empty) := ⟨_, rfl⟩
      have hcx : wr.cell? ⟨b, off + k, none⟩ = some (.string s) := by rw [HS.out]; exact (hinv.old.cell (by exact hb)).trans (hc k hlt)
      have hsz : s.size ≤ 2097143 := by rw [HS.out]; exact hss k hlt
      have HI := hide hinv
      have HHA := hide (allowed_any s ⟨#[1, 2, 3, 4, 10, 11, 12, 5, 6, 7]⟩ (by omega) (by decide) wr)
      clear hc hss hinv
      cases hal : allowB s.data.toList [1, 2, 3, 4, 10, 11, 12, 5, 6, 7] with
      | true =>
        have HPY := hide (fun w2 (hb2 : Below wr.heap.size wr w2) => playR_any (HI.out.below hb2) (by omega) s hsz)
        have HHB : Hid (Calls Tryz.prog 16 #[.string s, .string ⟨#[1, 2, 3, 4, 10, 11, 12, 5, 6, 7]⟩] wr fun e w' => e = .returned (.bool true) ∧ Below wr.heap.size wr w') := HHA.out.mono fun e w' ⟨q1, q2⟩ => ⟨q1.trans (ret_bool hal), q2⟩
        clear hal HHA
        go_wp2_with fail
        refine (HHB.out).mono ?_
        rintro e w2 ⟨rfl, hb2⟩
        have hcx2 : w2.cell? ⟨b, off + k, none⟩ = some (.string s) := (hb2.cell (by exact Nat.lt_of_lt_of_le hb HI.out.old.size)).trans hcx
        have HP2 := hide (HPY.out w2 hb2)
        go_wp2_with (go_at_call 17; refine (HP2.out).mono ?_; rintro e w3 ⟨rfl, hinv3⟩)
        go_roundw
        case rel => exact ⟨k + 1, by omega, rfl, by go_num, hinv3.grow (by omega)⟩
        case measure => simp [intOf]; omega
      | false =>
        have HHB : Hid (Calls Tryz.prog 16 #[.string s, .string ⟨#[1, 2, 3, 4, 10, 11, 12, 5, 6, 7]⟩] wr fun e w' => e = .returned (.bool false) ∧ Below wr.heap.size wr w') := HHA.out.mono fun e w' ⟨q1, q2⟩ => ⟨q1.trans (ret_bool hal), q2⟩
        clear hal HHA
        go_wp2_with fail
        refine (HHB.out).mono ?_
        rintro e w2 ⟨rfl, hb2⟩
        go_wp2_with fail
        go_roundw
        case rel => exact ⟨k + 1, by omega, rfl, by go_num, (HI.out.below hb2).grow (by omega)⟩
        case measure => simp [intOf]; omega
    · obtain rfl : k = len := by omega
      have HI := hide hinv.old
      clear hc hss hlt hinv
      go_wp2_with fail
      go_ret
      exact ⟨rfl, HI.out⟩

set_option maxHeartbeats 1600000 in
theorem answersO_zero (ao : Option Addr) (cap : Nat) (w : World) (hg : Gl w) :
    Calls Tryz.prog 18 #[.slice ao 0 cap, .string ⟨#[1, 2, 3, 4, 10, 11, 12, 5, 6, 7]⟩] w fun e w' => e = .returned (.bool true) ∧ Below w.heap.size w w' := by
  go_enter Tryz.func18, Tryz.ntmps18
  go_wp2_with (go_at_call 15; refine (begun_any _ hg).mono ?_; rintro e w1 ⟨Q, rfl, hinv⟩)
  refine wp_loop_rounds 1 ?_; rw [rounds_succ]
  have HI := hide hinv.old
  clear hinv
  go_wp2_with fail
  go_ret
  exact ⟨rfl, HI.out⟩

set_option maxHeartbeats 800000 in
theorem orders_of {v : Value} {w : World} (ha : Hid (Calls Tryz.prog 18 #[v, .string ⟨#[1, 2, 3, 4, 10, 11, 12, 5, 6, 7]⟩] w fun e w' => e = .returned (.bool true) ∧ Below w.heap.size w w')) :
    Calls Tryz.prog 5 #[v] w fun e w' => e = .returned (.bool true) ∧ Below w.heap.size w w' := by
  go_enter Tryz.func5, Tryz.ntmps5
  go_wp2_with (go_at_call 18; refine (ha.out).mono ?_; rintro e w1 ⟨rfl, hb1⟩)
  go_ret
  exact ⟨rfl, hb1⟩

end Go.Proofs.YtgcedalggnmooaaGreatDoor

namespace Go.Proofs.YtgcedalggnmooaaGreatDoor
set_option linter.unusedSimpArgs false
set_option linter.unusedVariables false
open Go.ChangeShapes Go.WideShapes Go.ChangeAt Go.RowKit

theorem ownK : ownKnob Tryz.prog.godebug = none := by kernel_rfl
theorem laidOutK : laidOutB Tryz.prog = true := laidOutJ
theorem gCode : Tryz.prog.globalNamed "larder/command.errCode" = some 2 := by kernel_rfl
theorem gBroken : Tryz.prog.globalNamed "larder/wire.errBroken" = some 3 := by kernel_rfl
theorem gCodeT : (Tryz.prog.globals[2]?).map (·.type) = some 212 := by kernel_rfl
theorem gBrokenT : (Tryz.prog.globals[3]?).map (·.type) = some 212 := by kernel_rfl
theorem cellsK9 : Tryz.prog.cellsOf 9 = 1 := by kernel_rfl

/-- The two listed variables, as the given rows list them. -/
def laidTwo : List (String × DataW Unit) := [("larder/wire.errBroken", Rows.laid_larder_wire_errBroken), ("larder/command.errCode", Rows.laid_larder_command_errCode)]

theorem cell_blk {w : World} {b j : Nat} {x : Value} (h : w.cell? ⟨b, j, none⟩ = some x) : b < w.heap.size := by
  rcases Nat.lt_or_ge b w.heap.size with h' | h'
  · exact h'
  · simp [World.cell?, Array.getElem?_eq_none h'] at h

/-- What the list gives: each variable holds an interface value. -/
theorem gl_of_laid {W : World} (h : laidMetH Tryz.prog laidTwo W) : Gl W := by
  have h' : laidMet Tryz.prog laidTwo W := h
  obtain ⟨ps, ⟨g0, t0, cs0, f0, p0, q0, hg0, ht0, hv0, hd0, ⟨g1, t1, cs1, f1, p1, q1, hg1, ht1, hv1, hd1, hq1, e1⟩, e0⟩, hnd, hrows⟩ := h'
  obtain rfl := Option.some.inj (gBroken.symm.trans hg0)
  obtain rfl := Option.some.inj (gCode.symm.trans hg1)
  obtain rfl := Option.some.inj (gBrokenT.symm.trans ht0)
  obtain rfl := Option.some.inj (gCodeT.symm.trans ht1)
  obtain ⟨l0⟩ := cs0
  obtain ⟨l1⟩ := cs1
  obtain ⟨_, u0, v0, rfl, _, _⟩ := iface_of_trod Tryz.underlying212 hd0
  obtain ⟨_, u1, v1, rfl, _, _⟩ := iface_of_trod Tryz.underlying212 hd1
  have c1 : W.cell? ⟨3, 0, none⟩ = some (.iface u0 v0) := by simpa using World.var?_cell gBroken hv0 0
  have c0 : W.cell? ⟨2, 0, none⟩ = some (.iface u1 v1) := by simpa using World.var?_cell gCode hv1 0
  exact ⟨⟨u1, v1, c0⟩, ⟨u0, v0, c1⟩, cell_blk c1⟩

/-- A []string that came in, nil or not, as the walk wants it. -/
theorem open_rowK {H : Type} {enc : TypeId × Value → H} {W : World} {a0 : Option Addr} {len cap fuel : Nat} {x : DataW H × List MemPlace}
    (hf : DataW.trod enc Tryz.prog W 0 (fun _ => true) true fuel 22 [.slice a0 len cap] = some x) :
    len = 0 ∨ ∃ (b off : Nat) (ss sp : List ByteArray), ss.length = len ∧ a0 = some ⟨b, off, none⟩ ∧ b < W.heap.size ∧ (∀ j, j < len → W.cell? ⟨b, off + j, none⟩ = some (.string (ss.getD j ByteArray.empty))) ∧
      x.1 = .slice (strs ss) (strs sp) := by
  rcases open_strings Tryz.underlying22 Tryz.underlying9 cellsK9 hf with ⟨hcs, hx⟩ | ⟨a, len', cap', ss, hcs, _, hl, hm, hz, hx, hcell, _⟩
  · simp at hcs
    exact Or.inl hcs.2.1
  · simp at hcs
    obtain ⟨rfl, rfl, rfl⟩ := hcs
    subst hx
    simp only [if_true] at hz
    rcases Nat.eq_zero_or_pos len with h0 | h0
    · exact Or.inl h0
    right
    obtain ⟨b, off, spot⟩ := a
    have hspot : spot = none := by simpa [Addr.add] using World.cell?_spot (hcell 0 (by omega))
    subst hspot
    refine ⟨b, off, ss.take len, ss.drop len, by simp; omega, rfl, cell_blk (hcell 0 (by omega)), fun j hj => ?_, rfl⟩
    have e : (ss.take len).getD j ByteArray.empty = ss.getD j ByteArray.empty := by simp [List.getD, List.getElem?_take_of_lt hj]
    rw [e, ← add_plain]
    exact hcell j (by omega)

set_option maxRecDepth 100000 in
theorem orders_contract (H : Type) (enc : TypeId × Value → H) (W : World) (base : Nat) (args : Array Value) (ds gs : List (DataW H)) (before : List MemPlace)
    (hval : ∀ (j : Nat) t v, Tryz.f5.params[j]? = some t → args[j]? = some v → Value.okWide Tryz.prog W .any base t v)
    (hW : DataW.Whole enc Tryz.prog Tryz.f5.params.toList Rows.ordersSpec.vars false W args.toList ds gs before) (hL : laidMetH Tryz.prog laidTwo W)
    (hk : Rows.uptoSmall H (ds ++ gs) = true) :
    Calls Tryz.prog 5 args W fun e W' => ∃ v, e = .returned v ∧ Rows.ordersSpec.post enc Tryz.prog Tryz.f5 false true false false W args v W' := by
  have hW' := hW
  obtain ⟨p, q, hA0, hV, rfl, hfz, hnd⟩ := hW
  have hA : DataW.TrodAll enc Tryz.prog W 0 (fun _ => true) true Tryz.f5.params.toList args.toList ds p := hA0
  rw [Tryz.params5] at hA hval
  obtain ⟨v0, vs0, d0, ds0, p0, q0, hargs, rfl, rfl, h0, r0⟩ := trodAll_cons hA
  obtain ⟨rfl, rfl, rfl⟩ := trodAll_nil r0
  obtain rfl : args = #[v0] := Array.toList_inj.1 hargs
  obtain ⟨rfl, rfl⟩ := trodVars_none hV
  obtain ⟨a0, len, cap, rfl⟩ := okWide_slice Tryz.underlying22 (hval 0 22 v0 rfl rfl)
  have h0k := h0
  obtain ⟨fuel, hf⟩ := h0
  clear hA0
  simp only [List.append_nil] at hW' hk
  have hlt : ∀ x ∈ p0, x.block < W.heap.size := fun x hx => by simpa using hW'.lt x hx
  have walk : Calls Tryz.prog 5 #[.slice a0 len cap] W fun e w' => e = .returned (.bool true) ∧ Below W.heap.size W w' := by
    rcases open_rowK hf with rfl | ⟨b, off, ss, sp, hl, rfl, hb, hc, hx⟩
    · exact orders_of (answersO_zero a0 cap W (gl_of_laid hL))
    · simp only at hx
      subst hx
      obtain ⟨h1, h2⟩ := bulks.strings hk
      exact orders_of (answersO_any b off len cap ss (by omega) (by omega) (fun j hj => Nat.le_trans (h2 j (by omega)) (by omega)) W (gl_of_laid hL) hb hc)
  refine walk.mono fun e W' ⟨he, bel⟩ => ?_
  subst he
  have e1 : Rows.ordersSpec.fn H ([d0] ++ []) = { results := [.lit (.bool true)], args := [d0] } := rfl
  refine ⟨_, rfl, _, _, _, [], p0, [], hW', ?_, ?_, ?_, bel.frame _, fun h => ?_⟩
  · rw [e1]; exact trodAll_mk1 (shut_bool Tryz.underlying4 _)
  · rw [e1]; exact trodAll_mk1 (Below.trod laidOutK (by kernel_rfl) (of_decide_eq_true (by kernel_rfl)) h0k bel hlt)
  · rw [e1]; rfl
  · cases h

theorem laid_metK (os : Os) : laidMet Tryz.prog laidTwo ((World.doorLaid Tryz.prog 104 os).forCall (fun _ _ => 0) ⟨#[], #[.slice none 0 0], []⟩).memory :=
  laidMet_of_run' 8 (by kernel_rfl) (by kernel_rfl)
theorem readsK (os : Os) {H : Type} (enc : TypeId × Value → H) : ∃ places, DataW.whole enc Tryz.prog ((World.doorLaid Tryz.prog 104 os).forCall (fun _ _ => 0) ⟨#[], #[.slice none 0 0], []⟩).memory Tryz.f5.params.toList Rows.ordersSpec.vars false #[Value.slice none 0 0].toList 8 = some ([.nil], [], places) :=
  ⟨[], by kernel_rfl⟩

set_option maxRecDepth 100000 in
theorem orders_lifted (os : Os) (started : os.Started) (H : Type) (enc : TypeId × Value → H) (F : Stop.Interp) :
    ReturnsInHanded {} Tryz.checked os 5 .any ((Rows.OpenSpec.upto Rows.ordersSpec).preRow enc Tryz.prog Tryz.f5 Rows.ordersUptoRow.domain false Rows.ordersUptoRow.laid) (((Rows.OpenSpec.upto Rows.ordersSpec).at F).post enc Tryz.prog Tryz.f5 false true false false) := by
  obtain ⟨places, hx⟩ := readsK os enc
  refine returnsInHanded_of_row (C := Tryz.checked) (s := Rows.OpenSpec.upto Rows.ordersSpec) ownK started (by kernel_rfl) Tryz.func5
    (witness_row_atRef (enc := enc) (C := Tryz.checked) false (World.doorLaid Tryz.prog 104 os) #[.slice none 0 0] rfl (by kernel_rfl) (by kernel_rfl) (by kernel_rfl)
      (OpenSpec.preRow_of_cond 8 hx (by kernel_rfl) (fun k hk => by cases hk; kernel_rfl) (by kernel_rfl) (laid_metK os))) ?_
  intro W base args ds gs before hval hW _ hcond _ hL _ _
  exact orders_contract H enc W base args ds gs before hval hW hL (hcond _ rfl)

theorem orders_j1 : (Rows.ordersUptoRow.inPlace == Tryz.prog.inPlace 5) = true := by kernel_rfl
theorem orders_j2 : (Rows.ordersUptoRow.unfollowed == Tryz.prog.unfollowed 5) = true := by kernel_rfl
theorem orders_j3 : (Rows.ordersUptoRow.recurses == Tryz.prog.recurses 5) = true := by kernel_rfl
theorem orders_j4 : (Rows.ordersUptoRow.named == Tryz.prog.varsNamed 5) = true := by kernel_rfl
theorem orders_joined : joinedFacts Tryz.pinned.checked.prog 5 Tryz.f5 (Rows.OpenSpec.upto Rows.ordersSpec).bare Rows.ordersUptoRow = true := by
  show joinedFacts Tryz.prog 5 Tryz.f5 (Rows.OpenSpec.upto Rows.ordersSpec).bare Rows.ordersUptoRow = true
  have hl : (Rows.ordersUptoRow.lifted == Tryz.prog.liftsFinal) = true := liftsJ
  have hm : (Tryz.prog.make == some Rows.ordersUptoRow.make) = true := makeJ
  unfold joinedFacts
  rw [laidOutJ, mapsRowedJ, mayJ, heardJ, hl, hm, orders_j1, orders_j2, orders_j3, orders_j4]
  show (_ : Bool) = true
  kernel_rfl

theorem orders_said : Rows.OrdersUptoSaid :=
  OpenClaim.holds_of_cond 5 Tryz.f5 rfl rfl rfl rfl rfl rfl rfl ⟨rfl, rfl, rfl, rfl, rfl⟩ rfl rfl rfl rfl rfl (by kernel_rfl) Tryz.func5 orders_joined
    (of_decide_eq_true (by kernel_rfl)) (by unfold Func.isWrapper; first | (rw [if_pos (by decide +kernel)]; kernel_rfl) | (rw [if_neg (by decide +kernel)]; exact ⟨rfl, rfl⟩))
    (fun os started H enc _ F => by rw [OpenClaim.pre_eq_preRow]; exact orders_lifted os started H enc F)

/-- No parameter wants a stand-in; the looks are the program's own. -/
theorem orders_plain (f : FuncId) (fn : Func) (hf : Tryz.pinned.checked.prog.funcNamed "larder/larderlaw.Orders" = some f) (hfn : Tryz.pinned.checked.prog.funcs[f]? = some fn) :
    true = Tryz.pinned.checked.prog.looks [] ∧ ∀ (j : Nat) t, fn.params[j]? = some t → Tryz.pinned.checked.prog.wantsStandIn t = false := by
  obtain rfl : f = 5 := Option.some.inj ((show Tryz.prog.funcNamed "larder/larderlaw.Orders" = some 5 by kernel_rfl).symm.trans hf) |>.symm
  obtain rfl : fn = Tryz.f5 := (Option.some.inj (Tryz.func5.symm.trans hfn)).symm
  refine ⟨by kernel_rfl, fun j t ht => ?_⟩
  rw [Tryz.params5] at ht
  obtain rfl : t = 22 := by simpa using Array.mem_of_getElem? ht
  exact (show Tryz.prog.wantsStandIn 22 = false by kernel_rfl)

/-- The card. -/
theorem orders_card : Rows.OrdersUptoCardSaid :=
  Claim7.holds_tied_plain_at .later [] _ _ _ _ orders_said (fun _ h => by cases h) (by kernel_rfl) (fun _ h => by cases h) ordersUpto_row_tie rfl ⟨rfl, rfl⟩ (by kernel_rfl) rfl orders_plain (by kernel_rfl)

end Go.Proofs.YtgcedalggnmooaaGreatDoor
