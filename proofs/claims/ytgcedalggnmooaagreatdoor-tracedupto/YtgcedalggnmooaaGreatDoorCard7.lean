/- The card of 'Traced'. -/
import Derived.Test.YtgcedalggnmooaaGreatDoorCards
import Derived.Test.YtgcedalggnmooaaGreatDoorTie
import Derived.Test.YtgcedalggnmooaaGreatDoorKT5
import Derived.Test.YtgcedalggnmooaaGreatDoorKI
import Derived.Test.YtgcedalggnmooaaGreatDoorBulk2
import Derived.Test.YtgcedalggnmooaaGreatDoorJf
import Derived.ProofKit
import Derived.OpenShut
import Derived.Carry
import Derived.LaidLaws
import Derived.LaidMore
import Derived.Deep.DeepHandedRow
import Derived.Deep.DeepWitnessRowRef
namespace Go.Proofs.YtgcedalggnmooaaGreatDoor
set_option linter.unusedSimpArgs false
set_option linter.unusedVariables false
open Go.ChangeShapes Go.WideShapes Go.ChangeAt Go.RowKit

theorem ownK : ownKnob Tryz.prog.godebug = none := by kernel_rfl
theorem laidOutK : laidOutB Tryz.prog = true := laidOutJ
theorem gCode : Tryz.prog.globalNamed "larder/command.errCode" = some 2 := by kernel_rfl
theorem gBroken : Tryz.prog.globalNamed "larder/wire.errBroken" = some 3 := by kernel_rfl
theorem gCodeT : (Tryz.prog.globals[2]?).map (·.type) = some 212 := by kernel_rfl
theorem gBrokenT : (Tryz.prog.globals[3]?).map (·.type) = some 212 := by kernel_rfl
theorem cellsK9 : Tryz.prog.cellsOf 9 = 1 := by kernel_rfl

/-- The two listed variables, as the given rows list them. -/
def laidTwo : List (String × DataW Unit) := [("larder/wire.errBroken", Rows.laid_larder_wire_errBroken), ("larder/command.errCode", Rows.laid_larder_command_errCode)]

theorem cell_blk {w : World} {b j : Nat} {x : Value} (h : w.cell? ⟨b, j, none⟩ = some x) : b < w.heap.size := by
  rcases Nat.lt_or_ge b w.heap.size with h' | h'
  · exact h'
  · simp [World.cell?, Array.getElem?_eq_none h'] at h

/-- What the list gives: each variable holds an interface value. -/
theorem gl_of_laid {W : World} (h : laidMetH Tryz.prog laidTwo W) : Gl W := by
  have h' : laidMet Tryz.prog laidTwo W := h
  obtain ⟨ps, ⟨g0, t0, cs0, f0, p0, q0, hg0, ht0, hv0, hd0, ⟨g1, t1, cs1, f1, p1, q1, hg1, ht1, hv1, hd1, hq1, e1⟩, e0⟩, hnd, hrows⟩ := h'
  obtain rfl := Option.some.inj (gBroken.symm.trans hg0)
  obtain rfl := Option.some.inj (gCode.symm.trans hg1)
  obtain rfl := Option.some.inj (gBrokenT.symm.trans ht0)
  obtain rfl := Option.some.inj (gCodeT.symm.trans ht1)
  obtain ⟨l0⟩ := cs0
  obtain ⟨l1⟩ := cs1
  obtain ⟨_, u0, v0, rfl, _, _⟩ := iface_of_trod Tryz.underlying212 hd0
  obtain ⟨_, u1, v1, rfl, _, _⟩ := iface_of_trod Tryz.underlying212 hd1
  have c1 : W.cell? ⟨3, 0, none⟩ = some (.iface u0 v0) := by simpa using World.var?_cell gBroken hv0 0
  have c0 : W.cell? ⟨2, 0, none⟩ = some (.iface u1 v1) := by simpa using World.var?_cell gCode hv1 0
  exact ⟨⟨u1, v1, c0⟩, ⟨u0, v0, c1⟩, cell_blk c1⟩

theorem trod_raw {H : Type} {enc : TypeId × Value → H} {W : World} {x : Int} {d : DataW H} {p : List MemPlace} (h : DataW.Trod enc Tryz.prog W 0 (fun _ => true) true 3 (.int .i64 x) d p) : Raw x := by
  obtain ⟨fuel, hf⟩ := h
  obtain ⟨m, hm, _, hwf⟩ := DataW.trod_int tU3 hf
  have e : x = m := by
    have h1 : [Value.int .i64 x] = [Value.int .i64 m] := hm
    injection h1 with h1 h2
    injection h1
  subst e
  have hw : (decide (IntKind.min .i64 ≤ x) && decide (x ≤ IntKind.max .i64)) = true := hwf
  rw [Bool.and_eq_true, decide_eq_true_eq, decide_eq_true_eq] at hw
  exact hw

set_option maxRecDepth 100000 in
theorem traced_contract (H : Type) (enc : TypeId × Value → H) (W : World) (base : Nat) (args : Array Value) (ds gs : List (DataW H)) (before : List MemPlace)
    (hval : ∀ (j : Nat) t v, Tryz.f14.params[j]? = some t → args[j]? = some v → Value.okWide Tryz.prog W .any base t v)
    (hW : DataW.Whole enc Tryz.prog Tryz.f14.params.toList Rows.tracedSpec.vars false W args.toList ds gs before) (hL : laidMetH Tryz.prog laidTwo W)
    (hk : Rows.uptoSmall H (ds ++ gs) = true) :
    Calls Tryz.prog 14 args W fun e W' => ∃ v, e = .returned v ∧ Rows.tracedSpec.post enc Tryz.prog Tryz.f14 false true false false W args v W' := by
  have hW' := hW
  obtain ⟨p, q, hA0, hV, rfl, hfz, hnd⟩ := hW
  have hA : DataW.TrodAll enc Tryz.prog W 0 (fun _ => true) true Tryz.f14.params.toList args.toList ds p := hA0
  rw [Tryz.params14] at hA hval
  obtain ⟨v0, vs0, d0, ds0, p0, q0, hargs, rfl, rfl, h0, r0⟩ := trodAll_cons hA
  obtain ⟨v1, vs1, d1, ds1, p1, q1, rfl, rfl, rfl, h1, r1⟩ := trodAll_cons r0
  obtain ⟨rfl, rfl, rfl⟩ := trodAll_nil r1
  obtain rfl : args = #[v0, v1] := Array.toList_inj.1 hargs
  obtain ⟨rfl, rfl⟩ := trodVars_none hV
  obtain ⟨a0, len, cap, rfl⟩ := okWide_slice Tryz.underlying48 (hval 0 48 v0 rfl rfl)
  obtain ⟨x1, rfl⟩ := okWide_int tU3 (hval 1 3 v1 rfl rfl)
  have w1 : Raw x1 := trod_raw h1
  have h0k := h0
  obtain ⟨fuel, hf⟩ := h0
  clear hA0
  simp only [List.append_nil] at hW' hk
  have hlt0 : ∀ x ∈ p0, x.block < W.heap.size := fun x hx => by simpa using hW'.lt x (by simp [hx])
  have hlt1 : ∀ x ∈ p1, x.block < W.heap.size := fun x hx => by simpa using hW'.lt x (by simp [hx])
  have walk : Calls Tryz.prog 14 #[.slice a0 len cap, .int .i64 x1] W fun e w' => e = .returned (.bool true) ∧ Below W.heap.size W w' := by
    obtain ⟨_, X, hX⟩ := open_script hf
    have hlen : len ≤ Rows.uptoBulk d0 := bulks.slice_len Tryz.underlying48 hf
    have hfb := bulks.first hk
    exact traced_any a0 len cap (by omega) X x1 w1 W (gl_of_laid hL) hX
  refine walk.mono fun e W' ⟨he, bel⟩ => ?_
  subst he
  have e1 : Rows.tracedSpec.fn H ([d0, d1] ++ []) = { results := [.lit (.bool true)], args := [d0, d1] } := rfl
  refine ⟨_, rfl, _, _, _, [], p0 ++ (p1), [], hW', ?_, ?_, ?_, bel.frame _, fun h => ?_⟩
  · rw [e1]; exact trodAll_mk1 (shut_bool Tryz.underlying4 _)
  · rw [e1]; exact (trodAll_cons_mk (Below.trod laidOutK (by kernel_rfl) (of_decide_eq_true (by kernel_rfl)) h0k bel hlt0) (trodAll_mk1 (Below.trod laidOutK (by kernel_rfl) (of_decide_eq_true (by kernel_rfl)) h1 bel hlt1)))
  · rw [e1]; rfl
  · cases h

theorem laid_metK (os : Os) : laidMet Tryz.prog laidTwo ((World.doorLaid Tryz.prog 104 os).forCall (fun _ _ => 0) ⟨#[], #[.slice none 0 0, .int .i64 0], []⟩).memory :=
  laidMet_of_run' 8 (by kernel_rfl) (by kernel_rfl)
theorem readsK (os : Os) {H : Type} (enc : TypeId × Value → H) : ∃ places, DataW.whole enc Tryz.prog ((World.doorLaid Tryz.prog 104 os).forCall (fun _ _ => 0) ⟨#[], #[.slice none 0 0, .int .i64 0], []⟩).memory Tryz.f14.params.toList Rows.tracedSpec.vars false #[Value.slice none 0 0, .int .i64 0].toList 8 = some ([.nil, .lit (.int .i64 0)], [], places) :=
  ⟨[], by kernel_rfl⟩

set_option maxRecDepth 100000 in
theorem traced_lifted (os : Os) (started : os.Started) (H : Type) (enc : TypeId × Value → H) (F : Stop.Interp) :
    ReturnsInHanded {} Tryz.checked os 14 .any ((Rows.OpenSpec.upto Rows.tracedSpec).preRow enc Tryz.prog Tryz.f14 Rows.tracedUptoRow.domain false Rows.tracedUptoRow.laid) (((Rows.OpenSpec.upto Rows.tracedSpec).at F).post enc Tryz.prog Tryz.f14 false true false false) := by
  obtain ⟨places, hx⟩ := readsK os enc
  refine returnsInHanded_of_row (C := Tryz.checked) (s := Rows.OpenSpec.upto Rows.tracedSpec) ownK started (by kernel_rfl) Tryz.func14
    (witness_row_atRef (enc := enc) (C := Tryz.checked) false (World.doorLaid Tryz.prog 104 os) #[.slice none 0 0, .int .i64 0] rfl (by kernel_rfl) (by kernel_rfl) (by kernel_rfl)
      (OpenSpec.preRow_of_cond 8 hx (by kernel_rfl) (fun k hk => by cases hk; kernel_rfl) (by kernel_rfl) (laid_metK os))) ?_
  intro W base args ds gs before hval hW _ hcond _ hL _ _
  exact traced_contract H enc W base args ds gs before hval hW hL (hcond _ rfl)

theorem traced_j1 : (Rows.tracedUptoRow.inPlace == Tryz.prog.inPlace 14) = true := by kernel_rfl
theorem traced_j2 : (Rows.tracedUptoRow.unfollowed == Tryz.prog.unfollowed 14) = true := by kernel_rfl
theorem traced_j3 : (Rows.tracedUptoRow.recurses == Tryz.prog.recurses 14) = true := by kernel_rfl
theorem traced_j4 : (Rows.tracedUptoRow.named == Tryz.prog.varsNamed 14) = true := by kernel_rfl
theorem traced_joined : joinedFacts Tryz.pinned.checked.prog 14 Tryz.f14 (Rows.OpenSpec.upto Rows.tracedSpec).bare Rows.tracedUptoRow = true := by
  show joinedFacts Tryz.prog 14 Tryz.f14 (Rows.OpenSpec.upto Rows.tracedSpec).bare Rows.tracedUptoRow = true
  have hl : (Rows.tracedUptoRow.lifted == Tryz.prog.liftsFinal) = true := liftsJ
  have hm : (Tryz.prog.make == some Rows.tracedUptoRow.make) = true := makeJ
  unfold joinedFacts
  rw [laidOutJ, mapsRowedJ, mayJ, heardJ, hl, hm, traced_j1, traced_j2, traced_j3, traced_j4]
  show (_ : Bool) = true
  kernel_rfl

theorem traced_said : Rows.TracedUptoSaid :=
  OpenClaim.holds_of_cond 14 Tryz.f14 rfl rfl rfl rfl rfl rfl rfl ⟨rfl, rfl, rfl, rfl, rfl⟩ rfl rfl rfl rfl rfl (by kernel_rfl) Tryz.func14 traced_joined
    (of_decide_eq_true (by kernel_rfl)) (by unfold Func.isWrapper; first | (rw [if_pos (by decide +kernel)]; kernel_rfl) | (rw [if_neg (by decide +kernel)]; exact ⟨rfl, rfl⟩))
    (fun os started H enc _ F => by rw [OpenClaim.pre_eq_preRow]; exact traced_lifted os started H enc F)

/-- No parameter wants a stand-in; the looks are the program's own. -/
theorem traced_plain (f : FuncId) (fn : Func) (hf : Tryz.pinned.checked.prog.funcNamed "larder/larderkeep.Traced" = some f) (hfn : Tryz.pinned.checked.prog.funcs[f]? = some fn) :
    true = Tryz.pinned.checked.prog.looks [] ∧ ∀ (j : Nat) t, fn.params[j]? = some t → Tryz.pinned.checked.prog.wantsStandIn t = false := by
  obtain rfl : f = 14 := Option.some.inj ((show Tryz.prog.funcNamed "larder/larderkeep.Traced" = some 14 by kernel_rfl).symm.trans hf) |>.symm
  obtain rfl : fn = Tryz.f14 := (Option.some.inj (Tryz.func14.symm.trans hfn)).symm
  refine ⟨by kernel_rfl, fun j t ht => ?_⟩
  rw [Tryz.params14] at ht
  have hm : t = 48 ∨ t = 3 := by simpa using Array.mem_of_getElem? ht
  rcases hm with rfl | rfl
  · exact (show Tryz.prog.wantsStandIn 48 = false by kernel_rfl)
  · exact (show Tryz.prog.wantsStandIn 3 = false by kernel_rfl)

/-- The card. -/
theorem traced_card : Rows.TracedUptoCardSaid :=
  Claim7.holds_tied_plain_at .later [] _ _ _ _ traced_said (fun _ h => by cases h) (by kernel_rfl) (fun _ h => by cases h) tracedUpto_row_tie rfl ⟨rfl, rfl⟩ (by kernel_rfl) rfl traced_plain (by kernel_rfl)

end Go.Proofs.YtgcedalggnmooaaGreatDoor
