/- The card of 'Refused'. -/
import Derived.Test.YtgcedalggnmooabGreatDoorCards
import Derived.Test.YtgcedalggnmooabGreatDoorTie
import Derived.Test.YtgcedalggnmooabGreatDoorKJ
import Derived.Test.YtgcedalggnmooabGreatDoorKI
import Derived.Test.YtgcedalggnmooabGreatDoorBulk2
import Derived.Test.YtgcedalggnmooabGreatDoorJf
import Derived.ProofKit
import Derived.OpenShut
import Derived.Carry
import Derived.LaidLaws
import Derived.LaidMore
import Derived.Deep.DeepHandedRow
import Derived.Deep.DeepWitnessRowRef
namespace Go.Proofs.YtgcedalggnmooabGreatDoor
set_option linter.unusedSimpArgs false
set_option linter.unusedVariables false
open Go.ChangeShapes Go.WideShapes Go.ChangeAt Go.RowKit

theorem ownK : ownKnob Tryz.prog.godebug = none := by kernel_rfl
theorem laidOutK : laidOutB Tryz.prog = true := laidOutJ
theorem gCode : Tryz.prog.globalNamed "larder/command.errCode" = some 2 := by kernel_rfl
theorem gBroken : Tryz.prog.globalNamed "larder/wire.errBroken" = some 3 := by kernel_rfl
theorem gCodeT : (Tryz.prog.globals[2]?).map (·.type) = some 122 := by kernel_rfl
theorem gBrokenT : (Tryz.prog.globals[3]?).map (·.type) = some 122 := by kernel_rfl
theorem cellsK9 : Tryz.prog.cellsOf 9 = 1 := by kernel_rfl

/-- The two listed variables, as the given rows list them. -/
def laidTwo : List (String × DataW Unit) := [("larder/wire.errBroken", Rows.laid_larder_wire_errBroken), ("larder/command.errCode", Rows.laid_larder_command_errCode)]

theorem cell_blk {w : World} {b j : Nat} {x : Value} (h : w.cell? ⟨b, j, none⟩ = some x) : b < w.heap.size := by
  rcases Nat.lt_or_ge b w.heap.size with h' | h'
  · exact h'
  · simp [World.cell?, Array.getElem?_eq_none h'] at h

/-- What the list gives: each variable holds an interface value. -/
theorem gl_of_laid {W : World} (h : laidMetH Tryz.prog laidTwo W) : Gl W := by
  have h' : laidMet Tryz.prog laidTwo W := h
  obtain ⟨ps, ⟨g0, t0, cs0, f0, p0, q0, hg0, ht0, hv0, hd0, ⟨g1, t1, cs1, f1, p1, q1, hg1, ht1, hv1, hd1, hq1, e1⟩, e0⟩, hnd, hrows⟩ := h'
  obtain rfl := Option.some.inj (gBroken.symm.trans hg0)
  obtain rfl := Option.some.inj (gCode.symm.trans hg1)
  obtain rfl := Option.some.inj (gBrokenT.symm.trans ht0)
  obtain rfl := Option.some.inj (gCodeT.symm.trans ht1)
  obtain ⟨l0⟩ := cs0
  obtain ⟨l1⟩ := cs1
  obtain ⟨_, u0, v0, rfl, _, _⟩ := iface_of_trod Tryz.underlying122 hd0
  obtain ⟨_, u1, v1, rfl, _, _⟩ := iface_of_trod Tryz.underlying122 hd1
  have c1 : W.cell? ⟨3, 0, none⟩ = some (.iface u0 v0) := by simpa using World.var?_cell gBroken hv0 0
  have c0 : W.cell? ⟨2, 0, none⟩ = some (.iface u1 v1) := by simpa using World.var?_cell gCode hv1 0
  exact ⟨⟨u1, v1, c0⟩, ⟨u0, v0, c1⟩, cell_blk c1⟩

theorem trod_str {H : Type} {enc : TypeId × Value → H} {W : World} {x : ByteArray} {d : DataW H} {p : List MemPlace} (h : DataW.Trod enc Tryz.prog W 0 (fun _ => true) true 9 (.string x) d p) : d = .lit (.string x.data.toList) := by
  obtain ⟨fuel, hf⟩ := h
  obtain ⟨m, hm, hd, _⟩ := DataW.trod_string Tryz.underlying9 hf
  have e : x = m := by
    have h1 : [Value.string x] = [Value.string m] := hm
    injection h1 with h1 h2
    injection h1
  subst e
  exact congrArg Prod.fst hd

set_option maxRecDepth 100000 in
theorem refused_contract (H : Type) (enc : TypeId × Value → H) (W : World) (base : Nat) (args : Array Value) (ds gs : List (DataW H)) (before : List MemPlace)
    (hval : ∀ (j : Nat) t v, Tryz.f3.params[j]? = some t → args[j]? = some v → Value.okWide Tryz.prog W .any base t v)
    (hW : DataW.Whole enc Tryz.prog Tryz.f3.params.toList Rows.refusedSpec.vars false W args.toList ds gs before) (hL : laidMetH Tryz.prog laidTwo W)
    (hk : Rows.uptoSmall H (ds ++ gs) = true) :
    Calls Tryz.prog 3 args W fun e W' => ∃ v, e = .returned v ∧ Rows.refusedSpec.post enc Tryz.prog Tryz.f3 false true false false W args v W' := by
  have hW' := hW
  obtain ⟨p, q, hA0, hV, rfl, hfz, hnd⟩ := hW
  have hA : DataW.TrodAll enc Tryz.prog W 0 (fun _ => true) true Tryz.f3.params.toList args.toList ds p := hA0
  rw [Tryz.params3] at hA hval
  obtain ⟨v0, vs0, d0, ds0, p0, q0, hargs, rfl, rfl, h0, r0⟩ := trodAll_cons hA
  obtain ⟨v1, vs1, d1, ds1, p1, q1, rfl, rfl, rfl, h1, r1⟩ := trodAll_cons r0
  obtain ⟨rfl, rfl, rfl⟩ := trodAll_nil r1
  obtain rfl : args = #[v0, v1] := Array.toList_inj.1 hargs
  obtain ⟨rfl, rfl⟩ := trodVars_none hV
  obtain ⟨a0, len, cap, rfl⟩ := okWide_slice Tryz.underlying22 (hval 0 22 v0 rfl rfl)
  obtain ⟨x1, rfl⟩ := okWide_string Tryz.underlying9 (hval 1 9 v1 rfl rfl)
  have w1 := trod_str h1
  have h0k := h0
  obtain ⟨fuel, hf⟩ := h0
  clear hA0
  simp only [List.append_nil] at hW' hk
  have hlt0 : ∀ x ∈ p0, x.block < W.heap.size := fun x hx => by simpa using hW'.lt x (by simp [hx])
  have hlt1 : ∀ x ∈ p1, x.block < W.heap.size := fun x hx => by simpa using hW'.lt x (by simp [hx])
  have walk : Calls Tryz.prog 3 #[.slice a0 len cap, .string x1] W fun e w' => e = .returned (.bool true) ∧ Below W.heap.size W w' := by
    obtain ⟨_, X, hX⟩ := open_script hf
    have hlen : len ≤ Rows.uptoBulk d0 := bulks.slice_len Tryz.underlying22 hf
    have hfb := bulks.first hk
    have hsb : x1.size ≤ 1048576 := by
      have h : Rows.uptoBulkAll [d0, d1] ≤ 1048576 := of_decide_eq_true hk
      rw [w1] at h
      simp only [Rows.uptoBulkAll, Rows.uptoBulk, Array.length_toList] at h
      have : x1.size = x1.data.size := rfl
      omega
    exact refused_any a0 len cap (by omega) X x1 (by omega) W (gl_of_laid hL) hX
  refine walk.mono fun e W' ⟨he, bel⟩ => ?_
  subst he
  have e1 : Rows.refusedSpec.fn H ([d0, d1] ++ []) = { results := [.lit (.bool true)], args := [d0, d1] } := rfl
  refine ⟨_, rfl, _, _, _, [], p0 ++ (p1), [], hW', ?_, ?_, ?_, bel.frame _, fun h => ?_⟩
  · rw [e1]; exact trodAll_mk1 (shut_bool Tryz.underlying4 _)
  · rw [e1]; exact (trodAll_cons_mk (Below.trod laidOutK (by kernel_rfl) (of_decide_eq_true (by kernel_rfl)) h0k bel hlt0) (trodAll_mk1 (Below.trod laidOutK (by kernel_rfl) (of_decide_eq_true (by kernel_rfl)) h1 bel hlt1)))
  · rw [e1]; rfl
  · cases h

theorem laid_metK (os : Os) : laidMet Tryz.prog laidTwo ((World.doorLaid Tryz.prog 104 os).forCall (fun _ _ => 0) ⟨#[], #[.slice none 0 0, .string ⟨#[]⟩], []⟩).memory :=
  laidMet_of_run' 8 (by kernel_rfl) (by kernel_rfl)
theorem readsK (os : Os) {H : Type} (enc : TypeId × Value → H) : ∃ places, DataW.whole enc Tryz.prog ((World.doorLaid Tryz.prog 104 os).forCall (fun _ _ => 0) ⟨#[], #[.slice none 0 0, .string ⟨#[]⟩], []⟩).memory Tryz.f3.params.toList Rows.refusedSpec.vars false #[Value.slice none 0 0, .string ⟨#[]⟩].toList 8 = some ([.nil, .lit (.string [])], [], places) :=
  ⟨[], by kernel_rfl⟩

set_option maxRecDepth 100000 in
theorem refused_lifted (os : Os) (started : os.Started) (H : Type) (enc : TypeId × Value → H) (F : Stop.Interp) :
    ReturnsInHanded {} Tryz.checked os 3 .any ((Rows.OpenSpec.upto Rows.refusedSpec).preRow enc Tryz.prog Tryz.f3 Rows.refusedUptoRow.domain false Rows.refusedUptoRow.laid) (((Rows.OpenSpec.upto Rows.refusedSpec).at F).post enc Tryz.prog Tryz.f3 false true false false) := by
  obtain ⟨places, hx⟩ := readsK os enc
  refine returnsInHanded_of_row (C := Tryz.checked) (s := Rows.OpenSpec.upto Rows.refusedSpec) ownK started (by kernel_rfl) Tryz.func3
    (witness_row_atRef (enc := enc) (C := Tryz.checked) false (World.doorLaid Tryz.prog 104 os) #[.slice none 0 0, .string ⟨#[]⟩] rfl (by kernel_rfl) (by kernel_rfl) (by kernel_rfl)
      (OpenSpec.preRow_of_cond 8 hx (by kernel_rfl) (fun k hk => by cases hk; kernel_rfl) (by kernel_rfl) (laid_metK os))) ?_
  intro W base args ds gs before hval hW _ hcond _ hL _ _
  exact refused_contract H enc W base args ds gs before hval hW hL (hcond _ rfl)

theorem refused_j1 : (Rows.refusedUptoRow.inPlace == Tryz.prog.inPlace 3) = true := by kernel_rfl
theorem refused_j2 : (Rows.refusedUptoRow.unfollowed == Tryz.prog.unfollowed 3) = true := by kernel_rfl
theorem refused_j3 : (Rows.refusedUptoRow.recurses == Tryz.prog.recurses 3) = true := by kernel_rfl
theorem refused_j4 : (Rows.refusedUptoRow.named == Tryz.prog.varsNamed 3) = true := by kernel_rfl
theorem refused_joined : joinedFacts Tryz.pinned.checked.prog 3 Tryz.f3 (Rows.OpenSpec.upto Rows.refusedSpec).bare Rows.refusedUptoRow = true := by
  show joinedFacts Tryz.prog 3 Tryz.f3 (Rows.OpenSpec.upto Rows.refusedSpec).bare Rows.refusedUptoRow = true
  have hl : (Rows.refusedUptoRow.lifted == Tryz.prog.liftsFinal) = true := liftsJ
  have hm : (Tryz.prog.make == some Rows.refusedUptoRow.make) = true := makeJ
  unfold joinedFacts
  rw [laidOutJ, mapsRowedJ, mayJ, heardJ, hl, hm, refused_j1, refused_j2, refused_j3, refused_j4]
  show (_ : Bool) = true
  kernel_rfl

theorem refused_said : Rows.RefusedUptoSaid :=
  OpenClaim.holds_of_cond 3 Tryz.f3 rfl rfl rfl rfl rfl rfl rfl ⟨rfl, rfl, rfl, rfl, rfl⟩ rfl rfl rfl rfl rfl (by kernel_rfl) Tryz.func3 refused_joined
    (of_decide_eq_true (by kernel_rfl)) (by unfold Func.isWrapper; first | (rw [if_pos (by decide +kernel)]; kernel_rfl) | (rw [if_neg (by decide +kernel)]; exact ⟨rfl, rfl⟩))
    (fun os started H enc _ F => by rw [OpenClaim.pre_eq_preRow]; exact refused_lifted os started H enc F)

/-- No parameter wants a stand-in; the looks are the program's own. -/
theorem refused_plain (f : FuncId) (fn : Func) (hf : Tryz.pinned.checked.prog.funcNamed "larder/larderkeep.Refused" = some f) (hfn : Tryz.pinned.checked.prog.funcs[f]? = some fn) :
    true = Tryz.pinned.checked.prog.looks [] ∧ ∀ (j : Nat) t, fn.params[j]? = some t → Tryz.pinned.checked.prog.wantsStandIn t = false := by
  obtain rfl : f = 3 := Option.some.inj ((show Tryz.prog.funcNamed "larder/larderkeep.Refused" = some 3 by kernel_rfl).symm.trans hf) |>.symm
  obtain rfl : fn = Tryz.f3 := (Option.some.inj (Tryz.func3.symm.trans hfn)).symm
  refine ⟨by kernel_rfl, fun j t ht => ?_⟩
  rw [Tryz.params3] at ht
  have hm : t = 22 ∨ t = 9 := by simpa using Array.mem_of_getElem? ht
  rcases hm with rfl | rfl
  · exact (show Tryz.prog.wantsStandIn 22 = false by kernel_rfl)
  · exact (show Tryz.prog.wantsStandIn 9 = false by kernel_rfl)

/-- The card. -/
theorem refused_card : Rows.RefusedUptoCardSaid :=
  Claim7.holds_tied_plain_at .later [] _ _ _ _ refused_said (fun _ h => by cases h) (by kernel_rfl) (fun _ h => by cases h) refusedUpto_row_tie rfl ⟨rfl, rfl⟩ (by kernel_rfl) rfl refused_plain (by kernel_rfl)

end Go.Proofs.YtgcedalggnmooabGreatDoor
