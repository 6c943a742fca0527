import Derived.Test.YtclipofifmajeaaGreatDoorR2
import Derived.Test.YtclipofifmajeaaGreatDoorAns2
import Derived.Test.YtclipofifmajeaaGreatDoorRefG
namespace Go.Proofs.YtclipofifmajeaaGreatDoor
set_option linter.unusedSimpArgs false
set_option linter.unusedVariables false
open Go.RowKit
set_option maxRecDepth 100000

/-- The document's store at R; all that it uses lies in Z. -/
def RI (os : List O) (Z : Nat → Prop) (w : World) (R td : Nat) (rec : ByteArray) (ls : List L) : Prop := ∃ v fs, ∃ ro : Ro, RV os ro w R v td rec fs ls ∧ Z R ∧ (∀ g, v.ownBlock = some g → Z g) ∧ (∀ g, OB ro g → Z g)

theorem RI.mono {Z Z' : Nat → Prop} {w : World} {R td : Nat} {rec : ByteArray} {ls : List L} {os : List O} (h : RI os Z w R td rec ls) (hz : ∀ k, Z k → Z' k) : RI os Z' w R td rec ls := by
  obtain ⟨v, fs, ro, h1, h2, h3, h4⟩ := h
  exact ⟨v, fs, ro, h1, hz _ h2, fun g hg => hz _ (h3 g hg), fun g hg => hz _ (h4 g hg)⟩
theorem RI.below {Z : Nat → Prop} {w w' : World} {R td : Nat} {rec : ByteArray} {ls : List L} {os : List O} (h : RI os Z w R td rec ls) (hb : Below w.heap.size w w') : RI os Z w' R td rec ls := by
  obtain ⟨v, fs, ro, h1, h2, h3, h4⟩ := h
  exact ⟨v, fs, ro, h1.below hb, h2, h3, h4⟩
theorem RI.congr {Z : Nat → Prop} {w w' : World} {R td : Nat} {rec : ByteArray} {ls : List L} {os : List O} (h : RI os Z w R td rec ls) (hq : ∀ k, Z k → w'.heap[k]? = w.heap[k]?) : RI os Z w' R td rec ls := by
  obtain ⟨v, fs, ro, h1, h2, h3, h4⟩ := h
  exact ⟨v, fs, ro, ⟨(hq R h2).trans h1.store, own_congr h1.row (fun g hg => hq g (h3 g hg)), h1.flen, h1.fsl, h1.ord.congr (fun g hg => hq g (h4 g hg)), h1.today, h1.ok, h1.room⟩, h2, h3, h4⟩

/-- The numbers of a command, as a slice at gn. -/
def NS (w : World) (gn : Nat) (ns : List Nat) : Prop := (∃ cs, w.heap[gn]? = some (.cells cs 3 (0, 0))) ∧ ∀ j, j < ns.length → w.cell? ⟨gn, j, none⟩ = some (.int .i64 (ns.getD j 0 : Nat))

theorem NS.of_own {w : World} {base gn cap : Nat} {ns : List Nat} (h : w.ownsRow base 3 1 (.slice (some ⟨gn, 0, none⟩) ns.length cap) ns.length (I ns)) : NS w gn ns :=
  ⟨own_ty h rfl, fun j hj => rowI_cell h rfl j hj⟩

theorem drewB (w : World) : Below w.heap.size w w.drew := (Below.refl _ _).drew

set_option maxHeartbeats 1600000 in
theorem comeR_any {Z : Nat → Prop} {w : World} {R td : Nat} {rec : ByteArray} {ls : List L} {os : List O} (h : RI os Z w R td rec ls) (gn cap : Nat) (a b c d : Nat) (hn : NS w gn [a, b, c, d])
    (h1 : a ≤ 2147483647) (h2 : b ≤ 2147483647) (h3 : c ≤ 2147483647) (h4 : d ≤ 2147483647) :
    Calls Tryz.prog 38 #[.pointer (some ⟨R, 0, none⟩), .int .i64 2, .slice (some ⟨gn, 0, none⟩) 4 cap] w fun e w' => Kp Z w w' ∧ e = .returned (.int .i64 (roomC ls a : Int)) ∧ RI os (Zn Z w) w' R td rec (if roomC ls a = 0 then ls ++ [newL ls a b c d] else ls) := by
  obtain ⟨v, fs, ro, hP, hZ, hZv, hZo⟩ := h
  obtain ⟨⟨cs, hcs⟩, hcells⟩ := hn
  have n0 : w.cell? ⟨gn, 0, none⟩ = some (.int .i64 (a : Int)) := hcells 0 (by simp)
  have n1 : w.cell? ⟨gn, 1, none⟩ = some (.int .i64 (b : Int)) := hcells 1 (by simp)
  have n2 : w.cell? ⟨gn, 2, none⟩ = some (.int .i64 (c : Int)) := hcells 2 (by simp)
  have n3 : w.cell? ⟨gn, 3, none⟩ = some (.int .i64 (d : Int)) := hcells 3 (by simp)
  have HR := hide (roomR_any hP a h1)
  have hrle : roomC ls a ≤ 6 := by unfold roomC; split <;> (try split) <;> omega
  by_cases hr : roomC ls a = 0
  · have hl30 : ls.length < 30 := by
      unfold roomC at hr
      by_cases hq : 30 ≤ ls.length
      · split at hr
        · omega
        · omega
      · omega
    have HA := hide (addR_any (hP.below (drewB w)) a b d c none 0 0 hl30 h1 h2 h4 h3)
    have hgn := blk_lt hcs
    have HgR : Hid (gn ≠ R) := ty_ne hcs hP.store (by decide)
    have Hgv : Hid (v.ownBlock ≠ some gn) := fun e => by
      obtain ⟨ds, hd⟩ := own_ty hP.row e
      exact ty_ne hcs hd (by decide) rfl
    have HZ := hide hZ
    have HZv := hide hZv
    have HZo := hide hZo
    rw [hr] at HR ⊢
    rw [if_pos rfl]
    clear hP hr hcells hcs hZ hZv hZo
    go_enter Tryz.func38, Tryz.ntmps38
    go_wp2_with (go_at_call 73; refine (HR.out).mono ?_; rintro e w1 ⟨rfl, rfl⟩)
    go_region_held3 (fun w' => w'.cell? ⟨gn, 0, none⟩ = some (.int .i64 (a : Int)) ∧ w'.cell? ⟨gn, 1, none⟩ = some (.int .i64 (b : Int)) ∧ w'.cell? ⟨gn, 2, none⟩ = some (.int .i64 (c : Int)) ∧ w'.cell? ⟨gn, 3, none⟩ = some (.int .i64 (d : Int))) (go_keep)
      (first
        | (go_at_call 74; refine (HA.out).mono ?_; rintro e w2 ⟨rfl, hk, v', hrv, hat⟩; have hq := hk.block gn hgn (fun h => h.elim HgR.out Hgv.out); have m0 := (World.cell?_of_block (a := ⟨gn, 0, none⟩) hq).trans n0; have m1 := (World.cell?_of_block (a := ⟨gn, 1, none⟩) hq).trans n1; have m2 := (World.cell?_of_block (a := ⟨gn, 2, none⟩) hq).trans n2; have m3 := (World.cell?_of_block (a := ⟨gn, 3, none⟩) hq).trans n3))
    clear m0 m1 m2 m3 hq n0 n1 n2 n3
    go_wp2_with fail
    go_ret
    refine ⟨?_, rfl, v', _, ro, hrv, Or.inl HZ.out, fun g hg => ?_, fun g hg => Or.inl (HZo.out g hg)⟩
    · exact Kp.before (drewB _) (hk.mono (fun k hq => Or.inl (hq.elim (fun e => e ▸ HZ.out) (fun e => HZv.out k e))))
    · rcases hat g hg with h | h
      · exact Or.inl (HZv.out g h)
      · exact Or.inr h
  · rw [if_neg hr]
    have hrb : ((roomC ls a : Int) == 0) = false := by rw [beq_eq_false_iff_ne]; omega
    have hri : RI os (Zn Z w) w R td rec ls := ⟨v, fs, ro, hP, Or.inl hZ, fun g hg => Or.inl (hZv g hg), fun g hg => Or.inl (hZo g hg)⟩
    have HRI := hide hri
    generalize roomC ls a = rc at *
    clear hP hcells hcs hri
    go_enter Tryz.func38, Tryz.ntmps38
    go_wp2_with (go_at_call 73; refine (HR.out).mono ?_; rintro e w1 ⟨rfl, rfl⟩)
    go_ret
    exact ⟨Kp.refl _ _, rfl, HRI.out⟩

end Go.Proofs.YtclipofifmajeaaGreatDoor
