import Derived.Test.YtgcedalggnmooabGreatDoorProg
import Derived.Test.YtgcedalggnmooabGreatDoorPlain
import Derived.WalkKit
import Derived.WalkSpells
import Derived.WalkLawsBesides
import Derived.Deep.QuietTactic
import Derived.BigQuiet
namespace Go.Proofs.YtgcedalggnmooabGreatDoor
set_option linter.unusedSimpArgs false
set_option linter.unusedVariables false
open Go.RowKit
set_option maxRecDepth 100000

theorem hide {p : Prop} (h : p) : Hid p := h

theorem own_below {w w1 : World} {base : Nat} {e : TypeId} {size n : Nat} {v : Value} {xs : List Value} (h : w.ownsRow base e size v n xs) (hb : Below w.heap.size w w1) : w1.ownsRow base e size v n xs :=
  h.kept (row := none) ⟨hb.os, hb.tape, hb.output, hb.size, fun k hk _ => hb.block k hk⟩ (by cases v.ownBlock <;> simp)

theorem one_new (w1 : World) (x : Value) (t : TypeId) : ∀ (j : Nat) (u : Value), [x][j]? = some u → (w1.alloc (.cells #[x] t)).cell? (Addr.add ⟨w1.heap.size, 0, none⟩ j) = some u := by
  intro j u hj
  match j, hj with
  | 0, hj =>
    simp at hj; subst hj
    have ha : (Addr.add ⟨w1.heap.size, 0, none⟩ 0) = ⟨w1.heap.size, 0, none⟩ := by simp [Addr.add]
    rw [ha, World.cell?_alloc_mark]; rfl

theorem tU3 : Tryz.prog.underlying 3 = some (.int .i64) := by kernel_rfl
theorem tU5 : Tryz.prog.underlying 5 = some (.int .u8) := by kernel_rfl
theorem tU9 : Tryz.prog.underlying 9 = some .string := by kernel_rfl
theorem tU52 : Tryz.prog.underlying 51 = some (.slice 5) := by kernel_rfl

theorem ret_str {a b : List UInt8} (h : a = b) : Ending.returned (.string ⟨a.toArray⟩) = .returned (.string ⟨b.toArray⟩) := by rw [h]

theorem conv1 (w0 : World) (x : Int) (h0 : 0 ≤ x) (h1 : x < 256) (fz : Nat × Nat) :
    (convert 51 9 (.slice (some ⟨w0.heap.size, 0, none⟩) 1 1)).run Tryz.prog (w0.alloc (.cells #[.int .u8 x] 5 fz)) = .ok (.string ⟨#[UInt8.ofNat x.toNat]⟩) (w0.alloc (.cells #[.int .u8 x] 5 fz)) := by
  have hu : ((UInt8.ofNat x.toNat).toNat : Int) = x := by
    rw [UInt8.toNat_ofNat']; omega
  refine run_convert_bytes_back (P := Tryz.prog) (w0.alloc (.cells #[.int .u8 x] 5 fz)) 51 9 5 ⟨w0.heap.size, 0, none⟩ 1 [UInt8.ofNat x.toNat] tU52 tU5 tU9 ?_
  intro j hj
  have : j = 0 := by simpa using hj
  subst this
  have ha : (Addr.add ⟨w0.heap.size, 0, none⟩ 0) = ⟨w0.heap.size, 0, none⟩ := by simp [Addr.add]
  rw [ha, World.cell?_alloc_mark, List.getElem_cons_zero, hu]; rfl

end Go.Proofs.YtgcedalggnmooabGreatDoor

namespace Go.Proofs.YtgcedalggnmooabGreatDoor
set_option linter.unusedSimpArgs false
set_option linter.unusedVariables false
open Go.RowKit
set_option maxRecDepth 100000

theorem wrap64_in (n : Int) (h : -9223372036854775808 ≤ n ∧ n ≤ 9223372036854775807) : wrap64 n = n := by unfold wrap64; omega

theorem ret_ints {a b c d : Int} (h1 : a = c) (h2 : b = d) : Ending.returned (.tuple #[.int .i64 a, .int .i64 b]) = .returned (.tuple #[.int .i64 c, .int .i64 d]) := by rw [h1, h2]

theorem ba_getD (s : ByteArray) (k : Nat) (h : k < s.size) : s.data.toList.getD k 0 = s[k] := by
  have h' : k < s.data.toList.length := by simpa using h
  rw [List.getD_eq_getElem?_getD, List.getElem?_eq_getElem h']
  rfl

theorem extract_take (s : ByteArray) (n : Nat) : (s.extract 0 n).toList = s.data.toList.take n := by
  rw [ByteArray.toList_eq, ByteArray.data_extract]
  simp

theorem step_eq (s : ByteArray) (k : Nat) (h : k < s.size) (h9 : k < 9) :
    wrap64 (↑(Pl.val (List.take k s.data.toList)) + wrap64 ((wrap64 ↑s[k].toNat).tmod 128 * 2 ^ (7 * k))) = (Pl.val (s.data.toList.take (k + 1)) : Int) := by
  have hb : s[k].toNat < 256 := UInt8.toNat_lt _
  rw [wrap64_in (s[k].toNat : Int) ⟨by omega, by omega⟩]
  have e1 : (s[k].toNat : Int).tmod 128 = ((s[k].toNat % 128 : Nat) : Int) := by
    rw [Int.tmod_eq_emod_of_nonneg (by omega)]; omega
  have e2 : (2 : Int) ^ (7 * k) = ((128 ^ k : Nat) : Int) := by
    rw [Int.pow_mul]; norm_cast
  have hlt := Pl.val_take_lt s.data.toList (k + 1) (by omega)
  have hsn := Pl.take_snoc s.data.toList k (by simpa using h)
  have hlen : (s.data.toList.take k).length = k := by rw [List.length_take, show s.data.toList.length = s.size from by simp]; omega
  have hv := Pl.val_snoc (s.data.toList.getD k 0) (s.data.toList.take k)
  rw [← hsn, ba_getD s k h, hlen] at hv
  rw [e1, e2, ← Int.natCast_mul]
  have hle : s[k].toNat % 128 * 128 ^ k ≤ Pl.val (s.data.toList.take (k + 1)) := by rw [hv]; omega
  rw [wrap64_in ((s[k].toNat % 128 * 128 ^ k : Nat) : Int) ⟨by omega, by omega⟩, ← Int.natCast_add, ← hv, wrap64_in _ ⟨by omega, by omega⟩]

end Go.Proofs.YtgcedalggnmooabGreatDoor

namespace Go.Proofs.YtgcedalggnmooabGreatDoor
set_option linter.unusedSimpArgs false
set_option linter.unusedVariables false
open Go.RowKit
set_option maxRecDepth 100000

theorem tU48 : Tryz.prog.underlying 44 = some (.slice 3) := by kernel_rfl
theorem info3 : (Tryz.prog.info? 3).map (fun i => (i.zero, i.size, i.bytes)) = some (some (.int .i64 0), 1, 8) := by kernel_rfl

def strOf : Value → ByteArray | .string s => s | _ => ByteArray.empty

/-- A slice of ints of the call's own. -/
def I (ns : List Nat) : List Value := ns.map fun (n : Nat) => Value.int .i64 (n : Int)

theorem extract_drop (s : ByteArray) (n : Nat) : (s.extract n s.size).data.toList = s.data.toList.drop n := by
  rw [ByteArray.data_extract]
  simp [Array.toList_extract]
  rw [List.take_of_length_le (by simp)]

theorem own1 {base : Nat} {ns : List Nat} {n : Nat} {w1 : World} {v1 : Value}
    (h : w1.ownsRow base 3 1 v1 (ns.length + 1) (I ns ++ [.int .i64 (n : Int)])) : w1.ownsRow base 3 1 v1 (ns ++ [n]).length (I (ns ++ [n])) := by
  have e : I (ns ++ [n]) = I ns ++ [.int .i64 (n : Int)] := by simp [I]
  rw [e, List.length_append]; exact h

end Go.Proofs.YtgcedalggnmooabGreatDoor

namespace Go.Proofs.YtgcedalggnmooabGreatDoor
set_option linter.unusedSimpArgs false
set_option linter.unusedVariables false
open Go.RowKit
set_option maxRecDepth 100000

theorem tU22 : Tryz.prog.underlying 31 = some (.slice 9) := by kernel_rfl

def SB (l : List UInt8) : Value := .string ⟨l.toArray⟩

theorem ret_bool {a b : Bool} (h : a = b) : Ending.returned (.bool a) = .returned (.bool b) := by rw [h]
theorem u8_ne {k c : UInt8} (h : ¬ k = c) : ((k.toNat : Int) == (c.toNat : Int)) = false := by
  rw [beq_eq_false_iff_ne]; intro e; exact h (UInt8.toNat_inj.1 (by omega))

end Go.Proofs.YtgcedalggnmooabGreatDoor

namespace Go.Proofs.YtgcedalggnmooabGreatDoor
set_option linter.unusedSimpArgs false
set_option linter.unusedVariables false
open Go.RowKit
set_option maxRecDepth 100000

end Go.Proofs.YtgcedalggnmooabGreatDoor

namespace Go.Proofs.YtgcedalggnmooabGreatDoor
set_option linter.unusedSimpArgs false
set_option linter.unusedVariables false
open Go.RowKit
set_option maxRecDepth 100000

theorem tU4 : Tryz.prog.underlying 4 = some .bool := by kernel_rfl
theorem info4 : (Tryz.prog.info? 4).map (fun i => (i.zero, i.size, i.bytes)) = some (some (.bool false), 1, 1) := by kernel_rfl

def Bs (l : List Bool) : List Value := l.map Value.bool

theorem ownB {base n : Nat} {bs : List Bool} {b : Bool} {w1 : World} {v1 : Value} (hl : bs.length = n)
    (h : w1.ownsRow base 4 1 v1 (n + 1) (Bs bs ++ [.bool b])) : w1.ownsRow base 4 1 v1 (bs ++ [b]).length (Bs (bs ++ [b])) := by
  have e : Bs (bs ++ [b]) = Bs bs ++ [.bool b] := by simp [Bs]
  rw [e, List.length_append, hl]; exact h

theorem own_shape {w : World} {base e n : Nat} {v : Value} {xs : List Value} (h : w.ownsRow base e 1 v n xs) : ∃ a cap, v = .slice a n cap := by
  rcases h.2 with ⟨hv, hx⟩ | ⟨g, cap, cur, hv, _⟩
  · exact ⟨none, 0, by rw [hv, hx]⟩
  · exact ⟨_, cap, hv⟩

theorem own_some {w : World} {base e n : Nat} {v : Value} {xs : List Value} (h : w.ownsRow base e 1 v n xs) (hn : 0 < n) : ∃ g cap, v = .slice (some ⟨g, 0, none⟩) n cap ∧ base ≤ g ∧ g < w.heap.size := by
  rcases h.2 with ⟨hv, hx⟩ | ⟨g, cap, cur, hv, hg, hh, _⟩
  · omega
  · exact ⟨g, cap, hv, hg, (Array.getElem?_eq_some_iff.1 hh).1⟩

/-- A row of bools: one that is read; one that is turned. -/
theorem rowB_cell {w : World} {base g n cap : Nat} {bs : List Bool} (h : w.ownsRow base 4 1 (.slice (some ⟨g, 0, none⟩) n cap) n (Bs bs)) (hl : bs.length = n) (k : Nat) (hk : k < n) :
    w.cell? ⟨g, k, none⟩ = some (.bool (bs.getD k false)) := by
  rw [h.cellAt k (by omega)]
  simp [Bs, List.getD_eq_getElem?_getD, List.getElem?_eq_getElem (show k < bs.length by omega)]

theorem rowB_set {w : World} {base g n cap : Nat} {bs : List Bool} (h : w.ownsRow base 4 1 (.slice (some ⟨g, 0, none⟩) n cap) n (Bs bs)) (k : Nat) (b : Bool) :
    (w.setCell ⟨g, k, none⟩ (.bool b)).ownsRow base 4 1 (.slice (some ⟨g, 0, none⟩) n cap) n (Bs (bs.set k b)) := by
  have := (h.stored k (.bool b)).1
  rw [show Bs (bs.set k b) = (Bs bs).set k (.bool b) from by simp [Bs, List.map_set]]
  exact this

theorem info5 : (Tryz.prog.info? 5).map (fun i => (i.zero, i.size, i.bytes)) = some (some (.int .u8 0), 1, 1) := by kernel_rfl

def U8 (l : List UInt8) : List Value := l.map fun b => Value.int .u8 (b.toNat : Int)

theorem rowU_cell {w : World} {base g n cap : Nat} {l : List UInt8} (h : w.ownsRow base 5 1 (.slice (some ⟨g, 0, none⟩) n cap) n (U8 l)) (hl : l.length = n) (k : Nat) (hk : k < n) :
    w.cell? ⟨g, k, none⟩ = some (.int .u8 ((l.getD k 0).toNat : Int)) := by
  rw [h.cellAt k (by omega)]
  simp [U8, List.getD_eq_getElem?_getD, List.getElem?_eq_getElem (show k < l.length by omega)]

theorem rowU_set {w : World} {base g n cap : Nat} {l : List UInt8} (h : w.ownsRow base 5 1 (.slice (some ⟨g, 0, none⟩) n cap) n (U8 l)) (k : Nat) (x : Int) (hx : 0 ≤ x ∧ x < 256) :
    (w.setCell ⟨g, k, none⟩ (.int .u8 x)).ownsRow base 5 1 (.slice (some ⟨g, 0, none⟩) n cap) n (U8 (l.set k (UInt8.ofNat x.toNat))) ∧ w.grownBy (w.setCell ⟨g, k, none⟩ (.int .u8 x)) (some g) := by
  have := h.stored k (.int .u8 x)
  have hu : ((UInt8.ofNat x.toNat).toNat : Int) = x := by rw [UInt8.toNat_ofNat']; omega
  rw [show U8 (l.set k (UInt8.ofNat x.toNat)) = (U8 l).set k (.int .u8 x) from by simp only [U8, List.map_set, hu]]
  exact this

theorem bits_u8_range (op : BinOp) (x y : Int) : 0 ≤ bits op .u8 x y ∧ bits op .u8 x y < 256 := by
  unfold bits; rw [IntKind.wrap_u8']; omega

theorem made4 : (madeCells (Value.int .u8 0).cells (4 * 1)).toList = U8 [0, 0, 0, 0] := by kernel_rfl

end Go.Proofs.YtgcedalggnmooabGreatDoor

namespace Go.Proofs.YtgcedalggnmooabGreatDoor
set_option linter.unusedSimpArgs false
set_option linter.unusedVariables false
open Go.RowKit
set_option maxRecDepth 100000

theorem extract1_size (s : ByteArray) : (s.extract 1 s.size).size = s.size - 1 := by rw [ByteArray.size_extract]; omega

theorem not_empty (s : ByteArray) (h0 : 0 < s.size) : s.toList.isEmpty = false := by
  rw [ByteArray.toList_eq]
  cases h : s.data.toList with
  | nil =>
    have hl : s.data.toList.length = s.size := by simp
    rw [h] at hl
    have : s.size = 0 := hl.symm
    omega
  | cons => rfl

/-- 'mays' place by place. -/
theorem mays_iff : ∀ (ks : List UInt8) (ns : List Nat), ks.length = ns.length → (Pl.mays ks ns = true ↔ ∀ j, j < ns.length → Pl.mayB (ks.getD j 0) (ns.getD j 0) = true)
  | [], [], _ => by simp [Pl.mays]
  | [], _ :: _, h => by simp at h
  | _ :: _, [], h => by simp at h
  | k :: ks, n :: ns, h => by
    rw [Pl.mays, Bool.and_eq_true, mays_iff ks ns (by simpa using h)]
    constructor
    · rintro ⟨h1, h2⟩ j hj
      cases j with
      | zero => exact h1
      | succ j => exact h2 j (by simpa using hj)
    · intro h1
      exact ⟨h1 0 (by simp), fun j hj => h1 (j + 1) (by simpa using hj)⟩

theorem rowI_cell {w : World} {base g n cap : Nat} {ns : List Nat} (h : w.ownsRow base 3 1 (.slice (some ⟨g, 0, none⟩) n cap) n (I ns)) (hl : ns.length = n) (k : Nat) (hk : k < n) :
    w.cell? ⟨g, k, none⟩ = some (.int .i64 (ns.getD k 0 : Nat)) := by
  rw [h.cellAt k (by omega)]
  simp [I, List.getD_eq_getElem?_getD, List.getElem?_eq_getElem (show k < ns.length by omega)]

/-- 'Command', by the plain function. -/
def CmdPost (w : World) (c : Pl.Cmd) (e : Ending) (w' : World) : Prop :=
  Below w.heap.size w w' ∧
  match c with
  | .error b => e = .returned (.tuple #[.int .i64 0, .slice none 0 0, .int .i64 (b : Int)])
  | .ok (c, ns) => ∃ g cap, e = .returned (.tuple #[.int .i64 (c : Int), .slice (some ⟨g, 0, none⟩) ns.length cap, .int .i64 0]) ∧ w'.ownsRow w.heap.size 3 1 (.slice (some ⟨g, 0, none⟩) ns.length cap) ns.length (I ns)

end Go.Proofs.YtgcedalggnmooabGreatDoor
