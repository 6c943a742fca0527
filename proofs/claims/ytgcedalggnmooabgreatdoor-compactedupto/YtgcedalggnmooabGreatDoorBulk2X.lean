import Derived.Test.YtgcedalggnmooabGreatDoorRows
import Derived.Deep.Slices
import Derived.Test.YtgcedalggnmooabGreatDoorCards
import Derived.JoinedCond
import Derived.OpenShut
namespace Go.Proofs.YtgcedalggnmooabGreatDoor.bulks
open Go.ChangeShapes
theorem bulk_pos {H:Type} (d:DataW H):1≤Rows.uptoBulk d:=by
 cases d with
 | lit l=>cases l <;> simp [Rows.uptoBulk]
 | _=>simp [Rows.uptoBulk]
theorem all_len {H:Type}:∀ l:List (DataW H),l.length≤Rows.uptoBulkAll l
 | []=>Nat.zero_le _
 | d :: r=>by
  have h:=all_len r
  have h1:=bulk_pos d
  simp only [Rows.uptoBulkAll,List.length_cons]
  omega
theorem first {H:Type} {d:DataW H} {r:List (DataW H)} (hk:Rows.uptoSmall H (d :: r)=true):Rows.uptoBulk d≤1048576:=by
 have h:Rows.uptoBulkAll (d :: r)≤1048576:=of_decide_eq_true hk
 simp only [Rows.uptoBulkAll] at h
 omega
theorem slice_len {H:Type} {enc:TypeId × Value→H} {P:Program} {W:World} {t e:TypeId} {a0:Option Addr} {len cap fuel:Nat} {x:DataW H × List MemPlace} (ht:P.underlying t=some (.slice e))
  (hf:DataW.trod enc P W 0 (fun _=>true) true fuel t [.slice a0 len cap]=some x):len≤Rows.uptoBulk x.1:=by
 rcases Go.Deep.open_slice ht hf with ⟨hcs,hx⟩ | ⟨a,len',cap',m,n,D,Pl,hcs,_,hl,hm,hmm,hx,hcell⟩
 ·simp at hcs
  omega
 ·simp at hcs
  obtain ⟨rfl,rfl,rfl⟩:=hcs
  rw [hx]
  simp only [Rows.uptoBulk]
  have:=all_len ((List.range len).map D)
  simp only [List.length_map,List.length_range] at this
  omega
end Go.Proofs.YtgcedalggnmooabGreatDoor.bulks
namespace Go.Proofs.YtgcedalggnmooabGreatDoor
open Go.RowKit
theorem laidOutJ:laidOutB Tryz.prog=true:=by kernel_rfl
theorem mapsRowedJ:mapsRowed Tryz.prog=true:=by kernel_rfl
theorem mayJ:Tryz.prog.mayEnter=true:=by kernel_rfl
theorem heardJ:Tryz.prog.stopsHeard=true:=by kernel_rfl
theorem liftsJ:(Rows.refusedUptoRow.lifted == Tryz.prog.liftsFinal)=true:=by kernel_rfl
theorem makeJ:(Tryz.prog.make == some Rows.refusedUptoRow.make)=true:=by kernel_rfl
end Go.Proofs.YtgcedalggnmooabGreatDoor
