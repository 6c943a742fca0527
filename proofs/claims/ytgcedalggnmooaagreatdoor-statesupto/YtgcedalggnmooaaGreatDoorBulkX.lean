import Derived.Test.YtgcedalggnmooaaGreatDoorRows
import Derived.SliceStrings
import Derived.Test.YtgcedalggnmooaaGreatDoorCards
import Derived.JoinedCond
import Derived.OpenShut
namespace Go.Proofs.YtgcedalggnmooaaGreatDoor.bulks
open Go.ChangeShapes
theorem strs_all {H:Type}:∀ ss:List ByteArray,ss.length+(ss.map ByteArray.size).sum≤Rows.uptoBulkAll (strs (H:=H) ss)
 | []=>Nat.zero_le _
 | s :: r=>by
  have h:=strs_all (H:=H) r
  have e:Rows.uptoBulkAll (strs (H:=H) (s :: r))=s.data.toList.length+1+Rows.uptoBulkAll (strs (H:=H) r):=by
   simp only [strs,List.map_cons,Rows.uptoBulkAll,Rows.uptoBulk]
  have e2:s.data.toList.length=s.size:=Array.length_toList
  rw [e,e2]
  simp only [List.length_cons,List.map_cons,List.sum_cons]
  omega
theorem size_le_sum:∀ (ss:List ByteArray) (j:Nat),j<ss.length→(ss.getD j ByteArray.empty).size≤(ss.map ByteArray.size).sum
 | [],j,h=>by simp at h
 | s :: r,0,_=>by simp
 | s :: r,j+1,h=>by
  have:=size_le_sum r j (by simpa using h)
  simp only [List.getD_cons_succ,List.map_cons,List.sum_cons]
  omega
theorem strings {H:Type} {ss sp:List ByteArray} (hk:Rows.uptoSmall H [.slice (strs ss) (strs sp)]=true) :
  ss.length≤1048576∧∀ j,j<ss.length→(ss.getD j ByteArray.empty).size≤1048576:=by
 have h:Rows.uptoBulkAll [DataW.slice (H:=H) (strs ss) (strs sp)]≤1048576:=of_decide_eq_true hk
 simp only [Rows.uptoBulkAll,Rows.uptoBulk] at h
 have h1:=strs_all (H:=H) ss
 refine ⟨by omega,fun j hj=>?_⟩
 have:=size_le_sum ss j hj
 omega
end Go.Proofs.YtgcedalggnmooaaGreatDoor.bulks
namespace Go.Proofs.YtgcedalggnmooaaGreatDoor
open Go.RowKit
theorem laidOutJ:laidOutB Tryz.prog=true:=by kernel_rfl
theorem mapsRowedJ:mapsRowed Tryz.prog=true:=by kernel_rfl
theorem mayJ:Tryz.prog.mayEnter=true:=by kernel_rfl
theorem heardJ:Tryz.prog.stopsHeard=true:=by kernel_rfl
theorem liftsJ:(Rows.requestsUptoRow.lifted == Tryz.prog.liftsFinal)=true:=by kernel_rfl
theorem makeJ:(Tryz.prog.make == some Rows.requestsUptoRow.make)=true:=by kernel_rfl
end Go.Proofs.YtgcedalggnmooaaGreatDoor
