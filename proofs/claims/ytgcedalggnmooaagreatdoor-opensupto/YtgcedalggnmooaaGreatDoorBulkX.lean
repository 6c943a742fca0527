import Derived.SliceStrings
import Derived.Test.YtgcedalggnmooaaGreatDoorCards
import Derived.JoinedCond
import Derived.OpenShut
set_option linter.all false
namespace Go.Proofs.YtgcedalggnmooaaGreatDoor.bulks
open Go.ChangeShapes
theorem EP{H:Type}:∀a:List ByteArray,a.length+(a.map ByteArray.size).sum<=Rows.uptoBulkAll (strs (H:=H) a)
 |[]=>Nat.zero_le _
 |s::r=>by
  have h:=EP (H:=H) r;have e:Rows.uptoBulkAll (strs (H:=H) (s::r))=s.data.toList.length+1+Rows.uptoBulkAll (strs (H:=H) r):=by
   simp only[strs,List.map_cons,Rows.uptoBulkAll,Rows.uptoBulk]
  have b:s.data.toList.length=s.size:=Array.length_toList;rw[e,b];simp only[List.length_cons,List.map_cons,List.sum_cons];omega
theorem rA:∀(a:List ByteArray) (j:Nat),j<a.length->(a.getD j ByteArray.empty).size<=(a.map ByteArray.size).sum
 |[],j,h=>by simp at h
 |s::r,0,_=>by simp
 |s::r,j+1,h=>by
  have:=rA r j (by simpa using h)
  simp only[List.getD_cons_succ,List.map_cons,List.sum_cons];omega
theorem strings{H:Type}{a sp:List ByteArray}(c:Rows.uptoSmall H [.slice (strs a) (strs sp)]=true):a.length<=1048576/\∀j,j<a.length->(a.getD j ByteArray.empty).size<=1048576:=by
 have h:Rows.uptoBulkAll [DataW.slice (H:=H) (strs a) (strs sp)]<=1048576:=of_decide_eq_true c;simp only[Rows.uptoBulkAll,Rows.uptoBulk]at h;have d:=EP (H:=H) a;refine⟨by omega,λj b=>?_⟩;have:=rA a j b;omega
end Go.Proofs.YtgcedalggnmooaaGreatDoor.bulks
namespace Go.Proofs.YtgcedalggnmooaaGreatDoor
open Go.RowKit
def xar:=@World.var?_cell
theorem Ei:laidOutB Tryz.prog=true:=by kernel_rfl
theorem FN:mapsRowed Tryz.prog=true:=by kernel_rfl
theorem Tm:Tryz.prog.mayEnter=true:=by kernel_rfl
theorem Rs:Tryz.prog.stopsHeard=true:=by kernel_rfl
theorem RE:(Rows.requestsUptoRow.lifted==Tryz.prog.liftsFinal)=true:=by kernel_rfl
theorem SM:(Tryz.prog.make==some Rows.requestsUptoRow.make)=true:=by kernel_rfl
