import Derived.Deep.Slices
import Derived.Test.YtgcedalggnmooaaGreatDoorCards
import Derived.JoinedCond
import Derived.OpenShut
set_option linter.all false
namespace Go.Proofs.YtgcedalggnmooaaGreatDoor.bulks
open Go.ChangeShapes
variable {H:Type}
def MC(d:DataW H):1<=Rows.uptoBulk d:=by
 cases d with
 |lit l=>cases l<;>simp[Rows.uptoBulk]
 |_=>simp[Rows.uptoBulk]
def Ir{H:Type}:∀l:List (DataW H),l.length<=Rows.uptoBulkAll l
 |[]=>Nat.zero_le _
 |d::r=>by
  have h:=Ir r;have a:=MC d;simp only[Rows.uptoBulkAll,List.length_cons];omega
def first{d:DataW H}{r:List (DataW H)}(a:Rows.uptoSmall H (d::r)=true):Rows.uptoBulk d<=1048576:=by
 have h:Rows.uptoBulkAll (d::r)<=1048576:=of_decide_eq_true a;simp only[Rows.uptoBulkAll]at h;omega
def slice_len{enc:TypeId×Value->H}{P:Program}{W:World}{t e:TypeId}{h:Option Addr}{len cap fuel:Nat}{x:DataW H×List MemPlace}(k:P.underlying t=some (.slice e))
  (i:DataW.trod enc P W 0 (λ_=>true) true fuel t [.slice h len cap]=some x):len<=Rows.uptoBulk x.1:=by
 rcases Go.Deep.open_slice k i with ⟨b,f⟩|⟨a,g,d,m,n,D,l,b,_,p,q,j,f,c⟩
 ·simp at b;omega
 simp at b;obtain⟨rfl,rfl,rfl⟩:=b;rw[f];simp only[Rows.uptoBulk];have:=Ir ((List.range len).map D);simp only[List.length_map,List.length_range]at this;omega
end Go.Proofs.YtgcedalggnmooaaGreatDoor.bulks
namespace Go.Proofs.YtgcedalggnmooaaGreatDoor
open Go.RowKit
def xaW:=@World.var?_cell
def EQ:laidOutB Tryz.prog=true:=by kernel_rfl
def GB:mapsRowed Tryz.prog=true:=by kernel_rfl
def UP:Tryz.prog.mayEnter=true:=by kernel_rfl
def SR:Tryz.prog.stopsHeard=true:=by kernel_rfl
def Te:(Rows.requestsUptoRow.lifted==Tryz.prog.liftsFinal)=true:=by kernel_rfl
def Uo:(Tryz.prog.make==some Rows.requestsUptoRow.make)=true:=by kernel_rfl
