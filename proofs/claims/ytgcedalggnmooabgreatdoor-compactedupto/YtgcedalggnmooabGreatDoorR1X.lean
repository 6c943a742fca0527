import Derived.Test.YtgcedalggnmooabGreatDoorR0X
import Derived.Deep.RegionLaw
import Derived.Deep.AppendLies
import Derived.Test.YtgcedalggnmooabGreatDoorDo1X
import Derived.Test.YtgcedalggnmooabGreatDoorRefAX
import Derived.Test.YtgcedalggnmooabGreatDoorSt9X
import Derived.Test.YtgcedalggnmooabGreatDoorOd4X
import Derived.WalkSmall
import Derived.Test.YtgcedalggnmooabGreatDoorAn1X
import Derived.Deep.RegionHeld3
import Derived.BigRegion
import Derived.Test.YtgcedalggnmooabGreatDoorOd1X
import Derived.Test.YtgcedalggnmooabGreatDoorOrdX
import Derived.Test.YtgcedalggnmooabGreatDoorRp1X
import Derived.Test.YtgcedalggnmooabGreatDoorHlX
set_option linter.unusedSimpArgs false
set_option linter.unusedVariables false
set_option maxRecDepth 100000
namespace Go.Proofs.YtgcedalggnmooabGreatDoor
open Go.RowKit
end Go.Proofs.YtgcedalggnmooabGreatDoor
namespace Go.Proofs.YtgcedalggnmooabGreatDoor
open Go.RowKit
end Go.Proofs.YtgcedalggnmooabGreatDoor
namespace Go.Proofs.YtgcedalggnmooabGreatDoor
open Go.RowKit
end Go.Proofs.YtgcedalggnmooabGreatDoor
namespace Go.Proofs.YtgcedalggnmooabGreatDoor
open Go.RowKit
end Go.Proofs.YtgcedalggnmooabGreatDoor
namespace Go.Proofs.YtgcedalggnmooabGreatDoor
open Go.RowKit
end Go.Proofs.YtgcedalggnmooabGreatDoor
namespace Go.Proofs.YtgcedalggnmooabGreatDoor
open Go.RowKit
theorem lflat_at:∀ (l:List (Nat × Nat)) (i:Nat),i<l.length→(lflat l)[i * 2]?=some (.int .i64 ((l.getD i (0,0)).1:Int))∧(lflat l)[i * 2+1]?=some (.int .i64 ((l.getD i (0,0)).2:Int))
 | [],_,h=>by simp at h
 | p :: r,0,_=>by simp [lflat]
 | p :: r,i+1,h=>by
  have:=lflat_at r i (by simpa using h)
  have e1:(i+1) * 2=i * 2+1+1:=by omega
  rw [e1]
  simpa [lflat] using this
end Go.Proofs.YtgcedalggnmooabGreatDoor
namespace Go.Proofs.YtgcedalggnmooabGreatDoor
open Go.RowKit
end Go.Proofs.YtgcedalggnmooabGreatDoor
namespace Go.Proofs.YtgcedalggnmooabGreatDoor
open Go.RowKit
end Go.Proofs.YtgcedalggnmooabGreatDoor
namespace Go.Proofs.YtgcedalggnmooabGreatDoor
open Go.RowKit
end Go.Proofs.YtgcedalggnmooabGreatDoor
namespace Go.Proofs.YtgcedalggnmooabGreatDoor
open Go.RowKit
end Go.Proofs.YtgcedalggnmooabGreatDoor
namespace Go.Proofs.YtgcedalggnmooabGreatDoor
open Go.RowKit
end Go.Proofs.YtgcedalggnmooabGreatDoor
namespace Go.Proofs.YtgcedalggnmooabGreatDoor
open Go.RowKit
end Go.Proofs.YtgcedalggnmooabGreatDoor
namespace Go.Proofs.YtgcedalggnmooabGreatDoor
open Go.RowKit
end Go.Proofs.YtgcedalggnmooabGreatDoor
namespace Go.Proofs.YtgcedalggnmooabGreatDoor
open Go.RowKit
end Go.Proofs.YtgcedalggnmooabGreatDoor
namespace Go.Proofs.YtgcedalggnmooabGreatDoor
open Go.RowKit
end Go.Proofs.YtgcedalggnmooabGreatDoor
namespace Go.Proofs.YtgcedalggnmooabGreatDoor
open Go.RowKit
theorem I_one:∀ (ns:List Nat),∀ u ∈ I ns,u.oneCell'=true:=fun ns u hu=>by
 obtain ⟨n,_,rfl⟩:=List.mem_map.1 hu
 rfl
end Go.Proofs.YtgcedalggnmooabGreatDoor
namespace Go.Proofs.YtgcedalggnmooabGreatDoor
open Go.RowKit
theorem lflat_app:∀ (l:List (Nat × Nat)) (p:Nat × Nat),lflat (l++[p])=lflat l++[.int .i64 (p.1:Int),.int .i64 (p.2:Int)]
 | [],p=>rfl
 | q :: l,p=>by simp only [List.cons_append,lflat,lflat_app l p]
end Go.Proofs.YtgcedalggnmooabGreatDoor
namespace Go.Proofs.YtgcedalggnmooabGreatDoor
end Go.Proofs.YtgcedalggnmooabGreatDoor
