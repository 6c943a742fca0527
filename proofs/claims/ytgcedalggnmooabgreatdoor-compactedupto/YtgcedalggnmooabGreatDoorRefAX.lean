import Derived.Test.YtgcedalggnmooabGreatDoorProg
import Derived.Test.YtgcedalggnmooabGreatDoorPlain
import Derived.WalkKit
import Derived.WalkSpells
import Derived.WalkLawsBesides
import Derived.Deep.QuietTactic
import Derived.BigQuiet
set_option linter.unusedSimpArgs false
set_option linter.unusedVariables false
set_option maxRecDepth 100000
namespace Go.Proofs.YtgcedalggnmooabGreatDoor
open Go.RowKit
theorem hide {p:Prop} (h:p):Hid p:=h
theorem own_below {w w1:World} {base:Nat} {e:TypeId} {size n:Nat} {v:Value} {xs:List Value} (h:w.ownsRow base e size v n xs) (hb:Below w.heap.size w w1):w1.ownsRow base e size v n xs :=
 h.kept (row:=none) ⟨hb.os,hb.tape,hb.output,hb.size,fun k hk _=>hb.block k hk⟩ (by cases v.ownBlock <;> simp)
theorem one_new (w1:World) (x:Value) (t:TypeId):∀ (j:Nat) (u:Value),[x][j]?=some u→(w1.alloc (.cells #[x] t)).cell? (Addr.add ⟨w1.heap.size,0,none⟩ j)=some u:=by
 intro j u hj
 match j,hj with
 | 0,hj =>
  simp at hj;subst hj
  have ha:(Addr.add ⟨w1.heap.size,0,none⟩ 0)=⟨w1.heap.size,0,none⟩:=by simp [Addr.add]
  rw [ha,World.cell?_alloc_mark];rfl
theorem tU3:Tryz.prog.underlying 3=some (.int .i64):=by kernel_rfl
theorem tU5:Tryz.prog.underlying 5=some (.int .u8):=by kernel_rfl
theorem tU9:Tryz.prog.underlying 9=some .string:=by kernel_rfl
theorem tU52:Tryz.prog.underlying 51=some (.slice 5):=by kernel_rfl
theorem conv1 (w0:World) (x:Int) (h0:0≤x) (h1:x<256) (fz:Nat × Nat) :
  (convert 51 9 (.slice (some ⟨w0.heap.size,0,none⟩) 1 1)).run Tryz.prog (w0.alloc (.cells #[.int .u8 x] 5 fz))=.ok (.string ⟨#[UInt8.ofNat x.toNat]⟩) (w0.alloc (.cells #[.int .u8 x] 5 fz)):=by
 have hu:((UInt8.ofNat x.toNat).toNat:Int)=x:=by
  rw [UInt8.toNat_ofNat'];omega
 refine run_convert_bytes_back (P:=Tryz.prog) (w0.alloc (.cells #[.int .u8 x] 5 fz)) 51 9 5 ⟨w0.heap.size,0,none⟩ 1 [UInt8.ofNat x.toNat] tU52 tU5 tU9 ?_
 intro j hj
 have:j=0:=by simpa using hj
 subst this
 have ha:(Addr.add ⟨w0.heap.size,0,none⟩ 0)=⟨w0.heap.size,0,none⟩:=by simp [Addr.add]
 rw [ha,World.cell?_alloc_mark,List.getElem_cons_zero,hu];rfl
end Go.Proofs.YtgcedalggnmooabGreatDoor
namespace Go.Proofs.YtgcedalggnmooabGreatDoor
open Go.RowKit
theorem wrap64_in (n:Int) (h:-9223372036854775808≤n∧n≤9223372036854775807):wrap64 n=n:=by unfold wrap64;omega
theorem ba_getD (s:ByteArray) (k:Nat) (h:k<s.size):s.data.toList.getD k 0=s[k]:=by
 have h':k<s.data.toList.length:=by simpa using h
 rw [List.getD_eq_getElem?_getD,List.getElem?_eq_getElem h']
 rfl
end Go.Proofs.YtgcedalggnmooabGreatDoor
namespace Go.Proofs.YtgcedalggnmooabGreatDoor
open Go.RowKit
theorem tU48:Tryz.prog.underlying 44=some (.slice 3):=by kernel_rfl
theorem info3:(Tryz.prog.info? 3).map (fun i=>(i.zero,i.size,i.bytes))=some (some (.int .i64 0),1,8):=by kernel_rfl
def I (ns:List Nat):List Value:=ns.map fun (n:Nat)=>Value.int .i64 (n:Int)
theorem extract_drop (s:ByteArray) (n:Nat):(s.extract n s.size).data.toList=s.data.toList.drop n:=by
 rw [ByteArray.data_extract]
 simp [Array.toList_extract]
 rw [List.take_of_length_le (by simp)]
end Go.Proofs.YtgcedalggnmooabGreatDoor
namespace Go.Proofs.YtgcedalggnmooabGreatDoor
open Go.RowKit
theorem ret_bool {a b:Bool} (h:a=b):Ending.returned (.bool a)=.returned (.bool b):=by rw [h]
end Go.Proofs.YtgcedalggnmooabGreatDoor
namespace Go.Proofs.YtgcedalggnmooabGreatDoor
open Go.RowKit
end Go.Proofs.YtgcedalggnmooabGreatDoor
namespace Go.Proofs.YtgcedalggnmooabGreatDoor
open Go.RowKit
theorem own_shape {w:World} {base e n:Nat} {v:Value} {xs:List Value} (h:w.ownsRow base e 1 v n xs):∃ a cap,v=.slice a n cap:=by
 rcases h.2 with ⟨hv,hx⟩ | ⟨g,cap,cur,hv,_⟩
 ·exact ⟨none,0,by rw [hv,hx]⟩
 ·exact ⟨_,cap,hv⟩
theorem own_some {w:World} {base e n:Nat} {v:Value} {xs:List Value} (h:w.ownsRow base e 1 v n xs) (hn:0<n):∃ g cap,v=.slice (some ⟨g,0,none⟩) n cap∧base≤g∧g<w.heap.size:=by
 rcases h.2 with ⟨hv,hx⟩ | ⟨g,cap,cur,hv,hg,hh,_⟩
 ·omega
 ·exact ⟨g,cap,hv,hg,(Array.getElem?_eq_some_iff.1 hh).1⟩
theorem info5:(Tryz.prog.info? 5).map (fun i=>(i.zero,i.size,i.bytes))=some (some (.int .u8 0),1,1):=by kernel_rfl
def U8 (l:List UInt8):List Value:=l.map fun b=>Value.int .u8 (b.toNat:Int)
theorem rowU_cell {w:World} {base g n cap:Nat} {l:List UInt8} (h:w.ownsRow base 5 1 (.slice (some ⟨g,0,none⟩) n cap) n (U8 l)) (hl:l.length=n) (k:Nat) (hk:k<n) :
  w.cell? ⟨g,k,none⟩=some (.int .u8 ((l.getD k 0).toNat:Int)):=by
 rw [h.cellAt k (by omega)]
 simp [U8,List.getD_eq_getElem?_getD,List.getElem?_eq_getElem (show k<l.length by omega)]
end Go.Proofs.YtgcedalggnmooabGreatDoor
namespace Go.Proofs.YtgcedalggnmooabGreatDoor
open Go.RowKit
end Go.Proofs.YtgcedalggnmooabGreatDoor
