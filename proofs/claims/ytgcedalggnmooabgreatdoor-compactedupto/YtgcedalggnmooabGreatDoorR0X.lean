import Derived.Test.YtgcedalggnmooabGreatDoorMp0X
import Derived.Test.YtgcedalggnmooabGreatDoorExtX
import Derived.Deep.RegionHeld3
set_option linter.unusedSimpArgs false
set_option linter.unusedVariables false
set_option maxRecDepth 100000
namespace Go.Proofs.YtgcedalggnmooabGreatDoor
open Go.RowKit
def refCells (l:L) (f:Value):List Value :=
 [.int .i64 (l.id:Int),.int .i64 (l.goods:Int),.int .i64 (l.expiry:Int),.int .i64 (l.place:Int),.int .i64 (l.got:Int),.int .i64 (l.free:Int),.int .i64 (l.held:Int),.int .i64 (l.shipped:Int),.int .i64 (l.scrapped:Int),.int .i64 (l.given:Int),f]
def flat:List L→List Value→List Value
 | l :: ls,f :: fs=>refCells l f++flat ls fs
 | _,_=>[]
def O0:O:=⟨0,0,[]⟩
def lflat:List (Nat × Nat)→List Value
 | p :: ps=>.int .i64 (p.1:Int) :: .int .i64 (p.2:Int) :: lflat ps
 | _=>[]
def dpar:List (Nat × Nat)→List (Nat × Nat)
 | [a,b]=>if b.1<a.1 then [b,a] else [a,b]
 | l=>l
theorem dpar_len (l:List (Nat × Nat)):(dpar l).length=l.length:=by
 unfold dpar;split
 ·split <;> rfl
 ·rfl
theorem dpar_any (f:Nat × Nat→Bool) (l:List (Nat × Nat)):(dpar l).any f=l.any f:=by
 unfold dpar;split
 ·split
  ·simp only [List.any_cons,List.any_nil,Bool.or_false];exact Bool.or_comm _ _
  ·rfl
 ·rfl
theorem dpar_mem {l:List (Nat × Nat)} {p:Nat × Nat}:p ∈ dpar l↔p ∈ l:=by
 unfold dpar;split
 ·split
  ·simp [or_comm]
  ·rfl
 ·rfl
theorem own_some' {w:World} {base e size n:Nat} {v:Value} {xs:List Value} (h:w.ownsRow base e size v n xs) (hn:0<n):∃ g cap,v=.slice (some ⟨g,0,none⟩) n cap∧base≤g∧g<w.heap.size:=by
 rcases h.2 with ⟨hv,hx⟩ | ⟨g,cap,cur,hv,hg,hh,_⟩
 ·omega
 ·exact ⟨g,cap,hv,hg,(Array.getElem?_eq_some_iff.1 hh).1⟩
end Go.Proofs.YtgcedalggnmooabGreatDoor
namespace Go.Proofs.YtgcedalggnmooabGreatDoor
open Go.RowKit
theorem I_snoc (l:List Nat) (n:Nat):I (l++[n])=I l++[.int .i64 (n:Int)]:=by simp [I]
theorem I_len (l:List Nat):(I l).length=l.length:=by simp [I]
theorem ownInts_cell {w:World} {base g cap:Nat} {ns:List Nat} (h:w.ownsRow base 3 1 (.slice (some ⟨g,0,none⟩) ns.length cap) ns.length (I ns)) (k:Nat) (hk:k<ns.length):w.cell? ⟨g,k,none⟩=some (.int .i64 ((ns.getD k 0:Nat):Int)):=by
 rw [h.cellAt k (by omega)]
 simp [I,List.getD_eq_getElem?_getD,hk]
end Go.Proofs.YtgcedalggnmooabGreatDoor
namespace Go.Proofs.YtgcedalggnmooabGreatDoor
open Go.RowKit
end Go.Proofs.YtgcedalggnmooabGreatDoor
namespace Go.Proofs.YtgcedalggnmooabGreatDoor
open Go.RowKit
def lookL (rc:Nat→Bool) (l:L):List Nat:=[l.goods,l.expiry,l.place,l.got,l.free,l.held,l.shipped,l.scrapped,l.given,if rc l.id then 1 else 0]
set_option maxHeartbeats 1600000 in
theorem look_hit {rcs:List (Nat × Nat)} {w:World} {S:Nat} {M:Mx} {v:Value} {td:Nat} {bs:List Nat} {pvs:List Value} {ls:List L} {os:List O} (h:PV os rcs w S M v td bs pvs ls) (n:Nat) (hn:n≤2147483647) (hi:idx n ls<ls.length) :
  Calls Tryz.prog 57 #[.pointer (some ⟨S,0,none⟩),.agg #[.int .i64 (n:Int)]] w fun e w'=>Below w.heap.size w w'∧∃ g,e=.returned (.tuple #[.slice (some ⟨g,0,none⟩) 10 10,.int .i64 0])∧w'.heap[g]?=some (.cells (I (lookL (recB rcs ls) (ls.getD (idx n ls) L0))).toArray 2 (0,0)):=by
 have ha:=al1 w (Obj.cells #[.int .i64 (n:Int)] 114)
 have hP:=h.below ha
 have HF:=hide (find_any hP n hn)
 have HR:=hide (recalled_any hP)
 have hfv:findV bs ls n=.pointer (some ⟨bs.getD (idx n ls) 0,0,none⟩):=by unfold findV;rw [if_pos hi]
 rw [hfv] at HF
 obtain ⟨b,HB⟩:∃ b,Hid (b=bs.getD (idx n ls) 0):=⟨_,rfl⟩
 obtain ⟨l,HL⟩:∃ l,Hid (l=ls.getD (idx n ls) L0):=⟨_,rfl⟩
 rw [← HL.out]
 rw [← HB.out] at HF
 have hlot:=hP.lot _ hi
 rw [← HB.out,← HL.out] at hlot
 generalize pvs.getD (idx n ls) default=pv at hlot
 have HH:=hide hlot
 have HID:Hid (l.id≤2147483647):=by rw [HL.out];exact (hP.ok _ (mem_getD hi)).id
 have HLK:Hid (lookL (recB rcs ls) l=[l.goods,l.expiry,l.place,l.got,l.free,l.held,l.shipped,l.scrapped,l.given,if recB rcs ls l.id then 1 else 0]):=rfl
 obtain ⟨rb,HRB⟩:∃ rb,Hid (rb=recB rcs ls l.id):=⟨_,rfl⟩
 rw [HLK.out,← HRB.out]
 clear h hP hfv hlot HLK
 go_enter Tryz.func57,Tryz.ntmps57
 go_wp2_with (first
  | (go_at_call 77;refine (HF.out).mono ?_;rintro e w1 ⟨rfl,rfl⟩)
  | fail)
 refine (HR.out).mono ?_
 rintro e w1 ⟨hb1,Mf,N,D,rfl,hmf,hfd,hmlt⟩
 have hlot1:=(hb1.block b (blk_lt HH.out)).trans HH.out
 have HA:=hide (has_any hmf HID.out (by rw [blk_cell hlot1];rfl))
 rw [hfd l.id HID.out,← HRB.out] at HA
 clear hfd HRB
 cases rb
 all_goals (
  go_wp2_with fail
  refine (HA.out).mono ?_
  rintro e w2 ⟨rfl,hb2⟩
  have hlot2:=(hb2.block b (blk_lt hlot1)).trans hlot1
  have k1:w2.cell? ⟨b,1,none⟩=some (.int .i64 (l.goods:Int)):=by rw [blk_cell hlot2];rfl
  have k2:w2.cell? ⟨b,2,none⟩=some (.int .i64 (l.expiry:Int)):=by rw [blk_cell hlot2];rfl
  have k3:w2.cell? ⟨b,3,none⟩=some (.int .i64 (l.place:Int)):=by rw [blk_cell hlot2];rfl
  have k5:w2.cell? ⟨b,5,none⟩=some (.int .i64 (l.got:Int)):=by rw [blk_cell hlot2];rfl
  have k6:w2.cell? ⟨b,6,none⟩=some (.int .i64 (l.free:Int)):=by rw [blk_cell hlot2];rfl
  have k7:w2.cell? ⟨b,7,none⟩=some (.int .i64 (l.held:Int)):=by rw [blk_cell hlot2];rfl
  have k8:w2.cell? ⟨b,8,none⟩=some (.int .i64 (l.shipped:Int)):=by rw [blk_cell hlot2];rfl
  have k9:w2.cell? ⟨b,9,none⟩=some (.int .i64 (l.scrapped:Int)):=by rw [blk_cell hlot2];rfl
  have k10:w2.cell? ⟨b,10,none⟩=some (.int .i64 (l.given:Int)):=by rw [blk_cell hlot2];rfl
  have hbb:Hid (Below w.heap.size w w2):=ha.trans ((hb1.trans (hb2.mono hb1.size)).mono ha.size)
  clear hlot1 hlot2 HA HF HR HH hb1 hb2 hmf hmlt ha hi hn
  go_wp2_with fail
  go_region_held3 (fun w'=>w'.cell? ⟨b,1,none⟩=some (.int .i64 (l.goods:Int))∧w'.cell? ⟨b,2,none⟩=some (.int .i64 (l.expiry:Int))∧w'.cell? ⟨b,3,none⟩=some (.int .i64 (l.place:Int))∧w'.cell? ⟨b,5,none⟩=some (.int .i64 (l.got:Int))∧w'.cell? ⟨b,6,none⟩=some (.int .i64 (l.free:Int))∧w'.cell? ⟨b,7,none⟩=some (.int .i64 (l.held:Int))∧w'.cell? ⟨b,8,none⟩=some (.int .i64 (l.shipped:Int))∧w'.cell? ⟨b,9,none⟩=some (.int .i64 (l.scrapped:Int))∧w'.cell? ⟨b,10,none⟩=some (.int .i64 (l.given:Int))) (go_keep) (fail)
  go_wp2_with fail
  go_ret2
  exact ⟨(hbb.out.alloc hbb.out.size _).drew,w2.heap.size,rfl,heap_alloc_new w2 _⟩)
set_option maxHeartbeats 1600000 in
theorem look_miss {rcs:List (Nat × Nat)} {w:World} {S:Nat} {M:Mx} {v:Value} {td:Nat} {bs:List Nat} {pvs:List Value} {ls:List L} {os:List O} (h:PV os rcs w S M v td bs pvs ls) (n:Nat) (hn:n≤2147483647) (hi:¬ idx n ls<ls.length) :
  Calls Tryz.prog 57 #[.pointer (some ⟨S,0,none⟩),.agg #[.int .i64 (n:Int)]] w fun e w'=>Below w.heap.size w w'∧e=.returned (.tuple #[.slice none 0 0,.int .i64 4]):=by
 have ha:=al1 w (Obj.cells #[.int .i64 (n:Int)] 114)
 have hP:=h.below ha
 have HF:=hide (find_any hP n hn)
 have hfv:findV bs ls n=.pointer none:=by unfold findV;rw [if_neg hi]
 rw [hfv] at HF
 clear h hP hfv hi
 go_enter Tryz.func57,Tryz.ntmps57
 go_wp2_with (first
  | (go_at_call 77;refine (HF.out).mono ?_;rintro e w1 ⟨rfl,rfl⟩)
  | fail)
 go_ret2
 exact ⟨ha,rfl⟩
end Go.Proofs.YtgcedalggnmooabGreatDoor
