import Derived.Test.YtgcedalggnmooabGreatDoorSt9X
import Derived.LaidEqlPtr
set_option linter.unusedSimpArgs false
set_option linter.unusedVariables false
set_option maxRecDepth 100000
namespace Go.Proofs.YtgcedalggnmooabGreatDoor
open Go.RowKit
theorem bneN_f {a b:Nat} (h:a=b):((a:Int) != (b:Int))=false:=by subst h;simp
theorem bneN_t {a b:Nat} (h:¬ a=b):((a:Int) != (b:Int))=true:=by rw [bne_iff_ne];omega
theorem tU149:Tryz.prog.underlying 129=some (.pointer 153):=by kernel_rfl
theorem info148:(Tryz.prog.info? 153).map (·.size)=some 11:=by kernel_rfl
theorem ptr_same (W:World) (b:Nat):(binOp .eql 129 (.pointer (some ⟨b,0,none⟩)) (.pointer (some ⟨b,0,none⟩))).run Tryz.prog W=.ok (.bool true) W:=by
 obtain ⟨j,hj,_⟩:=Option.map_eq_some_iff.1 info148
 exact run_eql_ptr_same W _ tU149 hj
theorem ptr_other {W:World} {a b:Nat} {ca cb:Array Value} {ta tb:TypeId} (hne:a≠b) (ha:W.heap[a]?=some (.cells ca ta (0,0))) (hb:W.heap[b]?=some (.cells cb tb (0,0))) :
  (binOp .eql 129 (.pointer (some ⟨a,0,none⟩)) (.pointer (some ⟨b,0,none⟩))).run Tryz.prog W=.ok (.bool false) W:=by
 obtain ⟨j,hj,hs⟩:=Option.map_eq_some_iff.1 info148
 exact run_eql_ptr_other W tU149 hj (by rw [hs];decide) (fun e=>hne (congrArg Addr.block e)) ha hb
set_option maxHeartbeats 1600000 in
theorem merge_goods {rcs:List (Nat × Nat)} {w:World} {S:Nat} {M:Mx} {v:Value} {td:Nat} {bs:List Nat} {pvs:List Value} {ls:List L} {os:List O} (hP:PV os rcs w S M v td bs pvs ls) (a b m:Nat) (h1:a≤2147483647) (h2:b≤2147483647) (h3:m≤2147483647) (hi:idx a ls<ls.length) (hj:idx b ls<ls.length)
  (hx:idx a ls=idx b ls∨(lotAt ls a).goods≠(lotAt ls b).goods) :
  Calls Tryz.prog 50 #[.pointer (some ⟨S,0,none⟩),.agg #[.int .i64 (a:Int),.int .i64 (b:Int),.int .i64 (m:Int)]] w fun e w'=>e=.returned (.int .i64 8)∧Below w.heap.size w w':=by
 have hP1:=hP.below (al1 w (Obj.cells #[.int .i64 (a:Int),.int .i64 (b:Int),.int .i64 (m:Int)] 95)).drew
 have HRA:=hide (find_any hP1 a h1)
 have HRB:=hide (find_any hP1 b h2)
 have HFA:Hid (findV bs ls a=.pointer (some ⟨bs.getD (idx a ls) 0,0,none⟩)):=by unfold Hid findV;rw [if_pos hi]
 have HFB:Hid (findV bs ls b=.pointer (some ⟨bs.getD (idx b ls) 0,0,none⟩)):=by unfold Hid findV;rw [if_pos hj]
 rw [HFA.out] at HRA
 rw [HFB.out] at HRB
 by_cases he:idx a ls=idx b ls
 ·rw [he] at HRA
  generalize bs.getD (idx b ls) 0=bb at *
  have hpq:=ptr_same (w.alloc (Obj.cells #[.int .i64 (a:Int),.int .i64 (b:Int),.int .i64 (m:Int)] 95)).drew.drew bb
  clear hP hP1 hi hj hx HFA HFB he
  go_enter Tryz.func50,Tryz.ntmps50
  go_wp2_with fail
  go_region_held3 (fun w'=>w'.cell? ⟨w.heap.size,0,none⟩=some (.int .i64 (a:Int))∧w'.cell? ⟨w.heap.size,1,none⟩=some (.int .i64 (b:Int))) (go_keep) (first
   | (go_at_call 77;with_reducible refine (HRA.out).mono ?_;rintro e w1 ⟨rfl,rfl⟩)
   | (go_at_call 77;with_reducible refine (HRB.out).mono ?_;rintro e w1 ⟨rfl,rfl⟩))
  go_wp2_with fail
  go_region
  go_wp2_with fail
  go_ret
  exact ⟨rfl,(al1 w _).drew.drew⟩
 ·have hg:=hx.resolve_left he
  have hne:=bs_ne hP hi hj he
  have hla:=hP.lot _ hi
  have hlb:=hP.lot _ hj
  unfold lotAt at hg
  generalize pvs.getD (idx a ls) default=pa at hla
  generalize pvs.getD (idx b ls) default=pb at hlb
  have hoka:=hP.ok _ (mem_getD hi)
  have hokb:=hP.ok _ (mem_getD hj)
  generalize ls.getD (idx a ls) L0=la at *
  generalize ls.getD (idx b ls) L0=lb at *
  generalize bs.getD (idx a ls) 0=ba at *
  generalize bs.getD (idx b ls) 0=bb at *
  have hta:=blk_lt hla
  have htb:=blk_lt hlb
  have ca:w.cell? ⟨ba,1,none⟩=some (.int .i64 (la.goods:Int)):=by rw [blk_cell hla];rfl
  have cb:w.cell? ⟨bb,1,none⟩=some (.int .i64 (lb.goods:Int)):=by rw [blk_cell hlb];rfl
  have hga:=hoka.goods
  have hgb:=hokb.goods
  have hgb':=bneN_t hg
  have hpq:=ptr_other (W:=(w.alloc (Obj.cells #[.int .i64 (a:Int),.int .i64 (b:Int),.int .i64 (m:Int)] 95)).drew.drew) hne (((al1 w _).drew.drew.block _ hta).trans hla) (((al1 w _).drew.drew.block _ htb).trans hlb)
  clear hP hP1 hi hj hx HFA HFB he hla hlb hoka hokb hg
  go_enter Tryz.func50,Tryz.ntmps50
  go_wp2_with fail
  go_region_held3 (fun w'=>w'.cell? ⟨w.heap.size,0,none⟩=some (.int .i64 (a:Int))∧w'.cell? ⟨w.heap.size,1,none⟩=some (.int .i64 (b:Int))) (go_keep) (first
   | (go_at_call 77;with_reducible refine (HRA.out).mono ?_;rintro e w1 ⟨rfl,rfl⟩)
   | (go_at_call 77;with_reducible refine (HRB.out).mono ?_;rintro e w1 ⟨rfl,rfl⟩))
  go_wp2_with fail
  go_region
  go_wp2_with fail
  go_ret
  exact ⟨rfl,(al1 w _).drew.drew⟩
set_option maxHeartbeats 1600000 in
theorem merge_late {rcs:List (Nat × Nat)} {w:World} {S:Nat} {M:Mx} {v:Value} {td:Nat} {bs:List Nat} {pvs:List Value} {ls:List L} {os:List O} (hP:PV os rcs w S M v td bs pvs ls) (a b m:Nat) (h1:a≤2147483647) (h2:b≤2147483647) (h3:m≤2147483647) (hi:idx a ls<ls.length) (hj:idx b ls<ls.length)
  (he:idx a ls≠idx b ls) (hg:(lotAt ls a).goods=(lotAt ls b).goods) (rc:Nat) (hrc:0<rc)
  (hx:(roomC ls m≠0∧rc=roomC ls m)∨(roomC ls m=0∧(lotAt ls a).free+(lotAt ls b).free=0∧rc=7)∨(roomC ls m=0∧2147483647<(lotAt ls a).free+(lotAt ls b).free∧rc=2)) :
  Calls Tryz.prog 50 #[.pointer (some ⟨S,0,none⟩),.agg #[.int .i64 (a:Int),.int .i64 (b:Int),.int .i64 (m:Int)]] w fun e w'=>e=.returned (.int .i64 (rc:Int))∧Below w.heap.size w w':=by
 have hP1:=hP.below (al1 w (Obj.cells #[.int .i64 (a:Int),.int .i64 (b:Int),.int .i64 (m:Int)] 95)).drew
 have HRA:=hide (find_any hP1 a h1)
 have HRB:=hide (find_any hP1 b h2)
 have HM:=hide (room_any (hP1.below (Below.refl _ _).drew) m h3)
 have hrle:=roomC_le ls m
 have HFA:Hid (findV bs ls a=.pointer (some ⟨bs.getD (idx a ls) 0,0,none⟩)):=by unfold Hid findV;rw [if_pos hi]
 have HFB:Hid (findV bs ls b=.pointer (some ⟨bs.getD (idx b ls) 0,0,none⟩)):=by unfold Hid findV;rw [if_pos hj]
 rw [HFA.out] at HRA
 rw [HFB.out] at HRB
 have hne:=bs_ne hP hi hj he
 have hla:=hP.lot _ hi
 have hlb:=hP.lot _ hj
 unfold lotAt at hg hx
 generalize pvs.getD (idx a ls) default=pa at hla
 generalize pvs.getD (idx b ls) default=pb at hlb
 have hoka:=hP.ok _ (mem_getD hi)
 have hokb:=hP.ok _ (mem_getD hj)
 generalize ls.getD (idx a ls) L0=la at *
 generalize ls.getD (idx b ls) L0=lb at *
 generalize bs.getD (idx a ls) 0=ba at *
 generalize bs.getD (idx b ls) 0=bb at *
 have hta:=blk_lt hla
 have htb:=blk_lt hlb
 have ca:w.cell? ⟨ba,1,none⟩=some (.int .i64 (la.goods:Int)):=by rw [blk_cell hla];rfl
 have cb:w.cell? ⟨bb,1,none⟩=some (.int .i64 (lb.goods:Int)):=by rw [blk_cell hlb];rfl
 have ca6:w.cell? ⟨ba,6,none⟩=some (.int .i64 (la.free:Int)):=by rw [blk_cell hla];rfl
 have cb6:w.cell? ⟨bb,6,none⟩=some (.int .i64 (lb.free:Int)):=by rw [blk_cell hlb];rfl
 have hga:=hoka.goods
 have hgb:=hokb.goods
 have hfa:la.free≤2147483647:=by have:=hoka.sum;omega
 have hfb:lb.free≤2147483647:=by have:=hokb.sum;omega
 have hgb':=bneN_f hg
 have hpq:=ptr_other (W:=(w.alloc (Obj.cells #[.int .i64 (a:Int),.int .i64 (b:Int),.int .i64 (m:Int)] 95)).drew.drew) hne (((al1 w _).drew.drew.block _ hta).trans hla) (((al1 w _).drew.drew.block _ htb).trans hlb)
 generalize roomC ls m=r at *
 clear hP hP1 hi hj HFA HFB he hla hlb hoka hokb hg
 rcases hx with ⟨hr,rfl⟩ | ⟨rfl,hz,rfl⟩ | ⟨rfl,hz,rfl⟩
 ·have hrb:((rc:Int) != 0)=true:=by rw [bne_iff_ne];omega
  go_enter Tryz.func50,Tryz.ntmps50
  go_wp2_with fail
  go_region_held3 (fun w'=>w'.cell? ⟨w.heap.size,0,none⟩=some (.int .i64 (a:Int))∧w'.cell? ⟨w.heap.size,1,none⟩=some (.int .i64 (b:Int))) (go_keep) (first
   | (go_at_call 77;with_reducible refine (HRA.out).mono ?_;rintro e w1 ⟨rfl,rfl⟩)
   | (go_at_call 77;with_reducible refine (HRB.out).mono ?_;rintro e w1 ⟨rfl,rfl⟩))
  go_wp2_with fail
  go_region
  go_wp2_with (go_at_call 75;refine (HM.out).mono ?_;rintro e w1 ⟨rfl,rfl⟩)
  go_ret
  exact ⟨rfl,(al1 w _).drew.drew⟩
 ·have hzb:(((la.free:Int)+(lb.free:Int)) == 0)=true:=by rw [beq_iff_eq];omega
  go_enter Tryz.func50,Tryz.ntmps50
  go_wp2_with fail
  go_region_held3 (fun w'=>w'.cell? ⟨w.heap.size,0,none⟩=some (.int .i64 (a:Int))∧w'.cell? ⟨w.heap.size,1,none⟩=some (.int .i64 (b:Int))) (go_keep) (first
   | (go_at_call 77;with_reducible refine (HRA.out).mono ?_;rintro e w1 ⟨rfl,rfl⟩)
   | (go_at_call 77;with_reducible refine (HRB.out).mono ?_;rintro e w1 ⟨rfl,rfl⟩))
  go_wp2_with fail
  go_region
  go_wp2_with (go_at_call 75;refine (HM.out).mono ?_;rintro e w1 ⟨rfl,rfl⟩)
  go_region
  go_wp2_with fail
  go_ret
  exact ⟨rfl,(al1 w _).drew.drew.drew⟩
 ·have hzb:(((la.free:Int)+(lb.free:Int)) == 0)=false:=by rw [beq_eq_false_iff_ne];omega
  go_enter Tryz.func50,Tryz.ntmps50
  go_wp2_with fail
  go_region_held3 (fun w'=>w'.cell? ⟨w.heap.size,0,none⟩=some (.int .i64 (a:Int))∧w'.cell? ⟨w.heap.size,1,none⟩=some (.int .i64 (b:Int))) (go_keep) (first
   | (go_at_call 77;with_reducible refine (HRA.out).mono ?_;rintro e w1 ⟨rfl,rfl⟩)
   | (go_at_call 77;with_reducible refine (HRB.out).mono ?_;rintro e w1 ⟨rfl,rfl⟩))
  go_wp2_with fail
  go_region
  go_wp2_with (go_at_call 75;refine (HM.out).mono ?_;rintro e w1 ⟨rfl,rfl⟩)
  go_region
  go_wp2_with fail
  go_ret
  exact ⟨rfl,(al1 w _).drew.drew.drew⟩
end Go.Proofs.YtgcedalggnmooabGreatDoor
namespace Go.Proofs.YtgcedalggnmooabGreatDoor
open Go.RowKit
set_option maxHeartbeats 3200000 in
theorem merge_yes1 {rcs:List (Nat × Nat)} {Z:Nat→Prop} {w:World} {S:Nat} {M:Mx} {v:Value} {td:Nat} {bs:List Nat} {pvs:List Value} {ls:List L} {os:List O} (hP:PV os rcs w S M v td bs pvs ls) (hin:PIn Z S M v bs pvs) (a b m:Nat) (h1:a≤2147483647) (h2:b≤2147483647) (h3:m≤2147483647) (hi:idx a ls<ls.length) (hj:idx b ls<ls.length)
  (he:idx a ls≠idx b ls) (hg:(lotAt ls a).goods=(lotAt ls b).goods) (hr:roomC ls m=0) (hz:(lotAt ls a).free+(lotAt ls b).free≠0) (hz2:(lotAt ls a).free+(lotAt ls b).free≤2147483647) (hmm:(lotAt ls b).expiry<(lotAt ls a).expiry) :
  Calls Tryz.prog 50 #[.pointer (some ⟨S,0,none⟩),.agg #[.int .i64 (a:Int),.int .i64 (b:Int),.int .i64 (m:Int)]] w fun e w'=>Kp Z w w'∧e=.returned (.int .i64 0) ∧
   PI os rcs (Zn Z w) w' S td ((ls.set (idx a ls) (gaveL (lotAt ls a) (lotAt ls a).free)).set (idx b ls) (gaveL (lotAt ls b) (lotAt ls b).free)++[mkL ls m (lotAt ls a).goods (min (lotAt ls a).expiry (lotAt ls b).expiry) ((lotAt ls a).free+(lotAt ls b).free) [((lotAt ls a).id,(lotAt ls a).free),((lotAt ls b).id,(lotAt ls b).free)]]):=by
 have hP1:=hP.below (al1 w (Obj.cells #[.int .i64 (a:Int),.int .i64 (b:Int),.int .i64 (m:Int)] 95)).drew
 have HRA:=hide (find_any hP1 a h1)
 have HRB:=hide (find_any hP1 b h2)
 have HM:=hide (room_any (hP1.below (Below.refl _ _).drew) m h3)
 have hl30:=roomC_len hr
 have HFA:Hid (findV bs ls a=.pointer (some ⟨bs.getD (idx a ls) 0,0,none⟩)):=by unfold Hid findV;rw [if_pos hi]
 have HFB:Hid (findV bs ls b=.pointer (some ⟨bs.getD (idx b ls) 0,0,none⟩)):=by unfold Hid findV;rw [if_pos hj]
 rw [HFA.out] at HRA
 rw [HFB.out] at HRB
 rw [hr] at HM
 have hne:=bs_ne hP hi hj he
 have hla:=hP.lot _ hi
 have hlb:=hP.lot _ hj
 have hoka:=hP.ok _ (mem_getD hi)
 have hokb:=hP.ok _ (mem_getD hj)
 have hZa:Z (bs.getD (idx a ls) 0):=hin.b _ (getD_mem_nat (by rw [hP.len];exact hi))
 have hZb:Z (bs.getD (idx b ls) 0):=hin.b _ (getD_mem_nat (by rw [hP.len];exact hj))
 have HLA:Hid (lotAt ls a=ls.getD (idx a ls) L0):=rfl
 have HLB:Hid (lotAt ls b=ls.getD (idx b ls) L0):=rfl
 rw [← HLA.out] at hla hoka
 rw [← HLB.out] at hlb hokb
 generalize lotAt ls a=la at *
 generalize lotAt ls b=lb at *
 obtain ⟨ba,HBA⟩:∃ x,Hid (x=bs.getD (idx a ls) 0):=⟨_,rfl⟩
 obtain ⟨bb,HBB⟩:∃ x,Hid (x=bs.getD (idx b ls) 0):=⟨_,rfl⟩
 obtain ⟨pa,HPA⟩:∃ x,Hid (x=pvs.getD (idx a ls) default):=⟨_,rfl⟩
 obtain ⟨pb,HPB⟩:∃ x,Hid (x=pvs.getD (idx b ls) default):=⟨_,rfl⟩
 rw [← HBA.out] at hla HRA hne hZa
 rw [← HBB.out] at hlb HRB hne hZb
 rw [← HPA.out] at hla
 rw [← HPB.out] at hlb
 have hta:=blk_lt hla
 have htb:=blk_lt hlb
 have ca:w.cell? ⟨ba,1,none⟩=some (.int .i64 (la.goods:Int)):=by rw [blk_cell hla];rfl
 have cb:w.cell? ⟨bb,1,none⟩=some (.int .i64 (lb.goods:Int)):=by rw [blk_cell hlb];rfl
 have ca6:w.cell? ⟨ba,6,none⟩=some (.int .i64 (la.free:Int)):=by rw [blk_cell hla];rfl
 have cb6:w.cell? ⟨bb,6,none⟩=some (.int .i64 (lb.free:Int)):=by rw [blk_cell hlb];rfl
 have hga:=hoka.goods
 have hgb:=hokb.goods
 have hea:=hoka.expiry
 have heb:=hokb.expiry
 have hida:=hoka.id
 have hidb:=hokb.id
 have hgb':=bneN_f hg
 have hpq:=ptr_other (W:=(w.alloc (Obj.cells #[.int .i64 (a:Int),.int .i64 (b:Int),.int .i64 (m:Int)] 95)).drew.drew) hne (((al1 w _).drew.drew.block _ hta).trans hla) (((al1 w _).drew.drew.block _ htb).trans hlb)
 obtain ⟨w1,hw1⟩:∃ w1,w1=(w.alloc (Obj.cells #[.int .i64 (a:Int),.int .i64 (b:Int),.int .i64 (m:Int)] 95)).drew.drew.drew.drew:=⟨_,rfl⟩
 have hb1:Below w.heap.size w w1:=by rw [hw1];exact (al1 w _).drew.drew.drew.drew
 have hla1:w1.heap[ba]?=some (.cells (lotCells la pa) 153 (0,0)):=(hb1.block ba hta).trans hla
 have hlb1:w1.heap[bb]?=some (.cells (lotCells lb pb) 153 (0,0)):=(hb1.block bb htb).trans hlb
 have hcmd1:w1.heap[w.heap.size]?=some (Obj.cells #[.int .i64 (a:Int),.int .i64 (b:Int),.int .i64 (m:Int)] 95 (0,0)):=by rw [hw1];exact heap_alloc_new w _
 have hsz1:w1.heap.size=w.heap.size+1:=by rw [hw1];simp
 have HG1:=hide (give_any hla1 hoka la.free (Nat.le_refl _))
 have hs1:=giveW_self hla1 la.free (Nat.le_refl _)
 have hsz2:=giveW_size w1 ba la la.free
 have hlb2:(giveW w1 ba la la.free).heap[bb]?=some (.cells (lotCells lb pb) 153 (0,0)):=(giveW_other (by omega) (Ne.symm hne)).trans hlb1
 have hcmd2:(giveW w1 ba la la.free).heap[w.heap.size]?=some (Obj.cells #[.int .i64 (a:Int),.int .i64 (b:Int),.int .i64 (m:Int)] 95 (0,0)):=(giveW_other (by omega) (by omega)).trans hcmd1
 have hPg1:PV os rcs (giveW w1 ba la la.free) S M v td bs pvs (ls.set (idx a ls) (gaveL la la.free)):=(hP.below hb1).lotset hi (l':=gaveL la la.free) (gaveL_ok hoka (Nat.le_refl _)) (by rw [HLA.out];rfl) (by rw [← HPA.out,← HBA.out];exact hs1) (fun k hk hn=>giveW_other hk (by rw [HBA.out];exact hn))
 have hkg1:Kp Z w (giveW w1 ba la la.free):=Kp.before hb1 (giveW_kp w1 ba la la.free (Or.inl hZa))
 obtain ⟨G1,HGw1⟩:∃ G,Hid (G=giveW w1 ba la la.free):=⟨_,rfl⟩
 rw [← HGw1.out] at HG1 hs1 hsz2 hlb2 hcmd2 hPg1 hkg1
 have HG2:=hide (give_any hlb2 hokb lb.free (Nat.le_refl _))
 have hs2:=giveW_self hlb2 lb.free (Nat.le_refl _)
 have hsz3:=giveW_size G1 bb lb lb.free
 have hs1':(giveW G1 bb lb lb.free).heap[ba]?=some (.cells (lotCells (gaveL la la.free) pa) 153 (0,0)):=(giveW_other (blk_lt hs1) hne).trans hs1
 have hcmd3:(giveW G1 bb lb lb.free).heap[w.heap.size]?=some (Obj.cells #[.int .i64 (a:Int),.int .i64 (b:Int),.int .i64 (m:Int)] 95 (0,0)):=(giveW_other (blk_lt hcmd2) (by omega)).trans hcmd2
 have hprb:(gaveL lb lb.free).par=((ls.set (idx a ls) (gaveL la la.free)).getD (idx b ls) L0).par:=by
  rw [par_set (by rw [HLA.out];rfl),← HLB.out];rfl
 have hPg2:PV os rcs (giveW G1 bb lb lb.free) S M v td bs pvs ((ls.set (idx a ls) (gaveL la la.free)).set (idx b ls) (gaveL lb lb.free)):=hPg1.lotset (by rw [List.length_set];exact hj) (l':=gaveL lb lb.free) (gaveL_ok hokb (Nat.le_refl _)) hprb (by rw [← HPB.out,← HBB.out];exact hs2) (fun k hk hn=>giveW_other hk (by rw [HBB.out];exact hn))
 have hkg2:Kp Z w (giveW G1 bb lb lb.free):=hkg1.trans (giveW_kp G1 bb lb lb.free (Or.inl hZb))
 obtain ⟨G2,HGw2⟩:∃ G,Hid (G=giveW G1 bb lb lb.free):=⟨_,rfl⟩
 rw [← HGw2.out] at HG2 hs2 hsz3 hs1' hcmd3 hPg2 hkg2
 have k6:G1.cell? ⟨bb,6,none⟩=some (.int .i64 (lb.free:Int)):=by rw [blk_cell hlb2];rfl
 have g2:G2.cell? ⟨w.heap.size,2,none⟩=some (.int .i64 (m:Int)):=by rw [blk_cell hcmd3];rfl
 have ga1:G2.cell? ⟨ba,1,none⟩=some (.int .i64 (la.goods:Int)):=by rw [blk_cell hs1'];rfl
 have ga2:G2.cell? ⟨ba,2,none⟩=some (.int .i64 (la.expiry:Int)):=by rw [blk_cell hs1'];rfl
 have gb2:G2.cell? ⟨bb,2,none⟩=some (.int .i64 (lb.expiry:Int)):=by rw [blk_cell hs2];rfl
 have hba:=(al1 G2 (Obj.cells #[.int .i64 (la.id:Int),.int .i64 (la.free:Int),.int .i64 (lb.id:Int),.int .i64 (lb.free:Int)] 156)).drew
 have hpn:=heap_alloc_new G2 (Obj.cells #[.int .i64 (la.id:Int),.int .i64 (la.free:Int),.int .i64 (lb.id:Int),.int .i64 (lb.free:Int)] 156)
 have hPa:=hPg2.below hba
 have hpar:Par (G2.alloc (Obj.cells #[.int .i64 (la.id:Int),.int .i64 (la.free:Int),.int .i64 (lb.id:Int),.int .i64 (lb.free:Int)] 156)).drew (.slice (some ⟨G2.heap.size,0,none⟩) 2 2) [(la.id,la.free),(lb.id,lb.free)]:=by
  refine Or.inr ⟨G2.heap.size,2,_,rfl,hpn,fun j hj=>?_⟩
  rcases (show j=0∨j=1 by simp at hj;omega) with rfl | rfl
  ·exact ⟨rfl,rfl⟩
  ·exact ⟨rfl,rfl⟩
 have hcmda:=(hba.block _ (blk_lt hcmd3)).trans hcmd3
 have hlota:=(hba.block _ (blk_lt hs1')).trans hs1'
 have hlotb:=(hba.block _ (blk_lt hs2)).trans hs2
 have ap1:=hPa.apart hcmda (by decide) (by decide)
 have ap2:=hPa.apart hlota (by decide) (by decide)
 have ap3:=hPa.apart hlotb (by decide) (by decide)
 have e1:(G2.alloc (Obj.cells #[.int .i64 (la.id:Int),.int .i64 (la.free:Int),.int .i64 (lb.id:Int),.int .i64 (lb.free:Int)] 156)).drew.cell? ⟨w.heap.size,2,none⟩=some (.int .i64 (m:Int)):=by rw [blk_cell hcmda];rfl
 have e2:(G2.alloc (Obj.cells #[.int .i64 (la.id:Int),.int .i64 (la.free:Int),.int .i64 (lb.id:Int),.int .i64 (lb.free:Int)] 156)).drew.cell? ⟨ba,1,none⟩=some (.int .i64 (la.goods:Int)):=by rw [blk_cell hlota];rfl
 have e3:(G2.alloc (Obj.cells #[.int .i64 (la.id:Int),.int .i64 (la.free:Int),.int .i64 (lb.id:Int),.int .i64 (lb.free:Int)] 156)).drew.cell? ⟨ba,2,none⟩=some (.int .i64 (la.expiry:Int)):=by rw [blk_cell hlota];rfl
 have e4:(G2.alloc (Obj.cells #[.int .i64 (la.id:Int),.int .i64 (la.free:Int),.int .i64 (lb.id:Int),.int .i64 (lb.free:Int)] 156)).drew.cell? ⟨bb,2,none⟩=some (.int .i64 (lb.expiry:Int)):=by rw [blk_cell hlotb];rfl
 have HA:=hide ((add_any hPa m la.goods (min la.expiry lb.expiry) (la.free+lb.free) _ _ hpar ⟨by simp,by simp;exact ⟨hoka.id,hokb.id⟩⟩ (by rw [List.length_set,List.length_set];exact hl30) h3 hga (by omega) hz2).mono (fun e w' hh=>(⟨hh.1,hide hh.2,hh.2.1.cell ap1 (blk_lt hcmda) e1,hh.2.1.cell ap2 (blk_lt hlota) e2,hh.2.1.cell ap2 (blk_lt hlota) e3,hh.2.1.cell ap3 (blk_lt hlotb) e4⟩:_∧Hid _∧_∧_∧_∧_)))
 have hmin:((min la.expiry lb.expiry:Nat):Int)=(lb.expiry:Int):=by omega
 have hadd:((la.free+lb.free:Nat):Int)=(la.free:Int)+(lb.free:Int):=by omega
 rw [hmin,hadd] at HA
 have HK:=hide hkg2
 have HSG:Hid (G2.heap.size=w.heap.size+3):=by unfold Hid;omega
 have hzb:(((la.free:Int)+(lb.free:Int)) == 0)=false:=by rw [beq_eq_false_iff_ne];omega
 have hfa:la.free≤2147483647:=by have:=hoka.sum;omega
 have hfb:lb.free≤2147483647:=by have:=hokb.sum;omega
 have hne2:bb≠ba:=Ne.symm hne
 subst hw1
 clear hsz1 hsz2 hsz3 hP hP1 hla hlb hoka hokb hr hi hj he hg hla1 hlb1 hcmd1 hs1 hlb2 hcmd2 hPg1 hkg1 hs2 hs1' hcmd3 hPg2 hkg2 hpn hPa hpar hcmda hlota hlotb ap1 ap2 ap3 e1 e2 e3 e4 HFA HFB HGw1 HGw2 hb1 hba hmin hadd
 go_enter Tryz.func50,Tryz.ntmps50
 go_wp2_with fail
 go_region_held3 (fun w'=>w'.cell? ⟨w.heap.size,0,none⟩=some (.int .i64 (a:Int))∧w'.cell? ⟨w.heap.size,1,none⟩=some (.int .i64 (b:Int))) (go_keep) (first
  | (go_at_call 77;with_reducible refine (HRA.out).mono ?_;rintro e w1 ⟨rfl,rfl⟩)
  | (go_at_call 77;with_reducible refine (HRB.out).mono ?_;rintro e w1 ⟨rfl,rfl⟩))
 go_wp2_with fail
 go_region
 go_wp2_with (go_at_call 75;refine (HM.out).mono ?_;rintro e w1 ⟨rfl,rfl⟩)
 go_region
 go_wp2_with fail
 go_region_with (first
  | (go_at_call 78;with_reducible refine (HG1.out).mono ?_;rintro e w2 ⟨rfl,rfl⟩)
  | (go_at_call 78;with_reducible refine (HG2.out).mono ?_;rintro e w2 ⟨rfl,rfl⟩))
 all_goals (
  go_wp2_with fail
  go_region_held3 (fun w'=>w'.cell? ⟨w.heap.size,2,none⟩=some (.int .i64 (m:Int))∧w'.cell? ⟨ba,1,none⟩=some (.int .i64 (la.goods:Int))∧w'.cell? ⟨ba,2,none⟩=some (.int .i64 (la.expiry:Int))∧w'.cell? ⟨bb,2,none⟩=some (.int .i64 (lb.expiry:Int))) (go_keep) (first | (go_at_call 76;refine (HA.out).mono ?_;rintro e w3 ⟨rfl,hh,e1,e2,e3,e4⟩))
  go_wp2_with fail
  go_ret
  have hsg:=HSG.out
  obtain ⟨hk,v',hPV,hat⟩:=hh.out
  refine ⟨?_,rfl,M,v',_,_,(by rw [List.length_set,List.length_set] at hPV;exact hPV),?_⟩
  ·exact (HK.out.after (al1 _ _).drew).trans (hk.mono (fun k hq=>Or.inl (hq.elim (fun e=>e ▸ hin.s) (fun e=>hin.v k e))))
  ·refine ⟨Or.inl hin.s,Or.inl hin.m,Or.inl hin.mo,Or.inl hin.mh,fun g hg=>?_,fun k hk=>?_,fun pv hp q hq=>?_⟩
   ·rcases hat g hg with h | h
    ·exact Or.inl (hin.v g h)
    ·right;simp at h;omega
   ·rcases List.mem_append.1 hk with h | h
    ·exact Or.inl (hin.b k h)
    ·right;simp at h;omega
   ·rcases List.mem_append.1 hp with h | h
    ·exact Or.inl (hin.p pv h q hq)
    ·right
     simp at h;subst h
     simp [Value.ownBlock] at hq
     omega)
end Go.Proofs.YtgcedalggnmooabGreatDoor
namespace Go.Proofs.YtgcedalggnmooabGreatDoor
open Go.RowKit
set_option maxHeartbeats 3200000 in
theorem merge_yes2 {rcs:List (Nat × Nat)} {Z:Nat→Prop} {w:World} {S:Nat} {M:Mx} {v:Value} {td:Nat} {bs:List Nat} {pvs:List Value} {ls:List L} {os:List O} (hP:PV os rcs w S M v td bs pvs ls) (hin:PIn Z S M v bs pvs) (a b m:Nat) (h1:a≤2147483647) (h2:b≤2147483647) (h3:m≤2147483647) (hi:idx a ls<ls.length) (hj:idx b ls<ls.length)
  (he:idx a ls≠idx b ls) (hg:(lotAt ls a).goods=(lotAt ls b).goods) (hr:roomC ls m=0) (hz:(lotAt ls a).free+(lotAt ls b).free≠0) (hz2:(lotAt ls a).free+(lotAt ls b).free≤2147483647) (hmm:¬ (lotAt ls b).expiry<(lotAt ls a).expiry) :
  Calls Tryz.prog 50 #[.pointer (some ⟨S,0,none⟩),.agg #[.int .i64 (a:Int),.int .i64 (b:Int),.int .i64 (m:Int)]] w fun e w'=>Kp Z w w'∧e=.returned (.int .i64 0) ∧
   PI os rcs (Zn Z w) w' S td ((ls.set (idx a ls) (gaveL (lotAt ls a) (lotAt ls a).free)).set (idx b ls) (gaveL (lotAt ls b) (lotAt ls b).free)++[mkL ls m (lotAt ls a).goods (min (lotAt ls a).expiry (lotAt ls b).expiry) ((lotAt ls a).free+(lotAt ls b).free) [((lotAt ls a).id,(lotAt ls a).free),((lotAt ls b).id,(lotAt ls b).free)]]):=by
 have hP1:=hP.below (al1 w (Obj.cells #[.int .i64 (a:Int),.int .i64 (b:Int),.int .i64 (m:Int)] 95)).drew
 have HRA:=hide (find_any hP1 a h1)
 have HRB:=hide (find_any hP1 b h2)
 have HM:=hide (room_any (hP1.below (Below.refl _ _).drew) m h3)
 have hl30:=roomC_len hr
 have HFA:Hid (findV bs ls a=.pointer (some ⟨bs.getD (idx a ls) 0,0,none⟩)):=by unfold Hid findV;rw [if_pos hi]
 have HFB:Hid (findV bs ls b=.pointer (some ⟨bs.getD (idx b ls) 0,0,none⟩)):=by unfold Hid findV;rw [if_pos hj]
 rw [HFA.out] at HRA
 rw [HFB.out] at HRB
 rw [hr] at HM
 have hne:=bs_ne hP hi hj he
 have hla:=hP.lot _ hi
 have hlb:=hP.lot _ hj
 have hoka:=hP.ok _ (mem_getD hi)
 have hokb:=hP.ok _ (mem_getD hj)
 have hZa:Z (bs.getD (idx a ls) 0):=hin.b _ (getD_mem_nat (by rw [hP.len];exact hi))
 have hZb:Z (bs.getD (idx b ls) 0):=hin.b _ (getD_mem_nat (by rw [hP.len];exact hj))
 have HLA:Hid (lotAt ls a=ls.getD (idx a ls) L0):=rfl
 have HLB:Hid (lotAt ls b=ls.getD (idx b ls) L0):=rfl
 rw [← HLA.out] at hla hoka
 rw [← HLB.out] at hlb hokb
 generalize lotAt ls a=la at *
 generalize lotAt ls b=lb at *
 obtain ⟨ba,HBA⟩:∃ x,Hid (x=bs.getD (idx a ls) 0):=⟨_,rfl⟩
 obtain ⟨bb,HBB⟩:∃ x,Hid (x=bs.getD (idx b ls) 0):=⟨_,rfl⟩
 obtain ⟨pa,HPA⟩:∃ x,Hid (x=pvs.getD (idx a ls) default):=⟨_,rfl⟩
 obtain ⟨pb,HPB⟩:∃ x,Hid (x=pvs.getD (idx b ls) default):=⟨_,rfl⟩
 rw [← HBA.out] at hla HRA hne hZa
 rw [← HBB.out] at hlb HRB hne hZb
 rw [← HPA.out] at hla
 rw [← HPB.out] at hlb
 have hta:=blk_lt hla
 have htb:=blk_lt hlb
 have ca:w.cell? ⟨ba,1,none⟩=some (.int .i64 (la.goods:Int)):=by rw [blk_cell hla];rfl
 have cb:w.cell? ⟨bb,1,none⟩=some (.int .i64 (lb.goods:Int)):=by rw [blk_cell hlb];rfl
 have ca6:w.cell? ⟨ba,6,none⟩=some (.int .i64 (la.free:Int)):=by rw [blk_cell hla];rfl
 have cb6:w.cell? ⟨bb,6,none⟩=some (.int .i64 (lb.free:Int)):=by rw [blk_cell hlb];rfl
 have hga:=hoka.goods
 have hgb:=hokb.goods
 have hea:=hoka.expiry
 have heb:=hokb.expiry
 have hida:=hoka.id
 have hidb:=hokb.id
 have hgb':=bneN_f hg
 have hpq:=ptr_other (W:=(w.alloc (Obj.cells #[.int .i64 (a:Int),.int .i64 (b:Int),.int .i64 (m:Int)] 95)).drew.drew) hne (((al1 w _).drew.drew.block _ hta).trans hla) (((al1 w _).drew.drew.block _ htb).trans hlb)
 obtain ⟨w1,hw1⟩:∃ w1,w1=(w.alloc (Obj.cells #[.int .i64 (a:Int),.int .i64 (b:Int),.int .i64 (m:Int)] 95)).drew.drew.drew.drew:=⟨_,rfl⟩
 have hb1:Below w.heap.size w w1:=by rw [hw1];exact (al1 w _).drew.drew.drew.drew
 have hla1:w1.heap[ba]?=some (.cells (lotCells la pa) 153 (0,0)):=(hb1.block ba hta).trans hla
 have hlb1:w1.heap[bb]?=some (.cells (lotCells lb pb) 153 (0,0)):=(hb1.block bb htb).trans hlb
 have hcmd1:w1.heap[w.heap.size]?=some (Obj.cells #[.int .i64 (a:Int),.int .i64 (b:Int),.int .i64 (m:Int)] 95 (0,0)):=by rw [hw1];exact heap_alloc_new w _
 have hsz1:w1.heap.size=w.heap.size+1:=by rw [hw1];simp
 have HG1:=hide (give_any hla1 hoka la.free (Nat.le_refl _))
 have hs1:=giveW_self hla1 la.free (Nat.le_refl _)
 have hsz2:=giveW_size w1 ba la la.free
 have hlb2:(giveW w1 ba la la.free).heap[bb]?=some (.cells (lotCells lb pb) 153 (0,0)):=(giveW_other (by omega) (Ne.symm hne)).trans hlb1
 have hcmd2:(giveW w1 ba la la.free).heap[w.heap.size]?=some (Obj.cells #[.int .i64 (a:Int),.int .i64 (b:Int),.int .i64 (m:Int)] 95 (0,0)):=(giveW_other (by omega) (by omega)).trans hcmd1
 have hPg1:PV os rcs (giveW w1 ba la la.free) S M v td bs pvs (ls.set (idx a ls) (gaveL la la.free)):=(hP.below hb1).lotset hi (l':=gaveL la la.free) (gaveL_ok hoka (Nat.le_refl _)) (by rw [HLA.out];rfl) (by rw [← HPA.out,← HBA.out];exact hs1) (fun k hk hn=>giveW_other hk (by rw [HBA.out];exact hn))
 have hkg1:Kp Z w (giveW w1 ba la la.free):=Kp.before hb1 (giveW_kp w1 ba la la.free (Or.inl hZa))
 obtain ⟨G1,HGw1⟩:∃ G,Hid (G=giveW w1 ba la la.free):=⟨_,rfl⟩
 rw [← HGw1.out] at HG1 hs1 hsz2 hlb2 hcmd2 hPg1 hkg1
 have HG2:=hide (give_any hlb2 hokb lb.free (Nat.le_refl _))
 have hs2:=giveW_self hlb2 lb.free (Nat.le_refl _)
 have hsz3:=giveW_size G1 bb lb lb.free
 have hs1':(giveW G1 bb lb lb.free).heap[ba]?=some (.cells (lotCells (gaveL la la.free) pa) 153 (0,0)):=(giveW_other (blk_lt hs1) hne).trans hs1
 have hcmd3:(giveW G1 bb lb lb.free).heap[w.heap.size]?=some (Obj.cells #[.int .i64 (a:Int),.int .i64 (b:Int),.int .i64 (m:Int)] 95 (0,0)):=(giveW_other (blk_lt hcmd2) (by omega)).trans hcmd2
 have hprb:(gaveL lb lb.free).par=((ls.set (idx a ls) (gaveL la la.free)).getD (idx b ls) L0).par:=by
  rw [par_set (by rw [HLA.out];rfl),← HLB.out];rfl
 have hPg2:PV os rcs (giveW G1 bb lb lb.free) S M v td bs pvs ((ls.set (idx a ls) (gaveL la la.free)).set (idx b ls) (gaveL lb lb.free)):=hPg1.lotset (by rw [List.length_set];exact hj) (l':=gaveL lb lb.free) (gaveL_ok hokb (Nat.le_refl _)) hprb (by rw [← HPB.out,← HBB.out];exact hs2) (fun k hk hn=>giveW_other hk (by rw [HBB.out];exact hn))
 have hkg2:Kp Z w (giveW G1 bb lb lb.free):=hkg1.trans (giveW_kp G1 bb lb lb.free (Or.inl hZb))
 obtain ⟨G2,HGw2⟩:∃ G,Hid (G=giveW G1 bb lb lb.free):=⟨_,rfl⟩
 rw [← HGw2.out] at HG2 hs2 hsz3 hs1' hcmd3 hPg2 hkg2
 have k6:G1.cell? ⟨bb,6,none⟩=some (.int .i64 (lb.free:Int)):=by rw [blk_cell hlb2];rfl
 have g2:G2.cell? ⟨w.heap.size,2,none⟩=some (.int .i64 (m:Int)):=by rw [blk_cell hcmd3];rfl
 have ga1:G2.cell? ⟨ba,1,none⟩=some (.int .i64 (la.goods:Int)):=by rw [blk_cell hs1'];rfl
 have ga2:G2.cell? ⟨ba,2,none⟩=some (.int .i64 (la.expiry:Int)):=by rw [blk_cell hs1'];rfl
 have gb2:G2.cell? ⟨bb,2,none⟩=some (.int .i64 (lb.expiry:Int)):=by rw [blk_cell hs2];rfl
 have hba:=(al1 G2 (Obj.cells #[.int .i64 (la.id:Int),.int .i64 (la.free:Int),.int .i64 (lb.id:Int),.int .i64 (lb.free:Int)] 156)).drew
 have hpn:=heap_alloc_new G2 (Obj.cells #[.int .i64 (la.id:Int),.int .i64 (la.free:Int),.int .i64 (lb.id:Int),.int .i64 (lb.free:Int)] 156)
 have hPa:=hPg2.below hba
 have hpar:Par (G2.alloc (Obj.cells #[.int .i64 (la.id:Int),.int .i64 (la.free:Int),.int .i64 (lb.id:Int),.int .i64 (lb.free:Int)] 156)).drew (.slice (some ⟨G2.heap.size,0,none⟩) 2 2) [(la.id,la.free),(lb.id,lb.free)]:=by
  refine Or.inr ⟨G2.heap.size,2,_,rfl,hpn,fun j hj=>?_⟩
  rcases (show j=0∨j=1 by simp at hj;omega) with rfl | rfl
  ·exact ⟨rfl,rfl⟩
  ·exact ⟨rfl,rfl⟩
 have hcmda:=(hba.block _ (blk_lt hcmd3)).trans hcmd3
 have hlota:=(hba.block _ (blk_lt hs1')).trans hs1'
 have hlotb:=(hba.block _ (blk_lt hs2)).trans hs2
 have ap1:=hPa.apart hcmda (by decide) (by decide)
 have ap2:=hPa.apart hlota (by decide) (by decide)
 have ap3:=hPa.apart hlotb (by decide) (by decide)
 have e1:(G2.alloc (Obj.cells #[.int .i64 (la.id:Int),.int .i64 (la.free:Int),.int .i64 (lb.id:Int),.int .i64 (lb.free:Int)] 156)).drew.cell? ⟨w.heap.size,2,none⟩=some (.int .i64 (m:Int)):=by rw [blk_cell hcmda];rfl
 have e2:(G2.alloc (Obj.cells #[.int .i64 (la.id:Int),.int .i64 (la.free:Int),.int .i64 (lb.id:Int),.int .i64 (lb.free:Int)] 156)).drew.cell? ⟨ba,1,none⟩=some (.int .i64 (la.goods:Int)):=by rw [blk_cell hlota];rfl
 have e3:(G2.alloc (Obj.cells #[.int .i64 (la.id:Int),.int .i64 (la.free:Int),.int .i64 (lb.id:Int),.int .i64 (lb.free:Int)] 156)).drew.cell? ⟨ba,2,none⟩=some (.int .i64 (la.expiry:Int)):=by rw [blk_cell hlota];rfl
 have e4:(G2.alloc (Obj.cells #[.int .i64 (la.id:Int),.int .i64 (la.free:Int),.int .i64 (lb.id:Int),.int .i64 (lb.free:Int)] 156)).drew.cell? ⟨bb,2,none⟩=some (.int .i64 (lb.expiry:Int)):=by rw [blk_cell hlotb];rfl
 have HA:=hide ((add_any hPa m la.goods (min la.expiry lb.expiry) (la.free+lb.free) _ _ hpar ⟨by simp,by simp;exact ⟨hoka.id,hokb.id⟩⟩ (by rw [List.length_set,List.length_set];exact hl30) h3 hga (by omega) hz2).mono (fun e w' hh=>(⟨hh.1,hide hh.2,hh.2.1.cell ap1 (blk_lt hcmda) e1,hh.2.1.cell ap2 (blk_lt hlota) e2,hh.2.1.cell ap2 (blk_lt hlota) e3,hh.2.1.cell ap3 (blk_lt hlotb) e4⟩:_∧Hid _∧_∧_∧_∧_)))
 have hmin:((min la.expiry lb.expiry:Nat):Int)=(la.expiry:Int):=by omega
 have hadd:((la.free+lb.free:Nat):Int)=(la.free:Int)+(lb.free:Int):=by omega
 rw [hmin,hadd] at HA
 have HK:=hide hkg2
 have HSG:Hid (G2.heap.size=w.heap.size+3):=by unfold Hid;omega
 have hzb:(((la.free:Int)+(lb.free:Int)) == 0)=false:=by rw [beq_eq_false_iff_ne];omega
 have hfa:la.free≤2147483647:=by have:=hoka.sum;omega
 have hfb:lb.free≤2147483647:=by have:=hokb.sum;omega
 have hne2:bb≠ba:=Ne.symm hne
 subst hw1
 clear hsz1 hsz2 hsz3 hP hP1 hla hlb hoka hokb hr hi hj he hg hla1 hlb1 hcmd1 hs1 hlb2 hcmd2 hPg1 hkg1 hs2 hs1' hcmd3 hPg2 hkg2 hpn hPa hpar hcmda hlota hlotb ap1 ap2 ap3 e1 e2 e3 e4 HFA HFB HGw1 HGw2 hb1 hba hmin hadd
 go_enter Tryz.func50,Tryz.ntmps50
 go_wp2_with fail
 go_region_held3 (fun w'=>w'.cell? ⟨w.heap.size,0,none⟩=some (.int .i64 (a:Int))∧w'.cell? ⟨w.heap.size,1,none⟩=some (.int .i64 (b:Int))) (go_keep) (first
  | (go_at_call 77;with_reducible refine (HRA.out).mono ?_;rintro e w1 ⟨rfl,rfl⟩)
  | (go_at_call 77;with_reducible refine (HRB.out).mono ?_;rintro e w1 ⟨rfl,rfl⟩))
 go_wp2_with fail
 go_region
 go_wp2_with (go_at_call 75;refine (HM.out).mono ?_;rintro e w1 ⟨rfl,rfl⟩)
 go_region
 go_wp2_with fail
 go_region_with (first
  | (go_at_call 78;with_reducible refine (HG1.out).mono ?_;rintro e w2 ⟨rfl,rfl⟩)
  | (go_at_call 78;with_reducible refine (HG2.out).mono ?_;rintro e w2 ⟨rfl,rfl⟩))
 all_goals (
  go_wp2_with fail
  go_region_held3 (fun w'=>w'.cell? ⟨w.heap.size,2,none⟩=some (.int .i64 (m:Int))∧w'.cell? ⟨ba,1,none⟩=some (.int .i64 (la.goods:Int))∧w'.cell? ⟨ba,2,none⟩=some (.int .i64 (la.expiry:Int))∧w'.cell? ⟨bb,2,none⟩=some (.int .i64 (lb.expiry:Int))) (go_keep) (first | (go_at_call 76;refine (HA.out).mono ?_;rintro e w3 ⟨rfl,hh,e1,e2,e3,e4⟩))
  go_wp2_with fail
  go_ret
  have hsg:=HSG.out
  obtain ⟨hk,v',hPV,hat⟩:=hh.out
  refine ⟨?_,rfl,M,v',_,_,(by rw [List.length_set,List.length_set] at hPV;exact hPV),?_⟩
  ·exact (HK.out.after (al1 _ _).drew).trans (hk.mono (fun k hq=>Or.inl (hq.elim (fun e=>e ▸ hin.s) (fun e=>hin.v k e))))
  ·refine ⟨Or.inl hin.s,Or.inl hin.m,Or.inl hin.mo,Or.inl hin.mh,fun g hg=>?_,fun k hk=>?_,fun pv hp q hq=>?_⟩
   ·rcases hat g hg with h | h
    ·exact Or.inl (hin.v g h)
    ·right;simp at h;omega
   ·rcases List.mem_append.1 hk with h | h
    ·exact Or.inl (hin.b k h)
    ·right;simp at h;omega
   ·rcases List.mem_append.1 hp with h | h
    ·exact Or.inl (hin.p pv h q hq)
    ·right
     simp at h;subst h
     simp [Value.ownBlock] at hq
     omega)
end Go.Proofs.YtgcedalggnmooabGreatDoor
