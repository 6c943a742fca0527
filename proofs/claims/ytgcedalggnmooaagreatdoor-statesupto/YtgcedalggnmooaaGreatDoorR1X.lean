import Derived.Test.YtgcedalggnmooaaGreatDoorR0X
import Derived.Test.YtgcedalggnmooaaGreatDoorSt8
import Derived.Deep.RegionLaw
import Derived.Deep.AppendLies
set_option linter.unusedSimpArgs false
set_option linter.unusedVariables false
set_option maxRecDepth 100000
namespace Go.Proofs.YtgcedalggnmooaaGreatDoor
open Go.RowKit
theorem heap_alloc_new' (w:World) (o:Obj) (g:Nat) (hg:g=w.heap.size):(w.alloc o).heap[g]?=some o:=by subst hg;exact heap_alloc_new w o
set_option maxHeartbeats 1600000 in
theorem serves_any {rcs:List (Nat × Nat)} {w:World} {R:Nat} {v:Value} {td:Nat} {rec:ByteArray} {fs:List Value} {ls:List L} {os:List O} {ro:Ro} (h:RV os rcs ro w R v td rec fs ls) (i goods gate:Nat) (hi:i<ls.length) (h1:goods≤2147483647) (h2:gate≤2147483647) :
  Calls Tryz.prog 120 #[.pointer (some ⟨R,0,none⟩),.int .i64 (i:Int),.int .i64 (goods:Int),.int .i64 (gate:Int)] w fun e w'=>e=.returned (.bool (srv (recB rcs ls) td goods gate (ls.getD i L0)))∧Below w.heap.size w w':=by
 obtain ⟨a,cap,hv,hrow⟩:=h.shape
 obtain ⟨G,hG,hGlt,hcells⟩:=hrow (by omega)
 have c1:=h.c1
 rw [hv,hG] at c1
 have hroom:=h.room
 have htd:=h.today
 have hok:=h.ok _ (mem_getD hi)
 obtain ⟨l,HL⟩:∃ l,Hid (l=ls.getD i L0):=⟨_,rfl⟩
 have hfs:IsSl (fs.getD i default):=h.fsl _ (getD_mem_val (by rw [h.flen];exact hi))
 obtain ⟨fa,fn,fc,hf⟩:=hfs
 rw [← HL.out] at hok
 rw [← HL.out]
 have k:=hcells i hi
 rw [← HL.out,hf] at k
 have k0:w.cell? ⟨G,i * 11,none⟩=some (.int .i64 (l.id:Int)):=k 0 (by omega)
 have k1:w.cell? ⟨G,i * 11+1,none⟩=some (.int .i64 (l.goods:Int)):=k 1 (by omega)
 have k2:w.cell? ⟨G,i * 11+2,none⟩=some (.int .i64 (l.expiry:Int)):=k 2 (by omega)
 have k3:w.cell? ⟨G,i * 11+3,none⟩=some (.int .i64 (l.place:Int)):=k 3 (by omega)
 have k4:w.cell? ⟨G,i * 11+4,none⟩=some (.int .i64 (l.got:Int)):=k 4 (by omega)
 have k5:w.cell? ⟨G,i * 11+5,none⟩=some (.int .i64 (l.free:Int)):=k 5 (by omega)
 have k6:w.cell? ⟨G,i * 11+6,none⟩=some (.int .i64 (l.held:Int)):=k 6 (by omega)
 have k7:w.cell? ⟨G,i * 11+7,none⟩=some (.int .i64 (l.shipped:Int)):=k 7 (by omega)
 have k8:w.cell? ⟨G,i * 11+8,none⟩=some (.int .i64 (l.scrapped:Int)):=k 8 (by omega)
 have k9:w.cell? ⟨G,i * 11+9,none⟩=some (.int .i64 (l.given:Int)):=k 9 (by omega)
 have k10:w.cell? ⟨G,i * 11+10,none⟩=some (.slice fa fn fc):=k 10 (by omega)
 have HP:=hide h
 clear h hv hG hcells hrow k hf
 go_enter Tryz.func120,Tryz.ntmps120
 go_wp2_with fail
 have ha:=al1 w (.cells #[.int .i64 (l.id:Int),.int .i64 (l.goods:Int),.int .i64 (l.expiry:Int),.int .i64 (l.place:Int),.int .i64 (l.got:Int),.int .i64 (l.free:Int),.int .i64 (l.held:Int),.int .i64 (l.shipped:Int),.int .i64 (l.scrapped:Int),.int .i64 (l.given:Int),.slice fa fn fc] 129)
 have hb:=heap_alloc_new w (.cells #[.int .i64 (l.id:Int),.int .i64 (l.goods:Int),.int .i64 (l.expiry:Int),.int .i64 (l.place:Int),.int .i64 (l.got:Int),.int .i64 (l.free:Int),.int .i64 (l.held:Int),.int .i64 (l.shipped:Int),.int .i64 (l.scrapped:Int),.int .i64 (l.given:Int),.slice fa fn fc] 129)
 generalize (w.alloc (.cells #[.int .i64 (l.id:Int),.int .i64 (l.goods:Int),.int .i64 (l.expiry:Int),.int .i64 (l.place:Int),.int .i64 (l.got:Int),.int .i64 (l.free:Int),.int .i64 (l.held:Int),.int .i64 (l.shipped:Int),.int .i64 (l.scrapped:Int),.int .i64 (l.given:Int),.slice fa fn fc] 129))=w1 at *
 refine (recalledR_any (HP.out.below ha) l.id).mono ?_
 rintro e w2 ⟨rfl,hb2⟩
 have hb0:=hb
 have hbs:=blk_lt hb
 have ha0:=ha
 replace hb:=(hb2.block _ hbs).trans hb0
 replace ha:=ha0.trans (hb2.mono ha0.size)
 have d1:w2.cell? ⟨w.heap.size,1,none⟩=some (.int .i64 (l.goods:Int)):=by rw [blk_cell hb];rfl
 have d2:w2.cell? ⟨w.heap.size,2,none⟩=some (.int .i64 (l.expiry:Int)):=by rw [blk_cell hb];rfl
 have d5:w2.cell? ⟨w.heap.size,5,none⟩=some (.int .i64 (l.free:Int)):=by rw [blk_cell hb];rfl
 have dR:=(HP.out.below ha).c0
 clear hb0 ha0 hb2 hbs
 have hle1:=hok.goods
 have hle2:=hok.expiry
 have hle3:=hok.sum
 clear k0 k1 k2 k3 k4 k5 k6 k7 k8 k9 k10 c1 hb hok
 obtain ⟨lgoods,lexpiry,lfree,hlgoods,hlexp,hlfree⟩:∃ b c d,Hid (b=l.goods)∧Hid (c=l.expiry)∧Hid (d=l.free):=⟨_,_,_,rfl,rfl,rfl⟩
 rw [← hlgoods.out] at d1 hle1
 rw [← hlexp.out] at d2 hle2
 rw [← hlfree.out] at d5 hle3
 cases hrb:recB rcs ls l.id with
 | true =>
  have HN:Hid (srv (recB rcs ls) td goods gate l=false):=by unfold Hid srv;rw [hrb];simp
  clear hrb
  by_cases hA:lgoods=goods
  ·have hAb:=beqN_t hA
   clear hA
   go_wp2_with fail
   go_quiet (fail)
   go_wp2_with fail
   go_ret
   exact ⟨ret_bool (by rw [HN.out]),below_drewN ha nq⟩
  ·have hAb:=beqN_f hA
   clear hA
   go_wp2_with fail
   go_quiet (fail)
   go_wp2_with fail
   go_ret
   exact ⟨ret_bool (by rw [HN.out]),below_drewN ha nq⟩
 | false =>
  by_cases hA:lgoods=goods
  ·have hAb:=beqN_t hA
   have HA:=hide hA
   clear hA
   by_cases hB:0<lfree
   ·by_cases hC:td+gate+1≤lexpiry
    ·have HN:Hid (srv (recB rcs ls) td goods gate l=true):=by
      unfold Hid srv;rw [← hlexp.out,← hlgoods.out,← hlfree.out];rw [hrb];simp [HA.out,hB,hC]
     have hCb:decide ((td:Int)+(gate:Int)+1≤(lexpiry:Int))=true:=by simp;omega
     go_wp2_with fail
     go_quiet (fail)
     go_wp2_with fail
     go_ret
     exact ⟨ret_bool (by rw [HN.out]),below_drewN ha nq⟩
    ·have HN:Hid (srv (recB rcs ls) td goods gate l=false):=by
      unfold Hid srv;rw [← hlexp.out];simp;intro _ _ _;omega
     have hCb:decide ((td:Int)+(gate:Int)+1≤(lexpiry:Int))=false:=by simp;omega
     go_wp2_with fail
     go_quiet (fail)
     go_wp2_with fail
     go_ret
     exact ⟨ret_bool (by rw [HN.out]),below_drewN ha nq⟩
   ·have HN:Hid (srv (recB rcs ls) td goods gate l=false):=by
     unfold Hid srv;rw [← hlfree.out];simp [hB]
    have hBb:decide ((0:Int)<(lfree:Int))=false:=by simp;omega
    go_wp2_with fail
    go_quiet (fail)
    go_wp2_with fail
    go_ret
    exact ⟨ret_bool (by rw [HN.out]),below_drewN ha nq⟩
  ·have HN:Hid (srv (recB rcs ls) td goods gate l=false):=by
    unfold Hid srv;rw [← hlgoods.out];simp [hA]
   have hAb:=beqN_f hA
   clear hA
   go_wp2_with fail
   go_quiet (fail)
   go_wp2_with fail
   go_ret
   exact ⟨ret_bool (by rw [HN.out]),below_drewN ha nq⟩
set_option maxHeartbeats 1600000 in
theorem lookR_hit {rcs:List (Nat × Nat)} {w:World} {R:Nat} {v:Value} {td:Nat} {rec:ByteArray} {fs:List Value} {ls:List L} {os:List O} {ro:Ro} (h:RV os rcs ro w R v td rec fs ls) (n:Nat) (hn:n≤2147483647) (hi:idx n ls<ls.length) :
  Calls Tryz.prog 74 #[.pointer (some ⟨R,0,none⟩),.int .i64 (n:Int)] w fun e w'=>Below w.heap.size w w'∧∃ g,e=.returned (.tuple #[.slice (some ⟨g,0,none⟩) 10 10,.int .i64 0])∧w'.heap[g]?=some (.cells (I (lookL (recB rcs ls) (ls.getD (idx n ls) L0))).toArray 3 (0,0)):=by
 have H1:=hide (at_any h n hn)
 have hat:atV ls n=(idx n ls:Int):=by unfold atV;rw [if_pos hi]
 rw [hat] at H1
 obtain ⟨a,cap,hv,hrow⟩:=h.shape
 obtain ⟨G,hG,hGlt,hcells⟩:=hrow (by omega)
 have c1:=h.c1
 rw [hv,hG] at c1
 have hroom:=h.room
 obtain ⟨l,HL⟩:∃ l,Hid (l=ls.getD (idx n ls) L0):=⟨_,rfl⟩
 obtain ⟨fa,fn,fc,hf⟩:=h.fsl _ (getD_mem_val (show idx n ls<fs.length by rw [h.flen];exact hi))
 rw [← HL.out]
 have k:=hcells (idx n ls) hi
 rw [← HL.out,hf] at k
 have HID:Hid (l.id=n):=by rw [HL.out];exact idx_id hi
 generalize idx n ls=i at *
 have k0:w.cell? ⟨G,i * 11,none⟩=some (.int .i64 (l.id:Int)):=k 0 (by omega)
 have k1:w.cell? ⟨G,i * 11+1,none⟩=some (.int .i64 (l.goods:Int)):=k 1 (by omega)
 have k2:w.cell? ⟨G,i * 11+2,none⟩=some (.int .i64 (l.expiry:Int)):=k 2 (by omega)
 have k3:w.cell? ⟨G,i * 11+3,none⟩=some (.int .i64 (l.place:Int)):=k 3 (by omega)
 have k4:w.cell? ⟨G,i * 11+4,none⟩=some (.int .i64 (l.got:Int)):=k 4 (by omega)
 have k5:w.cell? ⟨G,i * 11+5,none⟩=some (.int .i64 (l.free:Int)):=k 5 (by omega)
 have k6:w.cell? ⟨G,i * 11+6,none⟩=some (.int .i64 (l.held:Int)):=k 6 (by omega)
 have k7:w.cell? ⟨G,i * 11+7,none⟩=some (.int .i64 (l.shipped:Int)):=k 7 (by omega)
 have k8:w.cell? ⟨G,i * 11+8,none⟩=some (.int .i64 (l.scrapped:Int)):=k 8 (by omega)
 have k9:w.cell? ⟨G,i * 11+9,none⟩=some (.int .i64 (l.given:Int)):=k 9 (by omega)
 have k10:w.cell? ⟨G,i * 11+10,none⟩=some (.slice fa fn fc):=k 10 (by omega)
 have HP:=hide h
 have HLK:Hid (lookL (recB rcs ls) l=[l.goods,l.expiry,l.place,l.got,l.free,l.held,l.shipped,l.scrapped,l.given,if recB rcs ls n then 1 else 0]):=by unfold Hid lookL;rw [HID.out]
 obtain ⟨rb,HRB⟩:∃ rb,Hid (rb=recB rcs ls n):=⟨_,rfl⟩
 rw [HLK.out,← HRB.out]
 clear h hv hG hcells hrow k hf hat HLK
 go_enter Tryz.func74,Tryz.ntmps74
 go_wp2_with (go_at_call 111;refine (H1.out).mono ?_;rintro e w1 ⟨rfl,rfl⟩)
 refine (recalledR_any (HP.out.below ?_) n).mono ?_
 ·exact ((Below.refl _ _).alloc (Nat.le_refl _) _).alloc (by simp) _
 rintro e w2 ⟨rfl,hb2⟩
 rw [← HRB.out]
 have hg2:w2.heap[w1.heap.size+1]?=some (.cells #[.int .i64 (l.goods:Int),.int .i64 (l.expiry:Int),.int .i64 (l.place:Int),.int .i64 (l.got:Int),.int .i64 (l.free:Int),.int .i64 (l.held:Int),.int .i64 (l.shipped:Int),.int .i64 (l.scrapped:Int),.int .i64 (l.given:Int),.int .i64 0] 3 (0,0)):=(hb2.block _ (by simp)).trans (heap_alloc_new' _ _ _ (by simp))
 have HB:Hid (Below w1.heap.size w1 w2):=(((Below.refl _ _).alloc (Nat.le_refl _) _).alloc (by simp) _).trans (hb2.mono (by simp;omega))
 have g9:w2.cell? ⟨w1.heap.size+1,9,none⟩=some (.int .i64 0):=by rw [blk_cell hg2];rfl
 have gf:=blk_free hg2 9
 have HG2:=hide hg2
 clear hb2 hg2 HRB k0 k1 k2 k3 k4 k5 k6 k7 k8 k9 k10
 cases rb
 ·go_wp2_with fail
  go_ret2
  exact ⟨HB.out,_,rfl,HG2.out⟩
 ·go_wp2_with fail
  go_ret2
  refine ⟨HB.out.setCell (by simp) _,_,rfl,?_⟩
  have hs:=heap_setCell_same w2 (w1.heap.size+1) 9 _ 3 (.int .i64 1) HG2.out
  refine Eq.trans hs ?_
  simp [I]
set_option maxHeartbeats 1600000 in
theorem lookR_miss {rcs:List (Nat × Nat)} {w:World} {R:Nat} {v:Value} {td:Nat} {rec:ByteArray} {fs:List Value} {ls:List L} {os:List O} {ro:Ro} (h:RV os rcs ro w R v td rec fs ls) (n:Nat) (hn:n≤2147483647) (hi:¬ idx n ls<ls.length) :
  Calls Tryz.prog 74 #[.pointer (some ⟨R,0,none⟩),.int .i64 (n:Int)] w fun e w'=>w'=w∧e=.returned (.tuple #[.slice none 0 0,.int .i64 4]):=by
 have H1:=hide (at_any h n hn)
 have hat:atV ls n=-1:=by unfold atV;rw [if_neg hi]
 rw [hat] at H1
 clear h hi hat
 go_enter Tryz.func74,Tryz.ntmps74
 go_wp2_with (go_at_call 111;refine (H1.out).mono ?_;rintro e w1 ⟨rfl,rfl⟩)
 go_ret2
 exact ⟨rfl,rfl⟩
end Go.Proofs.YtgcedalggnmooaaGreatDoor
namespace Go.Proofs.YtgcedalggnmooaaGreatDoor
open Go.RowKit
set_option maxHeartbeats 1600000 in
theorem supplyR_any {rcs:List (Nat × Nat)} {w:World} {R:Nat} {v:Value} {td:Nat} {rec:ByteArray} {fs:List Value} {ls:List L} {os:List O} {ro:Ro} (h:RV os rcs ro w R v td rec fs ls) (goods gate:Nat) (h1:goods≤2147483647) (h2:gate≤2147483647) :
  Calls Tryz.prog 75 #[.pointer (some ⟨R,0,none⟩),.int .i64 (goods:Int),.int .i64 (gate:Int)] w fun e w'=>Below w.heap.size w w'∧∃ g,e=.returned (.slice (some ⟨g,0,none⟩) 2 2)∧w'.heap[g]?=some (.cells (I (supL rcs td goods gate ls)).toArray 3 (0,0)):=by
 obtain ⟨a,cap,hv,hrow⟩:=h.shape
 have c1:=h.c1
 rw [hv] at c1
 have hroom:=h.room
 have hRlt:=blk_lt h.store
 have HP:=hide h
 clear h hv
 go_enter Tryz.func75,Tryz.ntmps75
 go_wp2_with fail
 go_loopw [8,9] (fun i _ wr=>∃ k:Nat,k≤ls.length∧i=.int .i64 k∧wr.heap[w.heap.size]?=some (.cells #[.int .i64 ((srvI rcs td goods gate ls k).length:Nat),.int .i64 (freeOf ls (srvI rcs td goods gate ls k):Nat)] 3 (0,0))∧Below w.heap.size w wr) (fun i _ _=>ls.length - (intOf i).toNat)
 case atStart=>exact ⟨0,by omega,rfl,heap_alloc_new w _,al1 w _⟩
 case round =>
  obtain ⟨k,hk,rfl,hg,hb⟩:=hrel
  have hPr:=HP.out.below hb
  have c1':wr.cell? ⟨R,1,none⟩=some (.slice a ls.length cap):=(hb.cell (by exact hRlt)).trans c1
  by_cases hlt:k<ls.length
  ·obtain ⟨G,hG,hGlt,hcells⟩:=hrow (by omega)
   have HS:=hide (serves_any hPr k goods gate hlt h1 h2)
   rw [hG] at c1' c1
   have hfree:=(hPr.ok _ (mem_getD hlt)).sum
   have hlen:=srvI_len (rcs:=rcs) td goods gate ls k
   have hfl:freeOf ls (srvI rcs td goods gate ls k)≤2147483647 * 30:=by
    have h3:=freeOf_le ls hPr.ok (srvI rcs td goods gate ls k) (fun i hi=>Nat.lt_trans (srvI_lt hi) hlt)
    have:2147483647 * (srvI rcs td goods gate ls k).length≤2147483647 * 30:=Nat.mul_le_mul_left _ (by omega)
    omega
   have hc5:w.cell? ⟨G,k * 11+5,none⟩=some (.int .i64 ((ls.getD k L0).free:Int)):=hcells k hlt 5 (by omega)
   have hglt:w.heap.size<wr.heap.size:=blk_lt hg
   clear hcells hrow hPr
   cases hs:srv (recB rcs ls) td goods gate (ls.getD k L0) with
   | false =>
    have HN:=hide (srvI_no hs)
    rw [hs] at HS
    have HG:=hide hg
    clear hs hg
    go_wp2_with (go_at_call 120;refine (HS.out).mono ?_;rintro e w1 ⟨rfl,hb1⟩)
    go_roundw
    case rel=>exact ⟨k+1,by omega,by go_num,(by rw [HN.out,hb1.block _ hglt];exact HG.out),hb.trans (hb1.mono hb.size)⟩
    case measure=>simp [intOf];omega
   | true =>
    have HN:=hide (srvI_yes hs)
    rw [hs] at HS
    have HG:=hide hg
    obtain ⟨cn,HCn⟩:∃ cn,Hid (cn=(srvI rcs td goods gate ls k).length):=⟨_,rfl⟩
    obtain ⟨cf,HCf⟩:∃ cf,Hid (cf=freeOf ls (srvI rcs td goods gate ls k)):=⟨_,rfl⟩
    obtain ⟨fr,HFr⟩:∃ fr,Hid (fr=(ls.getD k L0).free):=⟨_,rfl⟩
    rw [← HCn.out,← HCf.out] at HG
    rw [← HCn.out] at hlen
    rw [← HCf.out] at hfl
    rw [← HFr.out] at hc5 hfree
    have HE:Hid ((srvI rcs td goods gate ls (k+1)).length=cn+1∧freeOf ls (srvI rcs td goods gate ls (k+1))=cf+fr):=by
     constructor
     ·rw [HN.out,HCn.out];simp
     ·rw [HN.out,freeOf_snoc,HCf.out,HFr.out]
    clear hs hg HN HCn HCf HFr
    go_wp2_with fail
    refine (HS.out).mono ?_
    rintro e w1 ⟨rfl,hb1⟩
    have hg1:=(hb1.block _ hglt).trans HG.out
    have g0:w1.cell? ⟨w.heap.size,0,none⟩=some (.int .i64 (cn:Int)):=by rw [blk_cell hg1];rfl
    have g1:w1.cell? ⟨w.heap.size,1,none⟩=some (.int .i64 (cf:Int)):=by rw [blk_cell hg1];rfl
    have gf0:=blk_free hg1 0
    have gf1:=blk_free hg1 1
    have hbb:=hb.trans (hb1.mono hb.size)
    have gR:w1.cell? ⟨R,1,none⟩=some (.slice (some ⟨G,0,none⟩) ls.length cap):=(hbb.cell (by exact hRlt)).trans c1
    have gG:w1.cell? ⟨G,k * 11+5,none⟩=some (.int .i64 (fr:Int)):=(hbb.cell (by exact hGlt)).trans hc5
    have hne1:¬ R=w.heap.size:=by omega
    have hne2:¬ G=w.heap.size:=by omega
    clear c1 c1' hc5 HS HG hb hb1
    go_wp2_with fail
    go_region
    go_wp2_with fail
    have hs1:=heap_setCell_same w1 w.heap.size 0 _ 3 (.int .i64 ((cn:Int)+1)) hg1
    have hs2:=heap_setCell_same _ w.heap.size 1 _ 3 (.int .i64 ((cf:Int)+(fr:Int))) hs1
    go_roundw
    case rel =>
     refine ⟨k+1,by omega,by go_num,?_,((hbb.setCell (by simp) _).setCell (by simp) _).drew⟩
     rw [HE.out.1,HE.out.2]
     refine Eq.trans hs2 ?_
     simp
    case measure=>simp [intOf];omega
  ·obtain rfl:k=ls.length:=by omega
   clear hrow hlt
   go_wp2_with fail
   go_ret
   exact ⟨hb,w.heap.size,rfl,hg⟩
theorem tU35:Tryz.prog.underlying 38=some (.slice 129):=by kernel_rfl
theorem info82:(Tryz.prog.info? 129).map (fun i=>(i.zero,i.size,i.bytes))=some (some (.agg #[.int .i64 0,.int .i64 0,.int .i64 0,.int .i64 0,.int .i64 0,.int .i64 0,.int .i64 0,.int .i64 0,.int .i64 0,.int .i64 0,.slice none 0 0]),11,104):=by kernel_rfl
def Ro.lot (ro:Ro) (f:Value) (ps:List (Nat × Nat)):Ro:={ ro with fvs:=ro.fvs++[f],pss:=ro.pss++[dpar ps] }
theorem OB_lot {ro:Ro} {f:Value} {ps:List (Nat × Nat)} {b:Nat} (h:OB (ro.lot f ps) b):OB ro b∨f.ownBlock=some b:=by
 rcases h with h | h | h | ⟨i,hi,h⟩
 ·exact Or.inl (Or.inl h)
 ·exact Or.inl (Or.inr (Or.inl h))
 ·exact Or.inl (Or.inr (Or.inr (Or.inl h)))
 ·have hi':i<(ro.fvs++[f]).length:=hi
  have h':((ro.fvs++[f]).getD i default).ownBlock=some b:=h
  rw [List.length_append,List.length_singleton] at hi'
  by_cases hlt:i<ro.fvs.length
  ·rw [getD_snoc_lt _ _ _ _ hlt] at h'
   exact Or.inl (Or.inr (Or.inr (Or.inr ⟨i,hlt,h'⟩)))
  ·rw [getD_snoc_eq _ _ _ _ (by omega)] at h'
   exact Or.inr h'
theorem RV.added {rcs:List (Nat × Nat)} {w W1 W2:World} {R:Nat} {v v':Value} {td:Nat} {rec:ByteArray} {fs:List Value} {ls:List L} {os:List O} {ro:Ro} (h:RV os rcs ro w R v td rec fs ls) {l:L} {f:Value}
  (hW1:∀ k,k<w.heap.size→W1.heap[k]?=w.heap[k]?) (hg:W1.grownBy W2 v.ownBlock) (hsz:w.heap.size≤W1.heap.size) (hown:W2.ownsRow 0 129 11 v' (ls.length+1) (flat ls fs++refCells l f)) (hl:L.Ok l) (hf:Prs 181 w f (dpar l.par)) (hfap:∀ g,f.ownBlock=some g→ro.rv.ownBlock≠some g) (hfam:Fam (ls++[l])) (hlen:ls.length<30) :
  RV os rcs (ro.lot f l.par) (W2.setCell ⟨R,1,none⟩ v') R v' td rec (fs++[f]) (ls++[l]):=by
 have hR:=blk_lt h.store
 have hrowR:v.ownBlock≠some R:=fun e=>by
  obtain ⟨cs,hc⟩:=own_ty h.row e
  exact ty_ne h.store hc (by decide) rfl
 have hR2:=((hg.block R (by omega) (fun e=>hrowR e.symm)).trans (hW1 R hR)).trans h.store
 have keep:∀ (g:Nat) (cs:Array Value) (t:TypeId),w.heap[g]?=some (.cells cs t (0,0))→t≠42→t≠129→(W2.setCell ⟨R,1,none⟩ v').heap[g]?=w.heap[g]?:=fun g cs t hc h1 h2=>by
  have hlt:=blk_lt hc
  have hgv:some g≠v.ownBlock:=fun e=>by
   obtain ⟨cs',hc'⟩:=own_ty h.row e.symm
   exact ty_ne hc hc' h2 rfl
  rw [Below.heap_setCell _ _ _ _ (ty_ne hc h.store h1),hg.block g (by omega) hgv,hW1 g hlt]
 refine ⟨?_,?_,by simp [h.flen],?_,?_,h.today,?_,by simp;omega,hfam,h.rc⟩
 ·have:=heap_setCell_same W2 R 1 _ 42 v' hR2
  simpa [Ro.lot] using this
 ·have hk:=hown.kept (grownBy_setCell W2 ⟨R,1,none⟩ v') (Or.inr (fun e=>by
   obtain ⟨cs,hc⟩:=own_ty hown (g:=R) e
   exact ty_ne hR2 hc (by decide) rfl))
  rw [flat_snoc ls fs l f h.flen,List.length_append];exact hk
 ·exact ⟨by show ro.fvs++[f]=_;rw [h.fro.1],by show ro.pss++[dpar l.par]=_;rw [h.fro.2];simp⟩
 ·have ho:=h.ord.congr (w':=W2.setCell ⟨R,1,none⟩ v') (fun g hgo=>by
   obtain ⟨cs,t,hc,ht⟩:=h.ord.ty hgo
   refine keep g cs t hc ?_ ?_ <;> (rcases ht with rfl | rfl <;> decide))
  have hfl:=ho.fd.flen
  refine ⟨ho.row,ho.llen,ho.lines,ho.fd.rrow,?_,fun i hi=>?_,fun g hgr=>⟨(ho.fd.apart g hgr).1,?_⟩⟩
  ·show (ro.fvs++[f]).length=(ro.pss++[dpar l.par]).length
   simp [hfl]
  ·have hi':i<(ro.fvs++[f]).length:=hi
   rw [List.length_append,List.length_singleton] at hi'
   show Prs 181 _ ((ro.fvs++[f]).getD i default) ((ro.pss++[dpar l.par]).getD i [])
   by_cases hlt:i<ro.fvs.length
   ·rw [getD_snoc_lt _ _ _ _ hlt,getD_snoc_lt _ _ _ _ (by omega)]
    exact ho.fd.frm i hlt
   ·rw [getD_snoc_eq _ _ _ _ (by omega),getD_snoc_eq _ _ _ _ (by omega)]
    exact hf.congr (fun q hq=>by obtain ⟨cs,hc⟩:=hf.blk hq;exact keep q cs _ hc (by decide) (by decide))
  ·rintro ⟨i,hi,hb⟩
   have hi':i<(ro.fvs++[f]).length:=hi
   have hb':((ro.fvs++[f]).getD i default).ownBlock=some g:=hb
   rw [List.length_append,List.length_singleton] at hi'
   by_cases hlt:i<ro.fvs.length
   ·rw [getD_snoc_lt _ _ _ _ hlt] at hb'
    exact (ho.fd.apart g hgr).2 ⟨i,hlt,hb'⟩
   ·rw [getD_snoc_eq _ _ _ _ (by omega)] at hb'
    exact hfap g hb' hgr
 ·intro x hx
  rcases List.mem_append.1 hx with hx | hx
  ·exact h.ok x hx
  ·simp at hx;subst hx;exact hl
set_option maxHeartbeats 1600000 in
theorem addR_any {rcs:List (Nat × Nat)} {w:World} {R:Nat} {v:Value} {td:Nat} {rec:ByteArray} {fs:List Value} {ls:List L} {os:List O} {ro:Ro} (h:RV os rcs ro w R v td rec fs ls) (id goods expiry n:Nat) (fa:Option Addr) (fl fc:Nat) (ps:List (Nat × Nat)) (hfr:Prs 181 w (.slice fa fl fc) (dpar ps)) (hfap:∀ g,(Value.slice fa fl fc).ownBlock=some g→ro.rv.ownBlock≠some g) (hps:ps.length≤2∧∀ p ∈ ps,p.1≤2147483647) (hfam:Fam (ls++[{ id:=id,goods:=goods,expiry:=expiry,place:=ls.length+1,got:=n,free:=n,held:=0,shipped:=0,scrapped:=0,given:=0,par:=ps }])) (hlen:ls.length<30) (h1:id≤2147483647) (h2:goods≤2147483647) (h3:expiry≤2147483647) (h4:n≤2147483647) :
  Calls Tryz.prog 110 #[.pointer (some ⟨R,0,none⟩),.int .i64 (id:Int),.int .i64 (goods:Int),.int .i64 (expiry:Int),.int .i64 (n:Int),.slice fa fl fc] w fun e w'=>e=.returned (.tuple #[])∧Kp (fun k=>k=R∨v.ownBlock=some k) w w' ∧
   ∃ v',RV os rcs (ro.lot (.slice fa fl fc) ps) w' R v' td rec (fs++[.slice fa fl fc]) (ls++[{ id:=id,goods:=goods,expiry:=expiry,place:=ls.length+1,got:=n,free:=n,held:=0,shipped:=0,scrapped:=0,given:=0,par:=ps }])∧(∀ g,v'.ownBlock=some g→v.ownBlock=some g∨w.heap.size≤g):=by
 obtain ⟨i0,hi,hz0,hz1,hz2⟩:=info_parts info82
 obtain ⟨a,cap,hv,_⟩:=h.shape
 have hR:=blk_lt h.store
 have c1:=h.c1
 have f1:=blk_free h.store 1
 have hrow:=h.row
 rw [hv] at c1 hrow
 have HP:=hide h
 obtain ⟨m,HN⟩:∃ m,Hid (m=ls.length):=⟨_,rfl⟩
 rw [← HN.out] at c1 hrow hlen
 have HV:=hide hv
 have hvR:(Value.slice a m cap).ownBlock≠some R:=fun e=>by
  obtain ⟨cs,hc⟩:=own_ty hrow e
  exact ty_ne h.store hc (by decide) rfl
 obtain ⟨o,HO⟩:∃ o,Hid (o=Obj.cells #[.int .i64 (id:Int),.int .i64 (goods:Int),.int .i64 (expiry:Int),.int .i64 ((m:Int)+1),.int .i64 (n:Int),.int .i64 (n:Int),.int .i64 0,.int .i64 0,.int .i64 0,.int .i64 0,.slice fa fl fc] 129):=⟨_,rfl⟩
 have hbl:Below w.heap.size w (w.alloc (Obj.cells #[.int .i64 (id:Int),.int .i64 (goods:Int),.int .i64 (expiry:Int),.int .i64 ((m:Int)+1),.int .i64 (n:Int),.int .i64 (n:Int),.int .i64 0,.int .i64 0,.int .i64 0,.int .i64 0,.slice fa fl fc] 129)).drew:=(al1 w _).drew
 have hbk:(w.alloc (Obj.cells #[.int .i64 (id:Int),.int .i64 (goods:Int),.int .i64 (expiry:Int),.int .i64 ((m:Int)+1),.int .i64 (n:Int),.int .i64 (n:Int),.int .i64 0,.int .i64 0,.int .i64 0,.int .i64 0,.slice fa fl fc] 129)).drew.heap[w.heap.size]?=some (Obj.cells #[.int .i64 (id:Int),.int .i64 (goods:Int),.int .i64 (expiry:Int),.int .i64 ((m:Int)+1),.int .i64 (n:Int),.int .i64 (n:Int),.int .i64 0,.int .i64 0,.int .i64 0,.int .i64 0,.slice fa fl fc] 129):=heap_alloc_new w _
 have hone:∀ u ∈ ([.int .i64 (id:Int),.int .i64 (goods:Int),.int .i64 (expiry:Int),.int .i64 (m+1),.int .i64 (n:Int),.int .i64 (n:Int),.int .i64 0,.int .i64 0,.int .i64 0,.int .i64 0,.slice fa fl fc]:List Value),u.oneCell'=true:=by
  intro u hu
  simp only [List.mem_cons,List.not_mem_nil,or_false] at hu
  rcases hu with rfl | rfl | rfl | rfl | rfl | rfl | rfl | rfl | rfl | rfl | rfl <;> rfl
 have HVR:=hide (Ne.symm hvR)
 have hcA:(w.alloc (Obj.cells #[.int .i64 (id:Int),.int .i64 (goods:Int),.int .i64 (expiry:Int),.int .i64 ((m:Int)+1),.int .i64 (n:Int),.int .i64 (n:Int),.int .i64 0,.int .i64 0,.int .i64 0,.int .i64 0,.slice fa fl fc] 129)).drew.cell? ⟨R,1,none⟩=some (.slice a m cap):=(hbl.cell (by exact hR)).trans c1
 have hfA:(w.alloc (Obj.cells #[.int .i64 (id:Int),.int .i64 (goods:Int),.int .i64 (expiry:Int),.int .i64 ((m:Int)+1),.int .i64 (n:Int),.int .i64 (n:Int),.int .i64 0,.int .i64 0,.int .i64 0,.int .i64 0,.slice fa fl fc] 129)).drew.frozen? ⟨R,1,none⟩=false:=(hbl.frozen (by exact hR)).trans f1
 have HszA:Hid (R<(w.alloc (Obj.cells #[.int .i64 (id:Int),.int .i64 (goods:Int),.int .i64 (expiry:Int),.int .i64 ((m:Int)+1),.int .i64 (n:Int),.int .i64 (n:Int),.int .i64 0,.int .i64 0,.int .i64 0,.int .i64 0,.slice fa fl fc] 129)).drew.heap.size):=Nat.lt_of_lt_of_le hR hbl.size
 have HbA:=hide hbl
 clear hvR
 have hwr:IntKind.i64.wrap ((m:Int)+1)=(m:Int)+1:=by rw [IntWalk.i64_left];exact wrap64_in _ ⟨by omega,by omega⟩
 have HFr:=hide hfr
 have HFa:=hide hfap
 have HFam:=hide hfam
 clear h hv hfr hfap hfam
 go_enter Tryz.func110,Tryz.ntmps110
 go_wp2_with fail
 go_region_law (refine step_append_lies _ rfl _ _ 38 rfl 0 129 i0 (.agg #[.int .i64 0,.int .i64 0,.int .i64 0,.int .i64 0,.int .i64 0,.int .i64 0,.int .i64 0,.int .i64 0,.int .i64 0,.int .i64 0,.slice none 0 0]) 11 104 tU35 hi hz0 hz1 hz2 rfl (by decide) (.slice a m cap) m (flat ls fs) rfl (own_below hrow hbl) ⟨w.heap.size,0,none⟩ 1 1 [.int .i64 (id:Int),.int .i64 (goods:Int),.int .i64 (expiry:Int),.int .i64 (m+1),.int .i64 (n:Int),.int .i64 (n:Int),.int .i64 0,.int .i64 0,.int .i64 0,.int .i64 0,.slice fa fl fc] rfl rfl (World.news_of_block hbk) hone (by decide) (by unfold maxLen;omega) (by omega) (Nat.zero_le _) (w.heap.size+1) (by simp) ?_;intro g cap' w1 hown2 hgrow hat hlt;have hcw:=(hgrow.cell_far ⟨R,1,none⟩ HszA.out HVR.out).trans hcA;have hfw:=(hgrow.frozen_far ⟨R,1,none⟩ HszA.out HVR.out).trans hfA)
 all_goals
  clear hcA hfA hcw hfw
  have hvb:v.ownBlock=(Value.slice a m cap).ownBlock:=by rw [HV.out,HN.out]
  have hgr:((w.alloc (Obj.cells #[.int .i64 (id:Int),.int .i64 (goods:Int),.int .i64 (expiry:Int),.int .i64 ((m:Int)+1),.int .i64 (n:Int),.int .i64 (n:Int),.int .i64 0,.int .i64 0,.int .i64 0,.int .i64 0,.slice fa fl fc] 129)).drew).grownBy w1 v.ownBlock:=by rw [hvb];exact hgrow
  have hnew:=HP.out.added (l:={ id:=id,goods:=goods,expiry:=expiry,place:=ls.length+1,got:=n,free:=n,held:=0,shipped:=0,scrapped:=0,given:=0,par:=ps }) (f:=.slice fa fl fc) (v':=.slice (some ⟨g,0,none⟩) (m+1) cap') (fun k hk=>HbA.out.block k hk) hgr HbA.out.size (by rw [← HN.out];exact hown2) ⟨h1,h2,h3,(by show ls.length+1≤30;have:=HN.out;omega),(by simp;omega),h4,hps⟩ HFr.out HFa.out HFam.out (by have:=HN.out;omega)
  have hkp:Kp (fun k=>k=R∨v.ownBlock=some k) w (w1.setCell ⟨R,1,none⟩ (.slice (some ⟨g,0,none⟩) (m+1) cap')):=by
   refine Kp.setCell ?_ (Or.inl (Or.inl rfl)) _
   exact Kp.grown (kpB HbA.out) hgr (fun k hk=>Or.inl (Or.inr hk))
  have hat':∀ g',(Value.slice (some ⟨g,0,none⟩) (m+1) cap').ownBlock=some g'→v.ownBlock=some g'∨w.heap.size≤g':=fun g' hg'=>by
   cases hg'
   rcases hat with h | h
   ·left;rw [hvb];exact h
   ·right;simp at h ⊢;omega
  have HNew:=hide hnew
  have HK:=hide hkp
  have HA:=hide hat'
  clear hnew hkp hat' hgr hvb hgrow hat hlt hown2 hbk hbl hone hwr c1 f1 hrow
  go_wp2_with fail
  go_end0
  exact ⟨rfl,HK.out,_,HNew.out,HA.out⟩
end Go.Proofs.YtgcedalggnmooaaGreatDoor
