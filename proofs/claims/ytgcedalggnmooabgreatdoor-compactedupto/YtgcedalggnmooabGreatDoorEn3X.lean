import Derived.Test.YtgcedalggnmooabGreatDoorEn0X
set_option linter.unusedSimpArgs false
set_option linter.unusedVariables false
set_option maxRecDepth 100000
namespace Go.Proofs.YtgcedalggnmooabGreatDoor
open Go.RowKit
set_option maxHeartbeats 3200000 in
theorem cancel_any {rcs:List (Nat × Nat)} {w:World} {S:Nat} {M:Mx} {v:Value} {td:Nat} {bs:List Nat} {pvs:List Value} {ls:List L} {os:List O} (h:PV os rcs w S M v td bs pvs ls) (hgo:Good os ls) (a:Nat) (ha:a≤2147483647) :
  Calls Tryz.prog 52 #[.pointer (some ⟨S,0,none⟩),.agg #[.int .i64 (a:Int)]] w fun e w'=>Kp (fun k=>k=M.o∨k=M.h∨k ∈ bs) w w'∧e=.returned (.int .i64 (endC os a:Int))∧PV (os.filter (fun o=>o.id != a)) rcs w' S M v td bs pvs (ls.map (finL freeL os a)):=by
 have hal:=al1 w (Obj.cells #[.int .i64 (a:Int)] 101)
 have hbx:=heap_alloc_new w (Obj.cells #[.int .i64 (a:Int)] 101)
 have hP:=h.below hal
 have HH:=hide (hasOrder_any hP a ha)
 cases hany:os.any (fun o=>o.id == a) with
 | false =>
  have HC:Hid (endC os a=9):=by unfold Hid endC;rw [hany];rfl
  have HN:=hide (fin_none hany freeL ls)
  rw [hany] at HH
  have HP:=hide hP
  clear hP h hany hgo
  go_enter Tryz.func52,Tryz.ntmps52
  go_wp2_with (go_at_call 79;with_reducible refine (HH.out).mono ?_;rintro e w1 ⟨rfl,rfl⟩)
  go_ret
  exact ⟨kpB hal,by rw [HC.out];rfl,by rw [HN.out.1,HN.out.2];exact HP.out⟩
 | true =>
  have HC:Hid (endC os a=0):=by unfold Hid endC;rw [hany];rfl
  have HE:=hide (end_any hP hgo a ha hany)
  rw [hany] at HH
  have HGO:=hide hgo
  have HOK:=hide h.ok
  have hroom:=h.room
  have k0:(w.alloc (Obj.cells #[.int .i64 (a:Int)] 101)).cell? ⟨w.heap.size,0,none⟩=some (.int .i64 (a:Int)):=by rw [blk_cell hbx];rfl
  have HAL:=hide hal
  clear hP h hany hgo hbx
  go_enter Tryz.func52,Tryz.ntmps52
  go_wp2_with (first | (go_at_call 79;with_reducible refine (HH.out).mono ?_;rintro e w1 ⟨rfl,rfl⟩) | fail)
  with_reducible refine (HE.out).mono ?_
  rintro e w2 ⟨hk2,hP2,lv,rfl,ho2⟩
  obtain ⟨la,lcap,hlv⟩:=own_shapeS ho2
  subst hlv
  have hqlen:(endQ os a ls ls.length).length≤30:=Nat.le_trans (endQ_len os a ls _) hroom
  have HK2:Hid (Kp (fun k=>k=M.o∨k=M.h∨k ∈ bs) w w2):=Kp.before HAL.out (hk2.mono (fun k hk=>Or.inl hk))
  have HQM:Hid (∀ p ∈ endQ os a ls ls.length,p.1<ls.length∧lineOf os a (ls.getD p.1 L0).id=some p.2):=fun p hp=>endQ_mem hp
  have HQN:Hid (((endQ os a ls ls.length).map Prod.fst).Nodup):=endQ_fst os a ls _
  have HUF:=hide (upd_fin freeL os a ls)
  generalize endQ os a ls ls.length=l at *
  have HP2:=hide hP2
  have HO2:=hide ho2
  clear hk2 hP2 ho2 HE HH k0
  go_wp2_with fail
  go_loopw [6,17] (fun _ ii wr=>∃ k:Nat,ii=.int .i64 k∧k≤l.length∧Kp (fun k=>k=M.o∨k=M.h∨k ∈ bs) w wr∧PV (os.filter (fun o=>o.id != a)) rcs wr S M v td bs pvs (updS freeL (ls.map (endL os a)) (l.take k))∧wr.ownsRow 0 163 2 (.slice la l.length lcap) l.length (lineCells bs l)) (fun _ ii _=>l.length - (intOf ii).toNat)
  case atStart=>exact ⟨0,rfl,by omega,HK2.out,HP2.out,HO2.out⟩
  case round =>
   clear HP2 HO2 HK2
   obtain ⟨k,rfl,hk,hkp,hP,hrow⟩:=hrel
   by_cases hlt:k<l.length
   ·obtain ⟨G,rfl,hGlt,g1,g2⟩:=lines_cells hrow k hlt
    have hpm:l.getD k (0,0) ∈ l:=by simp [List.getD_eq_getElem?_getD,hlt]
    have et:l.take (k+1)=l.take k++[l.getD k (0,0)]:=by
     rw [List.take_succ_eq_append_getElem hlt];simp [List.getD_eq_getElem?_getD,hlt]
    obtain ⟨hc,hln⟩:=HQM.out _ hpm
    have hnotin:(l.getD k (0,0)).1 ∉ (l.take k).map Prod.fst:=by
     have:=HQN.out
     have e2:l.map Prod.fst=((l.take k).map Prod.fst++[(l.getD k (0,0)).1])++(l.drop (k+1)).map Prod.fst:=by
      conv=>lhs;rw [← List.take_append_drop (k+1) l,et]
      simp
     rw [e2] at this
     have:=(List.nodup_append.1 (List.nodup_append.1 this).1).2.2
     intro hm
     exact this _ hm _ (by simp) rfl
    generalize hpk:l.getD k (0,0)=p at *
    obtain ⟨c,n⟩:=p
    simp only at *
    clear hpk hpm
    have hlk:(updS freeL (ls.map (endL os a)) (l.take k)).length=ls.length:=by rw [updS_len];simp
    have hout:(updS freeL (ls.map (endL os a)) (l.take k)).getD c L0=endL os a (ls.getD c L0):=by rw [updS_out freeL _ _ hnotin,getD_map hc]
    have hcl0:=hP.lot c (by rw [hlk];exact hc)
    rw [hout] at hcl0
    have hok0:=HOK.out _ (mem_getD hc)
    have hnh:n≤(ls.getD c L0).held:=by rw [HGO.out.held c hc];exact line_le hln
    have hok1:L.Ok (freeL (endL os a (ls.getD c L0)) n):=free_ok hok0 hln hnh
    have hls:updS freeL (ls.map (endL os a)) (l.take (k+1))=(updS freeL (ls.map (endL os a)) (l.take k)).set c (freeL (endL os a (ls.getD c L0)) n):=by rw [et,updS_snoc,hout]
    have hbmem:bs.getD c 0 ∈ bs:=getD_mem_nat (by rw [hP.len,hlk];exact hc)
    have hB:=al1 wr (.cells #[.pointer (some ⟨bs.getD c 0,0,none⟩),.int .i64 (n:Int)] 163)
    have hbox:=heap_alloc_new wr (.cells #[.pointer (some ⟨bs.getD c 0,0,none⟩),.int .i64 (n:Int)] 163)
    have hblt:=blk_lt hcl0
    have hcl1:=(hB.block _ hblt).trans hcl0
    have hP1:=hP.below hB
    have hrow1:=own_below hrow hB
    have hsum:=hok0.sum
    have d0:(wr.alloc (.cells #[.pointer (some ⟨bs.getD c 0,0,none⟩),.int .i64 (n:Int)] 163)).cell? ⟨wr.heap.size,0,none⟩=some (.pointer (some ⟨bs.getD c 0,0,none⟩)):=by rw [blk_cell hbox];rfl
    have d1:(wr.alloc (.cells #[.pointer (some ⟨bs.getD c 0,0,none⟩),.int .i64 (n:Int)] 163)).cell? ⟨wr.heap.size,1,none⟩=some (.int .i64 (n:Int)):=by rw [blk_cell hbox];rfl
    have e6:(wr.alloc (.cells #[.pointer (some ⟨bs.getD c 0,0,none⟩),.int .i64 (n:Int)] 163)).cell? ⟨bs.getD c 0,6,none⟩=some (.int .i64 ((ls.getD c L0).free:Int)):=by rw [blk_cell hcl1];rfl
    have f6:=blk_free hcl1 6
    have hself:((wr.alloc (.cells #[.pointer (some ⟨bs.getD c 0,0,none⟩),.int .i64 (n:Int)] 163)).setCell ⟨bs.getD c 0,6,none⟩ (.int .i64 (((ls.getD c L0).free:Int)+(n:Int)))).heap[bs.getD c 0]?=some (.cells (lotCells (freeL (endL os a (ls.getD c L0)) n) (pvs.getD c default)) 153 (0,0)):=by
     have:=heap_setCell_same _ (bs.getD c 0) 6 _ 153 (.int .i64 (((ls.getD c L0).free:Int)+(n:Int))) hcl1
     exact this
    have hP4:PV (os.filter (fun o=>o.id != a)) rcs ((wr.alloc (.cells #[.pointer (some ⟨bs.getD c 0,0,none⟩),.int .i64 (n:Int)] 163)).setCell ⟨bs.getD c 0,6,none⟩ (.int .i64 (((ls.getD c L0).free:Int)+(n:Int)))) S M v td bs pvs (updS freeL (ls.map (endL os a)) (l.take (k+1))):=by
     rw [hls]
     exact hP1.lotset (i:=c) (by rw [hlk];exact hc) hok1 (by rw [hout];rfl) hself (fun q _ hq=>Below.heap_setCell _ _ _ _ hq)
    have hr4:((wr.alloc (.cells #[.pointer (some ⟨bs.getD c 0,0,none⟩),.int .i64 (n:Int)] 163)).setCell ⟨bs.getD c 0,6,none⟩ (.int .i64 (((ls.getD c L0).free:Int)+(n:Int)))).ownsRow 0 163 2 (.slice (some ⟨G,0,none⟩) l.length lcap) l.length (lineCells bs l):=own_congr hrow1 (fun q hq=>by
     obtain ⟨cs,hcs⟩:=own_ty hrow1 hq
     exact Below.heap_setCell _ _ _ _ (ty_ne hcs hcl1 (by decide)))
    have hk4:Kp (fun k=>k=M.o∨k=M.h∨k ∈ bs) w ((wr.alloc (.cells #[.pointer (some ⟨bs.getD c 0,0,none⟩),.int .i64 (n:Int)] 163)).setCell ⟨bs.getD c 0,6,none⟩ (.int .i64 (((ls.getD c L0).free:Int)+(n:Int)))):=(hkp.after hB).setCell (p:=⟨bs.getD c 0,6,none⟩) (Or.inl (Or.inr (Or.inr hbmem))) _
    have HP4:=hide hP4
    have HR4:=hide hr4
    have HK4:=hide hk4
    have hfb:(ls.getD c L0).free+n≤2147483647:=by omega
    generalize (ls.getD c L0).free=fr at *
    generalize bs.getD c 0=bc at *
    clear et hc hln hnotin hlk hout hcl0 hok0 hnh hok1 hls hbmem hcl1 hP1 hrow1 hsum hself hP4 hr4 hk4 hP hrow hkp
    have hBne:¬ wr.heap.size=bc:=by omega
    go_wp2_with fail
    generalize (wr.alloc (.cells #[.pointer (some ⟨bc,0,none⟩),.int .i64 (n:Int)] 163))=wb at *
    clear hbox hB
    go_region
    go_wp2_with fail
    go_roundw
    case rel=>exact ⟨k+1,by go_num,by omega,HK4.out.after ((Below.refl _ _).drew),HP4.out.below ((Below.refl _ _).drew),own_below HR4.out ((Below.refl _ _).drew)⟩
    case measure=>simp [intOf];omega
   ·obtain rfl:k=l.length:=by omega
    rw [List.take_length,HUF.out] at hP
    have HP:=hide hP
    have HK:=hide hkp
    clear hlt hP hkp hrow
    go_wp2_with fail
    go_ret
    exact ⟨HK.out,by rw [HC.out];rfl,HP.out⟩
end Go.Proofs.YtgcedalggnmooabGreatDoor
namespace Go.Proofs.YtgcedalggnmooabGreatDoor
open Go.RowKit
set_option maxHeartbeats 3200000 in
theorem ship_any {rcs:List (Nat × Nat)} {w:World} {S:Nat} {M:Mx} {v:Value} {td:Nat} {bs:List Nat} {pvs:List Value} {ls:List L} {os:List O} (h:PV os rcs w S M v td bs pvs ls) (hgo:Good os ls) (a:Nat) (ha:a≤2147483647) :
  Calls Tryz.prog 53 #[.pointer (some ⟨S,0,none⟩),.agg #[.int .i64 (a:Int)]] w fun e w'=>Kp (fun k=>k=M.o∨k=M.h∨k ∈ bs) w w'∧e=.returned (.int .i64 (endC os a:Int))∧PV (os.filter (fun o=>o.id != a)) rcs w' S M v td bs pvs (ls.map (finL shipL os a)):=by
 have hal:=al1 w (Obj.cells #[.int .i64 (a:Int)] 103)
 have hbx:=heap_alloc_new w (Obj.cells #[.int .i64 (a:Int)] 103)
 have hP:=h.below hal
 have HH:=hide (hasOrder_any hP a ha)
 cases hany:os.any (fun o=>o.id == a) with
 | false =>
  have HC:Hid (endC os a=9):=by unfold Hid endC;rw [hany];rfl
  have HN:=hide (fin_none hany shipL ls)
  rw [hany] at HH
  have HP:=hide hP
  clear hP h hany hgo
  go_enter Tryz.func53,Tryz.ntmps53
  go_wp2_with (go_at_call 79;with_reducible refine (HH.out).mono ?_;rintro e w1 ⟨rfl,rfl⟩)
  go_ret
  exact ⟨kpB hal,by rw [HC.out];rfl,by rw [HN.out.1,HN.out.2];exact HP.out⟩
 | true =>
  have HC:Hid (endC os a=0):=by unfold Hid endC;rw [hany];rfl
  have HE:=hide (end_any hP hgo a ha hany)
  rw [hany] at HH
  have HGO:=hide hgo
  have HOK:=hide h.ok
  have hroom:=h.room
  have k0:(w.alloc (Obj.cells #[.int .i64 (a:Int)] 103)).cell? ⟨w.heap.size,0,none⟩=some (.int .i64 (a:Int)):=by rw [blk_cell hbx];rfl
  have HAL:=hide hal
  clear hP h hany hgo hbx
  go_enter Tryz.func53,Tryz.ntmps53
  go_wp2_with (first | (go_at_call 79;with_reducible refine (HH.out).mono ?_;rintro e w1 ⟨rfl,rfl⟩) | fail)
  with_reducible refine (HE.out).mono ?_
  rintro e w2 ⟨hk2,hP2,lv,rfl,ho2⟩
  obtain ⟨la,lcap,hlv⟩:=own_shapeS ho2
  subst hlv
  have hqlen:(endQ os a ls ls.length).length≤30:=Nat.le_trans (endQ_len os a ls _) hroom
  have HK2:Hid (Kp (fun k=>k=M.o∨k=M.h∨k ∈ bs) w w2):=Kp.before HAL.out (hk2.mono (fun k hk=>Or.inl hk))
  have HQM:Hid (∀ p ∈ endQ os a ls ls.length,p.1<ls.length∧lineOf os a (ls.getD p.1 L0).id=some p.2):=fun p hp=>endQ_mem hp
  have HQN:Hid (((endQ os a ls ls.length).map Prod.fst).Nodup):=endQ_fst os a ls _
  have HUF:=hide (upd_fin shipL os a ls)
  generalize endQ os a ls ls.length=l at *
  have HP2:=hide hP2
  have HO2:=hide ho2
  clear hk2 hP2 ho2 HE HH k0
  go_wp2_with fail
  go_loopw [6,17] (fun _ ii wr=>∃ k:Nat,ii=.int .i64 k∧k≤l.length∧Kp (fun k=>k=M.o∨k=M.h∨k ∈ bs) w wr∧PV (os.filter (fun o=>o.id != a)) rcs wr S M v td bs pvs (updS shipL (ls.map (endL os a)) (l.take k))∧wr.ownsRow 0 163 2 (.slice la l.length lcap) l.length (lineCells bs l)) (fun _ ii _=>l.length - (intOf ii).toNat)
  case atStart=>exact ⟨0,rfl,by omega,HK2.out,HP2.out,HO2.out⟩
  case round =>
   clear HP2 HO2 HK2
   obtain ⟨k,rfl,hk,hkp,hP,hrow⟩:=hrel
   by_cases hlt:k<l.length
   ·obtain ⟨G,rfl,hGlt,g1,g2⟩:=lines_cells hrow k hlt
    have hpm:l.getD k (0,0) ∈ l:=by simp [List.getD_eq_getElem?_getD,hlt]
    have et:l.take (k+1)=l.take k++[l.getD k (0,0)]:=by
     rw [List.take_succ_eq_append_getElem hlt];simp [List.getD_eq_getElem?_getD,hlt]
    obtain ⟨hc,hln⟩:=HQM.out _ hpm
    have hnotin:(l.getD k (0,0)).1 ∉ (l.take k).map Prod.fst:=by
     have:=HQN.out
     have e2:l.map Prod.fst=((l.take k).map Prod.fst++[(l.getD k (0,0)).1])++(l.drop (k+1)).map Prod.fst:=by
      conv=>lhs;rw [← List.take_append_drop (k+1) l,et]
      simp
     rw [e2] at this
     have:=(List.nodup_append.1 (List.nodup_append.1 this).1).2.2
     intro hm
     exact this _ hm _ (by simp) rfl
    generalize hpk:l.getD k (0,0)=p at *
    obtain ⟨c,n⟩:=p
    simp only at *
    clear hpk hpm
    have hlk:(updS shipL (ls.map (endL os a)) (l.take k)).length=ls.length:=by rw [updS_len];simp
    have hout:(updS shipL (ls.map (endL os a)) (l.take k)).getD c L0=endL os a (ls.getD c L0):=by rw [updS_out shipL _ _ hnotin,getD_map hc]
    have hcl0:=hP.lot c (by rw [hlk];exact hc)
    rw [hout] at hcl0
    have hok0:=HOK.out _ (mem_getD hc)
    have hnh:n≤(ls.getD c L0).held:=by rw [HGO.out.held c hc];exact line_le hln
    have hok1:L.Ok (shipL (endL os a (ls.getD c L0)) n):=ship_ok hok0 hln hnh
    have hls:updS shipL (ls.map (endL os a)) (l.take (k+1))=(updS shipL (ls.map (endL os a)) (l.take k)).set c (shipL (endL os a (ls.getD c L0)) n):=by rw [et,updS_snoc,hout]
    have hbmem:bs.getD c 0 ∈ bs:=getD_mem_nat (by rw [hP.len,hlk];exact hc)
    have hB:=al1 wr (.cells #[.pointer (some ⟨bs.getD c 0,0,none⟩),.int .i64 (n:Int)] 163)
    have hbox:=heap_alloc_new wr (.cells #[.pointer (some ⟨bs.getD c 0,0,none⟩),.int .i64 (n:Int)] 163)
    have hblt:=blk_lt hcl0
    have hcl1:=(hB.block _ hblt).trans hcl0
    have hP1:=hP.below hB
    have hrow1:=own_below hrow hB
    have hsum:=hok0.sum
    have d0:(wr.alloc (.cells #[.pointer (some ⟨bs.getD c 0,0,none⟩),.int .i64 (n:Int)] 163)).cell? ⟨wr.heap.size,0,none⟩=some (.pointer (some ⟨bs.getD c 0,0,none⟩)):=by rw [blk_cell hbox];rfl
    have d1:(wr.alloc (.cells #[.pointer (some ⟨bs.getD c 0,0,none⟩),.int .i64 (n:Int)] 163)).cell? ⟨wr.heap.size,1,none⟩=some (.int .i64 (n:Int)):=by rw [blk_cell hbox];rfl
    have e6:(wr.alloc (.cells #[.pointer (some ⟨bs.getD c 0,0,none⟩),.int .i64 (n:Int)] 163)).cell? ⟨bs.getD c 0,8,none⟩=some (.int .i64 ((ls.getD c L0).shipped:Int)):=by rw [blk_cell hcl1];rfl
    have f6:=blk_free hcl1 8
    have hself:((wr.alloc (.cells #[.pointer (some ⟨bs.getD c 0,0,none⟩),.int .i64 (n:Int)] 163)).setCell ⟨bs.getD c 0,8,none⟩ (.int .i64 (((ls.getD c L0).shipped:Int)+(n:Int)))).heap[bs.getD c 0]?=some (.cells (lotCells (shipL (endL os a (ls.getD c L0)) n) (pvs.getD c default)) 153 (0,0)):=by
     have:=heap_setCell_same _ (bs.getD c 0) 8 _ 153 (.int .i64 (((ls.getD c L0).shipped:Int)+(n:Int))) hcl1
     exact this
    have hP4:PV (os.filter (fun o=>o.id != a)) rcs ((wr.alloc (.cells #[.pointer (some ⟨bs.getD c 0,0,none⟩),.int .i64 (n:Int)] 163)).setCell ⟨bs.getD c 0,8,none⟩ (.int .i64 (((ls.getD c L0).shipped:Int)+(n:Int)))) S M v td bs pvs (updS shipL (ls.map (endL os a)) (l.take (k+1))):=by
     rw [hls]
     exact hP1.lotset (i:=c) (by rw [hlk];exact hc) hok1 (by rw [hout];rfl) hself (fun q _ hq=>Below.heap_setCell _ _ _ _ hq)
    have hr4:((wr.alloc (.cells #[.pointer (some ⟨bs.getD c 0,0,none⟩),.int .i64 (n:Int)] 163)).setCell ⟨bs.getD c 0,8,none⟩ (.int .i64 (((ls.getD c L0).shipped:Int)+(n:Int)))).ownsRow 0 163 2 (.slice (some ⟨G,0,none⟩) l.length lcap) l.length (lineCells bs l):=own_congr hrow1 (fun q hq=>by
     obtain ⟨cs,hcs⟩:=own_ty hrow1 hq
     exact Below.heap_setCell _ _ _ _ (ty_ne hcs hcl1 (by decide)))
    have hk4:Kp (fun k=>k=M.o∨k=M.h∨k ∈ bs) w ((wr.alloc (.cells #[.pointer (some ⟨bs.getD c 0,0,none⟩),.int .i64 (n:Int)] 163)).setCell ⟨bs.getD c 0,8,none⟩ (.int .i64 (((ls.getD c L0).shipped:Int)+(n:Int)))):=(hkp.after hB).setCell (p:=⟨bs.getD c 0,8,none⟩) (Or.inl (Or.inr (Or.inr hbmem))) _
    have HP4:=hide hP4
    have HR4:=hide hr4
    have HK4:=hide hk4
    have hfb:(ls.getD c L0).shipped+n≤2147483647:=by omega
    generalize (ls.getD c L0).shipped=fr at *
    generalize bs.getD c 0=bc at *
    clear et hc hln hnotin hlk hout hcl0 hok0 hnh hok1 hls hbmem hcl1 hP1 hrow1 hsum hself hP4 hr4 hk4 hP hrow hkp
    have hBne:¬ wr.heap.size=bc:=by omega
    go_wp2_with fail
    generalize (wr.alloc (.cells #[.pointer (some ⟨bc,0,none⟩),.int .i64 (n:Int)] 163))=wb at *
    clear hbox hB
    go_region
    go_wp2_with fail
    go_roundw
    case rel=>exact ⟨k+1,by go_num,by omega,HK4.out.after ((Below.refl _ _).drew),HP4.out.below ((Below.refl _ _).drew),own_below HR4.out ((Below.refl _ _).drew)⟩
    case measure=>simp [intOf];omega
   ·obtain rfl:k=l.length:=by omega
    rw [List.take_length,HUF.out] at hP
    have HP:=hide hP
    have HK:=hide hkp
    clear hlt hP hkp hrow
    go_wp2_with fail
    go_ret
    exact ⟨HK.out,by rw [HC.out];rfl,HP.out⟩
end Go.Proofs.YtgcedalggnmooabGreatDoor
