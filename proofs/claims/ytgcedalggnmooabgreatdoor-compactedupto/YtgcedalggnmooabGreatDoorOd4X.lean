import Derived.Test.YtgcedalggnmooabGreatDoorOd1X
import Derived.BigRegion
set_option linter.unusedSimpArgs false
set_option linter.unusedVariables false
set_option maxRecDepth 100000
namespace Go.Proofs.YtgcedalggnmooabGreatDoor
open Go.RowKit
def fhW (w:World) (b:Nat) (x y:Int):World:=((w.setCell ⟨b,6,none⟩ (.int .i64 x)).setCell ⟨b,7,none⟩ (.int .i64 y)).drew.drew
theorem fhW_self {w:World} {b:Nat} {l:L} {pv:Value} (hb:w.heap[b]?=some (.cells (lotCells l pv) 153 (0,0))) {x y:Int} {f h:Nat} (hx:x=(f:Int)) (hy:y=(h:Int)):(fhW w b x y).heap[b]?=some (.cells (lotCells { l with free:=f,held:=h } pv) 153 (0,0)):=by
 subst hx hy
 have h1:=heap_setCell_same w b 6 _ 153 (.int .i64 (f:Int)) hb
 have h2:=heap_setCell_same (w.setCell ⟨b,6,none⟩ (.int .i64 (f:Int))) b 7 _ 153 (.int .i64 (h:Int)) h1
 exact h2
theorem fhW_other {w:World} {b k:Nat} {x y:Int} (hk:k≠b):(fhW w b x y).heap[k]?=w.heap[k]?:=by
 show ((w.setCell ⟨b,6,none⟩ (.int .i64 x)).setCell ⟨b,7,none⟩ (.int .i64 y)).heap[k]?=_
 rw [Below.heap_setCell _ _ _ _ hk,Below.heap_setCell _ _ _ _ hk]
theorem fhW_kp {Z:Nat→Prop} {w:World} {b:Nat} {x y:Int} (hz:Z b):Kp Z w (fhW w b x y):=by
 unfold fhW
 exact (((Kp.refl _ w).setCell (p:=⟨b,6,none⟩) (Or.inl hz) _).setCell (p:=⟨b,7,none⟩) (Or.inl hz) _).after ((Below.refl _ _).drew.drew)
set_option maxHeartbeats 3200000 in
theorem hold_any {rcs:List (Nat × Nat)} {w:World} {S:Nat} {M:Mx} {v:Value} {td:Nat} {bs:List Nat} {pvs:List Value} {ls:List L} {os:List O} {id g:Nat} (h:PV (os++[⟨id,g,[]⟩]) rcs w S M v td bs pvs ls) (hids:∀ i j,i<ls.length→j<ls.length→(ls.getD i L0).id=(ls.getD j L0).id→i=j) (hnl:nLines os≤300) (hid:id≤2147483647) (hnew:∀ o' ∈ os,o'.id≠id)
  (l:List (Nat × Nat)) (hl:l.length≤30) (hnd:(l.map Prod.fst).Nodup) (hin:∀ p ∈ l,p.1<ls.length) (hfr:∀ p ∈ l,p.2≤(ls.getD p.1 L0).free) (a:Option Addr) (cap:Nat) (hrow:w.ownsRow 0 163 2 (.slice a l.length cap) l.length (lineCells bs l)) :
  Calls Tryz.prog 82 #[.pointer (some ⟨S,0,none⟩),.int .i64 (id:Int),.slice a l.length cap] w fun e w'=>e=.returned (.tuple #[])∧Kp (fun k=>k=M.h∨k ∈ bs) w w'∧PV (os++[⟨id,g,linesId ls l⟩]) rcs w' S M v td bs pvs (holdS ls l):=by
 have HIDS:=hide hids
 have HND:=hide hnd
 have HIN:=hide hin
 have HFR:=hide hfr
 have HROW:=hide hrow
 have HNEW:=hide hnew
 have HP0:=hide h
 clear h hids hnd hin hfr hrow hnew
 go_enter Tryz.func82,Tryz.ntmps82
 go_wp2_with fail
 go_loopw [7,10] (fun _ ii wr=>∃ k:Nat,ii=.int .i64 k∧k≤l.length∧Kp (fun k=>k=M.h∨k ∈ bs) w wr∧PV (os++[⟨id,g,linesId ls (l.take k)⟩]) rcs wr S M v td bs pvs (holdS ls (l.take k))∧wr.ownsRow 0 163 2 (.slice a l.length cap) l.length (lineCells bs l)) (fun _ ii _=>l.length - (intOf ii).toNat)
 case atStart=>exact ⟨0,rfl,by omega,Kp.refl _ _,HP0.out,HROW.out⟩
 case round =>
  clear HP0 HROW
  obtain ⟨k,rfl,hk,hkp,hP,hrow⟩:=hrel
  by_cases hlt:k<l.length
  ·obtain ⟨G,rfl,hGlt,g1,g2⟩:=lines_cells hrow k hlt
   have hpm:l.getD k (0,0) ∈ l:=by simp [List.getD_eq_getElem?_getD,hlt]
   have et:l.take (k+1)=l.take k++[l.getD k (0,0)]:=by
    rw [List.take_succ_eq_append_getElem hlt];simp [List.getD_eq_getElem?_getD,hlt]
   have hc:=HIN.out _ hpm
   have hn:=HFR.out _ hpm
   have hnotin:(l.getD k (0,0)).1 ∉ (l.take k).map Prod.fst:=by
    have:=HND.out
    have e2:l.map Prod.fst=((l.take k).map Prod.fst++[(l.getD k (0,0)).1])++(l.drop (k+1)).map Prod.fst:=by
     conv=>lhs;rw [← List.take_append_drop (k+1) l,et]
     simp
    rw [e2] at this
    have:=(List.nodup_append.1 (List.nodup_append.1 this).1).2.2
    intro hm
    exact this _ hm _ (by simp) rfl
   have hlk:=holdS_len (l.take k) ls
   have hout:=holdS_out (l.take k) ls hnotin
   have hcl0:=hP.lot (l.getD k (0,0)).1 (by rw [hlk];exact hc)
   rw [hout] at hcl0
   have hok:=hP.ok _ (mem_getD (k:=(l.getD k (0,0)).1) (by rw [hlk];exact hc))
   rw [hout] at hok
   have HET:=hide et
   have HOUT:=hide hout
   have HNI:=hide hnotin
   have HLK:=hide hlk
   have HC:=hide hc
   generalize hpk:l.getD k (0,0)=p at *
   obtain ⟨c,n⟩:=p
   simp only at *
   clear hpk et hout hnotin hpm hlk
   have hbmem:bs.getD c 0 ∈ bs:=getD_mem_nat (by rw [hP.len,HLK.out];exact hc)
   have HBM:=hide hbmem
   have hB:=al1 wr (.cells #[.pointer (some ⟨bs.getD c 0,0,none⟩),.int .i64 (n:Int)] 163)
   have hbox:=heap_alloc_new wr (.cells #[.pointer (some ⟨bs.getD c 0,0,none⟩),.int .i64 (n:Int)] 163)
   have hblt:=blk_lt hcl0
   have hcl1:=(hB.block _ hblt).trans hcl0
   have hP1:=hP.below hB
   have hrow1:=own_below hrow hB
   have hkp1:=hkp.after hB
   have HPV:=hide hP1
   have HROW:=hide hrow1
   have HKP:=hide hkp1
   have HCL:=hide hcl1
   have HOK:=hide hok
   have HHN:=hide hn
   have hsum:=hok.sum
   have hidc:=hok.id
   have cS:=hP1.c3
   have hSb:S≠bs.getD c 0:=ty_ne hP.store hcl0 (by decide)
   generalize hlc:ls.getD c L0=lc at *
   have HLC:=hide hlc
   generalize hpc:pvs.getD c default=pc at *
   have HPC:=hide hpc
   generalize hbc:bs.getD c 0=bc at *
   have HBC:=hide hbc
   clear hlc hpc hbc hbmem hP hP1 hrow hrow1 hkp hkp1 hok hc
   go_wp2_with fail
   have d0:(wr.alloc (.cells #[.pointer (some ⟨bc,0,none⟩),.int .i64 (n:Int)] 163)).cell? ⟨wr.heap.size,0,none⟩=some (.pointer (some ⟨bc,0,none⟩)):=by rw [blk_cell hbox];rfl
   have d1:(wr.alloc (.cells #[.pointer (some ⟨bc,0,none⟩),.int .i64 (n:Int)] 163)).cell? ⟨wr.heap.size,1,none⟩=some (.int .i64 (n:Int)):=by rw [blk_cell hbox];rfl
   have hBne:¬ wr.heap.size=bc:=by omega
   have HBX:=hide hbox
   have HB0:=hide hB
   generalize (wr.alloc (.cells #[.pointer (some ⟨bc,0,none⟩),.int .i64 (n:Int)] 163))=wb at *
   have e6:wb.cell? ⟨bc,6,none⟩=some (.int .i64 (lc.free:Int)):=by rw [blk_cell hcl1];rfl
   have e7:wb.cell? ⟨bc,7,none⟩=some (.int .i64 (lc.held:Int)):=by rw [blk_cell hcl1];rfl
   have f6:=blk_free hcl1 6
   have f7:=blk_free hcl1 7
   have hfree:lc.free≤2147483647:=by omega
   have hheld:lc.held+n≤2147483647:=by omega
   generalize hbs:wr.heap.size=bB at *
   clear g1 g2 hcl0 hcl1 hbox hB hsum
   go_region
   go_wp2_with fail
   go_region
   go_wp2_with fail
   have hfold:((wb.setCell ⟨bc,6,none⟩ (.int .i64 ((lc.free:Int) - (n:Int)))).setCell ⟨bc,7,none⟩ (.int .i64 ((lc.held:Int)+(n:Int)))).drew.drew=fhW wb bc ((lc.free:Int) - (n:Int)) ((lc.held:Int)+(n:Int)):=rfl
   rw [hfold]
   have hself:=fhW_self HCL.out (x:=(lc.free:Int) - (n:Int)) (y:=(lc.held:Int)+(n:Int)) (f:=lc.free - n) (h:=lc.held+n) (by have:=HHN.out;omega) (by omega)
   have hPW:PV (os++[⟨id,g,linesId ls (l.take k)⟩]) rcs (fhW wb bc ((lc.free:Int) - (n:Int)) ((lc.held:Int)+(n:Int))) S M v td bs pvs ((holdS ls (l.take k)).set c (holdL lc n)) :=
    HPV.out.lotset (i:=c) (l':=holdL lc n) (by rw [HLK.out];exact HC.out) (holdL_ok HOK.out HHN.out) (by rw [HOUT.out];rfl) (by rw [HBC.out,HPC.out];exact hself) (fun q _ hq=>fhW_other (by rw [← HBC.out];exact hq))
   have hkW:Kp (fun k=>k=M.h∨k ∈ bs) w (fhW wb bc ((lc.free:Int) - (n:Int)) ((lc.held:Int)+(n:Int))):=HKP.out.trans (fhW_kp (Or.inl (Or.inr HBM.out)))
   have hrW:(fhW wb bc ((lc.free:Int) - (n:Int)) ((lc.held:Int)+(n:Int))).ownsRow 0 163 2 (.slice (some ⟨G,0,none⟩) l.length cap) l.length (lineCells bs l):=own_congr HROW.out (fun q hq=>fhW_other (by
    obtain ⟨cs,hcs⟩:=own_ty HROW.out hq
    exact ty_ne hcs HCL.out (by decide)))
   have k3:=hPW.c3
   have k0:(fhW wb bc ((lc.free:Int) - (n:Int)) ((lc.held:Int)+(n:Int))).cell? ⟨bc,0,none⟩=some (.int .i64 (lc.id:Int)):=by rw [blk_cell hself];rfl
   have hboxW:=(fhW_other (w:=wb) (x:=(lc.free:Int) - (n:Int)) (y:=(lc.held:Int)+(n:Int)) hBne).trans HBX.out
   have b0:(fhW wb bc ((lc.free:Int) - (n:Int)) ((lc.held:Int)+(n:Int))).cell? ⟨bB,0,none⟩=some (.pointer (some ⟨bc,0,none⟩)):=by rw [blk_cell hboxW];rfl
   have b1:(fhW wb bc ((lc.free:Int) - (n:Int)) ((lc.held:Int)+(n:Int))).cell? ⟨bB,1,none⟩=some (.int .i64 (n:Int)):=by rw [blk_cell hboxW];rfl
   obtain ⟨Do,hDo,hODo⟩:=hPW.maps.o
   obtain ⟨Dh,hDh,hHDh⟩:=hPW.maps.h
   have hsD:Maps.size Dh<maxLen:=by
    rw [hHDh.size]
    have:nLines (os++[⟨id,g,linesId ls (l.take k)⟩])=nLines os+(l.take k).length:=by simp [nLines,linesId]
    rw [this,List.length_take];unfold maxLen;omega
   obtain ⟨w4,hrun,hown4,hgr4⟩:=World.ownsMap.update (w:=(fhW wb bc ((lc.free:Int) - (n:Int)) ((lc.held:Int)+(n:Int))).drew) hDh kHold tUHm hsD (key_h hid hidc) (plainElem_int (H:=Unit) tUI (wf64 (n:=n) (by omega)))
   have htid:Maps.Tidy Dh:=World.ownsMap.tidy hDh kHold
   have hlkn:(linesId ls (l.take k)).lookup lc.id=none:=by
    rw [← HLC.out,linesId_lookup HIDS.out _ (fun p hp=>HIN.out p (List.mem_of_mem_take hp)) c HC.out]
    exact lookup_none_iff.2 HNI.out
   have hHD4:=hHDh.put htid hid HNEW.out hidc (n:=n) hlkn
   have hl4:linesId ls (l.take (k+1))=linesId ls (l.take k)++[(lc.id,n)]:=by rw [HET.out];unfold linesId;rw [List.map_append];simp only [List.map_cons,List.map_nil,HLC.out]
   have hM4:Mp (os++[⟨id,g,linesId ls (l.take (k+1))⟩]) rcs w4 M:=by
    have hm:=hPW.maps
    obtain ⟨Dr,hDr,hRDr⟩:=hm.r
    refine ⟨⟨Dr,owns_congr hDr (hgr4.block M.r (World.ownsMap.lt hDr) (fun e=>hm.rh (Option.some.inj e))),hRDr⟩,hm.rc,⟨Do,owns_congr hDo (hgr4.block M.o (World.ownsMap.lt hDo) (fun e=>hm.oh (Option.some.inj e))),hODo.congr (by simp)⟩,⟨_,owns_exact hown4,?_⟩,hm.ro,hm.rh,hm.oh⟩
    ·rw [hl4];exact hHD4
   have hls4:holdS ls (l.take (k+1))=(holdS ls (l.take k)).set c (holdL lc n):=by rw [HET.out,holdS_snoc,HOUT.out]
   have hP4:PV (os++[⟨id,g,linesId ls (l.take (k+1))⟩]) rcs w4 S M v td bs pvs (holdS ls (l.take (k+1))):=by
    rw [hls4]
    exact hPW.mapsTo (fun q hq h1 h2=>hgr4.block q hq (fun e=>h2 (Option.some.inj e))) hM4
   have hk4:Kp (fun k=>k=M.h∨k ∈ bs) w w4:=hkW.trans (Kp.before ((Below.refl _ _).drew) (grown_kp hgr4 (Or.inl (Or.inl (Or.inl rfl)))))
   have hr4:w4.ownsRow 0 163 2 (.slice (some ⟨G,0,none⟩) l.length cap) l.length (lineCells bs l):=own_congr hrW (fun q hq=>by
    obtain ⟨cs,hcs⟩:=own_ty hrW hq
    refine hgr4.block q (blk_lt hcs) (fun e=>?_)
    cases e
    obtain ⟨es,c2,hmm⟩:=owns_map hDh
    exact map_ne hcs hmm rfl)
   have HP4:=hide hP4
   have HK4:=hide hk4
   have HR4:=hide hr4
   clear hself hPW hkW hrW hboxW hDo hODo hDh hHDh hsD hown4 hgr4 htid hlkn hHD4 hl4 hM4 hls4 hP4 hk4 hr4 e6 e7 f6 f7 d0 d1 cS
   generalize fhW wb bc ((lc.free:Int) - (n:Int)) ((lc.held:Int)+(n:Int))=wf at *
   clear hfold
   go_region
   go_wp2_with fail
   go_roundw
   case rel=>exact ⟨k+1,by go_num,by omega,HK4.out,HP4.out,HR4.out⟩
   case measure=>simp [intOf];omega
  ·obtain rfl:k=l.length:=by omega
   rw [List.take_length] at hP
   have HP:=hide hP
   have HK:=hide hkp
   clear hlt hP hkp hrow
   go_wp2_with fail
   go_end0
   exact ⟨rfl,HK.out,HP.out⟩
end Go.Proofs.YtgcedalggnmooabGreatDoor
namespace Go.Proofs.YtgcedalggnmooabGreatDoor
open Go.RowKit
theorem nodup_le:∀ (l m:List Nat),l.Nodup→(∀ x ∈ l,x ∈ m)→l.length≤m.length
 | [],m,_,_=>by simp
 | a :: t,m,hn,hs=>by
  rw [List.nodup_cons] at hn
  have ha:=hs a (by simp)
  have:=nodup_le t (m.erase a) hn.2 (fun x hx=>(List.mem_erase_of_ne (fun e=>hn.1 (by rw [← e];exact hx))).2 (hs x (by simp [hx])))
  rw [List.length_erase_of_mem ha] at this
  have:=List.length_pos_of_mem ha
  simp only [List.length_cons];omega
theorem Good.oLines {os:List O} {ls:List L} (h:Good os ls) {o:O} (ho:o ∈ os):o.lines.length≤ls.length:=by
 have:=nodup_le (o.lines.map Prod.fst) (ls.map L.id) (h.keys o ho) (fun x hx=>by
  obtain ⟨p,hp,rfl⟩:=List.mem_map.1 hx
  obtain ⟨i,hi,he⟩:=h.mem o ho p hp
  rw [← he]
  exact List.mem_map_of_mem (mem_getD hi))
 simpa using this
theorem nLines_le (os:List O) (n:Nat) (h:∀ o ∈ os,o.lines.length≤n):nLines os≤os.length * n:=by
 induction os with
 | nil=>simp [nLines]
 | cons o os ih =>
  have h1:=h o (by simp)
  have h2:=ih (fun o' ho'=>h o' (by simp [ho']))
  simp only [nLines,List.map_cons,List.sum_cons,List.length_cons] at h2 ⊢
  rw [Nat.succ_mul];omega
theorem Good.nl {os:List O} {ls:List L} (h:Good os ls) (hl:ls.length≤30):nLines os≤300:=by
 have:=nLines_le os 30 (fun o ho=>Nat.le_trans (h.oLines ho) hl)
 have:=h.olen
 have:os.length * 30≤10 * 30:=Nat.mul_le_mul_right _ (by omega)
 omega
def askC (rcs:List (Nat × Nat)) (os:List O) (td:Nat) (ls:List L) (id goods count gate way:Nat):Nat :=
 if os.any (fun o=>o.id == id) then 5 else if 10≤os.length then 6 else
  if sumQ (linesQ rcs td goods count gate way ls)=0∨(sumQ (linesQ rcs td goods count gate way ls)<count∧wayW way=true) then 7 else 0
theorem linesQ_facts {rcs:List (Nat × Nat)} (td goods count gate way:Nat) (ls:List L) (hl:ls.length≤30):(linesQ rcs td goods count gate way ls).length≤30∧((linesQ rcs td goods count gate way ls).map Prod.fst).Nodup∧(∀ p ∈ linesQ rcs td goods count gate way ls,p.1<ls.length)∧(∀ p ∈ linesQ rcs td goods count gate way ls,p.2≤(ls.getD p.1 L0).free)∧sumQ (linesQ rcs td goods count gate way ls)≤count:=by
 have hs:=giveQ_sub ls (queue rcs (wayF way) td goods gate ls) count
 have hq:=queue_nodup (rcs:=rcs) (wayF way) td goods gate ls
 refine ⟨?_,hq.sublist hs,fun p hp=>?_,giveQ_le ls _ count,giveQ_sum ls _ count⟩
 ·have:=hs.length_le
  rw [List.length_map,(queue_perm (rcs:=rcs) (wayF way) td goods gate ls).length_eq] at this
  have:=srvI_len (rcs:=rcs) td goods gate ls ls.length
  unfold linesQ;omega
 ·have:=hs.mem (List.mem_map_of_mem hp)
  exact (queue_mem.1 this).1
set_option maxHeartbeats 1600000 in
theorem order_early {rcs:List (Nat × Nat)} {w:World} {S:Nat} {M:Mx} {v:Value} {td:Nat} {bs:List Nat} {pvs:List Value} {ls:List L} {os:List O} (h:PV os rcs w S M v td bs pvs ls) (id goods count gate way:Nat) (h1:id≤2147483647) (hc:os.any (fun o=>o.id == id)=true∨10≤os.length) :
  Calls Tryz.prog 51 #[.pointer (some ⟨S,0,none⟩),.agg #[.int .i64 (id:Int),.int .i64 (goods:Int),.int .i64 (count:Int),.int .i64 (gate:Int),.int .i64 (way:Int)]] w fun e w'=>e=.returned (.tuple #[.slice none 0 0,.int .i64 (askC rcs os td ls id goods count gate way:Int)])∧Below w.heap.size w w':=by
 have ha:=al1 w (Obj.cells #[.int .i64 (id:Int),.int .i64 (goods:Int),.int .i64 (count:Int),.int .i64 (gate:Int),.int .i64 (way:Int)] 98)
 have hP:=h.below ha
 have HH:=hide (hasOrder_any hP id h1)
 have HP:=hide hP
 have c2:=hP.c2
 obtain ⟨D,hD,hd⟩:=hP.maps.o
 have hlen:=World.ownsMap.len hD tUOm
 rw [hd.size] at hlen
 cases hany:os.any (fun o=>o.id == id) with
 | true =>
  have HE:Hid (askC rcs os td ls id goods count gate way=5):=by unfold Hid askC;rw [hany];rfl
  rw [hany] at HH
  clear hP h hD hd hany hc
  go_enter Tryz.func51,Tryz.ntmps51
  go_wp2_with (go_at_call 79;with_reducible refine (HH.out).mono ?_;rintro e w1 ⟨rfl,rfl⟩)
  go_ret2
  exact ⟨by rw [HE.out];rfl,ha⟩
 | false =>
  have h10:10≤os.length:=hc.resolve_left (by rw [hany];simp)
  have HE:Hid (askC rcs os td ls id goods count gate way=6):=by unfold Hid askC;rw [hany,if_neg (by simp),if_pos h10]
  rw [hany] at HH
  generalize os.length=n at *
  clear hP h hd hany hc
  go_enter Tryz.func51,Tryz.ntmps51
  go_wp2_with (go_at_call 79;with_reducible refine (HH.out).mono ?_;rintro e w1 ⟨rfl,rfl⟩)
  go_ret2
  exact ⟨by rw [HE.out];rfl,ha⟩
end Go.Proofs.YtgcedalggnmooabGreatDoor
namespace Go.Proofs.YtgcedalggnmooabGreatDoor
open Go.RowKit
set_option maxHeartbeats 1600000 in
theorem order_short {rcs:List (Nat × Nat)} {w:World} {S:Nat} {M:Mx} {v:Value} {td:Nat} {bs:List Nat} {pvs:List Value} {ls:List L} {os:List O} (h:PV os rcs w S M v td bs pvs ls) (hgo:Good os ls) (id goods count gate way:Nat) (h1:id≤2147483647) (h2:goods≤2147483647) (h3:count≤2147483647) (h4:gate≤2147483647) (h5:way≤3)
  (hany:os.any (fun o=>o.id == id)=false) (h10:¬ 10≤os.length) (hsh:sumQ (linesQ rcs td goods count gate way ls)=0∨(sumQ (linesQ rcs td goods count gate way ls)<count∧wayW way=true)) :
  Calls Tryz.prog 51 #[.pointer (some ⟨S,0,none⟩),.agg #[.int .i64 (id:Int),.int .i64 (goods:Int),.int .i64 (count:Int),.int .i64 (gate:Int),.int .i64 (way:Int)]] w fun e w'=>e=.returned (.tuple #[.slice none 0 0,.int .i64 7])∧Below w.heap.size w w':=by
 have ha:=al1 w (Obj.cells #[.int .i64 (id:Int),.int .i64 (goods:Int),.int .i64 (count:Int),.int .i64 (gate:Int),.int .i64 (way:Int)] 98)
 have hbx:=heap_alloc_new w (Obj.cells #[.int .i64 (id:Int),.int .i64 (goods:Int),.int .i64 (count:Int),.int .i64 (gate:Int),.int .i64 (way:Int)] 98)
 have hP:=h.below ha
 have hroom:=h.room
 have HF:=hide (linesQ_facts (rcs:=rcs) td goods count gate way ls hroom)
 have HH:=hide (hasOrder_any hP id h1)
 rw [hany] at HH
 have HLF:=hide (linesFor_any hP hgo id goods count gate way h2 h3 h4 h5)
 have c2:=hP.c2
 obtain ⟨D,hD,hd⟩:=hP.maps.o
 have hlen:=World.ownsMap.len hD tUOm
 rw [hd.size] at hlen
 have h1b:=and1 h5
 generalize os.length=n at *
 generalize hq:linesQ rcs td goods count gate way ls=q at *
 clear hP h hD hd hany hq hgo
 have hn10:n<10:=by omega
 go_enter Tryz.func51,Tryz.ntmps51
 go_wp2_with (first | (go_at_call 79;with_reducible refine (HH.out).mono ?_;rintro e w1 ⟨rfl,rfl⟩) | fail)
 with_reducible refine (HLF.out).mono ?_
 rintro e w2 ⟨hb2,v2,rfl,ho2⟩
 obtain ⟨a,cap,hv⟩:=own_shapeS ho2
 subst hv
 have HC:=hide (countOf_any (own_base ho2) HF.out.1 (Nat.le_trans HF.out.2.2.2.2 h3))
 have k2:w2.cell? ⟨w.heap.size,2,none⟩=some (.int .i64 (count:Int)):=(hb2.cell (by simp)).trans (by rw [blk_cell hbx];rfl)
 have k4:w2.cell? ⟨w.heap.size,4,none⟩=some (.int .i64 (way:Int)):=(hb2.cell (by simp)).trans (by rw [blk_cell hbx];rfl)
 have HB2:=hide (ha.trans (hb2.mono ha.size))
 have hlt2:w.heap.size<w2.heap.size:=Nat.lt_of_lt_of_le (by simp) hb2.size
 have hsm:sumQ q≤2147483647:=Nat.le_trans HF.out.2.2.2.2 h3
 generalize sumQ q=sq at *
 clear ho2 hb2 hlen hbx c2
 by_cases hz:sq=0
 ·have hzb:((sq:Int) == 0)=true:=by rw [hz];rfl
  clear hsh hz
  go_wp2_with (first | (go_at_call 81;with_reducible refine (HC.out).mono ?_;rintro e w3 ⟨rfl,hb3⟩;have m2:w3.cell? ⟨w.heap.size,2,none⟩=some (.int .i64 (count:Int)):=(hb3.cell (by exact hlt2)).trans k2;have m4:w3.cell? ⟨w.heap.size,4,none⟩=some (.int .i64 (way:Int)):=(hb3.cell (by exact hlt2)).trans k4) | fail)
  go_ret2
  exact ⟨rfl,HB2.out.trans (hb3.mono HB2.out.size)⟩
 ·have hzb:((sq:Int) == 0)=false:=by rw [beq_eq_false_iff_ne];omega
  obtain ⟨hlt,hw⟩:=hsh.resolve_left hz
  rw [hw] at h1b
  have hltb:decide ((sq:Int)<(count:Int))=true:=by simp;omega
  clear hsh hz hw
  go_wp2_with (first | (go_at_call 81;with_reducible refine (HC.out).mono ?_;rintro e w3 ⟨rfl,hb3⟩;have m2:w3.cell? ⟨w.heap.size,2,none⟩=some (.int .i64 (count:Int)):=(hb3.cell (by exact hlt2)).trans k2;have m4:w3.cell? ⟨w.heap.size,4,none⟩=some (.int .i64 (way:Int)):=(hb3.cell (by exact hlt2)).trans k4) | fail)
  go_ret2
  exact ⟨rfl,HB2.out.trans (hb3.mono HB2.out.size)⟩
end Go.Proofs.YtgcedalggnmooabGreatDoor
namespace Go.Proofs.YtgcedalggnmooabGreatDoor
open Go.RowKit
theorem holdS_id (ls:List L) (l:List (Nat × Nat)):∀ i,((holdS ls l).getD i L0).id=(ls.getD i L0).id:=by
 induction l generalizing ls with
 | nil=>intro i;rfl
 | cons p r ih =>
  intro i
  simp only [holdS]
  rw [ih]
  by_cases h:i=p.1
  ·subst h
   by_cases hl:p.1<ls.length
   ·rw [gset_eq hl];rfl
   ·simp [List.set_eq_of_length_le (show ls.length≤p.1 by omega)]
  ·rw [gset_ne h]
theorem toldL_hold (ls:List L) (m:List (Nat × Nat)):∀ l,toldL (holdS ls m) l=toldL ls l
 | []=>rfl
 | p :: r=>by simp only [toldL,holdS_id,toldL_hold ls m r]
set_option maxHeartbeats 3200000 in
theorem order_ok {rcs:List (Nat × Nat)} {w:World} {S:Nat} {M:Mx} {v:Value} {td:Nat} {bs:List Nat} {pvs:List Value} {ls:List L} {os:List O} (h:PV os rcs w S M v td bs pvs ls) (hgo:Good os ls) (id goods count gate way:Nat) (h1:id≤2147483647) (h2:goods≤2147483647) (h3:count≤2147483647) (h4:gate≤2147483647) (h5:way≤3)
  (hany:os.any (fun o=>o.id == id)=false) (h10:¬ 10≤os.length) (hsh:¬ (sumQ (linesQ rcs td goods count gate way ls)=0∨(sumQ (linesQ rcs td goods count gate way ls)<count∧wayW way=true))) :
  Calls Tryz.prog 51 #[.pointer (some ⟨S,0,none⟩),.agg #[.int .i64 (id:Int),.int .i64 (goods:Int),.int .i64 (count:Int),.int .i64 (gate:Int),.int .i64 (way:Int)]] w fun e w'=>Kp (fun k=>k=M.o∨k=M.h∨k ∈ bs) w w'∧PV (os++[⟨id,goods,linesId ls (linesQ rcs td goods count gate way ls)⟩]) rcs w' S M v td bs pvs (holdS ls (linesQ rcs td goods count gate way ls)) ∧
   ∃ g c,e=.returned (.tuple #[.slice (some ⟨g,0,none⟩) (toldQ ls (linesQ rcs td goods count gate way ls)).length c,.int .i64 0])∧w'.ownsRow 0 2 1 (.slice (some ⟨g,0,none⟩) (toldQ ls (linesQ rcs td goods count gate way ls)).length c) (toldQ ls (linesQ rcs td goods count gate way ls)).length (I (toldQ ls (linesQ rcs td goods count gate way ls))):=by
 have ha:=al1 w (Obj.cells #[.int .i64 (id:Int),.int .i64 (goods:Int),.int .i64 (count:Int),.int .i64 (gate:Int),.int .i64 (way:Int)] 98)
 have hbx:=heap_alloc_new w (Obj.cells #[.int .i64 (id:Int),.int .i64 (goods:Int),.int .i64 (count:Int),.int .i64 (gate:Int),.int .i64 (way:Int)] 98)
 have hP:=h.below ha
 have hroom:=h.room
 have hnl:=hgo.nl hroom
 have hids:=hgo.ids
 have hnew:∀ o' ∈ os,o'.id≠id:=fun o' hm e=>by
  have:=List.any_eq_false.1 hany o' hm
  simp [e] at this
 have HF:=hide (linesQ_facts (rcs:=rcs) td goods count gate way ls hroom)
 have HH:=hide (hasOrder_any hP id h1)
 have HANY:=hide hany
 rw [hany] at HH
 have HLF:=hide (linesFor_any hP hgo id goods count gate way h2 h3 h4 h5)
 have c2:=hP.c2
 obtain ⟨D,hD,hd⟩:=hP.maps.o
 have hlen:=World.ownsMap.len hD tUOm
 rw [hd.size] at hlen
 have h1b:=and1 h5
 have HP:=hide hP
 have HIDS:=hide hids
 have HNEW:=hide hnew
 have HNL:=hide hnl
 have hn10:os.length<10:=by omega
 obtain ⟨n,HN⟩:∃ n,Hid (n=os.length):=⟨_,rfl⟩
 rw [← HN.out] at hlen hn10
 generalize hq:linesQ rcs td goods count gate way ls=q at *
 clear hP h hD hd hany hq hgo hids hnew hnl h10
 go_enter Tryz.func51,Tryz.ntmps51
 go_wp2_with (first | (go_at_call 79;with_reducible refine (HH.out).mono ?_;rintro e w1 ⟨rfl,rfl⟩) | fail)
 with_reducible refine (HLF.out).mono ?_
 rintro e w2 ⟨hb2,v2,rfl,ho2⟩
 obtain ⟨a,cap,hv⟩:=own_shapeS ho2
 subst hv
 have HC:=hide (countOf_any (own_base ho2) HF.out.1 (Nat.le_trans HF.out.2.2.2.2 h3))
 have hbx2:=(hb2.block w.heap.size (by simp)).trans hbx
 have HP2:=hide (HP.out.below hb2)
 have HO2:=hide (own_base ho2)
 have k2:w2.cell? ⟨w.heap.size,2,none⟩=some (.int .i64 (count:Int)):=by rw [blk_cell hbx2];rfl
 have k4:w2.cell? ⟨w.heap.size,4,none⟩=some (.int .i64 (way:Int)):=by rw [blk_cell hbx2];rfl
 have HBX:=hide hbx2
 have HB2:=hide (ha.trans (hb2.mono ha.size))
 have hlt2:w.heap.size<w2.heap.size:=blk_lt hbx2
 have hsm:sumQ q≤2147483647:=Nat.le_trans HF.out.2.2.2.2 h3
 have hzb:((sumQ q:Int) == 0)=false:=by rw [beq_eq_false_iff_ne];omega
 obtain ⟨sq,HSQ⟩:∃ sq,Hid (sq=sumQ q):=⟨_,rfl⟩
 rw [← HSQ.out] at hzb hsh HC hsm
 clear ho2 hb2 hlen hbx hbx2 c2
 have hcond:¬ (sq<count)∨wayW way=false:=by
  by_cases hl:sq<count
  ·right;cases hw:wayW way with
   | false=>rfl
   | true=>exact absurd (Or.inr ⟨hl,hw⟩) hsh
  ·exact Or.inl hl
 clear hsh
 by_cases hl:sq<count
 ·have hw:=hcond.resolve_left (by omega)
  rw [hw] at h1b
  have hltb:decide ((sq:Int)<(count:Int))=true:=by simp;omega
  clear hcond hw
  go_wp2_with (first | (go_at_call 81;with_reducible refine (HC.out).mono ?_;rintro e w3 ⟨rfl,hb3⟩;have m2:w3.cell? ⟨w.heap.size,2,none⟩=some (.int .i64 (count:Int)):=(hb3.cell (by exact hlt2)).trans k2;have m4:w3.cell? ⟨w.heap.size,4,none⟩=some (.int .i64 (way:Int)):=(hb3.cell (by exact hlt2)).trans k4) | fail)
  have hP3:=HP2.out.below hb3
  have hbx3:=(hb3.block w.heap.size hlt2).trans HBX.out
  have n0:w3.cell? ⟨w.heap.size,0,none⟩=some (.int .i64 (id:Int)):=by rw [blk_cell hbx3];rfl
  have n1:w3.cell? ⟨w.heap.size,1,none⟩=some (.int .i64 (goods:Int)):=by rw [blk_cell hbx3];rfl
  have s2:=hP3.c2
  obtain ⟨Do,hDo,hOD⟩:=hP3.maps.o
  obtain ⟨Dh,hDh,hHD⟩:=hP3.maps.h
  have hsD:Maps.size Do<maxLen:=by rw [hOD.size,← HN.out];unfold maxLen;omega
  obtain ⟨w4,hrun,hown4,hgr4⟩:=World.ownsMap.update (w:=w3.drew) hDo kInt tUOm hsD (key_o h1) (plainElem_int (H:=Unit) tUI (wf64 h2))
  have htid:Maps.Tidy Do:=World.ownsMap.tidy hDo kInt
  have hM4:Mp (os++[⟨id,goods,[]⟩]) rcs w4 M:=by
   have hm:=hP3.maps
   obtain ⟨Dr,hDr,hRDr⟩:=hm.r
   exact ⟨⟨Dr,owns_congr hDr (hgr4.block M.r (World.ownsMap.lt hDr) (fun e=>hm.ro (Option.some.inj e))),hRDr⟩,hm.rc,⟨_,owns_exact hown4,hOD.put htid h1 HANY.out⟩,⟨Dh,owns_congr hDh (hgr4.block M.h (World.ownsMap.lt hDh) (fun e=>hm.oh (Option.some.inj e).symm)),hHD.snoc HANY.out⟩,hm.ro,hm.rh,hm.oh⟩
  have hP4:PV (os++[⟨id,goods,[]⟩]) rcs w4 S M v td bs pvs ls:=hP3.mapsTo (fun q hq h1 h2=>hgr4.block q hq (fun e=>h1 (Option.some.inj e))) hM4
  obtain ⟨es0,c0,hmo⟩:=owns_map hDo
  have hrow3:=own_below HO2.out hb3
  have hrow4:w4.ownsRow 0 163 2 (.slice a q.length cap) q.length (lineCells bs q):=own_congr hrow3 (fun b hb=>by
   obtain ⟨cs,hcs⟩:=own_ty hrow3 hb
   exact hgr4.block b (blk_lt hcs) (fun e=>map_ne hcs hmo (Option.some.inj e)))
  have hbx4:=(hgr4.block w.heap.size (blk_lt hbx3) (fun e=>map_ne hbx3 hmo (Option.some.inj e))).trans hbx3
  have m0:w4.cell? ⟨w.heap.size,0,none⟩=some (.int .i64 (id:Int)):=by rw [blk_cell hbx4];rfl
  have HHO:=hide (hold_any hP4 HIDS.out HNL.out h1 HNEW.out q HF.out.1 HF.out.2.1 HF.out.2.2.1 HF.out.2.2.2.1 a cap hrow4)
  have HR4:=hide hrow4
  have HK4:Hid (Kp (fun k=>k=M.o∨k=M.h∨k ∈ bs) w w4):=(kpB (HB2.out.trans (hb3.mono HB2.out.size))).trans (Kp.before ((Below.refl _ _).drew) (grown_kp hgr4 (Or.inl (Or.inl (Or.inl rfl)))))
  have HP4:=hide hP4
  clear hP3 hbx3 hDo hOD hDh hHD hsD hown4 hgr4 htid hM4 hP4 hmo hrow3 hrow4 hbx4 hb3 m2 m4 k2 k4
  go_region
  go_wp2_with fail
  with_reducible refine (HHO.out).mono ?_
  rintro e w5 ⟨rfl,hk5,hP5⟩
  have hrow5:w5.ownsRow 0 163 2 (.slice a q.length cap) q.length (lineCells bs q):=own_congr HR4.out (fun b hb=>by
   obtain ⟨cs,hcs⟩:=own_ty HR4.out hb
   refine hk5.block b (blk_lt hcs) (fun hz=>?_)
   rcases hz with hz | hz
   ·obtain ⟨es,cc,hmh⟩:=HP4.out.maps.mh
    rw [← hz] at hmh
    exact map_ne hcs hmh rfl
   ·obtain ⟨i,hi,rfl⟩:=List.getElem_of_mem hz
    have hlt:=HP4.out.lot i (by rw [← HP4.out.len];exact hi)
    rw [List.getD_eq_getElem?_getD,List.getElem?_eq_getElem hi] at hlt
    exact ty_ne hcs hlt (by decide) rfl)
  have HT:=hide (told_any (ls:=holdS ls q) hrow5 HF.out.1 (Nat.le_trans HF.out.2.2.2.2 h3) hP5.lots hP5.ok (fun p hp=>by rw [holdS_len];exact HF.out.2.2.1 p hp))
  have HTQ:Hid (toldQ (holdS ls q) q=toldQ ls q):=by unfold Hid toldQ;rw [toldL_hold]
  rw [HTQ.out] at HT
  have HP5:=hide hP5
  have HK5:=hide hk5
  clear hrow5 hP5 hk5 HTQ
  go_wp2_with fail
  with_reducible refine (HT.out).mono ?_
  rintro e w6 ⟨hb6,g,c,rfl,ho6⟩
  have HO6:=hide ho6
  clear ho6
  go_wp2_with fail
  go_ret2
  refine ⟨?_,HP5.out.below hb6,g,c,rfl,own_base HO6.out⟩
  exact (HK4.out.trans (HK5.out.mono (fun k hk=>Or.inl (Or.inr hk)))).after hb6
 ·have hltb:decide ((sq:Int)<(count:Int))=false:=by simp;omega
  clear hcond
  go_wp2_with (first | (go_at_call 81;with_reducible refine (HC.out).mono ?_;rintro e w3 ⟨rfl,hb3⟩;have m2:w3.cell? ⟨w.heap.size,2,none⟩=some (.int .i64 (count:Int)):=(hb3.cell (by exact hlt2)).trans k2;have m4:w3.cell? ⟨w.heap.size,4,none⟩=some (.int .i64 (way:Int)):=(hb3.cell (by exact hlt2)).trans k4) | fail)
  have hP3:=HP2.out.below hb3
  have hbx3:=(hb3.block w.heap.size hlt2).trans HBX.out
  have n0:w3.cell? ⟨w.heap.size,0,none⟩=some (.int .i64 (id:Int)):=by rw [blk_cell hbx3];rfl
  have n1:w3.cell? ⟨w.heap.size,1,none⟩=some (.int .i64 (goods:Int)):=by rw [blk_cell hbx3];rfl
  have s2:=hP3.c2
  obtain ⟨Do,hDo,hOD⟩:=hP3.maps.o
  obtain ⟨Dh,hDh,hHD⟩:=hP3.maps.h
  have hsD:Maps.size Do<maxLen:=by rw [hOD.size,← HN.out];unfold maxLen;omega
  obtain ⟨w4,hrun,hown4,hgr4⟩:=World.ownsMap.update (w:=w3.drew) hDo kInt tUOm hsD (key_o h1) (plainElem_int (H:=Unit) tUI (wf64 h2))
  have htid:Maps.Tidy Do:=World.ownsMap.tidy hDo kInt
  have hM4:Mp (os++[⟨id,goods,[]⟩]) rcs w4 M:=by
   have hm:=hP3.maps
   obtain ⟨Dr,hDr,hRDr⟩:=hm.r
   exact ⟨⟨Dr,owns_congr hDr (hgr4.block M.r (World.ownsMap.lt hDr) (fun e=>hm.ro (Option.some.inj e))),hRDr⟩,hm.rc,⟨_,owns_exact hown4,hOD.put htid h1 HANY.out⟩,⟨Dh,owns_congr hDh (hgr4.block M.h (World.ownsMap.lt hDh) (fun e=>hm.oh (Option.some.inj e).symm)),hHD.snoc HANY.out⟩,hm.ro,hm.rh,hm.oh⟩
  have hP4:PV (os++[⟨id,goods,[]⟩]) rcs w4 S M v td bs pvs ls:=hP3.mapsTo (fun q hq h1 h2=>hgr4.block q hq (fun e=>h1 (Option.some.inj e))) hM4
  obtain ⟨es0,c0,hmo⟩:=owns_map hDo
  have hrow3:=own_below HO2.out hb3
  have hrow4:w4.ownsRow 0 163 2 (.slice a q.length cap) q.length (lineCells bs q):=own_congr hrow3 (fun b hb=>by
   obtain ⟨cs,hcs⟩:=own_ty hrow3 hb
   exact hgr4.block b (blk_lt hcs) (fun e=>map_ne hcs hmo (Option.some.inj e)))
  have hbx4:=(hgr4.block w.heap.size (blk_lt hbx3) (fun e=>map_ne hbx3 hmo (Option.some.inj e))).trans hbx3
  have m0:w4.cell? ⟨w.heap.size,0,none⟩=some (.int .i64 (id:Int)):=by rw [blk_cell hbx4];rfl
  have HHO:=hide (hold_any hP4 HIDS.out HNL.out h1 HNEW.out q HF.out.1 HF.out.2.1 HF.out.2.2.1 HF.out.2.2.2.1 a cap hrow4)
  have HR4:=hide hrow4
  have HK4:Hid (Kp (fun k=>k=M.o∨k=M.h∨k ∈ bs) w w4):=(kpB (HB2.out.trans (hb3.mono HB2.out.size))).trans (Kp.before ((Below.refl _ _).drew) (grown_kp hgr4 (Or.inl (Or.inl (Or.inl rfl)))))
  have HP4:=hide hP4
  clear hP3 hbx3 hDo hOD hDh hHD hsD hown4 hgr4 htid hM4 hP4 hmo hrow3 hrow4 hbx4 hb3 m2 m4 k2 k4
  go_region
  go_wp2_with fail
  with_reducible refine (HHO.out).mono ?_
  rintro e w5 ⟨rfl,hk5,hP5⟩
  have hrow5:w5.ownsRow 0 163 2 (.slice a q.length cap) q.length (lineCells bs q):=own_congr HR4.out (fun b hb=>by
   obtain ⟨cs,hcs⟩:=own_ty HR4.out hb
   refine hk5.block b (blk_lt hcs) (fun hz=>?_)
   rcases hz with hz | hz
   ·obtain ⟨es,cc,hmh⟩:=HP4.out.maps.mh
    rw [← hz] at hmh
    exact map_ne hcs hmh rfl
   ·obtain ⟨i,hi,rfl⟩:=List.getElem_of_mem hz
    have hlt:=HP4.out.lot i (by rw [← HP4.out.len];exact hi)
    rw [List.getD_eq_getElem?_getD,List.getElem?_eq_getElem hi] at hlt
    exact ty_ne hcs hlt (by decide) rfl)
  have HT:=hide (told_any (ls:=holdS ls q) hrow5 HF.out.1 (Nat.le_trans HF.out.2.2.2.2 h3) hP5.lots hP5.ok (fun p hp=>by rw [holdS_len];exact HF.out.2.2.1 p hp))
  have HTQ:Hid (toldQ (holdS ls q) q=toldQ ls q):=by unfold Hid toldQ;rw [toldL_hold]
  rw [HTQ.out] at HT
  have HP5:=hide hP5
  have HK5:=hide hk5
  clear hrow5 hP5 hk5 HTQ
  go_wp2_with fail
  with_reducible refine (HT.out).mono ?_
  rintro e w6 ⟨hb6,g,c,rfl,ho6⟩
  have HO6:=hide ho6
  clear ho6
  go_wp2_with fail
  go_ret2
  refine ⟨?_,HP5.out.below hb6,g,c,rfl,own_base HO6.out⟩
  exact (HK4.out.trans (HK5.out.mono (fun k hk=>Or.inl (Or.inr hk)))).after hb6
end Go.Proofs.YtgcedalggnmooabGreatDoor
