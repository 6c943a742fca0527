import Derived.Test.YtgcedalggnmooabGreatDoorHp1CX
import Derived.Test.YtgcedalggnmooabGreatDoorHp1EX
import Derived.Test.YtgcedalggnmooabGreatDoorRefAX
import Derived.Deep.AppendLies
import Derived.Deep.RegionLaw
import Derived.Test.YtgcedalggnmooabGreatDoorSt9X
set_option linter.unusedSimpArgs false
set_option linter.unusedVariables false
set_option maxRecDepth 100000
namespace Go.Proofs.YtgcedalggnmooabGreatDoor
open Go.RowKit
theorem tUOm:Tryz.prog.underlying 75=some (.map 2 2):=by kernel_rfl
theorem tUHm:Tryz.prog.underlying 76=some (.map 183 2):=by kernel_rfl
theorem infoI:(Tryz.prog.info? 2).map (fun i=>i.zero)=some (some (.int .i64 0)):=by kernel_rfl
theorem zeroI (w:World):(zeroValue 2).run Tryz.prog w=.ok (.int .i64 0) w:=by
 have h:=infoI
 cases hi:Tryz.prog.info? 2 with
 | none=>rw [hi] at h;cases h
 | some i =>
  rw [hi] at h
  simp at h
  unfold zeroValue typeInfo
  simp [program,Sem.run,hi,h]
theorem own_weaken {w:World} {b b' e size n:Nat} {v:Value} {xs:List Value} (h:w.ownsRow b e size v n xs) (hb:b'≤b):w.ownsRow b' e size v n xs:=by
 refine ⟨h.1,?_⟩
 rcases h.2 with h1 | ⟨g,cap,cur,h1,h2,h3⟩
 ·exact Or.inl h1
 ·exact Or.inr ⟨g,cap,cur,h1,Nat.le_trans hb h2,h3⟩
theorem look_o {w:World} {b n:Nat} {D:DataW Unit} {os:List O} (h:OwnsO w b n D) (hd:OD os D) (k:Nat) (hk:k≤2147483647):∃ c:Int,(Instr.lookup 75 (.map (some b)) (.int .i64 (k:Int)) true).run Tryz.prog w=.ok (.tuple #[.int .i64 c,.bool (os.any (fun o=>o.id == k))]) w:=by
 obtain ⟨v,ps,hr,hv⟩:=World.ownsMap.look_ok h kInt tUOm (zeroI w) (plainElem_int tUI (by decide)) (key_o hk)
 obtain ⟨c,rfl,_,_⟩:=plainElem_int_inv tUI hv
 exact ⟨c,by rw [hr,hd.has k hk]⟩
theorem look_h {w:World} {b n:Nat} {D:DataW Unit} {os:List O} (h:OwnsH w b n D) (hd:HD os D) (k l:Nat) (hk:k≤2147483647) (hl:l≤2147483647):(Instr.lookup 76 (.map (some b)) (.agg #[.int .i64 (k:Int),.int .i64 (l:Int)]) true).run Tryz.prog w=.ok (.tuple #[.int .i64 (((lineOf os k l).getD 0:Nat):Int),.bool (lineOf os k l).isSome]) w:=by
 obtain ⟨v,ps,hr,hv⟩:=World.ownsMap.look_ok h kHold tUHm (zeroI w) (plainElem_int tUI (by decide)) (key_h hk hl)
 obtain ⟨c,rfl,hc,_⟩:=plainElem_int_inv tUI hv
 rw [hd.val k l hk hl] at hc
 simp at hc
 rw [hr,hd.has k l hk hl,← hc.1]
set_option maxHeartbeats 800000 in
theorem hasOrder_any {rcs:List (Nat × Nat)} {w:World} {S:Nat} {M:Mx} {v:Value} {td:Nat} {bs:List Nat} {pvs:List Value} {ls:List L} {os:List O} (h:PV os rcs w S M v td bs pvs ls) (k:Nat) (hk:k≤2147483647) :
  Calls Tryz.prog 79 #[.pointer (some ⟨S,0,none⟩),.int .i64 (k:Int)] w fun e w'=>e=.returned (.bool (os.any (fun o=>o.id == k)))∧w'=w:=by
 obtain ⟨D,hD,hd⟩:=h.maps.o
 obtain ⟨c,hlk⟩:=look_o hD hd k hk
 have c2:=h.c2
 generalize os.any (fun o=>o.id == k)=bb at *
 clear h hD hd
 go_enter Tryz.func79,Tryz.ntmps79
 go_wp2_with fail
 go_ret
 exact ⟨rfl,rfl⟩
def wayF (way:Nat):Bool:=decide (2≤way)
def wayW (way:Nat):Bool:=decide (way=1∨way=3)
theorem and2 {way:Nat} (h:way≤3):(bits .and .i64 (way:Int) 2 != 0)=wayF way:=by
 rcases (show way=0∨way=1∨way=2∨way=3 by omega) with rfl | rfl | rfl | rfl <;> decide
theorem and1 {way:Nat} (h:way≤3):(bits .and .i64 (way:Int) 1 != 0)=wayW way:=by
 rcases (show way=0∨way=1∨way=2∨way=3 by omega) with rfl | rfl | rfl | rfl <;> decide
def linesQ (rcs:List (Nat × Nat)) (td goods count gate way:Nat) (ls:List L):List (Nat × Nat):=giveQ ls (queue rcs (wayF way) td goods gate ls) count
set_option maxHeartbeats 1600000 in
theorem linesFor_any {rcs:List (Nat × Nat)} {w:World} {S:Nat} {M:Mx} {v:Value} {td:Nat} {bs:List Nat} {pvs:List Value} {ls:List L} {os:List O} (h:PV os rcs w S M v td bs pvs ls) (hgo:Good os ls) (id goods count gate way:Nat) (h2:goods≤2147483647) (h3:count≤2147483647) (h4:gate≤2147483647) (h5:way≤3) :
  Calls Tryz.prog 80 #[.pointer (some ⟨S,0,none⟩),.agg #[.int .i64 (id:Int),.int .i64 (goods:Int),.int .i64 (count:Int),.int .i64 (gate:Int),.int .i64 (way:Int)]] w fun e w'=>Below w.heap.size w w'∧∃ v',e=.returned v'∧w'.ownsRow w.heap.size 163 2 v' (linesQ rcs td goods count gate way ls).length (lineCells bs (linesQ rcs td goods count gate way ls)):=by
 have ha:=al1 w (Obj.cells #[.int .i64 (id:Int),.int .i64 (goods:Int),.int .i64 (count:Int),.int .i64 (gate:Int),.int .i64 (way:Int)] 98)
 have hb0:=heap_alloc_new w (Obj.cells #[.int .i64 (id:Int),.int .i64 (goods:Int),.int .i64 (count:Int),.int .i64 (gate:Int),.int .i64 (way:Int)] 98)
 have hP:=h.below ha
 have HC:=hide (canServe_any hP goods gate h2 h4)
 have HP:=hide hP
 have HGO:=hide hgo
 have hroom:=h.room
 clear hP h hgo
 go_enter Tryz.func80,Tryz.ntmps80
 go_wp2_with fail
 refine (HC.out).mono ?_
 rintro e w1 ⟨hb1,v',rfl,hown⟩
 have k2:w1.cell? ⟨w.heap.size,2,none⟩=some (.int .i64 (count:Int)):=(hb1.cell (by simp)).trans (by rw [blk_cell hb0];rfl)
 have k4:w1.cell? ⟨w.heap.size,4,none⟩=some (.int .i64 (way:Int)):=(hb1.cell (by simp)).trans (by rw [blk_cell hb0];rfl)
 obtain ⟨a,cap,hv⟩:=own_shape hown
 rw [hv] at hown
 rw [hv]
 rw [sb_len] at hown
 rw [sb_len]
 have hP1:=HP.out.below hb1
 have hin:∀ c ∈ srvI rcs td goods gate ls ls.length,c<ls.length:=fun c hc=>srvI_lt hc
 have hfp:∀ c ∈ srvI rcs td goods gate ls ls.length,0<(ls.getD c L0).free:=fun c hc=>by
  have:=(queue_mem (f:=true)).1 ((queue_perm true td goods gate ls).mem_iff.2 hc)
  have h7:=this.2
  unfold srv at h7
  simp only [Bool.and_eq_true,decide_eq_true_eq] at h7
  omega
 have hil:(srvI rcs td goods gate ls ls.length).length≤30:=by have:=srvI_len (rcs:=rcs) td goods gate ls ls.length;omega
 have hown0:w1.ownsRow 0 129 1 (.slice a (srvI rcs td goods gate ls ls.length).length cap) (srvI rcs td goods gate ls ls.length).length (ptrs (sb bs (srvI rcs td goods gate ls ls.length))):=own_base hown
 have h2b:=and2 h5
 generalize hs:srvI rcs td goods gate ls ls.length=is at *
 have HS:=hide hs
 have HWF:Hid (linesQ rcs td goods count gate way ls=giveQ ls (srtI (befI (wayF way) ls) is) count):=by unfold Hid linesQ queue;rw [hs]
 cases hwf:wayF way with
 | true =>
  rw [hwf] at h2b HWF
  have HAL:=hide (allot_C hP1.lots hP1.ok HGO.out is hin hfp hil a cap hown0 count h3)
  have HB1:=hide (ha.trans (hb1.mono ha.size))
  clear hs hwf hown hown0 hP1 hin hfp hv hb0 hb1 HC HP
  go_wp2_with fail
  with_reducible refine (HAL.out).mono ?_
  rintro e w2 ⟨hb2,v2,rfl,ho2⟩
  go_wp2_with fail
  go_ret
  refine ⟨HB1.out.trans (hb2.mono HB1.out.size),v2,rfl,?_⟩
  rw [HWF.out];exact own_weaken ho2 HB1.out.size
 | false =>
  rw [hwf] at h2b HWF
  have HAL:=hide (allot_E hP1.lots hP1.ok HGO.out is hin hfp hil a cap hown0 count h3)
  have HB1:=hide (ha.trans (hb1.mono ha.size))
  clear hs hwf hown hown0 hP1 hin hfp hv hb0 hb1 HC HP
  go_wp2_with fail
  with_reducible refine (HAL.out).mono ?_
  rintro e w2 ⟨hb2,v2,rfl,ho2⟩
  go_wp2_with fail
  go_ret
  refine ⟨HB1.out.trans (hb2.mono HB1.out.size),v2,rfl,?_⟩
  rw [HWF.out];exact own_weaken ho2 HB1.out.size
end Go.Proofs.YtgcedalggnmooabGreatDoor
namespace Go.Proofs.YtgcedalggnmooabGreatDoor
open Go.RowKit
theorem lineCells_at (bs:List Nat):∀ (l:List (Nat × Nat)) (i:Nat),i<l.length→(lineCells bs l)[i * 2]?=some (.pointer (some ⟨bs.getD (l.getD i (0,0)).1 0,0,none⟩))∧(lineCells bs l)[i * 2+1]?=some (.int .i64 ((l.getD i (0,0)).2:Int))
 | [],_,h=>by simp at h
 | p :: r,0,_=>by simp [lineCells]
 | p :: r,i+1,h=>by
  have:=lineCells_at bs r i (by simpa using h)
  have e1:(i+1) * 2=i * 2+1+1:=by omega
  have e2:(i+1) * 2+1=i * 2+1+1+1:=by omega
  rw [e1]
  simpa [lineCells] using this
theorem lines_cells {w:World} {base:Nat} {a:Option Addr} {cap:Nat} {bs:List Nat} {l:List (Nat × Nat)} (h:w.ownsRow base 163 2 (.slice a l.length cap) l.length (lineCells bs l)) (k:Nat) (hk:k<l.length):∃ G,a=some ⟨G,0,none⟩∧G<w.heap.size∧w.cell? ⟨G,k * 2,none⟩=some (.pointer (some ⟨bs.getD (l.getD k (0,0)).1 0,0,none⟩))∧w.cell? ⟨G,k * 2+1,none⟩=some (.int .i64 ((l.getD k (0,0)).2:Int)):=by
 obtain ⟨g,cap',hv',_,hlt⟩:=own_someS h (by omega)
 cases hv'
 refine ⟨g,rfl,hlt,?_,?_⟩
 ·rw [h.cellAt (k * 2) (by omega)];exact (lineCells_at bs l k hk).1
 ·rw [h.cellAt (k * 2+1) (by omega)];exact (lineCells_at bs l k hk).2
theorem sumQ_append (a b:List (Nat × Nat)):sumQ (a++b)=sumQ a+sumQ b:=by
 induction a with
 | nil=>simp [sumQ]
 | cons x a ih =>
  simp only [sumQ,List.cons_append,List.map_cons,List.sum_cons] at ih ⊢
  omega
theorem sumQ_take (l:List (Nat × Nat)) (k:Nat) (h:k<l.length):sumQ (l.take (k+1))=sumQ (l.take k)+(l.getD k (0,0)).2:=by
 rw [List.take_succ_eq_append_getElem h,sumQ_append]
 simp [sumQ,List.getD_eq_getElem?_getD,h]
theorem sumQ_take_le (l:List (Nat × Nat)) (k:Nat):sumQ (l.take k)≤sumQ l:=by
 have:sumQ l=sumQ (l.take k)+sumQ (l.drop k):=by
  rw [← sumQ_append,List.take_append_drop]
 omega
theorem sumQ_one (l:List (Nat × Nat)) (k:Nat) (h:k<l.length):(l.getD k (0,0)).2≤sumQ l:=by
 have:=sumQ_take l k h
 have:=sumQ_take_le l (k+1)
 omega
set_option maxHeartbeats 1600000 in
theorem countOf_any {w:World} {a:Option Addr} {cap:Nat} {bs:List Nat} {l:List (Nat × Nat)} (h:w.ownsRow 0 163 2 (.slice a l.length cap) l.length (lineCells bs l)) (hl:l.length≤30) (hs:sumQ l≤2147483647) :
  Calls Tryz.prog 81 #[.slice a l.length cap] w fun e w'=>e=.returned (.int .i64 (sumQ l:Int))∧Below w.heap.size w w':=by
 have HC:=hide (fun k hk=>lines_cells h k hk)
 clear h
 go_enter Tryz.func81,Tryz.ntmps81
 go_wp2_with fail
 go_loopw [3,5,8] (fun cc _ ii wr=>∃ k:Nat,ii=.int .i64 k∧k≤l.length∧cc=.int .i64 (sumQ (l.take k):Nat)∧Below w.heap.size w wr) (fun _ _ ii _=>l.length - (intOf ii).toNat)
 case atStart=>exact ⟨0,rfl,by omega,rfl,Below.refl _ _⟩
 case round =>
  obtain ⟨k,rfl,hk,rfl,hb⟩:=hrel
  by_cases hlt:k<l.length
  ·obtain ⟨G,rfl,hGlt,g1,g2⟩:=HC.out k hlt
   have c1:=(hb.cell (p:=⟨G,k * 2,none⟩) (by exact hGlt)).trans g1
   have c2:=(hb.cell (p:=⟨G,k * 2+1,none⟩) (by exact hGlt)).trans g2
   have q1:=sumQ_take l k hlt
   have q2:=sumQ_take_le l (k+1)
   have HQ:=hide q1
   obtain ⟨x,HX⟩:∃ x,Hid (x=(l.getD k (0,0)).2):=⟨_,rfl⟩
   obtain ⟨s,HS⟩:∃ s,Hid (s=sumQ (l.take k)):=⟨_,rfl⟩
   rw [← HX.out] at c2
   have hsx:s+x≤2147483647:=by rw [HS.out,HX.out];omega
   rw [show (sumQ (l.take k):Nat)=s from HS.out.symm]
   generalize bs.getD (l.getD k (0,0)).1 0=bk at *
   clear g1 g2 q1 q2
   go_wp2_with fail
   go_roundw
   case rel=>exact ⟨k+1,by go_num,by omega,by rw [HQ.out,← HX.out,← HS.out];go_num,hb.alloc hb.size _⟩
   case measure=>simp [intOf];omega
  ·obtain rfl:k=l.length:=by omega
   rw [List.take_length]
   clear hlt
   go_wp2_with fail
   go_ret
   exact ⟨rfl,hb⟩
def toldL (ls:List L):List (Nat × Nat)→List Nat
 | p :: r=>(ls.getD p.1 L0).id :: p.2 :: toldL ls r
 | []=>[]
def toldQ (ls:List L) (l:List (Nat × Nat)):List Nat:=l.length :: toldL ls l
theorem toldL_snoc (ls:List L) (p:Nat × Nat):∀ l,toldL ls (l++[p])=toldL ls l++[(ls.getD p.1 L0).id,p.2]
 | []=>rfl
 | q :: r=>by simp only [List.cons_append,toldL,toldL_snoc ls p r]
theorem toldL_len (ls:List L):∀ l,(toldL ls l).length=l.length * 2
 | []=>rfl
 | q :: r=>by simp only [toldL,List.length_cons,toldL_len ls r];omega
theorem info2:(Tryz.prog.info? 2).map (fun i=>(i.zero,i.size,i.bytes))=some (some (.int .i64 0),1,8):=by kernel_rfl
theorem tUIs:Tryz.prog.underlying 54=some (.slice 2):=by kernel_rfl
set_option maxHeartbeats 1600000 in
theorem told_any {w:World} {a:Option Addr} {cap:Nat} {bs:List Nat} {ls:List L} {l:List (Nat × Nat)} (h:w.ownsRow 0 163 2 (.slice a l.length cap) l.length (lineCells bs l)) (hl:l.length≤30) (hs:sumQ l≤2147483647) (hlo:LotsOK w bs ls) (hok:∀ x ∈ ls,L.Ok x) (hin:∀ p ∈ l,p.1<ls.length) :
  Calls Tryz.prog 69 #[.slice a l.length cap] w fun e w'=>Below w.heap.size w w'∧∃ g c,e=.returned (.slice (some ⟨g,0,none⟩) (toldQ ls l).length c)∧w'.ownsRow w.heap.size 2 1 (.slice (some ⟨g,0,none⟩) (toldQ ls l).length c) (toldQ ls l).length (I (toldQ ls l)):=by
 obtain ⟨i0,hi,hz0,hz1,hz2⟩:=info_parts info2
 have HC:=hide (fun k hk=>lines_cells h k hk)
 have HLO:=hide hlo
 have HOK:=hide hok
 have HIN:=hide hin
 have HS:=hide hs
 have HL0:Hid ((w.alloc (.cells #[.int .i64 (l.length:Int)] 2)).ownsRow w.heap.size 2 1 (.slice (some ⟨w.heap.size,0,none⟩) 1 1) 1 (I (l.length :: toldL ls (l.take 0)))):=World.ownsRow_lit w #[.int .i64 (l.length:Int)] 1 (Nat.le_refl _) (by unfold maxLen;omega) rfl
 clear h hlo hok hin hs
 go_enter Tryz.func69,Tryz.ntmps69
 go_wp2_with fail
 go_loopw [3,5,11] (fun nn _ ii wr=>∃ (k g c:Nat),ii=.int .i64 k∧k≤l.length∧nn=.slice (some ⟨g,0,none⟩) (1+k * 2) c∧wr.ownsRow w.heap.size 2 1 (.slice (some ⟨g,0,none⟩) (1+k * 2) c) (1+k * 2) (I (l.length :: toldL ls (l.take k)))∧Below w.heap.size w wr) (fun _ _ ii _=>l.length - (intOf ii).toNat)
 case atStart=>exact ⟨0,_,_,rfl,by omega,rfl,HL0.out,al1 w _⟩
 case round =>
  clear HL0
  obtain ⟨k,g,c,rfl,hk,rfl,hown,hb⟩:=hrel
  by_cases hlt:k<l.length
  ·obtain ⟨G,rfl,hGlt,g1,g2⟩:=HC.out k hlt
   have c1:=(hb.cell (p:=⟨G,k * 2,none⟩) (by exact hGlt)).trans g1
   have c2:=(hb.cell (p:=⟨G,k * 2+1,none⟩) (by exact hGlt)).trans g2
   have hpm:l.getD k (0,0) ∈ l:=by simp [List.getD_eq_getElem?_getD,hlt]
   have hc:=HIN.out _ hpm
   obtain ⟨pv,hcl⟩:=(HLO.out.below hb) _ hc
   have hok1:=HOK.out _ (mem_getD hc)
   have HT:Hid (toldL ls (l.take (k+1))=toldL ls (l.take k)++[(ls.getD (l.getD k (0,0)).1 L0).id,(l.getD k (0,0)).2]):=by
    have e:l.take (k+1)=l.take k++[l.getD k (0,0)]:=by
     rw [List.take_succ_eq_append_getElem hlt];simp [List.getD_eq_getElem?_getD,hlt]
    unfold Hid;rw [e,toldL_snoc]
   have hx:=sumQ_one l k hlt
   have hxb:(l.getD k (0,0)).2≤2147483647:=Nat.le_trans hx HS.out
   have hid:=hok1.id
   have hc0:wr.cell? ⟨bs.getD (l.getD k (0,0)).1 0,0,none⟩=some (.int .i64 ((ls.getD (l.getD k (0,0)).1 L0).id:Int)):=by rw [blk_cell hcl];rfl
   have hblt:=blk_lt hcl
   generalize (l.getD k (0,0)).2=x at *
   generalize (ls.getD (l.getD k (0,0)).1 L0).id=id at *
   generalize bs.getD (l.getD k (0,0)).1 0=bk at *
   have hB:=al1 wr (.cells #[.pointer (some ⟨bk,0,none⟩),.int .i64 (x:Int)] 163)
   have hbox:=heap_alloc_new wr (.cells #[.pointer (some ⟨bk,0,none⟩),.int .i64 (x:Int)] 163)
   clear g1 g2 hcl hok1 hpm hc hx
   go_wp2_with fail
   have d0:(wr.alloc (.cells #[.pointer (some ⟨bk,0,none⟩),.int .i64 (x:Int)] 163)).cell? ⟨wr.heap.size,0,none⟩=some (.pointer (some ⟨bk,0,none⟩)):=by rw [blk_cell hbox];rfl
   have d1:(wr.alloc (.cells #[.pointer (some ⟨bk,0,none⟩),.int .i64 (x:Int)] 163)).cell? ⟨wr.heap.size,1,none⟩=some (.int .i64 (x:Int)):=by rw [blk_cell hbox];rfl
   have e0:(wr.alloc (.cells #[.pointer (some ⟨bk,0,none⟩),.int .i64 (x:Int)] 163)).cell? ⟨bk,0,none⟩=some (.int .i64 (id:Int)):=(hB.cell (by exact hblt)).trans hc0
   have hown1:=own_below hown hB
   have hbb:=hb.trans (hB.mono hb.size)
   have hszb:w.heap.size≤(wr.alloc (.cells #[.pointer (some ⟨bk,0,none⟩),.int .i64 (x:Int)] 163)).heap.size:=hbb.size
   generalize (wr.alloc (.cells #[.pointer (some ⟨bk,0,none⟩),.int .i64 (x:Int)] 163))=wb at *
   have hbl:Below wb.heap.size wb (wb.alloc (.cells #[.int .i64 (id:Int),.int .i64 (x:Int)] 2)).drew:=(al1 wb _).drew
   have hbk:(wb.alloc (.cells #[.int .i64 (id:Int),.int .i64 (x:Int)] 2)).drew.heap[wb.heap.size]?=some (.cells #[.int .i64 (id:Int),.int .i64 (x:Int)] 2 (0,0)):=heap_alloc_new wb _
   have hone:∀ u ∈ ([.int .i64 (id:Int),.int .i64 (x:Int)]:List Value),u.oneCell'=true:=by
    intro u hu;simp at hu;rcases hu with rfl | rfl <;> rfl
   have HBB:=hide hbb
   have HON:=hide hown1
   have HBL:=hide hbl
   clear hc0 c1 c2 hown hb hbox hB hbb
   go_region_law (refine step_append_lies _ rfl _ _ 54 rfl w.heap.size 2 i0 (.int .i64 0) 1 8 tUIs hi hz0 hz1 hz2 rfl (by decide) (.slice (some ⟨g,0,none⟩) (1+k * 2) c) (1+k * 2) (I (l.length :: toldL ls (l.take k))) rfl (own_below hown1 hbl) ⟨wb.heap.size,0,none⟩ 2 2 [.int .i64 (id:Int),.int .i64 (x:Int)] rfl rfl (World.news_of_block hbk) hone (by decide) (by unfold maxLen;omega) (by omega) (by simp;omega) (wb.heap.size+1) (by simp) ?_;intro g2 cap2 w2 hown2 hgrow hat hlt2)
   all_goals
    have e1:I (l.length :: toldL ls (l.take k))++[.int .i64 (id:Int),.int .i64 (x:Int)]=I (l.length :: toldL ls (l.take (k+1))):=by rw [HT.out];simp [I]
    rw [e1] at hown2
    have hbw:Below w.heap.size w w2:=(HBB.out.trans (HBL.out.mono HBB.out.size)).grown hgrow (by simp;omega) (fun q hq=>(HON.out.lt q hq).1)
    have HO2:=hide hown2
    have HBW:=hide hbw
    clear hown2 hgrow hat hlt2 hbw e1 hbl hbk hone hown1 d0 d1 e0
    go_wp2_with fail
    go_roundw
    case rel=>exact ⟨k+1,g2,cap2,by go_num,by omega,by rw [show 1+(k+1) * 2=1+k * 2+2 by omega],by rw [show 1+(k+1) * 2=1+k * 2+2 by omega];exact HO2.out,HBW.out⟩
    case measure=>simp [intOf];omega
  ·obtain rfl:k=l.length:=by omega
   rw [List.take_length] at hown
   have hlen:(toldQ ls l).length=1+l.length * 2:=by simp [toldQ,toldL_len];omega
   have HO:=hide hown
   have HLN:=hide hlen
   clear hlt hown hlen
   go_wp2_with fail
   go_ret
   exact ⟨hb,g,c,by rw [HLN.out];rfl,by rw [HLN.out];exact HO.out⟩
end Go.Proofs.YtgcedalggnmooabGreatDoor
namespace Go.Proofs.YtgcedalggnmooabGreatDoor
open Go.RowKit
theorem lookup_snoc (b b' n:Nat):∀ l:List (Nat × Nat),(l++[(b,n)]).lookup b'=(l.lookup b').or (if b'=b then some n else none)
 | []=>by by_cases h:b'=b <;> simp [List.lookup,h,beq_eq_false_iff_ne.2]
 | (x,y) :: l=>by
  cases hx:b' == x with
  | true=>simp [List.lookup,hx]
  | false=>simp only [List.cons_append,List.lookup,hx];exact lookup_snoc b b' n l
theorem lookup_filter (b b':Nat):∀ l:List (Nat × Nat),(l.filter (fun p=>p.1 != b)).lookup b'=if b'=b then none else l.lookup b'
 | []=>by simp [List.lookup]
 | (x,y) :: l=>by
  have ih:=lookup_filter b b' l
  by_cases hxb:x=b
  ·subst hxb
   simp only [List.filter,bne_self_eq_false,ih,List.lookup]
   by_cases h:b'=x
   ·subst h;simp
   ·simp [h,beq_eq_false_iff_ne.2 h]
  ·have hb:(x != b)=true:=by simp [hxb]
   simp only [List.filter,hb,List.lookup,ih]
   cases hx:b' == x with
   | true =>
    have:b'=x:=by simpa using hx
    subst this
    simp [hxb]
   | false=>rfl
theorem lookup_some_mem {b n:Nat}:∀ {l:List (Nat × Nat)},l.lookup b=some n→(b,n) ∈ l
 | [],h=>by simp [List.lookup] at h
 | (x,y) :: l,h=>by
  simp only [List.lookup] at h
  cases hx:b == x with
  | true =>
   rw [hx] at h
   have:b=x:=by simpa using hx
   simp at h
   simp [this,h]
  | false=>rw [hx] at h;exact List.mem_cons_of_mem _ (lookup_some_mem h)
theorem lookup_of_mem {b n:Nat}:∀ {l:List (Nat × Nat)},(l.map Prod.fst).Nodup→(b,n) ∈ l→l.lookup b=some n
 | [],_,h=>by simp at h
 | (x,y) :: l,hn,h=>by
  simp only [List.map_cons,List.nodup_cons] at hn
  rcases List.mem_cons.1 h with h | h
  ·cases h;simp [List.lookup]
  ·have hne:b≠x:=fun e=>hn.1 (by rw [← e];exact List.mem_map_of_mem h)
   have hb:(b == x)=false:=by simpa using hne
   simp only [List.lookup,hb]
   exact lookup_of_mem hn.2 h
theorem lookup_none_iff {b:Nat}:∀ {l:List (Nat × Nat)},l.lookup b=none↔b ∉ l.map Prod.fst
 | []=>by simp [List.lookup]
 | (x,y) :: l=>by
  by_cases hx:b=x
  ·subst hx;simp [List.lookup]
  ·have hb:(b == x)=false:=by simpa using hx
   simp only [List.lookup,hb,List.map_cons,List.mem_cons,not_or]
   rw [lookup_none_iff]
   exact ⟨fun h=>⟨hx,h⟩,fun h=>h.2⟩
theorem filter_len (b:Nat):∀ l:List (Nat × Nat),(l.map Prod.fst).Nodup→(l.filter (fun p=>p.1 != b)).length+(if (l.lookup b).isSome then 1 else 0)=l.length
 | [],_=>by simp [List.lookup]
 | (x,y) :: l,hn=>by
  simp only [List.map_cons,List.nodup_cons] at hn
  have ih:=filter_len b l hn.2
  by_cases hxb:x=b
  ·subst hxb
   have hnone:l.lookup x=none:=lookup_none_iff.2 hn.1
   rw [hnone] at ih
   simp only [List.filter,bne_self_eq_false,List.lookup,beq_self_eq_true,Option.isSome_some,if_true,List.length_cons]
   simp only [Option.isSome_none,Bool.false_eq_true,if_false,Nat.add_zero] at ih
   rw [ih]
  ·have hb:(x != b)=true:=by simp [hxb]
   have hb2:(b == x)=false:=by simp;exact fun e=>hxb e.symm
   simp only [List.filter,hb,List.lookup,hb2,List.length_cons]
   omega
def delO (a b:Nat) (o:O):O:=if o.id=a then { o with lines:=o.lines.filter (fun p=>p.1 != b) } else o
def delLine (os:List O) (a b:Nat):List O:=os.map (delO a b)
theorem delO_id (a b:Nat) (o:O):(delO a b o).id=o.id:=by unfold delO;split <;> rfl
theorem find_map (a b a':Nat):∀ os:List O,(os.map (delO a b)).find? (fun o=>o.id == a')=(os.find? (fun o=>o.id == a')).map (delO a b)
 | []=>rfl
 | o :: os=>by
  simp only [List.map_cons,List.find?,delO_id]
  cases h:o.id == a' with
  | true=>rfl
  | false=>exact find_map a b a' os
theorem lineOf_del (os:List O) (a b a' b':Nat):lineOf (delLine os a b) a' b'=if a'=a∧b'=b then none else lineOf os a' b':=by
 unfold lineOf delLine
 rw [find_map]
 cases h:os.find? (fun o=>o.id == a') with
 | none=>simp
 | some o =>
  have hid:o.id=a':=by simpa using List.find?_some h
  simp only [Option.map_some,Option.bind_some,delO]
  by_cases ha:o.id=a
  ·rw [if_pos ha]
   simp only [lookup_filter]
   have haa:a'=a:=by omega
   by_cases hb:b'=b <;> simp [haa,hb]
  ·rw [if_neg ha]
   have haa:¬ a'=a:=by omega
   simp [haa]
theorem any_del (os:List O) (a b n:Nat):(delLine os a b).any (fun o=>o.id == n)=os.any (fun o=>o.id == n):=by
 unfold delLine
 rw [List.any_map]
 congr 1
 funext o
 simp [delO_id]
theorem nLines_del (a b:Nat):∀ os:List O,(os.map O.id).Nodup→(∀ o ∈ os,(o.lines.map Prod.fst).Nodup)→nLines (delLine os a b)+(if (lineOf os a b).isSome then 1 else 0)=nLines os
 | [],_,_=>by simp [nLines,delLine,lineOf]
 | o :: os,hn,hk=>by
  simp only [List.map_cons,List.nodup_cons] at hn
  have ih:=nLines_del a b os hn.2 (fun o' h=>hk o' (by simp [h]))
  have hko:=hk o (by simp)
  by_cases ha:o.id=a
  ·have hnone:os.find? (fun o=>o.id == a)=none:=by
    rw [List.find?_eq_none]
    intro o' ho' he
    have:o'.id=a:=by simpa using he
    exact hn.1 (by rw [ha,← this];exact List.mem_map_of_mem ho')
   have hl:lineOf os a b=none:=by unfold lineOf;rw [hnone];rfl
   rw [hl] at ih
   have hl2:lineOf (o :: os) a b=o.lines.lookup b:=by unfold lineOf;simp [List.find?,ha]
   have hf:=filter_len b o.lines hko
   rw [hl2]
   simp only [nLines,delLine,List.map_cons,List.sum_cons,delO,if_pos ha] at ih ⊢
   simp only [Option.isSome_none,Bool.false_eq_true,if_false] at ih
   omega
  ·have hl2:lineOf (o :: os) a b=lineOf os a b:=by
    have hb:(o.id == a)=false:=by simpa using ha
    unfold lineOf;simp [List.find?,hb]
   rw [hl2]
   simp only [nLines,delLine,List.map_cons,List.sum_cons,delO,if_neg ha] at ih ⊢
   omega
theorem isK_o (n:Nat):WideAt.IsKeyLit (okey n):=trivial
theorem isK_h (a b:Nat):WideAt.IsKeyLit (hkey a b):=trivial
theorem HD.del {os:List O} {D:DataW Unit} (h:HD os D) (ht:Maps.Tidy D) {a b:Nat} (ha:a≤2147483647) (hb:b≤2147483647) (hn:(os.map O.id).Nodup) (hk:∀ o ∈ os,(o.lines.map Prod.fst).Nodup):HD (delLine os a b) (D.del (hkey a b)):=by
 have key:∀ a' b':Nat,a'≤2147483647→b'≤2147483647→¬ (a'=a∧b'=b)→hkey a' b'≠hkey a b:=fun a' b' h1 h2 hne e=>hne (hkey_inj h1 h2 ha hb e)
 refine ⟨?_,fun a' b' h1 h2=>?_,fun a' b' h1 h2=>?_⟩
 ·have q1:=Maps.size_del (k:=hkey a b) ht
  have q2:=nLines_del a b os hn hk
  rw [h.has a b ha hb,h.size] at q1
  omega
 ·rw [lineOf_del]
  by_cases hc:a'=a∧b'=b
  ·obtain ⟨rfl,rfl⟩:=hc
   rw [if_pos ⟨rfl,rfl⟩,Maps.has_del_same];rfl
  ·rw [if_neg hc,Maps.has_del_other (key a' b' h1 h2 hc)];exact h.has a' b' h1 h2
 ·rw [lineOf_del]
  by_cases hc:a'=a∧b'=b
  ·obtain ⟨rfl,rfl⟩:=hc
   rw [if_pos ⟨rfl,rfl⟩,Maps.atKey_del_same];rfl
  ·rw [if_neg hc,Maps.atKey_del_other (key a' b' h1 h2 hc)];exact h.val a' b' h1 h2
theorem find_last (os:List O) (o:O) (h:∀ o' ∈ os,o'.id≠o.id) (a:Nat):(os++[o]).find? (fun o=>o.id == a)=if a=o.id then some o else os.find? (fun o=>o.id == a):=by
 rw [List.find?_append]
 by_cases ha:a=o.id
 ·subst ha
  have:os.find? (fun o'=>o'.id == o.id)=none:=by
   rw [List.find?_eq_none];intro o' ho' he;exact h o' ho' (by simpa using he)
  rw [this];simp
 ·rw [if_neg ha]
  have:(o.id == a)=false:=by simp;exact fun e=>ha e.symm
  simp [List.find?,this]
theorem HD.put {os:List O} {D:DataW Unit} {id g:Nat} {ln:List (Nat × Nat)} (h:HD (os++[⟨id,g,ln⟩]) D) (ht:Maps.Tidy D) (hid:id≤2147483647) (ho:∀ o' ∈ os,o'.id≠id) {b n:Nat} (hb:b≤2147483647) (hnew:ln.lookup b=none) :
  HD (os++[⟨id,g,ln++[(b,n)]⟩]) (D.put (hkey id b) (.lit (.int .i64 (n:Int)))):=by
 have key:∀ a' b':Nat,a'≤2147483647→b'≤2147483647→¬ (a'=id∧b'=b)→hkey a' b'≠hkey id b:=fun a' b' h1 h2 hne e=>hne (hkey_inj h1 h2 hid hb e)
 have lo:∀ (ln:List (Nat × Nat)) (a' b':Nat),lineOf (os++[⟨id,g,ln⟩]) a' b'=if a'=id then ln.lookup b' else lineOf os a' b':=fun ln a' b'=>by
  unfold lineOf
  rw [find_last os ⟨id,g,ln⟩ ho a']
  by_cases ha:a'=id
  ·simp [ha]
  ·simp [ha]
 have hnone:Maps.has D (hkey id b)=false:=by rw [h.has id b hid hb,lo,if_pos rfl,hnew];rfl
 refine ⟨?_,fun a' b' h1 h2=>?_,fun a' b' h1 h2=>?_⟩
 ·rw [Maps.size_put ht,hnone,h.size]
  simp [nLines]
  omega
 ·rw [lo]
  by_cases hc:a'=id∧b'=b
  ·obtain ⟨rfl,rfl⟩:=hc
   rw [if_pos rfl,Maps.has_put_same ht.isMap (isK_h _ _),lookup_snoc,hnew];simp
  ·rw [Maps.has_put_other (key a' b' h1 h2 hc),h.has a' b' h1 h2,lo]
   by_cases ha:a'=id
   ·have hb':¬ b'=b:=fun e=>hc ⟨ha,e⟩
    rw [if_pos ha,if_pos ha,lookup_snoc];simp [hb']
   ·rw [if_neg ha,if_neg ha]
 ·rw [lo]
  by_cases hc:a'=id∧b'=b
  ·obtain ⟨rfl,rfl⟩:=hc
   rw [if_pos rfl,Maps.atKey_put_same ht.isMap (isK_h _ _),lookup_snoc,hnew];simp
  ·rw [Maps.atKey_put_other (key a' b' h1 h2 hc),h.val a' b' h1 h2,lo]
   by_cases ha:a'=id
   ·have hb':¬ b'=b:=fun e=>hc ⟨ha,e⟩
    rw [if_pos ha,if_pos ha,lookup_snoc];simp [hb']
   ·rw [if_neg ha,if_neg ha]
theorem OD.put {os:List O} {D:DataW Unit} {id g:Nat} (h:OD os D) (ht:Maps.Tidy D) (hid:id≤2147483647) (ho:os.any (fun o=>o.id == id)=false):OD (os++[⟨id,g,[]⟩]) (D.put (okey id) (.lit (.int .i64 (g:Int)))):=by
 have hf:os.find? (fun o=>o.id == id)=none:=List.find?_eq_none.2 (fun o hq=>by simpa using List.any_eq_false.1 ho o hq)
 refine ⟨?_,fun n hn=>?_,fun n hn=>?_,fun kl hk=>?_⟩
 ·rw [Maps.size_put ht,h.has id hid,ho,h.size];simp
 ·by_cases e:n=id
  ·subst e;rw [Maps.has_put_same ht.isMap (isK_o _)];simp
  ·rw [Maps.has_put_other (fun q=>e (okey_inj q)),h.has n hn]
   have:(id == n)=false:=by simp;exact fun q=>e q.symm
   simp [this]
 ·by_cases e:n=id
  ·subst e
   rw [Maps.atKey_put_same ht.isMap (isK_o _)]
   unfold goodsOf
   rw [List.find?_append,hf]
   simp
  ·rw [Maps.atKey_put_other (fun q=>e (okey_inj q)),h.val n hn]
   have:(id == n)=false:=by simp;exact fun q=>e q.symm
   unfold goodsOf
   rw [List.find?_append]
   have e2:[(⟨id,g,[]⟩:O)].find? (fun o=>o.id == n)=none:=by simp [this]
   rw [e2,Option.or_none]
 ·by_cases hq:kl=okey id
  ·exact ⟨⟨id,g,[]⟩,by simp,hq⟩
  ·rw [Maps.has_put_other hq] at hk
   obtain ⟨o,ho',e⟩:=h.keys kl hk
   exact ⟨o,by simp [ho'],e⟩
theorem OD.congr {os os':List O} {D:DataW Unit} (h:OD os D) (e:os'.map (fun o=>(o.id,o.goods))=os.map (fun o=>(o.id,o.goods))):OD os' D:=by
 have hany:∀ (l:List O) (n:Nat),l.any (fun o=>o.id == n)=(l.map (fun o=>(o.id,o.goods))).any (fun q=>q.1 == n):=fun l n=>by rw [List.any_map];rfl
 have hgo:∀ (l:List O) (n:Nat),goodsOf l n=(((l.map (fun o=>(o.id,o.goods))).find? (fun q=>q.1 == n)).map Prod.snd).getD 0:=fun l n=>by
  unfold goodsOf
  rw [List.find?_map]
  have:((fun q:Nat × Nat=>q.1 == n) ∘ fun o:O=>(o.id,o.goods))=fun o=>o.id == n:=rfl
  rw [this]
  cases l.find? (fun o=>o.id == n) <;> rfl
 refine ⟨?_,fun n hn=>?_,fun n hn=>?_,fun kl hk=>?_⟩
 ·have:=congrArg List.length e
  simp at this
  rw [h.size,this]
 ·rw [h.has n hn,hany,hany,e]
 ·rw [h.val n hn,hgo,hgo,e]
 ·obtain ⟨o,ho,e2⟩:=h.keys kl hk
  have hm:(o.id,o.goods) ∈ os'.map (fun o=>(o.id,o.goods)):=by rw [e];exact List.mem_map_of_mem ho
  obtain ⟨o',ho',e3⟩:=List.mem_map.1 hm
  exact ⟨o',ho',by rw [e2,← (Prod.mk.inj e3).1]⟩
theorem HD.snoc {os:List O} {D:DataW Unit} {id g:Nat} (h:HD os D) (ho:os.any (fun o=>o.id == id)=false):HD (os++[⟨id,g,[]⟩]) D:=by
 have ho':∀ o' ∈ os,o'.id≠id:=fun o' hm e=>by
  have:=List.any_eq_false.1 ho o' hm
  simp [e] at this
 have lo:∀ a' b':Nat,lineOf (os++[⟨id,g,[]⟩]) a' b'=lineOf os a' b':=fun a' b'=>by
  unfold lineOf
  rw [find_last os ⟨id,g,[]⟩ ho' a']
  by_cases ha:a'=id
  ·have hn:os.find? (fun o=>o.id == a')=none:=by
    rw [List.find?_eq_none];intro o' hm he;exact ho' o' hm (by rw [← ha];simpa using he)
   simp [ha,List.lookup]
   rw [← ha,hn];rfl
  ·simp [ha]
 exact ⟨by rw [h.size];simp [nLines],fun a' b' h1 h2=>by rw [lo];exact h.has a' b' h1 h2,fun a' b' h1 h2=>by rw [lo];exact h.val a' b' h1 h2⟩
end Go.Proofs.YtgcedalggnmooabGreatDoor
namespace Go.Proofs.YtgcedalggnmooabGreatDoor
open Go.RowKit
def holdL (l:L) (n:Nat):L:={ l with free:=l.free - n,held:=l.held+n }
def holdS (ls:List L):List (Nat × Nat)→List L
 | p :: r=>holdS (ls.set p.1 (holdL (ls.getD p.1 L0) p.2)) r
 | []=>ls
def linesId (ls:List L) (l:List (Nat × Nat)):List (Nat × Nat):=l.map fun p=>((ls.getD p.1 L0).id,p.2)
theorem holdL_ok {l:L} (h:L.Ok l) {n:Nat} (hn:n≤l.free):L.Ok (holdL l n):=⟨h.id,h.goods,h.expiry,h.place,(by have:=h.sum;show l.free - n+(l.held+n)+l.shipped+l.scrapped+l.given≤2147483647;omega),h.got,h.par⟩
theorem holdS_snoc (p:Nat × Nat):∀ (l:List (Nat × Nat)) (ls:List L),holdS ls (l++[p])=(holdS ls l).set p.1 (holdL ((holdS ls l).getD p.1 L0) p.2)
 | [],ls=>rfl
 | q :: r,ls=>by simp only [List.cons_append,holdS];exact holdS_snoc p r _
theorem holdS_len:∀ (l:List (Nat × Nat)) (ls:List L),(holdS ls l).length=ls.length
 | [],ls=>rfl
 | q :: r,ls=>by simp only [holdS];rw [holdS_len r];simp
theorem holdS_out {i:Nat}:∀ (l:List (Nat × Nat)) (ls:List L),i ∉ l.map Prod.fst→(holdS ls l).getD i L0=ls.getD i L0
 | [],ls,_=>rfl
 | q :: r,ls,h=>by
  simp only [List.map_cons,List.mem_cons,not_or] at h
  simp only [holdS]
  rw [holdS_out r _ h.2,gset_ne h.1]
theorem holdS_in {i n:Nat}:∀ (l:List (Nat × Nat)) (ls:List L),(l.map Prod.fst).Nodup→(i,n) ∈ l→i<ls.length→(holdS ls l).getD i L0=holdL (ls.getD i L0) n
 | [],ls,_,h,_=>by simp at h
 | q :: r,ls,hn,h,hi=>by
  simp only [List.map_cons,List.nodup_cons] at hn
  simp only [holdS]
  rcases List.mem_cons.1 h with h | h
  ·subst h
   rw [holdS_out r _ hn.1,gset_eq hi]
  ·have hne:i≠q.1:=fun e=>hn.1 (by rw [← e];exact List.mem_map_of_mem h)
   rw [holdS_in r _ hn.2 h (by simpa using hi),gset_ne hne]
theorem linesId_lookup {ls:List L} (hid:∀ i j,i<ls.length→j<ls.length→(ls.getD i L0).id=(ls.getD j L0).id→i=j):∀ (l:List (Nat × Nat)),(∀ p ∈ l,p.1<ls.length)→∀ i,i<ls.length→(linesId ls l).lookup (ls.getD i L0).id=l.lookup i
 | [],_,i,_=>rfl
 | q :: r,h,i,hi=>by
  have ih:=linesId_lookup hid r (fun p hp=>h p (by simp [hp])) i hi
  have hq:=h q (by simp)
  simp only [linesId,List.map_cons,List.lookup] at ih ⊢
  by_cases e:i=q.1
  ·subst e;simp
  ·have e2:(i == q.1)=false:=by simpa using e
   have e3:((ls.getD i L0).id == (ls.getD q.1 L0).id)=false:=by
    rw [beq_eq_false_iff_ne];exact fun h=>e (hid i q.1 hi hq h)
   rw [e2,e3];exact ih
theorem PV.mapsTo {rcs:List (Nat × Nat)} {w w':World} {S:Nat} {M:Mx} {v:Value} {td:Nat} {bs:List Nat} {pvs:List Value} {ls:List L} {os os':List O} (h:PV os rcs w S M v td bs pvs ls) (hq:∀ k,k<w.heap.size→k≠M.o→k≠M.h→w'.heap[k]?=w.heap[k]?) (hm:Mp os' rcs w' M):PV os' rcs w' S M v td bs pvs ls:=by
 obtain ⟨_,_,mo⟩:=h.maps.mo
 obtain ⟨_,_,mh⟩:=h.maps.mh
 have hc:∀ (k:Nat) (cs:Array Value) (t:TypeId),w.heap[k]?=some (.cells cs t (0,0))→w'.heap[k]?=w.heap[k]?:=fun k cs t hk=>hq k (blk_lt hk) (map_ne hk mo) (map_ne hk mh)
 exact {
  store:=(hc _ _ _ h.store).trans h.store
  maps:=hm
  row:=own_congr h.row (fun g hg=>by obtain ⟨cs,hcs⟩:=own_ty h.row hg;exact hc _ _ _ hcs)
  len:=h.len
  plen:=h.plen
  lot:=fun i hi=>(hc _ _ _ (h.lot i hi)).trans (h.lot i hi)
  par:=fun i hi=>(h.par i hi).congr (fun q hq'=>by
   obtain ⟨cs,h3⟩:=(h.par i hi).blk hq'
   exact hc _ _ _ h3)
  nodup:=h.nodup
  today:=h.today
  ok:=h.ok
  room:=h.room }
theorem grown_kp {Z:Nat→Prop} {w w':World} {b:Nat} (h:w.grownBy w' (some b)) (hz:Z b):Kp Z w w':=⟨h.os,h.tape,h.output,h.size,fun k hk hn=>h.block k hk (fun e=>hn (by cases e;exact hz))⟩
end Go.Proofs.YtgcedalggnmooabGreatDoor
