import Derived.Test.YtgcedalggnmooabGreatDoorOrdX
import Derived.Test.YtgcedalggnmooabGreatDoorR0X
import Derived.BigRegion
import Derived.Handy
import Derived.WalkSmall
set_option linter.unusedSimpArgs false
set_option linter.unusedVariables false
set_option maxRecDepth 100000
namespace Go.Proofs.YtgcedalggnmooabGreatDoor
open Go.RowKit
set_option maxHeartbeats 800000 in
theorem Before_E (bi bj:Nat) (li lj:L) (pi pj:Value) (w:World) (hi:w.heap[bi]?=some (.cells (lotCells li pi) 153 (0,0))) (hj:w.heap[bj]?=some (.cells (lotCells lj pj) 153 (0,0))) (oi:L.Ok li) (oj:L.Ok lj) (x:Ex) :
  Calls Tryz.prog 221 #[.agg #[],.pointer (some ⟨bi,0,none⟩),.pointer (some ⟨bj,0,none⟩)] (ext w x) fun e w'=>e=.returned (.bool (bef false li lj))∧∃ x',w'=ext w x':=by
 have hil:=blk_lt hi
 have hjl:=blk_lt hj
 have hi':((ext w x).alloc (.cells #[] 188)).heap[bi]?=some (.cells (lotCells li pi) 153 (0,0)):=((al1 _ _).block bi (Nat.lt_of_lt_of_le hil (ext_below w x).size)).trans (((ext_below w x).block bi hil).trans hi)
 have hj':((ext w x).alloc (.cells #[] 188)).heap[bj]?=some (.cells (lotCells lj pj) 153 (0,0)):=((al1 _ _).block bj (Nat.lt_of_lt_of_le hjl (ext_below w x).size)).trans (((ext_below w x).block bj hjl).trans hj)
 have ci:((ext w x).alloc (.cells #[] 188)).cell? ⟨bi,3,none⟩=some (.int .i64 (li.place:Int)):=by rw [blk_cell hi'];rfl
 have cj:((ext w x).alloc (.cells #[] 188)).cell? ⟨bj,3,none⟩=some (.int .i64 (lj.place:Int)):=by rw [blk_cell hj'];rfl
 have ei:((ext w x).alloc (.cells #[] 188)).cell? ⟨bi,2,none⟩=some (.int .i64 (li.expiry:Int)):=by rw [blk_cell hi'];rfl
 have ej:((ext w x).alloc (.cells #[] 188)).cell? ⟨bj,2,none⟩=some (.int .i64 (lj.expiry:Int)):=by rw [blk_cell hj'];rfl
 have ni:((ext w x).alloc (.cells #[] 188)).cell? ⟨bi,0,none⟩=some (.int .i64 (li.id:Int)):=by rw [blk_cell hi'];rfl
 have nj:((ext w x).alloc (.cells #[] 188)).cell? ⟨bj,0,none⟩=some (.int .i64 (lj.id:Int)):=by rw [blk_cell hj'];rfl
 have q1:=oi.place
 have q2:=oj.place
 have q3:=oi.expiry
 have q4:=oj.expiry
 have q5:=oi.id
 have q6:=oj.id
 by_cases he:li.expiry=lj.expiry
 ·have HB:Hid (bef false li lj=decide (li.id<lj.id)):=by unfold Hid bef;simp [he]
  have hne:((li.expiry:Int) != (lj.expiry:Int))=false:=by rw [he];simp
  generalize bef false li lj=bb at HB ⊢
  generalize li.id=a1 at *
  generalize lj.id=a2 at *
  generalize li.expiry=a3 at *
  generalize lj.expiry=a4 at *
  clear hi hj hi' hj' oi oj ci cj he
  go_enter Tryz.func221,Tryz.ntmps221
  go_wp2_with fail
  go_quiet (fail)
  go_wp2_with fail
  go_quiet (fail)
  go_wp2_with fail
  go_ret
  exact ⟨by rw [HB.out];rfl,_,by simp only [ext_alloc,ext_drewN];rfl⟩
 ·have HB:Hid (bef false li lj=decide (li.expiry<lj.expiry)):=by unfold Hid bef;simp [he]
  have hne:((li.expiry:Int) != (lj.expiry:Int))=true:=by simp;omega
  generalize bef false li lj=bb at HB ⊢
  generalize li.id=a1 at *
  generalize lj.id=a2 at *
  generalize li.expiry=a3 at *
  generalize lj.expiry=a4 at *
  clear hi hj hi' hj' oi oj ci cj he
  go_enter Tryz.func221,Tryz.ntmps221
  go_wp2_with fail
  go_quiet (fail)
  go_wp2_with fail
  go_quiet (fail)
  go_wp2_with fail
  go_ret
  exact ⟨by rw [HB.out];rfl,_,by simp only [ext_alloc,ext_drewN];rfl⟩
theorem meth_E (v : Value) (w : World) : (method 380 188 v "Before").run Tryz.prog w = .ok (221, v) w := by kernel_rfl
structure HV_E (w:World) (Q:Nat) (v:Value) (xs:List Nat):Prop where
 cell:w.heap[Q]?=some (.cells #[v] 208 (0,0))
 row:w.ownsRow 0 129 1 v xs.length (ptrs xs)
theorem HV_E.shape {w:World} {Q:Nat} {v:Value} {xs:List Nat} (h:HV_E w Q v xs):∃ a cap,v=.slice a xs.length cap∧(0<xs.length→∃ G,a=some ⟨G,0,none⟩∧G<w.heap.size∧∀ i,i<xs.length→w.cell? ⟨G,i,none⟩=some (.pointer (some ⟨xs.getD i 0,0,none⟩))):=by
 obtain ⟨a,cap,hv⟩:=own_shape h.row
 refine ⟨a,cap,hv,fun hp=>?_⟩
 obtain ⟨g,cap',hv',_,hlt⟩:=own_some h.row hp
 rw [hv] at hv'
 cases hv'
 refine ⟨g,rfl,hlt,fun i hi=>?_⟩
 have hr:=h.row
 rw [hv] at hr
 rw [hr.cellAt i (by omega)]
 simp [ptrs,List.getD_eq_getElem?_getD,hi]
theorem hcells_E:Tryz.prog.cellsOf 208=1:=by kernel_rfl
theorem hbyte_E:byteOfCell Tryz.prog Tryz.prog.depth 208 0=some 0:=by kernel_rfl
theorem byteOf_E {w:World} {Q:Nat} {v:Value} (h:w.heap[Q]?=some (.cells #[v] 208 (0,0))):(byteOf ⟨Q,0,none⟩).run Tryz.prog w=.ok 0 w:=by
 have hs:w.shape? Q=some (208,1):=by unfold World.shape?;rw [h];rfl
 simp [byteOf,noView,viewAt,shape,program,Sem.run,hs,hcells_E,hbyte_E]
theorem partZ_E {w:World} {Q:Nat} {v:Value} (h:w.heap[Q]?=some (.cells #[v] 208 (0,0))):(partAt ⟨Q,0,none⟩ 0 0).run Tryz.prog w=.ok ⟨Q,0,none⟩ w:=by
 simp [partAt,byteOf_E h]
set_option maxHeartbeats 1600000 in
theorem before_E {w:World} {Q:Nat} {v:Value} {xs:List Nat} (h:HV_E w Q v xs) (i j:Nat) (hi:i<xs.length) (hj:j<xs.length) (hn:xs.length≤30) (li lj:L) (pi pj:Value) (ci:w.heap[xs.getD i 0]?=some (.cells (lotCells li pi) 153 (0,0))) (cj:w.heap[xs.getD j 0]?=some (.cells (lotCells lj pj) 153 (0,0))) (oi:L.Ok li) (oj:L.Ok lj) :
  Calls Tryz.prog 184 #[.pointer (some ⟨Q,0,none⟩),.int .i64 (i:Int),.int .i64 (j:Int)] w fun e w'=>e=.returned (.bool (bef false li lj))∧Below w.heap.size w w':=by
 obtain ⟨a,cap,hv,hrow⟩:=h.shape
 obtain ⟨G,hG,hGlt,hcells⟩:=hrow (by omega)
 subst hG
 have hQlt:=blk_lt h.cell
 have c0:w.cell? ⟨Q,0,none⟩=some v:=by rw [blk_cell h.cell];rfl
 rw [hv] at c0
 have gi:=hcells i hi
 have gj:=hcells j hj
 have HB:=fun x=>hide (Before_E (xs.getD i 0) (xs.getD j 0) li lj pi pj w ci cj oi oj x)
 have hmt:=meth_E
 generalize xs.getD i 0=bi at *
 generalize xs.getD j 0=bj at *
 generalize bef false li lj=bb at *
 generalize xs.length=n at *
 have xp:∀ x,(partAt ⟨Q,0,none⟩ 0 0).run Tryz.prog (ext w x)=.ok ⟨Q,0,none⟩ (ext w x):=fun x=>partZ_E (((ext_below w x).block Q hQlt).trans h.cell)
 have x0:∀ x,(ext w x).cell? ⟨Q,0,none⟩=some (.slice (some ⟨G,0,none⟩) n cap):=fun x=>((ext_below w x).cell (by exact hQlt)).trans c0
 have xi:∀ x,(ext w x).cell? ⟨G,i,none⟩=some (.pointer (some ⟨bi,0,none⟩)):=fun x=>((ext_below w x).cell (by exact hGlt)).trans gi
 have xj:∀ x,(ext w x).cell? ⟨G,j,none⟩=some (.pointer (some ⟨bj,0,none⟩)):=fun x=>((ext_below w x).cell (by exact hGlt)).trans gj
 clear hv hcells h ci cj oi oj hrow
 go_enter Tryz.func184,Tryz.ntmps184
 go_wp2_with fail
 haveI hinh:Inhabited Ex:=⟨⟨0,#[]⟩⟩
 refine wp_region_ext (by kernel_rfl) (by kernel_rfl) ?_
 repeat (go_big_quiet_step (exact (HB _).out))
 refine wpQuiet_nil ?_
 intro _ hw'
 obtain ⟨x,hw''⟩:=hw'
 subst hw''
 have hbx:=ext_below w x
 generalize ext w x=wx at *
 clear x0 xi xj xp HB
 go_wp2_with fail
 go_ret
 exact ⟨rfl,hbx⟩
set_option maxHeartbeats 1600000 in
theorem swap_E {w:World} {Q:Nat} {v:Value} {xs:List Nat} (h:HV_E w Q v xs) (i j:Nat) (hi:i<xs.length) (hj:j<xs.length) (hij:i≠j) (hn:xs.length≤30) :
  Calls Tryz.prog 185 #[.pointer (some ⟨Q,0,none⟩),.int .i64 (i:Int),.int .i64 (j:Int)] w fun e w'=>e=.returned (.tuple #[])∧HV_E w' Q v (swp xs i j)∧w'.heap.size=w.heap.size∧Kp (fun k=>v.ownBlock=some k) w w':=by
 obtain ⟨a,cap,hv,hrow⟩:=h.shape
 obtain ⟨G,hG,hGlt,hcells⟩:=hrow (by omega)
 subst hG
 have hQlt:=blk_lt h.cell
 have c0:w.cell? ⟨Q,0,none⟩=some v:=by rw [blk_cell h.cell];rfl
 have hr:=h.row
 rw [hv] at c0 hr
 obtain ⟨cs,hcs⟩:=own_ty hr rfl
 have fi:=blk_free hcs i
 have fj:=blk_free hcs j
 have hQG:¬ Q=G:=ty_ne h.cell hcs (by decide)
 have gi:=hcells i hi
 have gj:=hcells j hj
 have HH:=hide h
 have HV:=hide hv
 generalize hgi:xs.getD i 0=bi at *
 generalize hgj:xs.getD j 0=bj at *
 have HGI:=hide hgi
 have HGJ:=hide hgj
 obtain ⟨n,HN⟩:∃ n,Hid (n=xs.length):=⟨_,rfl⟩
 rw [← HN.out] at c0 hi hj hn
 clear hv hcells h hrow hr hcs hgi hgj
 go_enter Tryz.func185,Tryz.ntmps185
 go_wp2_with fail
 go_region
 go_wp2_with fail
 go_end0
 have h:=HH.out
 have hr:=h.row
 rw [HV.out] at hr
 have r1:=(hr.stored i (.pointer (some ⟨bj,0,none⟩))).1
 have r2:=(r1.stored j (.pointer (some ⟨bi,0,none⟩))).1
 have hp:((ptrs xs).set i (.pointer (some ⟨bj,0,none⟩))).set j (.pointer (some ⟨bi,0,none⟩))=ptrs (swp xs i j):=by
  rw [← HGI.out,← HGJ.out];simp [ptrs,swp,List.map_set]
 refine ⟨rfl,⟨?_,?_⟩,by simp [World.drew,World.setCell],?_⟩
 ·show ((w.setCell ⟨G,i,none⟩ _).setCell ⟨G,j,none⟩ _).heap[Q]?=_
  rw [Below.heap_setCell _ _ _ _ hQG,Below.heap_setCell _ _ _ _ hQG];exact h.cell
 ·rw [hp] at r2
  have hl:(swp xs i j).length=xs.length:=by simp [swp]
  rw [hl,HV.out]
  exact r2
 ·have hZ:v.ownBlock=some G:=by rw [HV.out];rfl
  exact (((Kp.refl _ w).setCell (p:=⟨G,i,none⟩) (Or.inl hZ) _).setCell (p:=⟨G,j,none⟩) (Or.inl hZ) _).after ((Below.refl _ _).drew)
end Go.Proofs.YtgcedalggnmooabGreatDoor
namespace Go.Proofs.YtgcedalggnmooabGreatDoor
open Go.RowKit
theorem HV_E.below {w w':World} {Q:Nat} {v:Value} {xs:List Nat} (h:HV_E w Q v xs) (hb:Below w.heap.size w w'):HV_E w' Q v xs :=
 ⟨(hb.block Q (blk_lt h.cell)).trans h.cell,own_below h.row hb⟩
theorem HV_E.lotne {w:World} {Q:Nat} {v:Value} {xs:List Nat} (h:HV_E w Q v xs) {bs:List Nat} {ls:List L} (hl:LotsOK w bs ls) (i:Nat) (hi:i<ls.length):¬ v.ownBlock=some (bs.getD i 0):=fun e=>by
 obtain ⟨cs,hc⟩:=own_ty h.row e
 obtain ⟨pv,hp⟩:=hl i hi
 exact ty_ne hp hc (by decide) rfl
set_option maxHeartbeats 1600000 in
theorem rise_E {w:World} {Q:Nat} {v:Value} {bs hs:List Nat} {ls:List L} (h:HV_E w Q v (sb bs hs)) (hl:LotsOK w bs ls) (hok:∀ l ∈ ls,L.Ok l) (hin:∀ c ∈ hs,c<ls.length) (i:Nat) (hi:i<hs.length) (hn:hs.length≤30) (hr:RiseI (befI false ls) hs i) :
  Calls Tryz.prog 166 #[.pointer (some ⟨Q,0,none⟩),.int .i64 (i:Int)] w fun e w'=>e=.returned (.tuple #[])∧Kp (fun k=>v.ownBlock=some k) w w'∧∃ hs',hs'.Perm hs∧Hp (befI false ls) hs'∧HV_E w' Q v (sb bs hs'):=by
 go_enter Tryz.func166,Tryz.ntmps166
 go_wp2_with fail
 go_loopw [1,4] (fun ii _ wr=>∃ (k:Nat) (hs':List Nat),ii=.int .i64 k∧k<hs.length∧hs'.Perm hs∧RiseI (befI false ls) hs' k∧HV_E wr Q v (sb bs hs')∧LotsOK wr bs ls∧Kp (fun k=>v.ownBlock=some k) w wr) (fun ii _ _=>(intOf ii).toNat)
 case atStart=>exact ⟨i,hs,rfl,hi,List.Perm.refl _,hr,h,hl,Kp.refl _ _⟩
 case round =>
  obtain ⟨k,hs',rfl,hk,hp,hri,hv',hl',hkp⟩:=hrel
  have hlen:=hp.length_eq
  by_cases hk0:k=0
  ·subst hk0
   have HT:=hide hri.top
   have HVV:=hide hv'
   have HKP:=hide hkp
   have HPP:=hide hp
   clear h hl hri hv' hl' hkp hp hr
   go_wp2_with fail
   go_end0
   exact ⟨rfl,HKP.out,hs',HPP.out,HT.out,HVV.out⟩
  ·have hpl:(k - 1) / 2<hs'.length:=by omega
   have hkl:k<hs'.length:=by omega
   have hc1:hs'.getD k 0<ls.length:=hin _ (hp.mem_iff.1 (getD_mem_nat hkl))
   have hc2:hs'.getD ((k - 1) / 2) 0<ls.length:=hin _ (hp.mem_iff.1 (getD_mem_nat hpl))
   obtain ⟨pv1,q1⟩:=hl' _ hc1
   obtain ⟨pv2,q2⟩:=hl' _ hc2
   rw [← sb_getD hkl] at q1
   rw [← sb_getD hpl] at q2
   have HB:=hide (before_E hv' k ((k - 1) / 2) (by rw [sb_len];exact hkl) (by rw [sb_len];exact hpl) (by rw [sb_len];omega) _ _ pv1 pv2 q1 q2 (hok _ (mem_getD hc1)) (hok _ (mem_getD hc2)))
   have HQ:Hid ((((k - 1) / 2:Nat):Int)=((k:Int) - 1) / 2):=by unfold Hid;omega
   have hsw:=fun (w1:World) (hb:Below wr.heap.size wr w1)=>hide (swap_E (hv'.below hb) k ((k - 1) / 2) (by rw [sb_len];exact hkl) (by rw [sb_len];exact hpl) (by omega) (by rw [sb_len];omega))
   rw [HQ.out] at HB
   cases hbe:bef false (ls.getD (hs'.getD k 0) L0) (ls.getD (hs'.getD ((k - 1) / 2) 0) L0) with
   | false =>
    rw [hbe] at HB
    have HT:=hide (hri.done hbe)
    have HVV:=hide hv'
    have HKP:=hide hkp
    have HPP:=hide hp
    clear q1 q2 h hl hsw hri hv' hl' hkp hp hr hbe hc1 hc2
    go_wp2_with (go_at_call 184;with_reducible refine (HB.out).mono ?_;rintro e w1 ⟨rfl,hb1⟩)
    go_returns
    exact ⟨rfl,HKP.out.after hb1,hs',HPP.out,HT.out,HVV.out.below hb1⟩
   | true =>
    rw [hbe] at HB
    have HT:=hide (hri.step (befI_ordr _ ls) (by omega) hkl hbe)
    have hne:∀ i,i<ls.length→¬ v.ownBlock=some (bs.getD i 0):=fun i hi=>hv'.lotne hl' i hi
    have HNE:=hide hne
    have HLO:=hide hl'
    have HKP:=hide hkp
    have HPP:=hide hp
    have HSZ:Hid (k<hs'.length∧(k - 1) / 2<hs'.length):=⟨hkl,hpl⟩
    clear q1 q2 h hl hri hv' hl' hkp hp hr hbe hc1 hc2 hne
    go_wp2_with (go_at_call 184;with_reducible refine (HB.out).mono ?_;rintro e w1 ⟨rfl,hb1⟩)
    have HS:=hsw w1 hb1
    rw [HQ.out] at HS
    clear hsw
    with_reducible refine (HS.out).mono ?_
    rintro e w2 ⟨rfl,hv2,_,hk2⟩
    go_wp2_with fail
    go_roundw
    case rel =>
     rw [sb_swp HSZ.out.1 HSZ.out.2] at hv2
     have hkk:Kp (fun k=>v.ownBlock=some k) wr w2:=Kp.before hb1 (hk2.mono (fun k h=>Or.inl h))
     exact ⟨(k - 1) / 2,swp hs' k ((k - 1) / 2),by rw [HQ.out],by omega,(swp_perm HSZ.out.1 HSZ.out.2).trans HPP.out,HT.out,hv2,HLO.out.kp hkk HNE.out,HKP.out.trans (hkk.mono (fun k h=>Or.inl h))⟩
    case measure=>simp [intOf];omega
end Go.Proofs.YtgcedalggnmooabGreatDoor
namespace Go.Proofs.YtgcedalggnmooabGreatDoor
open Go.RowKit
structure Fst_E (ls:List L) (hs:List Nat) (i b m:Nat):Prop where
 at':m=i∨(2 * i+1≤m∧m<b∧m<hs.length∧befI false ls (hs.getD m 0) (hs.getD i 0)=true)
 min:∀ j,2 * i+1≤j→j<b→j<hs.length→befI false ls (hs.getD j 0) (hs.getD m 0)=false
theorem Fst_E.yes {ls:List L} {hs:List Nat} {i b m:Nat} (h:Fst_E ls hs i b m) (hb:b<hs.length) (hib:2 * i+1≤b) (ht:befI false ls (hs.getD b 0) (hs.getD m 0)=true):Fst_E ls hs i (b+1) b:=by
 have O:=befI_ordr false ls
 refine ⟨Or.inr ⟨hib,by omega,hb,?_⟩,fun j h1 h2 h3=>?_⟩
 ·rcases h.at' with rfl | ⟨_,_,_,h4⟩
  ·exact ht
  ·cases hc:befI false ls (hs.getD b 0) (hs.getD i 0) with
   | true=>rfl
   | false =>
    have r3:=O.trans (O.asymm h4) hc
    rw [ht] at r3;cases r3
 ·by_cases hj:j=b
  ·subst hj;exact O.irrefl _
  ·exact O.trans (O.asymm ht) (h.min j h1 (by omega) h3)
theorem Fst_E.no {ls:List L} {hs:List Nat} {i b m:Nat} (h:Fst_E ls hs i b m) (hf:befI false ls (hs.getD b 0) (hs.getD m 0)=false):Fst_E ls hs i (b+1) m:=by
 refine ⟨?_,fun j h1 h2 h3=>?_⟩
 ·rcases h.at' with h4 | ⟨q1,q2,q3,q4⟩
  ·exact Or.inl h4
  ·exact Or.inr ⟨q1,by omega,q3,q4⟩
 ·by_cases hj:j=b
  ·subst hj;exact hf
  ·exact h.min j h1 (by omega) h3
set_option maxHeartbeats 1600000 in
theorem sink_E {w:World} {Q:Nat} {v:Value} {bs hs:List Nat} {ls:List L} (h:HV_E w Q v (sb bs hs)) (hl:LotsOK w bs ls) (hok:∀ l ∈ ls,L.Ok l) (hin:∀ c ∈ hs,c<ls.length) (hn:hs.length≤30) (hr:SinkI (befI false ls) hs 0) :
  Calls Tryz.prog 167 #[.pointer (some ⟨Q,0,none⟩),.int .i64 0] w fun e w'=>e=.returned (.tuple #[])∧Kp (fun k=>v.ownBlock=some k) w w'∧∃ hs',hs'.Perm hs∧Hp (befI false ls) hs'∧HV_E w' Q v (sb bs hs'):=by
 go_enter Tryz.func167,Tryz.ntmps167
 go_wp2_with fail
 go_loopw [1,4,5] (fun ii _ _ wr=>∃ (k:Nat) (hs':List Nat),ii=.int .i64 k∧(k<hs.length∨k=0)∧hs'.Perm hs∧SinkI (befI false ls) hs' k∧HV_E wr Q v (sb bs hs')∧LotsOK wr bs ls∧Kp (fun k=>v.ownBlock=some k) w wr) (fun ii _ _ _=>hs.length - (intOf ii).toNat)
 case atStart=>exact ⟨0,hs,rfl,Or.inr rfl,List.Perm.refl _,hr,h,hl,Kp.refl _ _⟩
 case round =>
  obtain ⟨k,hs',rfl,hk,hp,hri,hv',hl',hkp⟩:=hrel
  have hlen:=hp.length_eq
  have hk30:k≤30:=by omega
  have HRI:=hide hri
  have HKP:=hide hkp
  have HPP:=hide hp
  clear h hl hr hri hkp hp
  rename World=>wo
  go_wp2_with fail
  go_loopw [4,5] (fun mm bb w2=>∃ (m b:Nat),mm=.int .i64 m∧bb=.int .i64 b∧2 * k+1≤b∧b≤2 * k+3∧m≤100∧Fst_E ls hs' k b m∧HV_E w2 Q v (sb bs hs')∧LotsOK w2 bs ls∧Below wo.heap.size wo w2) (fun _ bb _=>2 * k+3 - (intOf bb).toNat)
  case atStart=>exact ⟨k,2 * k+1,rfl,by go_num,by omega,by omega,by omega,⟨Or.inl rfl,fun j h1 h2 _=>by omega⟩,hv',hl',Below.refl _ _⟩
  case round =>
   clear hv' hl'
   obtain ⟨m,b,rfl,rfl,hb1,hb2,hm100,hf,hv2,hl2,hbe⟩:=hrel
   obtain ⟨a,cap,hvs,hrow⟩:=hv2.shape
   have c0:wr.cell? ⟨Q,0,none⟩=some v:=by rw [blk_cell hv2.cell];rfl
   rw [hvs,sb_len] at c0
   have HVS:=hide hvs
   clear hvs hrow
   by_cases hb3:b≤2 * k+2
   ·by_cases hb4:b<hs'.length
    ·have hml:m<hs'.length:=by
      rcases hf.at' with h | ⟨_,_,h,_⟩
      ·omega
      ·exact h
     have hc1:hs'.getD b 0<ls.length:=hin _ (HPP.out.mem_iff.1 (getD_mem_nat hb4))
     have hc2:hs'.getD m 0<ls.length:=hin _ (HPP.out.mem_iff.1 (getD_mem_nat hml))
     obtain ⟨pv1,q1⟩:=hl2 _ hc1
     obtain ⟨pv2,q2⟩:=hl2 _ hc2
     rw [← sb_getD hb4] at q1
     rw [← sb_getD hml] at q2
     have HB:=hide (before_E hv2 b m (by rw [sb_len];exact hb4) (by rw [sb_len];exact hml) (by rw [sb_len];omega) _ _ pv1 pv2 q1 q2 (hok _ (mem_getD hc1)) (hok _ (mem_getD hc2)))
     have HV2:=hide hv2
     have HL2:=hide hl2
     cases hbe2:bef false (ls.getD (hs'.getD b 0) L0) (ls.getD (hs'.getD m 0) L0) with
     | true =>
      rw [hbe2] at HB
      have HF:=hide (hf.yes hb4 hb1 hbe2)
      clear q1 q2 hv2 hl2 hf hc1 hc2 hbe2
      generalize hs'.length=n at *
      go_wp2_with (go_at_call 184;with_reducible refine (HB.out).mono ?_;rintro e w1 ⟨rfl,hb5⟩)
      go_roundw
      case rel=>exact ⟨b,b+1,rfl,by go_num,by omega,by omega,by omega,HF.out,HV2.out.below hb5,HL2.out.below hb5,hbe.trans (hb5.mono hbe.size)⟩
      case measure=>simp [intOf];omega
     | false =>
      rw [hbe2] at HB
      have HF:=hide (hf.no hbe2)
      clear q1 q2 hv2 hl2 hf hc1 hc2 hbe2
      generalize hs'.length=n at *
      go_wp2_with (go_at_call 184;with_reducible refine (HB.out).mono ?_;rintro e w1 ⟨rfl,hb5⟩)
      go_roundw
      case rel=>exact ⟨m,b+1,rfl,by go_num,by omega,by omega,by omega,HF.out,HV2.out.below hb5,HL2.out.below hb5,hbe.trans (hb5.mono hbe.size)⟩
      case measure=>simp [intOf];omega
    ·have hall:∀ j,0<j→j<hs'.length→(j - 1) / 2=k→befI false ls (hs'.getD j 0) (hs'.getD m 0)=false:=fun j h1 h2 h3=>hf.min j (by omega) (by omega) h2
     by_cases hmk:m=k
     ·have hmb:=beqN_t hmk
      have HH:Hid (Hp (befI false ls) hs'):=HRI.out.done (by rw [← hmk];exact fun j h1 h2 h3=>hall j h1 h2 (by omega))
      have HV2:=hide hv2
      clear hf hall hl2 hv2 hmk
      generalize hs'.length=n at *
      go_wp2_with fail
      go_returns
      exact ⟨rfl,HKP.out.after hbe,hs',HPP.out,HH.out,HV2.out⟩
     ·have hmb:=beqN_f hmk
      have hml:2 * k+1≤m∧m<b∧m<hs'.length∧befI false ls (hs'.getD m 0) (hs'.getD k 0)=true:=hf.at'.resolve_left hmk
      have hkl:k<hs'.length:=by omega
      have HH:=hide (HRI.out.step (befI_ordr _ ls) (m:=m) (by omega) hml.2.2.1 (by omega) hall hml.2.2.2)
      have HSW:=hide (swap_E hv2 k m (by rw [sb_len];omega) (by rw [sb_len];exact hml.2.2.1) (by omega) (by rw [sb_len];omega))
      rw [sb_swp hkl hml.2.2.1] at HSW
      have HNE:=hide (fun i hi=>hv2.lotne hl2 i hi)
      have HL2:=hide hl2
      have HPS:=hide ((swp_perm hkl hml.2.2.1).trans HPP.out)
      have hm2:k<m∧m<hs'.length:=⟨by omega,hml.2.2.1⟩
      clear hf hall hl2 hv2 hmk hml hkl
      go_wp2_with (go_at_call 185;with_reducible refine (HSW.out).mono ?_;rintro e w2 ⟨rfl,hv3,_,hk3⟩)
      go_roundw
      case rel=>exact ⟨m,swp hs' k m,rfl,Or.inl (by omega),HPS.out,HH.out,hv3,HL2.out.kp hk3 HNE.out,(HKP.out.after hbe).trans (hk3.mono (fun k h=>Or.inl h))⟩
      case measure=>simp [intOf];omega
   ·have hall:∀ j,0<j→j<hs'.length→(j - 1) / 2=k→befI false ls (hs'.getD j 0) (hs'.getD m 0)=false:=fun j h1 h2 h3=>hf.min j (by omega) (by omega) h2
    by_cases hmk:m=k
    ·have hmb:=beqN_t hmk
     have HH:Hid (Hp (befI false ls) hs'):=HRI.out.done (by rw [← hmk];exact fun j h1 h2 h3=>hall j h1 h2 (by omega))
     have HV2:=hide hv2
     clear hf hall hl2 hv2 hmk
     generalize hs'.length=n at *
     go_wp2_with fail
     go_returns
     exact ⟨rfl,HKP.out.after hbe,hs',HPP.out,HH.out,HV2.out⟩
    ·have hmb:=beqN_f hmk
     have hml:2 * k+1≤m∧m<b∧m<hs'.length∧befI false ls (hs'.getD m 0) (hs'.getD k 0)=true:=hf.at'.resolve_left hmk
     have hkl:k<hs'.length:=by omega
     have HH:=hide (HRI.out.step (befI_ordr _ ls) (m:=m) (by omega) hml.2.2.1 (by omega) hall hml.2.2.2)
     have HSW:=hide (swap_E hv2 k m (by rw [sb_len];omega) (by rw [sb_len];exact hml.2.2.1) (by omega) (by rw [sb_len];omega))
     rw [sb_swp hkl hml.2.2.1] at HSW
     have HNE:=hide (fun i hi=>hv2.lotne hl2 i hi)
     have HL2:=hide hl2
     have HPS:=hide ((swp_perm hkl hml.2.2.1).trans HPP.out)
     have hm2:k<m∧m<hs'.length:=⟨by omega,hml.2.2.1⟩
     clear hf hall hl2 hv2 hmk hml hkl
     go_wp2_with (go_at_call 185;with_reducible refine (HSW.out).mono ?_;rintro e w2 ⟨rfl,hv3,_,hk3⟩)
     go_roundw
     case rel=>exact ⟨m,swp hs' k m,rfl,Or.inl (by omega),HPS.out,HH.out,hv3,HL2.out.kp hk3 HNE.out,(HKP.out.after hbe).trans (hk3.mono (fun k h=>Or.inl h))⟩
     case measure=>simp [intOf];omega
end Go.Proofs.YtgcedalggnmooabGreatDoor
namespace Go.Proofs.YtgcedalggnmooabGreatDoor
open Go.RowKit
set_option maxHeartbeats 1600000 in
theorem push_E {w:World} {Q:Nat} {v:Value} {bs hs:List Nat} {ls:List L} (h:HV_E w Q v (sb bs hs)) (hl:LotsOK w bs ls) (hok:∀ l ∈ ls,L.Ok l) (hin:∀ c ∈ hs,c<ls.length) (hn:hs.length<30) (hr:Hp (befI false ls) hs) (c:Nat) (hc:c<ls.length) :
  Calls Tryz.prog 126 #[.pointer (some ⟨Q,0,none⟩),.pointer (some ⟨bs.getD c 0,0,none⟩)] w fun e w'=>e=.returned (.tuple #[])∧Kp (fun k=>k=Q∨v.ownBlock=some k) w w'∧∃ v' hs',hs'.Perm (hs++[c])∧Hp (befI false ls) hs'∧HV_E w' Q v' (sb bs hs')∧(∀ g,v'.ownBlock=some g→v.ownBlock=some g∨w.heap.size≤g):=by
 obtain ⟨i0,hi,hz0,hz1,hz2⟩:=info_parts info149
 obtain ⟨a,cap,hv,_⟩:=h.shape
 have hQ:=blk_lt h.cell
 have c1:w.cell? ⟨Q,0,none⟩=some v:=by rw [blk_cell h.cell];rfl
 have f1:=blk_free h.cell 0
 have hrow:=h.row
 rw [sb_len] at hrow
 rw [hv,sb_len] at c1
 rw [hv,sb_len] at hrow
 have HP:=hide h
 have HV:=hide hv
 have HL:=hide hl
 have HNL:=hide (fun i hi=>h.lotne hl i hi)
 obtain ⟨n,HN⟩:∃ n,Hid (n=hs.length):=⟨_,rfl⟩
 rw [← HN.out] at c1 hrow hn
 generalize hbc:bs.getD c 0=bc at *
 have HBC:=hide hbc
 clear h hv hl hbc
 go_enter Tryz.func126,Tryz.ntmps126
 go_wp2_with (at_builtin;refine wpList_append_own_at _ rfl _ _ 78 rfl 0 129 i0 (.pointer none) 1 8 tU57 hi hz0 hz1 hz2 rfl (by decide) _ n (ptrs (sb bs hs)) rfl ?ho ⟨w.heap.size,0,none⟩ 1 1 [.pointer (some ⟨bc,0,none⟩)] rfl rfl ?c1 ?c2 ?c3 ?c4 ?c5 ?_)
 case ho=>exact hrow.alloc _
 case c1=>exact one_new _ _ _
 case c2=>intro u hu;simp at hu;subst hu;rfl
 case c3=>unfold maxLen;omega
 case c4=>omega
 case c5=>exact Nat.zero_le _
 intro v' w2 hown2 hgrow hnn hat
 have h:=HP.out
 have hvb:v.ownBlock=(Value.slice a n cap).ownBlock:=by rw [HV.out,sb_len,← HN.out]
 have hgrow':(w.alloc (.cells #[.pointer (some ⟨bc,0,none⟩)] 129)).grownBy w2 v.ownBlock:=by rw [hvb];exact hgrow
 have hvQ:v.ownBlock≠some Q:=fun e=>by
  obtain ⟨cs,hcs⟩:=own_ty h.row e
  exact ty_ne h.cell hcs (by decide) rfl
 have old:∀ k,k<w.heap.size→v.ownBlock≠some k→w2.heap[k]?=w.heap[k]?:=fun k hk hne=>(hgrow'.block k (by simp;omega) (fun e=>hne e.symm)).trans (Below.heap_alloc _ _ _ hk)
 have hQ2:w2.heap[Q]?=some (.cells #[v] 208 (0,0)):=(old Q hQ hvQ).trans h.cell
 have hc2:w2.cell? ⟨Q,0,none⟩=some v:=by rw [blk_cell hQ2];rfl
 have hf2:=blk_free hQ2 0
 have hsz:(hs++[c]).length=n+1:=by rw [List.length_append,List.length_singleton,HN.out]
 have hnew:HV_E (w2.setCell ⟨Q,0,none⟩ v') Q v' (sb bs (hs++[c])):=by
  have e:ptrs (sb bs (hs++[c]))=ptrs (sb bs hs)++[.pointer (some ⟨bc,0,none⟩)]:=by simp [ptrs,sb,← HBC.out]
  refine ⟨?_,?_⟩
  ·have:=heap_setCell_same w2 Q 0 _ 208 v' hQ2
   simpa using this
  ·have hk:=hown2.kept (grownBy_setCell w2 ⟨Q,0,none⟩ v') (Or.inr (fun e=>by
    obtain ⟨cs,hcs⟩:=own_ty hown2 (g:=Q) e
    exact ty_ne hQ2 hcs (by decide) rfl))
   rw [e,sb_len,hsz];exact hk
 have hlots:LotsOK (w2.setCell ⟨Q,0,none⟩ v') bs ls:=fun i hi=>by
  obtain ⟨pv,hp⟩:=HL.out i hi
  refine ⟨pv,?_⟩
  rw [Below.heap_setCell _ _ _ _ (ty_ne hp h.cell (by decide)),old _ (blk_lt hp) (HNL.out i hi)]
  exact hp
 have hin':∀ x ∈ hs++[c],x<ls.length:=fun x hx=>by
  rcases List.mem_append.1 hx with hx | hx
  ·exact hin x hx
  ·simp at hx;omega
 have HRS:=hide (rise_E hnew hlots hok hin' hs.length (by simp) (by rw [hsz];omega) (hr.push c))
 have hkp:Kp (fun k=>k=Q∨v.ownBlock=some k) w (w2.setCell ⟨Q,0,none⟩ v'):=by
  refine Kp.setCell ?_ (Or.inl (Or.inl rfl)) _
  exact Kp.grown (kpB (al1 w _)) hgrow' (fun k hk=>Or.inl (Or.inr hk))
 have hat':∀ g,v'.ownBlock=some g→v.ownBlock=some g∨w.heap.size≤g:=fun g hg=>by
  rcases hat with h | h
  ·left;rw [hvb];exact h.symm.trans hg
  ·right;rw [h] at hg;simp at hg;omega
 have HK:=hide hkp
 have HA:=hide hat'
 rw [← HN.out] at HRS
 obtain ⟨g,cap',hv',_,_⟩:=own_some hown2 (by omega)
 rw [hv'] at HRS HK HA
 rw [hv']
 clear hown2 hgrow hgrow' hnew hlots hkp hat' hat hnn hv' old hQ2 hvQ h hrow c1 f1 hvb hr hin hok hin'
 go_wp2_with (go_at_call 166;with_reducible refine (HRS.out).mono ?_;rintro e w3 ⟨rfl,hk3,hs',hp3,hh3,hv3⟩)
 go_end0
 refine ⟨rfl,HK.out.trans (hk3.mono (fun k hk=>?_)),_,hs',hp3,hh3,hv3,HA.out⟩
 rcases HA.out k hk with h | h
 ·exact Or.inl (Or.inr h)
 ·exact Or.inr h
set_option maxHeartbeats 1600000 in
theorem pop_none_E {w:World} {Q:Nat} {v:Value} (h:HV_E w Q v []) :
  Calls Tryz.prog 127 #[.pointer (some ⟨Q,0,none⟩)] w fun e w'=>e=.returned (.tuple #[.pointer none,.bool false])∧w'=w:=by
 obtain ⟨a,cap,hv,_⟩:=h.shape
 have c1:w.cell? ⟨Q,0,none⟩=some v:=by rw [blk_cell h.cell];rfl
 rw [hv] at c1
 simp only [List.length_nil] at c1
 clear h hv
 go_enter Tryz.func127,Tryz.ntmps127
 go_wp2_with fail
 go_ret2
 exact ⟨rfl,rfl⟩
set_option maxHeartbeats 1600000 in
theorem pop_E {w:World} {Q:Nat} {v:Value} {bs hs:List Nat} {ls:List L} (h:HV_E w Q v (sb bs hs)) (hl:LotsOK w bs ls) (hok:∀ l ∈ ls,L.Ok l) (hin:∀ c ∈ hs,c<ls.length) (hn:hs.length≤30) (hpos:0<hs.length) (hr:Hp (befI false ls) hs) :
  Calls Tryz.prog 127 #[.pointer (some ⟨Q,0,none⟩)] w fun e w'=>e=.returned (.tuple #[.pointer (some ⟨bs.getD (hs.getD 0 0) 0,0,none⟩),.bool true])∧Kp (fun k=>k=Q∨v.ownBlock=some k) w w'∧∃ v' hs',hs'.Perm (popL hs)∧Hp (befI false ls) hs'∧HV_E w' Q v' (sb bs hs')∧v'.ownBlock=v.ownBlock:=by
 obtain ⟨a,cap,hv,hrow0⟩:=h.shape
 obtain ⟨G,hG,hGlt,hcells⟩:=hrow0 (by rw [sb_len];exact hpos)
 subst hG
 have hQ:=blk_lt h.cell
 have c1:w.cell? ⟨Q,0,none⟩=some v:=by rw [blk_cell h.cell];rfl
 have f1:=blk_free h.cell 0
 have hrow:=h.row
 rw [hv,sb_len] at c1
 rw [hv,sb_len] at hrow
 obtain ⟨cs,hcs⟩:=own_ty hrow rfl
 have fG:=blk_free hcs 0
 have hQG:¬ Q=G:=ty_ne h.cell hcs (by decide)
 have g0:=hcells 0 (by rw [sb_len];exact hpos)
 have gl:=hcells (hs.length - 1) (by rw [sb_len];omega)
 rw [sb_getD hpos] at g0
 rw [sb_getD (by omega)] at gl
 have HP:=hide h
 have HV:=hide hv
 have HL:=hide hl
 have HNL:=hide (fun i hi=>h.lotne hl i hi)
 obtain ⟨n,HN⟩:∃ n,Hid (n+1=hs.length):=⟨hs.length - 1,by unfold Hid;omega⟩
 have hn1:hs.length - 1=n:=by have:=HN.out;omega
 rw [hn1] at gl
 rw [← HN.out] at c1 hrow hn
 generalize hb0:bs.getD (hs.getD 0 0) 0=b0 at *
 generalize hbl:bs.getD (hs.getD n 0) 0=bl at *
 have HB0:=hide hb0
 have HBL:=hide hbl
 have HN1:=hide hn1
 have hcap:n+1≤cap:=by
  rcases hrow.2 with ⟨h',_⟩ | ⟨g',cap',cur,h',_,_,hnc,_⟩
  ·cases h'
  ·cases h';exact hnc
 clear h hv hl hb0 hbl hcells hrow0 hcs hn1
 go_enter Tryz.func127,Tryz.ntmps127
 go_wp2_with fail
 go_region
 go_wp2_with fail
 have h:=HP.out
 have r1:=(hrow.stored 0 (.pointer (some ⟨bl,0,none⟩))).1
 have e1:(ptrs (sb bs hs)).set 0 (.pointer (some ⟨bl,0,none⟩))=ptrs (sb bs (popL hs))++((ptrs (sb bs hs)).set 0 (.pointer (some ⟨bl,0,none⟩))).drop n:=by
  have:ptrs (sb bs (popL hs))=((ptrs (sb bs hs)).set 0 (.pointer (some ⟨bl,0,none⟩))).take n:=by
   unfold popL
   rw [HN1.out,← HBL.out]
   simp [ptrs,sb,List.map_set,List.map_take]
  rw [this,List.take_append_drop]
 rw [e1] at r1
 have hpl:(popL hs).length=n:=by rw [popL_len,HN1.out]
 have r2:=ownsRow_pop (by simp [ptrs,sb,hpl]) r1
 have hcellQ:(w.setCell ⟨G,0,none⟩ (.pointer (some ⟨bl,0,none⟩))).heap[Q]?=some (.cells #[v] 208 (0,0)):=by rw [Below.heap_setCell _ _ _ _ hQG];exact h.cell
 have hvo:v.ownBlock=some G:=by rw [HV.out];rfl
 have hnew:HV_E ((w.setCell ⟨G,0,none⟩ (.pointer (some ⟨bl,0,none⟩))).setCell ⟨Q,0,none⟩ (.slice (some ⟨G,0,none⟩) n cap)).drew Q (.slice (some ⟨G,0,none⟩) n cap) (sb bs (popL hs)):=by
  refine ⟨?_,?_⟩
  ·show ((w.setCell ⟨G,0,none⟩ (.pointer (some ⟨bl,0,none⟩))).setCell ⟨Q,0,none⟩ (.slice (some ⟨G,0,none⟩) n cap)).heap[Q]?=_
   have:=heap_setCell_same _ Q 0 _ 208 (.slice (some ⟨G,0,none⟩) n cap) hcellQ
   simpa using this
  ·have hk:=r2.kept (grownBy_setCell _ ⟨Q,0,none⟩ (.slice (some ⟨G,0,none⟩) n cap)) (Or.inr (fun e=>by
    have e':G=Q:=by simpa [Value.ownBlock] using e
    exact hQG e'.symm))
   rw [sb_len,hpl];exact hk
 have hlots:LotsOK ((w.setCell ⟨G,0,none⟩ (.pointer (some ⟨bl,0,none⟩))).setCell ⟨Q,0,none⟩ (.slice (some ⟨G,0,none⟩) n cap)).drew bs ls:=fun i hi=>by
  obtain ⟨pv,hp⟩:=HL.out i hi
  refine ⟨pv,?_⟩
  show ((w.setCell ⟨G,0,none⟩ (.pointer (some ⟨bl,0,none⟩))).setCell ⟨Q,0,none⟩ (.slice (some ⟨G,0,none⟩) n cap)).heap[bs.getD i 0]?=_
  have hne:=HNL.out i hi
  rw [hvo] at hne
  rw [Below.heap_setCell _ _ _ _ (ty_ne hp h.cell (by decide)),Below.heap_setCell _ _ _ _ (fun e=>hne (by rw [e]))]
  exact hp
 have hin':∀ x ∈ popL hs,x<ls.length:=fun x hx=>hin x ((popL_perm hpos).mem_iff.2 (List.mem_cons_of_mem _ hx))
 have HSK:=hide (sink_E hnew hlots hok hin' (by rw [hpl];omega) hr.pop)
 have hkp:Kp (fun k=>k=Q∨v.ownBlock=some k) w ((w.setCell ⟨G,0,none⟩ (.pointer (some ⟨bl,0,none⟩))).setCell ⟨Q,0,none⟩ (.slice (some ⟨G,0,none⟩) n cap)).drew :=
  (((Kp.refl _ w).setCell (p:=⟨G,0,none⟩) (Or.inl (Or.inr hvo)) _).setCell (p:=⟨Q,0,none⟩) (Or.inl (Or.inl rfl)) _).after ((Below.refl _ _).drew)
 have HK:=hide hkp
 have HVO:=hide hvo
 generalize ((w.setCell ⟨G,0,none⟩ (.pointer (some ⟨bl,0,none⟩))).setCell ⟨Q,0,none⟩ (.slice (some ⟨G,0,none⟩) n cap)).drew=w4 at *
 clear r1 r2 e1 hcellQ hnew hlots hkp hvo h hrow c1 f1 fG g0 gl
 with_reducible refine (HSK.out).mono ?_
 rintro e w3 ⟨rfl,hk3,hs',hp3,hh3,hv3⟩
 go_wp2_with fail
 go_ret2
 refine ⟨rfl,HK.out.trans (hk3.mono (fun k hk=>Or.inl (Or.inr (by rw [HVO.out];exact hk)))),_,hs',hp3,hh3,hv3,by rw [HVO.out];rfl⟩
end Go.Proofs.YtgcedalggnmooabGreatDoor
namespace Go.Proofs.YtgcedalggnmooabGreatDoor
open Go.RowKit
set_option maxHeartbeats 3200000 in
theorem allot_E {w:World} {bs:List Nat} {ls:List L} {os:List O} (hl:LotsOK w bs ls) (hok:∀ l ∈ ls,L.Ok l) (hgo:Good os ls) (is:List Nat) (hin:∀ c ∈ is,c<ls.length) (hfp:∀ c ∈ is,0<(ls.getD c L0).free) (hlen:is.length≤30) (a:Option Addr) (cap:Nat) (hrow:w.ownsRow 0 129 1 (.slice a is.length cap) is.length (ptrs (sb bs is))) (want:Nat) (hw:want≤2147483647) :
  Calls Tryz.prog 109 #[.slice a is.length cap,.int .i64 (want:Int)] w fun e w'=>Below w.heap.size w w'∧∃ v',e=.returned v'∧w'.ownsRow w.heap.size 163 2 v' (giveQ ls (srtI (befI false ls) is) want).length (lineCells bs (giveQ ls (srtI (befI false ls) is) want)):=by
 obtain ⟨i0,hi,hz0,hz1,hz2⟩:=info_parts infoLine
 have hcells:∀ k,k<is.length→∃ G,a=some ⟨G,0,none⟩∧G<w.heap.size∧w.cell? ⟨G,k,none⟩=some (.pointer (some ⟨bs.getD (is.getD k 0) 0,0,none⟩)):=fun k hk=>by
  obtain ⟨g,cap',hv',_,hlt⟩:=own_some hrow (by omega)
  cases hv'
  refine ⟨g,rfl,hlt,?_⟩
  rw [hrow.cellAt k (by omega)]
  simp [ptrs,sb,List.getD_eq_getElem?_getD,hk]
 have HQ0:Hid (HV_E (w.alloc (.cells #[.slice none 0 0] 208)) w.heap.size (.slice none 0 0) (sb bs [])):=⟨heap_alloc_new w _,World.ownsRow_nil _ _ _ _⟩
 have HCE:=hide hcells
 have HLO:=hide hl
 have HOK:=hide hok
 have HIN:=hide hin
 have HFP:=hide hfp
 have HGO:=hide hgo
 clear hrow hcells hl hok hin hgo hfp
 go_enter Tryz.func109,Tryz.ntmps109
 go_wp2_with fail
 go_loopw [7,14] (fun _ ii wr=>∃ (k:Nat) (hs:List Nat) (v':Value),ii=.int .i64 k∧k≤is.length∧hs.Perm (is.take k)∧Hp (befI false ls) hs∧HV_E wr w.heap.size v' (sb bs hs)∧Below w.heap.size w wr∧w.heap.size<wr.heap.size∧(∀ g,v'.ownBlock=some g→w.heap.size≤g)) (fun _ ii _=>is.length - (intOf ii).toNat)
 case atStart=>exact ⟨0,[],_,rfl,by omega,by simp,fun j h1 h2=>absurd h2 (by simp),HQ0.out,al1 w _,by simp,fun g hg=>by cases hg⟩
 case round =>
  obtain ⟨k,hs,v',rfl,hk,hp,hh,hv',hb,hsz,hvo⟩:=hrel
  by_cases hlt:k<is.length
  ·obtain ⟨G,hG,hGlt,hck⟩:=HCE.out k hlt
   subst hG
   have hck':wr.cell? ⟨G,k,none⟩=some (.pointer (some ⟨bs.getD (is.getD k 0) 0,0,none⟩)):=(hb.cell (by exact hGlt)).trans hck
   have hc:is.getD k 0<ls.length:=HIN.out _ (getD_mem_nat hlt)
   have hin':∀ c ∈ hs,c<ls.length:=fun c hcm=>HIN.out c (List.mem_of_mem_take (hp.mem_iff.1 hcm))
   have hsl:hs.length=k:=by have:=hp.length_eq;rw [List.length_take] at this;omega
   have HPU:=hide (push_E hv' (HLO.out.below hb) HOK.out hin' (by omega) hh (is.getD k 0) hc)
   have HPP:Hid ((hs++[is.getD k 0]).Perm (is.take (k+1))):=by
    have e:is.take (k+1)=is.take k++[is.getD k 0]:=by
     rw [List.take_succ_eq_append_getElem hlt];simp [List.getD_eq_getElem?_getD,hlt]
    unfold Hid;rw [e];exact hp.append_right _
   have HB:=hide hb
   have HVO:=hide hvo
   generalize bs.getD (is.getD k 0) 0=bk at *
   generalize is.getD k 0=ck at *
   clear hck hv' hh hp hb hvo hc hin'
   go_wp2_with (go_at_call 126;with_reducible refine (HPU.out).mono ?_;rintro e w1 ⟨rfl,hk1,v1,hs1,hp1,hh1,hv1,hat⟩)
   go_roundw
   case rel =>
    refine ⟨k+1,hs1,v1,by go_num,by omega,hp1.trans HPP.out,hh1,hv1,below_kp HB.out HB.out.size hk1 (fun i hi=>?_),Nat.lt_of_lt_of_le hsz hk1.size,fun g hg=>?_⟩
    ·rcases hi with h | h
     ·omega
     ·exact HVO.out i h
    ·rcases hat g hg with h | h
     ·exact HVO.out g h
     ·omega
   case measure=>simp [intOf];omega
  ·obtain rfl:k=is.length:=by omega
   rw [List.take_length] at hp
   have hsrt:=srtI_srt false ls is
   have hpq:hs.Perm (srtI (befI false ls) is):=hp.trans (srtI_perm _ is).symm
   have hltq:∀ c ∈ srtI (befI false ls) is,c ∈ is:=fun c hc=>(srtI_perm _ is).mem_iff.1 hc
   have hlenq:(srtI (befI false ls) is).length≤30:=by rw [(srtI_perm _ is).length_eq];exact hlen
   generalize hq:srtI (befI false ls) is=q at *
   have HQ:=hide hq
   have HPQ:=hide hpq
   have HSR:=hide hsrt
   have HLT:=hide hltq
   have HH:=hide hh
   have HVV:=hide hv'
   have HB:=hide hb
   have HVO:=hide hvo
   clear hq hpq hsrt hltq hh hv' hb hvo hp HQ0 HCE hlt hk
   rename World=>wo
   go_wp2_with fail
   go_loopw [1,8,9,10,11] (fun ww lv _ _ _ w2=>∃ (want':Nat) (rest hs2:List Nat) (done:List (Nat × Nat)) (v2:Value),ww=.int .i64 want'∧want'≤want∧hs2.Perm rest∧rest.length+done.length≤30∧Srt (befI false ls) rest∧(∀ c ∈ rest,c ∈ is)∧giveQ ls q want=done++giveQ ls rest want'∧w2.ownsRow w.heap.size 163 2 lv done.length (lineCells bs done)∧Hp (befI false ls) hs2∧HV_E w2 w.heap.size v2 (sb bs hs2)∧Below w.heap.size w w2∧w.heap.size<w2.heap.size∧(∀ g,v2.ownBlock=some g→w.heap.size≤g)) (fun ww _ _ _ _ _=>(intOf ww).toNat)
   case atStart=>exact ⟨want,q,hs,[],v',rfl,by omega,HPQ.out,by simpa using hlenq,HSR.out,HLT.out,by simp,World.ownsRow_nil _ _ _ _,HH.out,HVV.out,HB.out,hsz,HVO.out⟩
   case round =>
    clear HPQ HSR HLT HH HVV HB HVO hsz hlenq
    obtain ⟨want',rest,hs2,done,v2,rfl,hw',hp,hln,hsr,hlt,hgv,hown,hh,hv2,hb,hsz,hvo⟩:=hrel
    obtain ⟨la,lcap,hlv⟩:=own_shapeS hown
    subst hlv
    by_cases hw0:want'=0
    ·subst hw0
     rw [giveQ_zero,List.append_nil] at hgv
     have HO:=hide hown
     have HB:=hide hb
     have HGV:=hide hgv
     clear hown hb hgv hv2 hh hp hsr hlt hvo
     go_wp2_with fail
     go_ret
     exact ⟨HB.out,_,rfl,by rw [HQ.out,HGV.out];exact HO.out⟩
    ·cases hrest:rest with
     | nil =>
      subst hrest
      have hs0:hs2=[]:=List.Perm.eq_nil hp
      subst hs0
      rw [giveQ,List.append_nil] at hgv
      have HPN:=hide (pop_none_E hv2)
      have HO:=hide hown
      have HB:=hide hb
      have HGV:=hide hgv
      clear hown hb hgv hv2 hh hp hsr hlt hvo
      go_wp2_with (go_at_call 127;with_reducible refine (HPN.out).mono ?_;rintro e w1 ⟨rfl,rfl⟩)
      go_ret
      exact ⟨HB.out,_,rfl,by rw [HQ.out,HGV.out];exact HO.out⟩
     | cons c r =>
      subst hrest
      have hin2:∀ x ∈ hs2,x<ls.length:=fun x hx=>HIN.out x (hlt x (hp.mem_iff.1 hx))
      have hpos:0<hs2.length:=by rw [hp.length_eq];simp
      have hl2:hs2.length≤30:=by rw [hp.length_eq];omega
      have hm:hs2.getD 0 0=c:=by
       refine head_first HGO.out hsr (fun x hx=>HIN.out x (hlt x hx)) (hp.mem_iff.1 (getD_mem_nat hpos)) (fun x hx=>?_)
       obtain ⟨j,hj,rfl⟩:=List.getElem_of_mem (hp.mem_iff.2 hx)
       have:=Hp.root (befI_ordr false ls) hh j j (Nat.le_refl _) hj
       rw [List.getD_eq_getElem?_getD,List.getElem?_eq_getElem hj] at this
       simpa using this
      have HPO:=hide (pop_E hv2 (HLO.out.below hb) HOK.out hin2 hl2 hpos hh)
      rw [hm] at HPO
      have hpr:(popL hs2).Perm r:=by
       have:=(popL_perm hpos).symm.trans hp
       rw [hm] at this
       exact this.cons_inv
      have hc:c<ls.length:=HIN.out c (hlt c (by simp))
      have hok1:=HOK.out _ (mem_getD hc)
      obtain ⟨pv,hcl⟩:=HLO.out c hc
      have hcblt:=blk_lt hcl
      have hcl2:wr.heap[bs.getD c 0]?=some (.cells (lotCells (ls.getD c L0) pv) 153 (0,0)):=(hb.block _ hcblt).trans hcl
      have HPR:=hide hpr
      have HO:=hide hown
      have HB:=hide hb
      have HVO:=hide hvo
      have HSR:Hid (Srt (befI false ls) r):=(List.pairwise_cons.1 hsr).2
      have HLT:Hid (∀ x ∈ r,x ∈ is):=fun x hx=>hlt x (by simp [hx])
      have HLN:Hid (r.length+(done.length+1)≤30):=by
       have:r.length+1+done.length≤30:=by simpa using hln
       unfold Hid;omega
      have hdl:done.length<30:=by have:=HLN.out;omega
      have HNE:Hid (∀ k,(k=w.heap.size∨v2.ownBlock=some k)→k≠bs.getD c 0):=fun k hk e=>by
       rcases hk with h | h
       ·omega
       ·have:=hvo k h;omega
      have HNL:Hid (∀ k,(k=w.heap.size∨v2.ownBlock=some k)→(Value.slice la done.length lcap).ownBlock≠some k):=fun k hk e=>by
       obtain ⟨cs,hcs⟩:=own_ty hown e
       rcases hk with h | h
       ·rw [h] at hcs;exact ty_ne hv2.cell hcs (by decide) rfl
       ·obtain ⟨cs',hcs'⟩:=own_ty hv2.row h
        exact ty_ne hcs' hcs (by decide) rfl
      have hfr:(ls.getD c L0).free≤2147483647:=by have:=hok1.sum;omega
      obtain ⟨fr,HFR⟩:∃ fr,Hid (fr=(ls.getD c L0).free):=⟨_,rfl⟩
      have hfp0:0<(ls.getD c L0).free:=HFP.out c (hlt c (by simp))
      rw [← HFR.out] at hfr hfp0
      have HGV:Hid (giveQ ls q want=(done++[(c,min fr want')])++giveQ ls r (want' - min fr want')):=by
       rw [giveQ,if_neg hw0,← HFR.out] at hgv
       unfold Hid;rw [hgv];simp
      obtain ⟨bc,HBC⟩:∃ bc,Hid (bc=bs.getD c 0):=⟨_,rfl⟩
      rw [← HBC.out] at HPO hcl2 HNE
      have HCL:Hid (wr.cell? ⟨bc,6,none⟩=some (.int .i64 (fr:Int))):=by rw [HFR.out];unfold Hid;rw [blk_cell hcl2];rfl
      have hblt:bc<wr.heap.size:=blk_lt hcl2
      obtain ⟨dl,HDL⟩:∃ dl,Hid (dl=done.length):=⟨_,rfl⟩
      rw [← HDL.out] at HO HNL hdl
      clear hown hb hvo hsr hlt hp hm hpr hpos hl2 hin2 hgv hcl hcl2 hok1 hv2 hh hc hcblt hln
      rw [show (Value.slice la done.length lcap)=Value.slice la dl lcap by rw [HDL.out]]
      by_cases hmin:fr≤want'
      ·have hmn:min fr want'=fr:=by omega
       rw [hmn] at HGV
       go_wp2_with fail
       with_reducible refine (HPO.out).mono ?_
       rintro e w1 ⟨rfl,hk1,v3,hs3,hp3,hh3,hv3,hvo3⟩
       have hcl1:w1.cell? ⟨bc,6,none⟩=some (.int .i64 (fr:Int)):=(World.cell?_of_block (a:=⟨bc,6,none⟩) (hk1.block bc hblt (fun hz=>HNE.out bc hz rfl))).trans HCL.out
       have ho1:w1.ownsRow w.heap.size 163 2 (.slice la dl lcap) dl (lineCells bs done):=own_congr HO.out (fun g hg=>hk1.block g (HO.out.lt g hg).2 (fun hz=>HNL.out g hz hg))
       have hb1:Below w.heap.size w w1:=below_kp HB.out HB.out.size hk1 (fun i hq=>Or.elim hq (fun h=>by omega) (HVO.out i))
       have hsz1:w.heap.size<w1.heap.size:=Nat.lt_of_lt_of_le hsz hk1.size
       have HB1:=hide hb1
       have HVO3:Hid (∀ g,v3.ownBlock=some g→w.heap.size≤g):=fun g hg=>HVO.out g (by rw [← hvo3];exact hg)
       have HV3:=hide hv3
       have HH3:=hide hh3
       have HP3:=hide (hp3.trans HPR.out)
       have HLX:Hid (∀ g,(Value.slice la dl lcap).ownBlock=some g→v3.ownBlock≠some g∧g≠w.heap.size):=fun g hg=>⟨fun e=>HNL.out g (Or.inr (by rw [← hvo3];exact e)) hg,fun e=>HNL.out g (Or.inl e) hg⟩
       clear hk1 hb1 hv3 hh3 hp3 hvo3 HPO HO HCL
       go_wp2_with (at_builtin;refine wpList_append_own _ rfl _ _ 135 rfl (w.heap.size) 163 i0 (.agg #[.pointer none,.int .i64 0]) 2 16 tULines hi hz0 hz1 hz2 rfl (by decide) _ dl (lineCells bs done) rfl (ho1.alloc _) ⟨w1.heap.size,0,none⟩ 1 1 [.pointer (some ⟨bc,0,none⟩),.int .i64 (fr:Int)] rfl rfl ?c1 ?c2 ?c3 ?c4 ?c5 ?_)
       case c1=>exact cell_two_new _ _ _ _
       case c2=>intro u hu;simp at hu;rcases hu with rfl | rfl <;> rfl
       case c3=>unfold maxLen;omega
       case c4=>omega
       case c5=>simp;omega
       intro lv2 w2 hown2 hgrow hnn
       have hown3:w2.ownsRow w.heap.size 163 2 lv2 (done++[(c,fr)]).length (lineCells bs (done++[(c,fr)])):=by
        rw [lineCells_snoc,List.length_append,List.length_singleton,← HDL.out]
        show w2.ownsRow w.heap.size 163 2 lv2 (dl+1) (lineCells bs done++[.pointer (some ⟨bs.getD c 0,0,none⟩),.int .i64 (fr:Int)])
        rw [← HBC.out];exact hown2
       have hold:∀ g,g<w1.heap.size→(Value.slice la dl lcap).ownBlock≠some g→w2.heap[g]?=w1.heap[g]?:=fun g hg hne=>(hgrow.block g (by simp;omega) (fun e=>hne e.symm)).trans (Below.heap_alloc _ _ _ hg)
       have hv4:HV_E w2 w.heap.size v3 (sb bs hs3):=⟨(hold _ hsz1 (fun e=>(HLX.out _ e).2 rfl)).trans HV3.out.cell,own_congr HV3.out.row (fun g hg=>hold g (HV3.out.row.lt g hg).2 (fun e=>(HLX.out g e).1 hg))⟩
       have hbb:Below w.heap.size w w2:=(HB1.out.alloc (Nat.le_of_lt hsz1) _).grown hgrow (by simp;omega) (fun k hk=>(ho1.lt k hk).1)
       have hsz2:w.heap.size<w2.heap.size:=Nat.lt_of_lt_of_le hsz1 (Nat.le_trans (by simp) hgrow.size)
       have HO3:=hide hown3
       have HV4:=hide hv4
       have HBB:=hide hbb
       have HS2:=hide hsz2
       have HGW:=hide hgrow.size
       clear hown2 hown3 hv4 hbb hsz2 hgrow hnn hold ho1 hcl1
       go_wp2_with fail
       go_roundw
       case rel=>exact ⟨want' - fr,r,hs3,done++[(c,fr)],v3,by congr 1;omega,by omega,HP3.out,by have:=HLN.out;simp;omega,HSR.out,HLT.out,HGV.out,HO3.out,HH3.out,HV4.out,HBB.out,HS2.out,HVO3.out⟩
       case measure=>simp [intOf];omega
      ·have hmn:min fr want'=want':=by omega
       rw [hmn] at HGV
       go_wp2_with fail
       with_reducible refine (HPO.out).mono ?_
       rintro e w1 ⟨rfl,hk1,v3,hs3,hp3,hh3,hv3,hvo3⟩
       have hcl1:w1.cell? ⟨bc,6,none⟩=some (.int .i64 (fr:Int)):=(World.cell?_of_block (a:=⟨bc,6,none⟩) (hk1.block bc hblt (fun hz=>HNE.out bc hz rfl))).trans HCL.out
       have ho1:w1.ownsRow w.heap.size 163 2 (.slice la dl lcap) dl (lineCells bs done):=own_congr HO.out (fun g hg=>hk1.block g (HO.out.lt g hg).2 (fun hz=>HNL.out g hz hg))
       have hb1:Below w.heap.size w w1:=below_kp HB.out HB.out.size hk1 (fun i hq=>Or.elim hq (fun h=>by omega) (HVO.out i))
       have hsz1:w.heap.size<w1.heap.size:=Nat.lt_of_lt_of_le hsz hk1.size
       have HB1:=hide hb1
       have HVO3:Hid (∀ g,v3.ownBlock=some g→w.heap.size≤g):=fun g hg=>HVO.out g (by rw [← hvo3];exact hg)
       have HV3:=hide hv3
       have HH3:=hide hh3
       have HP3:=hide (hp3.trans HPR.out)
       have HLX:Hid (∀ g,(Value.slice la dl lcap).ownBlock=some g→v3.ownBlock≠some g∧g≠w.heap.size):=fun g hg=>⟨fun e=>HNL.out g (Or.inr (by rw [← hvo3];exact e)) hg,fun e=>HNL.out g (Or.inl e) hg⟩
       clear hk1 hb1 hv3 hh3 hp3 hvo3 HPO HO HCL
       go_wp2_with (at_builtin;refine wpList_append_own _ rfl _ _ 135 rfl (w.heap.size) 163 i0 (.agg #[.pointer none,.int .i64 0]) 2 16 tULines hi hz0 hz1 hz2 rfl (by decide) _ dl (lineCells bs done) rfl (ho1.alloc _) ⟨w1.heap.size,0,none⟩ 1 1 [.pointer (some ⟨bc,0,none⟩),.int .i64 (want':Int)] rfl rfl ?c1 ?c2 ?c3 ?c4 ?c5 ?_)
       case c1=>exact cell_two_new _ _ _ _
       case c2=>intro u hu;simp at hu;rcases hu with rfl | rfl <;> rfl
       case c3=>unfold maxLen;omega
       case c4=>omega
       case c5=>simp;omega
       intro lv2 w2 hown2 hgrow hnn
       have hown3:w2.ownsRow w.heap.size 163 2 lv2 (done++[(c,want')]).length (lineCells bs (done++[(c,want')])):=by
        rw [lineCells_snoc,List.length_append,List.length_singleton,← HDL.out]
        show w2.ownsRow w.heap.size 163 2 lv2 (dl+1) (lineCells bs done++[.pointer (some ⟨bs.getD c 0,0,none⟩),.int .i64 (want':Int)])
        rw [← HBC.out];exact hown2
       have hold:∀ g,g<w1.heap.size→(Value.slice la dl lcap).ownBlock≠some g→w2.heap[g]?=w1.heap[g]?:=fun g hg hne=>(hgrow.block g (by simp;omega) (fun e=>hne e.symm)).trans (Below.heap_alloc _ _ _ hg)
       have hv4:HV_E w2 w.heap.size v3 (sb bs hs3):=⟨(hold _ hsz1 (fun e=>(HLX.out _ e).2 rfl)).trans HV3.out.cell,own_congr HV3.out.row (fun g hg=>hold g (HV3.out.row.lt g hg).2 (fun e=>(HLX.out g e).1 hg))⟩
       have hbb:Below w.heap.size w w2:=(HB1.out.alloc (Nat.le_of_lt hsz1) _).grown hgrow (by simp;omega) (fun k hk=>(ho1.lt k hk).1)
       have hsz2:w.heap.size<w2.heap.size:=Nat.lt_of_lt_of_le hsz1 (Nat.le_trans (by simp) hgrow.size)
       have HO3:=hide hown3
       have HV4:=hide hv4
       have HBB:=hide hbb
       have HS2:=hide hsz2
       have HGW:=hide hgrow.size
       clear hown2 hown3 hv4 hbb hsz2 hgrow hnn hold ho1 hcl1
       go_wp2_with fail
       go_roundw
       case rel=>exact ⟨want' - want',r,hs3,done++[(c,want')],v3,by congr 1;omega,by omega,HP3.out,by have:=HLN.out;simp;omega,HSR.out,HLT.out,HGV.out,HO3.out,HH3.out,HV4.out,HBB.out,HS2.out,HVO3.out⟩
       case measure=>simp [intOf];omega
end Go.Proofs.YtgcedalggnmooabGreatDoor
