import Derived.Test.YtgcedalggnmooabGreatDoorSmlX
import Derived.Test.YtgcedalggnmooabGreatDoorRepX
import Derived.Test.YtgcedalggnmooabGreatDoorHnX
set_option linter.unusedSimpArgs false
set_option linter.unusedVariables false
set_option maxRecDepth 100000
namespace Go.Proofs.YtgcedalggnmooabGreatDoor
open Go.RowKit
set_option maxHeartbeats 800000 in
theorem joinM_any (c:Nat) (hc:c<256) (b cap:Nat) (ns:List Nat) (hn:∀ n ∈ ns,n<9223372036854775808) (hl:ns.length≤2000) (hpos:0<ns.length) (w:World) (hbw:b<w.heap.size)
  (hcs:∀ j,j<ns.length→w.cell? ⟨b,j,none⟩=some (.int .i64 (ns.getD j 0:Nat))) :
  Calls Tryz.prog 24 #[.int .u8 (c:Int),.slice (some ⟨b,0,none⟩) ns.length cap] w fun e w'=>e=.returned (.string ⟨(UInt8.ofNat c :: Pl.toldB ns).toArray⟩)∧Below w.heap.size w w':=by
 have ho0:(w.alloc (.cells #[.int .u8 (c:Int)] 5)).ownsRow w.heap.size 5 1 (.slice (some ⟨w.heap.size,0,none⟩) 1 1) 1 (U8 [UInt8.ofNat c]):=by
  have h:=World.ownsRow_lit (e:=5) (size:=1) w #[.int .u8 (c:Int)] 1 (Nat.le_refl _) (by unfold maxLen;simp) rfl
  have e:U8 [UInt8.ofNat c]=[Value.int .u8 (c:Int)]:=by simp [U8,Nat.mod_eq_of_lt hc]
  rw [e];exact h
 have HO0:=hide ho0
 clear ho0
 generalize UInt8.ofNat c=u at *
 go_enter Tryz.func24,Tryz.ntmps24
 go_wp2_with fail
 go_loopw [5,7,12] (fun t _ i wr=>∃ k:Nat,k≤ns.length∧i=.int .i64 k∧wr.ownsRow w.heap.size 5 1 t (u :: Pl.toldB (ns.take k)).length (U8 (u :: Pl.toldB (ns.take k)))∧w.heap.size≤wr.heap.size∧Below w.heap.size w wr) (fun _ _ i _=>ns.length - (intOf i).toNat)
 case atStart=>exact ⟨0,by omega,rfl,HO0.out,by simp,(Below.refl _ _).alloc (Nat.le_refl _) _⟩
 case round =>
  clear HO0
  obtain ⟨k,hk,rfl,ho,hsz,hb⟩:=hrel
  by_cases hlt:k<ns.length
  ·obtain ⟨n,hn0⟩:∃ n,n=ns.getD k 0:=⟨_,rfl⟩
   have hcx:wr.cell? ⟨b,k,none⟩=some (.int .i64 (n:Int)):=(hb.cell (by exact hbw)).trans (by rw [hn0];exact hcs k hlt)
   have hnl:n<9223372036854775808:=by rw [hn0];exact hn _ (by simp [List.getD_eq_getElem?_getD,hlt])
   have htl:(u :: Pl.toldB (ns.take k)).length≤1000000:=by
    have:=Pl.toldB_len (ns.take k) (fun x hx=>hn x (List.mem_of_mem_take hx))
    have h2:(ns.take k).length≤k:=List.length_take_le _ _
    simp;omega
   have HT:Hid (u :: Pl.toldB (ns.take (k+1))=(u :: Pl.toldB (ns.take k))++Pl.num n):=by rw [Pl.toldB_take ns k hlt,← hn0];rfl
   have H1:=hide (append_num w.heap.size _ _ n hnl htl wr hsz ho)
   rw [← HT.out] at H1
   clear hn0 hcs hn ho
   go_wp2_with (go_at_call 37;refine (H1.out).mono ?_;rintro e w1 ⟨v',rfl,ho1,hb1⟩)
   go_roundw
   case rel=>exact ⟨k+1,by omega,by go_num,ho1,Nat.le_trans hsz hb1.size,hb.trans hb1⟩
   case measure=>simp [intOf];omega
  ·have hkk:ns.take k=ns:=List.take_of_length_le (by omega)
   rw [hkk,List.length_cons] at ho
   obtain ⟨g,cap',hv,hg,hgw⟩:=own_some ho (by simp)
   rw [hv] at ho
   rw [hv]
   have hcv:=conv_row wr _ g _ cap' _ (by simp) ho
   clear ho hv hkk
   go_wp2_with fail
   go_ret
   exact ⟨rfl,hb⟩
set_option maxHeartbeats 800000 in
theorem stateP_any {rcs:List (Nat × Nat)} {w:World} {S:Nat} {M:Mx} {v:Value} {td:Nat} {bs:List Nat} {pvs:List Value} {ls:List L} {os:List O} (h:PV os rcs w S M v td bs pvs ls) (hgo:Good os ls) (hsm:Sml os ls) :
  Calls Tryz.prog 31 #[.pointer (some ⟨S,0,none⟩)] w fun e w'=>e=.returned (.string ⟨(stB td os rcs ls).toArray⟩)∧Below w.heap.size w w':=by
 have hT:=Tiny.mk h.today h.ok h.room hgo hsm h.maps.rc
 have HN:=hide (nums_any h hgo hsm)
 rw [hT.same] at HN
 have hl:=hT.len
 have HSM:=hide hT.small
 have HP:Hid (0<(stN td os rcs ls).length):=by unfold Hid;simp [stN]
 have HBE:Hid (stB td os rcs ls=13 :: Pl.toldB (stN td os rcs ls)):=rfl
 rw [HBE.out]
 generalize stN td os rcs ls=ns at *
 clear h hgo hsm hT
 go_enter Tryz.func31,Tryz.ntmps31
 go_wp2_with (go_at_call 42;refine (HN.out).mono ?_;rintro e w1 ⟨hb1,g,c,rfl,ho1⟩)
 have HJ:=hide (joinM_any 13 (by omega) g c ns (fun n hn=>by have:=HSM.out n hn;omega) (by omega) HP.out w1 ho1.lt.2 (fun j hj=>by
  have:=World.ownsRow.cellAt ho1 j (by omega)
  rw [this];simp [I,List.getD_eq_getElem?_getD,hj]))
 have HB1:=hide hb1
 clear hb1 ho1
 go_wp2_with (go_at_call 24;refine (HJ.out).mono ?_;rintro e w2 ⟨rfl,hb2⟩)
 go_ret
 exact ⟨rfl,HB1.out.trans (hb2.mono HB1.out.size)⟩
end Go.Proofs.YtgcedalggnmooabGreatDoor
namespace Go.Proofs.YtgcedalggnmooabGreatDoor
open Go.RowKit
theorem PS.anew {lg f:List UInt8} {rcs:List (Nat × Nat)} {Z Zs:Nat→Prop} {w w5:World} {Lb td S:Nat} {ls:List L} {os:List O} {lv lv':Value} (h:PS lg os rcs Z w Lb td ls S Zs lv) (hf:f≠[])
  (ho:w5.ownsRow w.heap.size 5 1 lv' f.length (U8 f)) (hb:Below w.heap.size w w5) (hzs:∀ k,Zs k→k<w.heap.size) :
  Kp Z w (w5.setCell ⟨Lb,1,none⟩ lv')∧PL f os rcs (Zn Z w) (w5.setCell ⟨Lb,1,none⟩ lv') Lb td ls:=by
 have hlt:=blk_lt h.here
 have hL5:=(hb.block Lb hlt).trans h.here
 have hself:=heap_setCell_same w5 Lb 1 _ 53 lv' hL5
 have hoth:∀ k,k≠Lb→(w5.setCell ⟨Lb,1,none⟩ lv').heap[k]?=w5.heap[k]?:=fun k hk=>Below.heap_setCell _ _ _ _ hk
 have hlv':∀ k,lv'.ownBlock=some k→w.heap.size≤k:=fun k hk=>(ho.lt k hk).1
 refine ⟨(kpB hb).setCell (p:=⟨Lb,1,none⟩) (Or.inl h.inZ) _,S,Zs,lv',hself,Or.inl h.inZ,h.out,fun k hk=>Or.inl (h.sub k hk),?_,⟨own_congr (own_lower ho (Nat.zero_le _)) (fun k hk=>hoth k (fun e=>?_)),fun e=>absurd e hf⟩,fun k hk=>?_⟩
 ·obtain ⟨M,v,bs,pvs,hP,hin⟩:=h.pi
  exact ⟨M,v,bs,pvs,hP.congr hin (fun k hk=>(hoth k (fun e=>h.out (e ▸ hk))).trans (hb.block k (hzs k hk))),hin⟩
 ·have:=hlv' k hk;omega
 ·have:=hlv' k hk
  exact ⟨Or.inr this,by omega,fun z=>by have:=hzs k z;omega⟩
set_option maxHeartbeats 1600000 in
theorem compactP_any {lg:List UInt8} {rcs:List (Nat × Nat)} {Z:Nat→Prop} {w:World} {Lb td:Nat} {ls:List L} {os:List O} (h:PL lg os rcs Z w Lb td ls) (hgo:Good os ls) (hsm:Sml os ls) :
  Calls Tryz.prog 18 #[.pointer (some ⟨Lb,0,none⟩)] w fun e w'=>e=.returned (.tuple #[])∧Kp Z w w'∧PL (frmB (stB td os rcs ls)) os rcs (Zn Z w) w' Lb td ls:=by
 obtain ⟨S,Zs,lv,hps⟩:=h.ps
 have hps:=hps.bnd
 obtain ⟨M,v,bs,pvs,hP,hin⟩:=hps.pi
 have c0:w.cell? ⟨Lb,0,none⟩=some (.pointer (some ⟨S,0,none⟩)):=by rw [blk_cell hps.here];rfl
 have HST:=hide (stateP_any hP hgo hsm)
 have hsz:=(Tiny.mk hP.today hP.ok hP.room hgo hsm hP.maps.rc).bytes
 have HFA:=hide (fun (w1:World)=>fappend_any w1.heap.size (.slice none 0 0) [] ⟨(stB td os rcs ls).toArray⟩ (by rw [ByteArray.size_mk'];simp;omega) (by simp) w1 (Nat.le_refl _) (World.ownsRow_nil _ _ _ _))
 have HPS:=hide hps
 have hfe:(⟨(stB td os rcs ls).toArray⟩:ByteArray).data.toList=stB td os rcs ls:=by simp
 rw [hfe] at HFA
 generalize stB td os rcs ls=B at *
 have hfpos:0<([]++frmB B).length:=by have:=List.length_pos_iff.2 (frmB_ne B);simpa using this
 clear h hps hP hin hgo hsm hfe
 go_enter Tryz.func18,Tryz.ntmps18
 go_wp2_with (first
  | (go_at_call 31;refine (HST.out).mono ?_;rintro e w1 ⟨rfl,hb1⟩)
  | (go_at_call 30;refine (HFA.out _).mono ?_;rintro e w5 ⟨v5,rfl,ho5,hg5,hl5⟩;have hb5:Below w.heap.size w w5:=hb1.grown hg5 hb1.size (fun k hk=>by cases hk);obtain ⟨g5,cap5,hv5,_,_⟩:=own_someS ho5 hfpos;subst hv5;have hL5:=(hb5.block Lb (blk_lt HPS.out.here)).trans HPS.out.here;have c51:w5.cell? ⟨Lb,1,none⟩=some lv:=(by rw [blk_cell hL5];rfl);have f51:=blk_free hL5 1))
 go_end0
 have hs:=hb1.size
 have ho6:w5.ownsRow w.heap.size 5 1 (.slice (some ⟨g5,0,none⟩) (frmB B).length cap5) (frmB B).length (U8 (frmB B)):=own_lower (by simpa using ho5) hs
 obtain ⟨q1,q2⟩:=HPS.out.anew (frmB_ne B) ho6 hb5 (fun k hk=>hk.2)
 refine ⟨rfl,?_,?_⟩
 ·simpa using q1
 ·simpa using q2
end Go.Proofs.YtgcedalggnmooabGreatDoor
