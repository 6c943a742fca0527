import Derived.Test.YtgcedalggnmooaaGreatDoorDc1X
import Derived.Test.YtgcedalggnmooaaGreatDoorRp1X
import Derived.Test.YtgcedalggnmooaaGreatDoorQ10X
import Derived.Test.YtgcedalggnmooaaGreatDoorHl2
set_option linter.unusedSimpArgs false
set_option linter.unusedVariables false
set_option maxRecDepth 100000
namespace Go.Proofs.YtgcedalggnmooaaGreatDoor
open Go.RowKit
theorem RV.recl {rcs rcs':List (Nat × Nat)} {w w1 w2:World} {R:Nat} {v:Value} {td:Nat} {rec:ByteArray} {fs:List Value} {ls:List L} {os:List O} {ro:Ro} (h:RV os rcs ro w R v td rec fs ls) {rv':Value} (hw1:∀ k,k<w.heap.size→w1.heap[k]?=w.heap[k]?) (hsz:w.heap.size≤w1.heap.size) (hg:w1.grownBy w2 ro.rv.ownBlock) (hown:w2.ownsRow 0 181 2 rv' rcs'.length (lflat rcs')) (hat:∀ g,rv'.ownBlock=some g→ro.rv.ownBlock=some g∨w.heap.size≤g) (hrc:Rc rcs') :
  RV os rcs' { ro with rv:=rv' } (w2.setCell ⟨R,3,none⟩ rv') R v td rec fs ls:=by
 have hob:∀ (b:Nat),b<w.heap.size→ro.rv.ownBlock≠some b→w2.heap[b]?=w.heap[b]?:=fun b hb hne=>(hg.block b (by omega) (fun e=>hne e.symm)).trans (hw1 b hb)
 have hnp:∀ (b:Nat) (cs:Array Value) (t:TypeId),w.heap[b]?=some (.cells cs t (0,0))→t≠181→ro.rv.ownBlock≠some b:=fun b cs t hb ht e=>by
  obtain ⟨cs',hc⟩:=own_ty h.ord.fd.rrow e
  exact ty_ne hb hc ht rfl
 have hR2:=(hob R (blk_lt h.store) (hnp R _ _ h.store (by decide))).trans h.store
 have hall:∀ (b:Nat),b<w.heap.size→ro.rv.ownBlock≠some b→b≠R→(w2.setCell ⟨R,3,none⟩ rv').heap[b]?=w.heap[b]?:=fun b hb hne hbR=>by
  rw [Below.heap_setCell _ _ _ _ hbR];exact hob b hb hne
 have hty:∀ (b:Nat) (cs:Array Value) (t:TypeId),w.heap[b]?=some (.cells cs t (0,0))→t≠181→t≠42→(w2.setCell ⟨R,3,none⟩ rv').heap[b]?=w.heap[b]?:=fun b cs t hb h1 h2=>hall b (blk_lt hb) (hnp b cs t hb h1) (ty_ne hb h.store h2)
 have hLB:∀ g,LB ro g→g<w.heap.size∧(w2.setCell ⟨R,3,none⟩ rv').heap[g]?=w.heap[g]?:=fun g hgl=>by
  have hlt:=h.ord.lt (Or.inr (Or.inl hgl))
  obtain ⟨i,hi,he⟩:=hgl
  obtain ⟨cs,hc⟩:=own_ty (h.ord.lines i (by rw [← h.ord.llen];exact hi)) he
  exact ⟨hlt,hall g hlt (fun e=>(h.ord.fd.apart g e).1 ⟨i,hi,he⟩) (ty_ne hc h.store (by decide))⟩
 have hPB:∀ g,PB ro g→g<w.heap.size∧(w2.setCell ⟨R,3,none⟩ rv').heap[g]?=w.heap[g]?:=fun g hgp=>by
  have hlt:=h.ord.lt (Or.inr (Or.inr (Or.inr hgp)))
  obtain ⟨cs,hc⟩:=h.ord.fd.ty (Or.inr hgp)
  exact ⟨hlt,hall g hlt (fun e=>(h.ord.fd.apart g e).2 hgp) (ty_ne hc h.store (by decide))⟩
 refine ⟨?_,own_congr h.row (fun g hg'=>by obtain ⟨cs,hcs⟩:=own_ty h.row hg';exact hty _ _ _ hcs (by decide) (by decide)),h.flen,h.fro,⟨own_congr h.ord.row (fun g hg'=>by obtain ⟨cs,hcs⟩:=own_ty h.ord.row hg';exact hty _ _ _ hcs (by decide) (by decide)),h.ord.llen,fun i hi=>own_congr (h.ord.lines i hi) (fun g hg'=>(hLB g ⟨i,by rw [h.ord.llen];exact hi,hg'⟩).2),?_⟩,h.today,h.ok,h.room,h.fam,hrc⟩
 ·have:=heap_setCell_same w2 R 3 _ 42 rv' hR2
  simpa using this
 ·refine ⟨?_,h.ord.fd.flen,fun i hi=>(h.ord.fd.frm i hi).congr (fun g hg'=>(hPB g ⟨i,hi,hg'⟩).2),fun g hg'=>?_⟩
  ·exact hown.kept (grownBy_setCell w2 ⟨R,3,none⟩ rv') (Or.inr (fun e=>by
    obtain ⟨cs,hc⟩:=own_ty hown (g:=R) e
    exact ty_ne hR2 hc (by decide) rfl))
  ·rcases hat g hg' with h1 | h1
   ·exact h.ord.fd.apart g h1
   ·refine ⟨fun hl=>?_,fun hp=>?_⟩
    ·have:=(hLB g hl).1;omega
    ·have:=(hPB g hp).1;omega
theorem OB_recl {ro:Ro} {rv':Value} {n:Nat} (hat:∀ g,rv'.ownBlock=some g→ro.rv.ownBlock=some g∨n≤g):∀ b,OB { ro with rv:=rv' } b→OB ro b∨n≤b:=by
 intro b hb
 rcases hb with hb | hb | hb | hb
 ·exact Or.inl (Or.inl hb)
 ·exact Or.inl (Or.inr (Or.inl hb))
 ·rcases hat b hb with h | h
  ·exact Or.inl (Or.inr (Or.inr (Or.inl h)))
  ·exact Or.inr h
 ·exact Or.inl (Or.inr (Or.inr (Or.inr hb)))
theorem lflat_app:∀ (l:List (Nat × Nat)) (p:Nat × Nat),lflat (l++[p])=lflat l++[.int .i64 (p.1:Int),.int .i64 (p.2:Int)]
 | [],p=>rfl
 | q :: l,p=>by simp only [List.cons_append,lflat,lflat_app l p]
def restK (rcs:List (Nat × Nat)) (r k:Nat):List (Nat × Nat):=(rcs.take k).eraseIdx r
theorem restK_eq {rcs:List (Nat × Nat)} {r k:Nat} (hk:k<rcs.length) (h:k=r):restK rcs r (k+1)=restK rcs r k:=by
 subst h
 unfold restK
 have hl:(rcs.take k).length=k:=by rw [List.length_take];omega
 have e1:(rcs.take k).eraseIdx k=rcs.take k:=List.eraseIdx_of_length_le (by omega)
 rw [e1,List.take_succ_eq_append_getElem hk,List.eraseIdx_append_of_length_le (by omega),hl,Nat.sub_self]
 simp
theorem restK_ne {rcs:List (Nat × Nat)} {r k:Nat} (hk:k<rcs.length) (h:k≠r):restK rcs r (k+1)=restK rcs r k++[rcs.getD k (0,0)]:=by
 unfold restK
 have e:rcs.take (k+1)=rcs.take k++[rcs.getD k (0,0)]:=by
  rw [List.take_succ_eq_append_getElem hk];simp [List.getD_eq_getElem?_getD,hk]
 rw [e]
 by_cases hr:r<k
 ·rw [List.eraseIdx_append_of_lt_length (by simp;omega)]
 ·rw [List.eraseIdx_of_length_le (by simp;omega),List.eraseIdx_of_length_le (by simp;omega)]
theorem restK_len (rcs:List (Nat × Nat)) (r k:Nat):(restK rcs r k).length≤k:=by
 unfold restK
 have h1:=List.length_eraseIdx_le (rcs.take k) r
 have h2:(rcs.take k).length≤k:=List.length_take_le _ _
 omega
theorem restK_all {rcs:List (Nat × Nat)} {a m:Nat} (h:rcs.contains (a,m)=true):restK rcs (rix rcs a m) rcs.length=rcs.erase (a,m):=by
 unfold restK rix
 rw [List.take_length]
 clear h
 induction rcs with
 | nil=>rfl
 | cons x l ih =>
  rw [List.findIdx_cons,List.erase_cons]
  cases hx:(x == (a,m)) with
  | true=>simp
  | false=>simp only [cond_false,List.eraseIdx_cons_succ,ih,Bool.false_eq_true,if_false]
set_option maxHeartbeats 3200000 in
theorem releaseR_any {rcs:List (Nat × Nat)} {w:World} {R:Nat} {v:Value} {td:Nat} {rec:ByteArray} {fs:List Value} {ls:List L} {os:List O} {ro:Ro} (h:RV os rcs ro w R v td rec fs ls) (gn cap0:Nat) (a m:Nat) (hns:NS w gn [a,m]) (h1:a≤2147483647) (h2:m≤2147483647) :
  Calls Tryz.prog 72 #[.pointer (some ⟨R,0,none⟩),.slice (some ⟨gn,0,none⟩) 2 cap0] w fun e w'=>Kp (fun b=>b=R) w w'∧e=.returned (.int .i64 (releaseC rcs a m:Int))∧∃ ro',RV os (releaseS rcs a m) ro' w' R v td rec fs ls∧∀ b,OB ro' b→OB ro b∨w.heap.size≤b:=by
 obtain ⟨ip,hip,hp0,hp1,hp2⟩:=info_parts infoPart
 obtain ⟨⟨cs,hcs⟩,hcl⟩:=hns
 have n0:w.cell? ⟨gn,0,none⟩=some (.int .i64 (a:Int)):=hcl 0 (by simp)
 have n1:w.cell? ⟨gn,1,none⟩=some (.int .i64 (m:Int)):=hcl 1 (by simp)
 have hgn:=blk_lt hcs
 have HX:Hid (∀ n,Calls Tryz.prog 116 #[.pointer (some ⟨R,0,none⟩),.int .i64 (a:Int),.int .i64 (m:Int)] (w.drewN n) fun e w'=>e=.returned (.int .i64 (rixV rcs a m))∧w'=w.drewN n):=fun n=>recallIx_any (h.below (below_drewN (Below.refl _ _) n)) a m
 have hRlt:=blk_lt h.store
 have hrl:=h.rc.len
 have HP:=hide h
 cases hc:rcs.contains (a,m) with
 | false =>
  have HC:Hid (releaseC rcs a m=10):=by unfold Hid releaseC;rw [hc];rfl
  have HS:Hid (releaseS rcs a m=rcs):=by unfold Hid releaseS;rw [hc];rfl
  have HV:Hid (rixV rcs a m=-1):=by unfold Hid rixV;rw [if_neg (fun q=>by rw [rix_has.1 q] at hc;cases hc)]
  rw [HV.out] at HX
  rw [HC.out,HS.out]
  clear hc h hcl hcs HV
  go_enter Tryz.func72,Tryz.ntmps72
  go_wp2_with fail
  go_quiet ((go_at_call 116;exact Calls.quiet_of_same (HX.out _)))
  go_wp2_with fail
  go_ret
  exact ⟨kpB (below_drewN (Below.refl _ _) nq),rfl,ro,HP.out.below (below_drewN (Below.refl _ _) nq),fun b hb=>Or.inl hb⟩
 | true =>
  have HC:Hid (releaseC rcs a m=0):=by unfold Hid releaseC;rw [hc];rfl
  have HS:Hid (releaseS rcs a m=rcs.erase (a,m)):=by unfold Hid releaseS;rw [hc];rfl
  have HRA:=hide (restK_all hc)
  have hrx:rix rcs a m<rcs.length:=rix_has.2 hc
  have HV:Hid (rixV rcs a m=(rix rcs a m:Int)):=by unfold Hid rixV;rw [if_pos hrx]
  have HRC:=hide (h.rc.del (a,m))
  rw [HV.out] at HX
  rw [HC.out,HS.out]
  generalize rix rcs a m=r at *
  obtain ⟨ra,rcap,hrv,hrow⟩:=h.rshape
  have c3:=h.c3
  rw [hrv] at c3
  have f3:=blk_free h.store 3
  clear hc h hcl hcs HV hrv
  go_enter Tryz.func72,Tryz.ntmps72
  go_wp2_with fail
  go_quiet ((go_at_call 116;exact Calls.quiet_of_same (HX.out _)))
  go_wp2_with fail
  obtain ⟨wq,HWQ⟩:∃ wq,Hid (wq=w.drewN nq):=⟨_,rfl⟩
  have HB0:Hid (Below w.heap.size w wq):=by unfold Hid;rw [HWQ.out];exact below_drewN (Below.refl _ _) nq
  have HSZ:Hid (wq.heap.size=w.heap.size):=by unfold Hid;rw [HWQ.out];rfl
  rw [← HWQ.out]
  clear HWQ n0 n1 HX
  go_loopw [6,7] (fun lv ii wr=>∃ k:Nat,k≤rcs.length∧ii=.int .i64 k∧wr.ownsRow w.heap.size 181 2 lv (restK rcs r k).length (lflat (restK rcs r k))∧Below w.heap.size w wr) (fun _ ii _=>rcs.length - (intOf ii).toNat)
  case atStart=>exact ⟨0,by omega,rfl,by unfold restK;simp [lflat];exact World.ownsRow_nil _ _ _ _,HB0.out⟩
  case round =>
   obtain ⟨k,hk,rfl,hown,hb⟩:=hrel
   obtain ⟨la,lc,hlv⟩:=own_shapeS hown
   subst hlv
   have hkl:=restK_len rcs r k
   have c3r:wr.cell? ⟨R,3,none⟩=some (.slice ra rcs.length rcap):=(hb.cell (by exact hRlt)).trans c3
   by_cases hlt:k<rcs.length
   ·obtain ⟨G,hG,hGlt,hcells⟩:=hrow (by omega)
    subst hG
    obtain ⟨k1,k2⟩:=hcells k hlt
    have g1:=(hb.cell (p:=⟨G,k * 2,none⟩) hGlt).trans k1
    have g2:=(hb.cell (p:=⟨G,k * 2+1,none⟩) hGlt).trans k2
    have HO:=hide hown
    have HB:=hide hb
    have hws:w.heap.size≤wr.heap.size:=hb.size
    by_cases hkr:k=r
    ·have hnb:((k:Int) != (r:Int))=false:=by rw [hkr];simp
     have HE:=hide (restK_eq hlt hkr)
     clear hcells hrow hown hb hkr k1 k2
     go_wp2_with fail
     go_roundw
     case rel=>exact ⟨k+1,by omega,by go_num,by rw [HE.out];exact HO.out,HB.out⟩
     case measure=>simp [intOf];omega
    ·have hnb:((k:Int) != (r:Int))=true:=by rw [bne_iff_ne];omega
     have HE:=hide (restK_ne hlt hkr)
     obtain ⟨px,HPX⟩:∃ px,Hid (px=(rcs.getD k (0,0)).1):=⟨_,rfl⟩
     obtain ⟨py,HPY⟩:∃ py,Hid (py=(rcs.getD k (0,0)).2):=⟨_,rfl⟩
     rw [← HPX.out] at g1
     rw [← HPY.out] at g2
     obtain ⟨rl,HRL⟩:∃ rl,Hid (rl=(restK rcs r k).length):=⟨_,rfl⟩
     rw [← HRL.out] at HO hkl
     rw [← HRL.out]
     clear hcells hrow hown hb hkr k1 k2
     go_wp2_with (at_builtin;refine wpList_append_own _ rfl _ _ 40 rfl w.heap.size 181 ip (.agg #[.int .i64 0,.int .i64 0]) 2 16 tUParts hip hp0 hp1 hp2 rfl (by decide) _ rl (lflat (restK rcs r k)) rfl (HO.out.alloc _) ⟨wr.heap.size,0,none⟩ 1 1 [.int .i64 (px:Int),.int .i64 (py:Int)] rfl rfl ?c1 ?c2 ?c3 ?c4 ?c5 ?_)
     case c1=>exact cell_two_new _ _ _ _
     case c2=>intro u hu;simp at hu;rcases hu with rfl | rfl <;> rfl
     case c3=>unfold maxLen;omega
     case c4=>omega
     case c5=>simp;omega
     intro lv2 w6 hown6 hgrow hnn
     have hbb:Below w.heap.size w w6:=(HB.out.alloc hws _).grown hgrow (by simp;omega) (fun q hq=>(HO.out.lt q hq).1)
     have HO6:Hid (w6.ownsRow w.heap.size 181 2 lv2 (restK rcs r (k+1)).length (lflat (restK rcs r (k+1)))):=by
      unfold Hid
      rw [HE.out,lflat_app,List.length_append,List.length_singleton,← HRL.out,← HPX.out,← HPY.out]
      exact hown6
     have HBB:=hide hbb
     clear hown6 hgrow hnn hbb
     go_wp2_with fail
     go_roundw
     case rel=>exact ⟨k+1,by omega,by go_num,HO6.out,HBB.out⟩
     case measure=>simp [intOf];omega
   ·obtain rfl:k=rcs.length:=by omega
    rw [HRA.out] at hown
    rw [HRA.out]
    have hRr:=Nat.lt_of_lt_of_le hRlt hb.size
    have f3r:=(hb.frozen (p:=⟨R,3,none⟩) hRlt).trans f3
    have HPr:=hide (HP.out.below hb)
    have HB:=hide hb
    have HO:=hide hown
    clear hrow hlt hown hb hkl
    have hat:∀ g,(Value.slice la (rcs.erase (a,m)).length lc).ownBlock=some g→ro.rv.ownBlock=some g∨w.heap.size≤g:=fun g hg=>Or.inr (HO.out.lt g hg).1
    have HRV:=hide (HP.out.recl (w1:=wr) (w2:=wr) (fun k hk=>HB.out.block k hk) HB.out.size ⟨rfl,rfl,rfl,Nat.le_refl _,fun _ _ _=>rfl⟩ (own_base HO.out) hat HRC.out)
    have HOB:=hide (OB_recl hat)
    have HK:Hid (Kp (fun b=>b=R) w (wr.setCell ⟨R,3,none⟩ (.slice la (rcs.erase (a,m)).length lc))):=Kp.setCell (Z:=fun b=>b=R) (kpB HB.out) (p:=⟨R,3,none⟩) (Or.inl rfl) _
    clear hat
    go_wp2_with fail
    go_ret
    exact ⟨HK.out,rfl,_,HRV.out,HOB.out⟩
end Go.Proofs.YtgcedalggnmooaaGreatDoor
namespace Go.Proofs.YtgcedalggnmooaaGreatDoor
open Go.RowKit
set_option maxHeartbeats 1600000 in
theorem recallsR_no {rcs:List (Nat × Nat)} {w:World} {R:Nat} {v:Value} {td:Nat} {rec:ByteArray} {fs:List Value} {ls:List L} {os:List O} {ro:Ro} (h:RV os rcs ro w R v td rec fs ls) (gn cap0:Nat) (a m:Nat) (hns:NS w gn [a,m]) (h1:a≤2147483647) (h2:m≤2147483647) (hc0:recallC rcs ls a m≠0) :
  Calls Tryz.prog 71 #[.pointer (some ⟨R,0,none⟩),.slice (some ⟨gn,0,none⟩) 2 cap0] w fun e w'=>Below w.heap.size w w'∧e=.returned (.tuple #[.slice none 0 0,.int .i64 (recallC rcs ls a m:Int)]):=by
 obtain ⟨⟨cs,hcs⟩,hcl⟩:=hns
 have n0:w.cell? ⟨gn,0,none⟩=some (.int .i64 (a:Int)):=hcl 0 (by simp)
 have n1:w.cell? ⟨gn,1,none⟩=some (.int .i64 (m:Int)):=hcl 1 (by simp)
 have hgn:=blk_lt hcs
 have HA:=hide (at_any h a h1)
 have HX:Hid (∀ n,Calls Tryz.prog 116 #[.pointer (some ⟨R,0,none⟩),.int .i64 (a:Int),.int .i64 (m:Int)] (w.drewN n) fun e w'=>e=.returned (.int .i64 (rixV rcs a m))∧w'=w.drewN n):=fun n=>recallIx_any (h.below (below_drewN (Below.refl _ _) n)) a m
 by_cases hi:idx a ls<ls.length
 ·have HV0:Hid (atV ls a=(idx a ls:Int)):=by unfold Hid atV;rw [if_pos hi]
  rw [HV0.out] at HA
  have HC5:Hid (rcs.contains (a,m)=true→recallC rcs ls a m=5):=fun q=>by unfold recallC;rw [if_pos hi,q];rfl
  have HC6:Hid (rcs.contains (a,m)=false→10≤rcs.length∧recallC rcs ls a m=6):=fun q=>by
   unfold recallC at hc0 ⊢;rw [if_pos hi,q] at hc0 ⊢
   by_cases q10:10≤rcs.length
   ·exact ⟨q10,by rw [if_pos q10];rfl⟩
   ·rw [if_neg q10] at hc0;simp at hc0
  clear hc0
  generalize recallC rcs ls a m=rcc at *
  generalize idx a ls=ix at *
  cases hc:rcs.contains (a,m) with
  | true =>
   have HC:Hid (rcc=5):=HC5.out hc
   have hrx:rix rcs a m<rcs.length:=rix_has.2 hc
   have HV:Hid (rixV rcs a m=(rix rcs a m:Int)):=by unfold Hid rixV;rw [if_pos hrx]
   rw [HV.out] at HX
   rw [HC.out]
   generalize rix rcs a m=r at *
   clear hc h hcl hcs HV HV0 HC hrx
   go_enter Tryz.func71,Tryz.ntmps71
   go_wp2_with (go_at_call 111;refine (HA.out).mono ?_;rintro e w1 ⟨rfl,rfl⟩)
   go_quiet ((go_at_call 116;exact Calls.quiet_of_same (HX.out _)))
   go_wp2_with fail
   go_ret2
   exact ⟨below_drewN (Below.refl _ _) nq,rfl⟩
  | false =>
   have h10:10≤rcs.length:=(HC6.out hc).1
   have HC:Hid (rcc=6):=(HC6.out hc).2
   have HV:Hid (rixV rcs a m=-1):=by unfold Hid rixV;rw [if_neg (fun q=>by rw [rix_has.1 q] at hc;cases hc)]
   rw [HV.out] at HX
   rw [HC.out]
   have c3:=h.c3
   obtain ⟨ra,rcap,hrv,_⟩:=h.rshape
   rw [hrv] at c3
   have hrl:=h.rc.len
   clear hc h hcl hcs HV HV0 HC hrv
   go_enter Tryz.func71,Tryz.ntmps71
   go_wp2_with (go_at_call 111;refine (HA.out).mono ?_;rintro e w1 ⟨rfl,rfl⟩)
   go_quiet ((go_at_call 116;exact Calls.quiet_of_same (HX.out _)))
   go_wp2_with fail
   go_ret2
   exact ⟨below_drewN (Below.refl _ _) nq,rfl⟩
 ·have HV0:Hid (atV ls a=-1):=by unfold Hid atV;rw [if_neg hi]
  rw [HV0.out] at HA
  have HC:Hid (recallC rcs ls a m=4):=by unfold Hid recallC;rw [if_neg hi]
  rw [HC.out]
  clear h hcl hcs HV0 hc0 HC hi
  go_enter Tryz.func71,Tryz.ntmps71
  go_wp2_with (go_at_call 111;refine (HA.out).mono ?_;rintro e w1 ⟨rfl,rfl⟩)
  go_ret2
  exact ⟨Below.refl _ _,rfl⟩
end Go.Proofs.YtgcedalggnmooaaGreatDoor
