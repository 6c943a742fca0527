import Derived.Test.YtgcedalggnmooabGreatDoorOd1X
import Derived.Test.YtgcedalggnmooabGreatDoorEn0X
import Derived.Test.YtgcedalggnmooabGreatDoorHlX
import Derived.Test.YtgcedalggnmooabGreatDoorOd4X
import Derived.Test.YtgcedalggnmooabGreatDoorAn1X
set_option linter.unusedSimpArgs false
set_option linter.unusedVariables false
set_option maxRecDepth 100000
namespace Go.Proofs.YtgcedalggnmooabGreatDoor
open Go.RowKit
theorem hkey_lit (a b:Nat):WideAt.IsKeyLit (hkey a b):=trivial
theorem contains_app (rcs:List (Nat × Nat)) (p q:Nat × Nat):(rcs++[p]).contains q=(rcs.contains q || q == p):=by
 rw [Bool.eq_iff_iff];simp
theorem RD.put {rcs:List (Nat × Nat)} {D:DataW Unit} (h:RD rcs D) (ht:Maps.Tidy D) {a b:Nat} (ha:a≤2147483647) (hb:b≤2147483647) (hn:rcs.contains (a,b)=false) (d:DataW Unit):RD (rcs++[(a,b)]) (D.put (hkey a b) d) := {
 size:=by rw [Maps.size_put ht,h.has a b ha hb,hn,h.size];simp
 has:=fun c e hc he=>by
  rw [contains_app]
  by_cases hq:(c,e)=(a,b)
  ·cases hq
   rw [Maps.has_put_same ht.isMap (hkey_lit _ _)];simp
  ·rw [Maps.has_put_other (fun x=>hq (by obtain ⟨e1,e2⟩:=hkey_inj hc he ha hb x;rw [e1,e2])),h.has c e hc he]
   have:((c,e) == (a,b))=false:=by rw [beq_eq_false_iff_ne];exact hq
   rw [this,Bool.or_false]
 keys:=fun kl hk=>by
  by_cases hq:kl=hkey a b
  ·exact ⟨(a,b),by simp,hq⟩
  ·rw [Maps.has_put_other hq] at hk
   obtain ⟨p,hp,e⟩:=h.keys kl hk
   exact ⟨p,by simp [hp],e⟩ }
theorem Rc.put {rcs:List (Nat × Nat)} (h:Rc rcs) {a b:Nat} (ha:a≤2147483647) (hb:b≤2147483647) (hn:rcs.contains (a,b)=false) (hl:¬ 10≤rcs.length):Rc (rcs++[(a,b)]) := {
 nodup:=by
  rw [List.nodup_append]
  refine ⟨h.nodup,by simp,fun x hx y hy e=>?_⟩
  simp at hy;subst hy;subst e
  have:rcs.contains (a,b)=true:=by rw [List.contains_iff_mem];exact hx
  rw [this] at hn;cases hn
 len:=by simp;omega
 fits:=fun p hp=>by
  rcases List.mem_append.1 hp with hp | hp
  ·exact h.fits p hp
  ·simp at hp;subst hp;exact ⟨ha,hb⟩ }
theorem RD.del {rcs:List (Nat × Nat)} {D:DataW Unit} (h:RD rcs D) (hr:Rc rcs) (ht:Maps.Tidy D) {a b:Nat} (ha:a≤2147483647) (hb:b≤2147483647) (hn:rcs.contains (a,b)=true):RD (rcs.erase (a,b)) (D.del (hkey a b)) := {
 size:=by
  have h1:=Maps.size_del (k:=hkey a b) ht
  rw [h.has a b ha hb,hn,h.size] at h1
  rw [List.length_erase_of_mem (List.contains_iff_mem.1 hn)]
  simp at h1;omega
 has:=fun c e hc he=>by
  by_cases hq:(c,e)=(a,b)
  ·cases hq
   rw [Maps.has_del_same]
   symm
   rw [Bool.eq_false_iff];intro hx
   exact (hr.nodup.not_mem_erase) (List.contains_iff_mem.1 hx)
  ·rw [Maps.has_del_other (fun x=>hq (by obtain ⟨e1,e2⟩:=hkey_inj hc he ha hb x;rw [e1,e2])),h.has c e hc he]
   rw [Bool.eq_iff_iff,List.contains_iff_mem,List.contains_iff_mem,hr.nodup.mem_erase_iff]
   exact ⟨fun x=>⟨hq,x⟩,fun x=>x.2⟩
 keys:=fun kl hk=>by
  by_cases hq:kl=hkey a b
  ·subst hq;rw [Maps.has_del_same] at hk;cases hk
  ·rw [Maps.has_del_other hq] at hk
   obtain ⟨p,hp,e⟩:=h.keys kl hk
   refine ⟨p,hr.nodup.mem_erase_iff.2 ⟨fun x=>hq (by rw [e,x]),hp⟩,e⟩ }
theorem Rc.del {rcs:List (Nat × Nat)} (h:Rc rcs) (p:Nat × Nat):Rc (rcs.erase p) := {
 nodup:=h.nodup.erase p
 len:=Nat.le_trans (List.length_erase_le) h.len
 fits:=fun q hq=>h.fits q (List.mem_of_mem_erase hq) }
theorem PV.rmap {rcs rcs':List (Nat × Nat)} {w w':World} {S:Nat} {M:Mx} {v:Value} {td:Nat} {bs:List Nat} {pvs:List Value} {ls:List L} {os:List O} (h:PV os rcs w S M v td bs pvs ls) (hg:w.grownBy w' (some M.r)) {D':DataW Unit} {N:Nat} (ho:OwnsR w' M.r N D') (hD:RD rcs' D') (hR:Rc rcs'):PV os rcs' w' S M v td bs pvs ls:=by
 obtain ⟨_,_,hm0⟩:=h.maps.mr
 have hc:∀ (k:Nat) (cs:Array Value) (t:TypeId),w.heap[k]?=some (.cells cs t (0,0))→w'.heap[k]?=w.heap[k]?:=fun k cs t hk=>hg.block k (blk_lt hk) (fun e=>map_ne hk hm0 (Option.some.inj e))
 have hm:=h.maps
 obtain ⟨Do,hDo,hOD⟩:=hm.o
 obtain ⟨Dh,hDh,hHD⟩:=hm.h
 exact {
  store:=(hc _ _ _ h.store).trans h.store
  maps:=⟨⟨D',owns_exact ho,hD⟩,hR,⟨Do,owns_congr hDo (hg.block _ (World.ownsMap.lt hDo) (fun e=>hm.ro (Option.some.inj e).symm)),hOD⟩,⟨Dh,owns_congr hDh (hg.block _ (World.ownsMap.lt hDh) (fun e=>hm.rh (Option.some.inj e).symm)),hHD⟩,hm.ro,hm.rh,hm.oh⟩
  row:=own_congr h.row (fun g hg'=>by obtain ⟨cs,hcs⟩:=own_ty h.row hg';exact hc _ _ _ hcs)
  len:=h.len
  plen:=h.plen
  lot:=fun i hi=>(hc _ _ _ (h.lot i hi)).trans (h.lot i hi)
  par:=fun i hi=>(h.par i hi).congr (fun q hq=>by obtain ⟨cs,hcs⟩:=(h.par i hi).blk hq;exact hc _ _ _ hcs)
  nodup:=h.nodup
  today:=h.today
  ok:=h.ok
  room:=h.room }
theorem look_r {w:World} {b n:Nat} {D:DataW Unit} {rcs:List (Nat × Nat)} (h:OwnsR w b n D) (hd:RD rcs D) (x y:Nat) (hx:x≤2147483647) (hy:y≤2147483647) :
  (Instr.lookup 77 (.map (some b)) (.agg #[.int .i64 (x:Int),.int .i64 (y:Int)]) true).run Tryz.prog w=.ok (.tuple #[.agg #[],.bool (rcs.contains (x,y))]) w:=by
 obtain ⟨v,ps,hr,hv⟩:=World.ownsMap.look_ok h kRec tU56 (run_zero163 w) unitElem_mk (key_r hx hy)
 obtain ⟨rfl,_⟩:=unitElem_inv hv
 rw [hr,hd.has x y hx hy]
set_option maxHeartbeats 800000 in
theorem hasRecall_any {rcs:List (Nat × Nat)} {w:World} {S:Nat} {M:Mx} {v:Value} {td:Nat} {bs:List Nat} {pvs:List Value} {ls:List L} {os:List O} (h:PV os rcs w S M v td bs pvs ls) (x y:Nat) (hx:x≤2147483647) (hy:y≤2147483647) :
  Calls Tryz.prog 84 #[.pointer (some ⟨S,0,none⟩),.agg #[.int .i64 (x:Int),.int .i64 (y:Int)]] w fun e w'=>e=.returned (.bool (rcs.contains (x,y)))∧Below w.heap.size w w':=by
 have ha:=al1 w (Obj.cells #[.int .i64 (x:Int),.int .i64 (y:Int)] 140)
 have hP:=h.below ha
 obtain ⟨D,hD,hd⟩:=hP.maps.r
 have hlk:=look_r (w:=(w.alloc (Obj.cells #[.int .i64 (x:Int),.int .i64 (y:Int)] 140)).drew) hD hd x y hx hy
 have hlk0:=look_r hD hd x y hx hy
 have hlk2:=look_r (w:=((w.alloc (Obj.cells #[.int .i64 (x:Int),.int .i64 (y:Int)] 140)).alloc (Obj.cells #[] 144)).drew) (World.ownsMap.alloc hD _) hd x y hx hy
 have c4:=h.c4
 have hS:=blk_lt h.store
 generalize rcs.contains (x,y)=bb at *
 clear h hD hd hP
 go_enter Tryz.func84,Tryz.ntmps84
 go_wp2_with fail
 go_region
 all_goals (go_wp2_with fail;go_ret;exact ⟨rfl,((al1 w _).alloc (by simp) _).drew⟩)
def releaseC (rcs:List (Nat × Nat)) (a m:Nat):Nat:=if rcs.contains (a,m) then 0 else 10
def releaseS (rcs:List (Nat × Nat)) (a m:Nat):List (Nat × Nat):=if rcs.contains (a,m) then rcs.erase (a,m) else rcs
set_option maxHeartbeats 1600000 in
theorem release_any {rcs:List (Nat × Nat)} {w:World} {S:Nat} {M:Mx} {v:Value} {td:Nat} {bs:List Nat} {pvs:List Value} {ls:List L} {os:List O} (h:PV os rcs w S M v td bs pvs ls) (a m:Nat) (h1:a≤2147483647) (h2:m≤2147483647) :
  Calls Tryz.prog 55 #[.pointer (some ⟨S,0,none⟩),.agg #[.int .i64 (a:Int),.int .i64 (m:Int)]] w fun e w'=>Kp (fun k=>k=M.r) w w'∧e=.returned (.int .i64 (releaseC rcs a m:Int))∧PV os (releaseS rcs a m) w' S M v td bs pvs ls:=by
 have ha:=(al1 w (Obj.cells #[.int .i64 (a:Int),.int .i64 (m:Int)] 108)).alloc (by simp) (Obj.cells #[.int .i64 (a:Int),.int .i64 (m:Int)] 140)
 have hP:=h.below ha
 have HH:=hide (hasRecall_any hP a m h1 h2)
 have hbx:=heap_alloc_new (w.alloc (Obj.cells #[.int .i64 (a:Int),.int .i64 (m:Int)] 108)) (Obj.cells #[.int .i64 (a:Int),.int .i64 (m:Int)] 140)
 have HP:=hide hP
 have HA:=hide ha
 cases hc:rcs.contains (a,m) with
 | false =>
  have HC:Hid (releaseC rcs a m=10):=by unfold Hid releaseC;rw [hc];rfl
  have HS:Hid (releaseS rcs a m=rcs):=by unfold Hid releaseS;rw [hc];rfl
  rw [hc] at HH
  rw [HC.out,HS.out]
  clear hc h hP hbx ha
  go_enter Tryz.func55,Tryz.ntmps55
  go_wp2_with (go_at_call 84;refine (HH.out).mono ?_;rintro e w1 ⟨rfl,hb1⟩)
  go_ret
  exact ⟨kpB (HA.out.trans (hb1.mono HA.out.size)),rfl,HP.out.below hb1⟩
 | true =>
  have HC:Hid (releaseC rcs a m=0):=by unfold Hid releaseC;rw [hc];rfl
  have HS:Hid (releaseS rcs a m=rcs.erase (a,m)):=by unfold Hid releaseS;rw [hc];rfl
  have HCon:=hide hc
  rw [hc] at HH
  rw [HC.out,HS.out]
  have HBX:=hide hbx
  clear hc h hP hbx ha
  go_enter Tryz.func55,Tryz.ntmps55
  go_wp2_with fail
  refine (HH.out).mono ?_
  rintro e w1 ⟨rfl,hb1⟩
  have hP1:=HP.out.below hb1
  have hbx1:=(hb1.block _ (blk_lt HBX.out)).trans HBX.out
  simp only [World.size_alloc] at hbx1
  have k0:w1.cell? ⟨w.heap.size+1,0,none⟩=some (.int .i64 (a:Int)):=by rw [blk_cell hbx1];rfl
  have k1:w1.cell? ⟨w.heap.size+1,1,none⟩=some (.int .i64 (m:Int)):=by rw [blk_cell hbx1];rfl
  have s4:=hP1.c4
  obtain ⟨D,hD,hRD⟩:=hP1.maps.r
  obtain ⟨w4,hrun,hown4,hturn⟩:=World.ownsMap.drop (w:=w1.drew) hD kRec tU56 (key_r h1 h2) 0
  have hgr4:=hturn.grown
  have hP4:=(hP1.below (Below.refl _ _).drew).rmap hgr4 hown4 (hRD.del hP1.maps.rc (World.ownsMap.tidy hD kRec) h1 h2 HCon.out) (hP1.maps.rc.del _)
  have HP4:=hide hP4
  have HK4:Hid (Kp (fun k=>k=M.r) w w4):=(kpB ((HA.out.trans (hb1.mono HA.out.size)).drew)).trans (turned_kp hturn (Or.inl rfl))
  clear hD hRD hown4 hturn hgr4 hP4 hP1 hbx1 hb1
  go_wp2_with fail
  go_region
  go_wp2_with fail
  go_ret
  exact ⟨HK4.out,rfl,HP4.out⟩
end Go.Proofs.YtgcedalggnmooabGreatDoor
namespace Go.Proofs.YtgcedalggnmooabGreatDoor
open Go.RowKit
def LineAt (w:World) (bs:List Nat) (a:Option Addr) (l:List (Nat × Nat)):Prop:=∀ k,k<l.length→∃ G,a=some ⟨G,0,none⟩∧G<w.heap.size∧w.cell? ⟨G,k * 2,none⟩=some (.pointer (some ⟨bs.getD (l.getD k (0,0)).1 0,0,none⟩))∧w.cell? ⟨G,k * 2+1,none⟩=some (.int .i64 ((l.getD k (0,0)).2:Int))
def heldS (ls:List L) (f:Nat→Bool) (k:Nat):List Nat:=((byN ls).take k).filter (heldP ls f)
theorem heldS_yes {ls:List L} {f:Nat→Bool} {k:Nat} (hk:k<ls.length) (h:heldP ls f ((byN ls).getD k 0)=true):heldS ls f (k+1)=heldS ls f k++[(byN ls).getD k 0]:=by
 unfold heldS;rw [byN_at hk,List.filter_append];simp only [List.filter,h]
theorem heldS_no {ls:List L} {f:Nat→Bool} {k:Nat} (hk:k<ls.length) (h:heldP ls f ((byN ls).getD k 0)=false):heldS ls f (k+1)=heldS ls f k:=by
 unfold heldS;rw [byN_at hk,List.filter_append];simp only [List.filter,h,List.append_nil]
theorem heldS_len (ls:List L) (f:Nat→Bool) (k:Nat):(heldS ls f k).length≤k:=Nat.le_trans (List.length_filter_le _ _) (List.length_take_le _ _)
theorem heldS_all {ls:List L} (hids:∀ i j,i<ls.length→j<ls.length→(ls.getD i L0).id=(ls.getD j L0).id→i=j) (n:Nat):heldS ls (comB ls n) ls.length=heldI ls n:=by
 have e:heldS ls (comB ls n) ls.length=(byN ls).filter (heldP ls (comB ls n)):=by
  unfold heldS;rw [List.take_of_length_le (by rw [byN_len];exact Nat.le_refl _)]
 rw [e]
 exact heldI_eq hids ((byN_perm ls).filter _) ((byN_srt ls).filter _)
set_option maxHeartbeats 3200000 in
theorem heldOf_any {rcs:List (Nat × Nat)} {w:World} {S:Nat} {M:Mx} {v:Value} {td:Nat} {bs:List Nat} {pvs:List Value} {ls:List L} {os:List O} (h:PV os rcs w S M v td bs pvs ls) (hids:∀ i j,i<ls.length→j<ls.length→(ls.getD i L0).id=(ls.getD j L0).id→i=j) (n:Nat) (hn:n≤2147483647) (hpos:0<ls.length) :
  Calls Tryz.prog 85 #[.pointer (some ⟨S,0,none⟩),.int .i64 (n:Int)] w fun e w'=>Below w.heap.size w w'∧∃ a cap,e=.returned (.slice a (heldQ ls n).length cap)∧LineAt w' bs a (heldQ ls n):=by
 have hmm:=@run_makeMap Tryz.prog
 obtain ⟨i0,hi,hz0,hz1,hz2⟩:=info_parts infoLine
 obtain ⟨a,cap,hv,_⟩:=h.shape
 have c1:=h.c1
 rw [hv] at c1
 have hroom:=h.room
 have hSlt:=blk_lt h.store
 have hMr:M.r<w.heap.size:=by obtain ⟨_,_,q⟩:=h.maps.mr;exact blk_lt q
 have hMo:M.o<w.heap.size:=by obtain ⟨_,_,q⟩:=h.maps.mo;exact blk_lt q
 have hMh:M.h<w.heap.size:=by obtain ⟨_,_,q⟩:=h.maps.mh;exact blk_lt q
 have hF0:OwnsF (w.alloc (.map #[] 0)) w.heap.size 0 (.map []):=World.ownsMap_made _ _ _ _
 obtain ⟨wf,hrun,hownf,hgrf⟩:=World.ownsMap.update hF0 kInt tU155 (by unfold maxLen;omega) (key_o hn) unitElem_mk
 have hbf:Below w.heap.size w wf:=(al1 w _).grown hgrf (al1 w _).size (fun k hk=>by cases hk;exact Nat.le_refl _)
 have hfd:FD (fun m=>m == n) ((DataW.map []).put (okey n) (.agg [])):=by
  have h0:FD (fun _=>false) (DataW.map []:DataW Unit):=fun m _=>rfl
  have h1:=h0.put (World.ownsMap.isMap hF0) n (.agg [])
  have e:(fun x=>false || x == n)=fun m=>m == n:=by funext x;simp
  rw [e] at h1;exact h1
 have HG:=hide (grow_any (h.below hbf) hownf hfd (by omega) ⟨by omega,by omega,by omega⟩)
 have HV:=hide hv
 have HP:=hide h
 have HBF:=hide hbf
 have HIDS:=hide hids
 clear h hv hF0 hownf hgrf hfd hids hbf
 go_enter Tryz.func85,Tryz.ntmps85
 go_wp2_with fail
 refine (HG.out).mono ?_
 rintro e w1 ⟨rfl,hg1,N,D,hmf,hfd⟩
 have HB1:Hid (Below w.heap.size w w1):=HBF.out.grown hg1 HBF.out.size (fun k hk=>by cases hk;exact Nat.le_refl _)
 have cS1:w1.cell? ⟨S,1,none⟩=some (.slice a ls.length cap):=(HB1.out.cell (by exact hSlt)).trans c1
 have HMF:=hide hmf
 have HFD:=hide hfd
 have HP1:=hide (HP.out.below HB1.out)
 have HBN:=hide (byNumber_any HP1.out HIDS.out)
 clear hg1 hmf hfd hrun HG c1
 go_wp2_with (go_at_call 65;refine (HBN.out).mono ?_;rintro e w9 ⟨hb9,pa,pcap,rfl,hat⟩)
 have HB9:=hide hb9
 have HAT:=hide hat
 clear hb9 hat HBN
 go_wp2_with fail
 go_loopw [6,8,19] (fun lv _ ii wr=>∃ k:Nat,k≤ls.length∧ii=.int .i64 k∧wr.ownsRow w9.heap.size 163 2 lv (heldS ls (comB ls n) k).length (lineCells bs (withHeld ls (heldS ls (comB ls n) k)))∧Below w9.heap.size w9 wr) (fun _ _ ii _=>ls.length - (intOf ii).toNat)
 case atStart=>exact ⟨0,by omega,rfl,World.ownsRow_nil _ _ _ _,Below.refl _ _⟩
 case round =>
  obtain ⟨k,hk,rfl,hown,hb⟩:=hrel
  obtain ⟨la,lc,hlv⟩:=own_shapeS hown
  subst hlv
  have hlen:=heldS_len ls (comB ls n) k
  have hbw:Below w1.heap.size w1 wr:=HB9.out.trans (hb.mono HB9.out.size)
  have hb0:Below w.heap.size w wr:=HB1.out.trans (hbw.mono HB1.out.size)
  have hPr:=HP.out.below hb0
  by_cases hlt:k<ls.length
  ·obtain ⟨G,rfl,_,hGlt,hck⟩:=(HAT.out.below hb) k (by rw [byN_len];exact hlt)
   have hj:=byN_get hlt
   have HYes:=hide (heldS_yes (f:=comB ls n) hlt)
   have HNo:=hide (heldS_no (f:=comB ls n) hlt)
   generalize (byN ls).getD k 0=j at *
   have hok:=hPr.ok _ (mem_getD hj)
   have hl0:wr.cell? ⟨bs.getD j 0,0,none⟩=some (.int .i64 ((ls.getD j L0).id:Int)):=by rw [hPr.cl j hj 0];rfl
   have hl7:wr.cell? ⟨bs.getD j 0,7,none⟩=some (.int .i64 ((ls.getD j L0).held:Int)):=by rw [hPr.cl j hj 7];rfl
   have hblt:bs.getD j 0<wr.heap.size:=blk_lt (hPr.lot j hj)
   have hid:=hok.id
   have hhl:(ls.getD j L0).held≤2147483647:=by have:=hok.sum;omega
   have hmw:OwnsF wr w.heap.size N D:=owns_congr HMF.out (hbw.block _ (World.ownsMap.lt HMF.out))
   have HHA:=hide (has_any hmw hid hl0)
   rw [HFD.out _ hid] at HHA
   have HHP:Hid (heldP ls (comB ls n) j=(decide (0<(ls.getD j L0).held) && comB ls n (ls.getD j L0).id)):=rfl
   obtain ⟨bk,HBK⟩:∃ bk,Hid (bk=bs.getD j 0):=⟨_,rfl⟩
   rw [← HBK.out] at hck hl0 hl7 hblt HHA
   obtain ⟨hd,HHD⟩:∃ hd,Hid (hd=(ls.getD j L0).held):=⟨_,rfl⟩
   rw [← HHD.out] at hl7 hhl HHP
   obtain ⟨idk,HIDK⟩:∃ idk,Hid (idk=(ls.getD j L0).id):=⟨_,rfl⟩
   rw [← HIDK.out] at hl0 hid HHP HHA
   have HEF:Hid (famB ls (fun m=>m == n) idk=comB ls n idk):=rfl
   rw [HEF.out] at HHA
   have HO:=hide hown
   have HB:=hide hb
   clear hPr hok hmw hown hb hb0 hbw
   by_cases hh:0<hd
   ·have hhb:decide ((0:Int)<(hd:Int))=true:=by simp;omega
    cases hc:comB ls n idk with
    | true =>
     rw [hc] at HHA
     have HY:=HYes.out (by rw [HHP.out,hc];simp [hh])
     have HY2:=hide HY
     clear HYes HNo HY hc
     obtain ⟨hl,HHL⟩:∃ hl,Hid (hl=(heldS ls (comB ls n) k).length):=⟨_,rfl⟩
     rw [← HHL.out] at HO hlen
     rw [← HHL.out]
     go_wp2_with (first
      | (go_at_call 87;refine (HHA.out).mono ?_;rintro e w2 ⟨rfl,hb2⟩;have hm7:w2.cell? ⟨bk,7,none⟩=some (.int .i64 (hd:Int)):=(hb2.cell (by exact hblt)).trans hl7)
      | (at_builtin;refine wpList_append_own _ rfl _ _ 135 rfl w9.heap.size 163 i0 (.agg #[.pointer none,.int .i64 0]) 2 16 tULines hi hz0 hz1 hz2 rfl (by decide) _ hl (lineCells bs (withHeld ls (heldS ls (comB ls n) k))) rfl ((own_below HO.out hb2).alloc _) ⟨w2.heap.size,0,none⟩ 1 1 [.pointer (some ⟨bk,0,none⟩),.int .i64 (hd:Int)] rfl rfl ?c1 ?c2 ?c3 ?c4 ?c5 ?_))
     case c1=>exact cell_two_new w2 _ _ _
     case c2=>intro u hu;simp at hu;rcases hu with rfl | rfl <;> rfl
     case c3=>unfold maxLen;omega
     case c4=>omega
     case c5=>have:=HB.out.size;have:=hb2.size;simp;omega
     intro lv2 w6 hown6 hgrow hnn
     have hbb:Below w9.heap.size w9 w6:=((HB.out.trans (hb2.mono HB.out.size)).alloc (by have:=HB.out.size;have:=hb2.size;omega) _).grown hgrow (by have:=HB.out.size;have:=hb2.size;simp;omega) (fun q hq=>(HO.out.lt q hq).1)
     have HO6:Hid (w6.ownsRow w9.heap.size 163 2 lv2 (heldS ls (comB ls n) (k+1)).length (lineCells bs (withHeld ls (heldS ls (comB ls n) (k+1))))):=by
      unfold Hid
      rw [HY2.out,withHeld_snoc,lineCells_snoc,List.length_append,List.length_singleton,← HHL.out,← HHD.out,← HBK.out]
      exact hown6
     have HBB:=hide hbb
     clear hown6 hgrow hnn hbb hb2
     go_wp2_with fail
     go_roundw
     case rel=>exact ⟨k+1,by omega,by go_num,HO6.out,HBB.out⟩
     case measure=>simp [intOf];omega
    | false =>
     rw [hc] at HHA
     have HN2:=hide (HNo.out (by rw [HHP.out,hc];simp))
     clear HYes HNo hc
     go_wp2_with (first | (go_at_call 87;refine (HHA.out).mono ?_;rintro e w2 ⟨rfl,hb2⟩) | fail)
     go_roundw
     case rel=>exact ⟨k+1,by omega,by go_num,by rw [HN2.out];exact own_below HO.out hb2,HB.out.trans (hb2.mono HB.out.size)⟩
     case measure=>simp [intOf];omega
   ·have hhb:decide ((0:Int)<(hd:Int))=false:=by simp;omega
    have HN2:=hide (HNo.out (by rw [HHP.out];simp [hh]))
    clear HYes HNo
    go_wp2_with fail
    go_roundw
    case rel=>exact ⟨k+1,by omega,by go_num,by rw [HN2.out];exact HO.out,HB.out⟩
    case measure=>simp [intOf];omega
  ·obtain rfl:k=ls.length:=by omega
   have HB0:=hide hb0
   have HO:=hide hown
   have HE:=hide (heldS_all HIDS.out n)
   clear hown hb hb0 hbw hPr hlt
   go_wp2_with fail
   go_ret
   have ho:=HO.out
   rw [HE.out] at ho
   refine ⟨HB0.out,la,lc,by rw [HE.out];unfold heldQ;rw [withHeld_len];rfl,?_⟩
   intro k hk
   unfold heldQ at hk ⊢
   have ho2:wr.ownsRow w9.heap.size 163 2 (.slice la (withHeld ls (heldI ls n)).length lc) (withHeld ls (heldI ls n)).length (lineCells bs (withHeld ls (heldI ls n))):=by rw [withHeld_len];exact ho
   exact lines_cells ho2 k hk
end Go.Proofs.YtgcedalggnmooabGreatDoor
namespace Go.Proofs.YtgcedalggnmooabGreatDoor
open Go.RowKit
set_option maxHeartbeats 1600000 in
theorem told_line {w:World} {a:Option Addr} {cap:Nat} {bs:List Nat} {ls:List L} {l:List (Nat × Nat)} (h:LineAt w bs a l) (hl:l.length≤30) (hs:∀ k,k<l.length→(l.getD k (0,0)).2≤2147483647) (hlo:LotsOK w bs ls) (hok:∀ x ∈ ls,L.Ok x) (hin:∀ p ∈ l,p.1<ls.length) :
  Calls Tryz.prog 69 #[.slice a l.length cap] w fun e w'=>Below w.heap.size w w'∧∃ g c,e=.returned (.slice (some ⟨g,0,none⟩) (toldQ ls l).length c)∧w'.ownsRow w.heap.size 2 1 (.slice (some ⟨g,0,none⟩) (toldQ ls l).length c) (toldQ ls l).length (I (toldQ ls l)):=by
 obtain ⟨i0,hi,hz0,hz1,hz2⟩:=info_parts info2
 have HC:=hide (fun k hk=>h k hk)
 have HLO:=hide hlo
 have HOK:=hide hok
 have HIN:=hide hin
 have HS:=hide hs
 have HL0:Hid ((w.alloc (.cells #[.int .i64 (l.length:Int)] 2)).ownsRow w.heap.size 2 1 (.slice (some ⟨w.heap.size,0,none⟩) 1 1) 1 (I (l.length :: toldL ls (l.take 0)))):=World.ownsRow_lit w #[.int .i64 (l.length:Int)] 1 (Nat.le_refl _) (by unfold maxLen;omega) rfl
 clear h hlo hok hin hs
 go_enter Tryz.func69,Tryz.ntmps69
 go_wp2_with fail
 go_loopw [3,5,11] (fun nn _ ii wr=>∃ (k g c:Nat),ii=.int .i64 k∧k≤l.length∧nn=.slice (some ⟨g,0,none⟩) (1+k * 2) c∧wr.ownsRow w.heap.size 2 1 (.slice (some ⟨g,0,none⟩) (1+k * 2) c) (1+k * 2) (I (l.length :: toldL ls (l.take k)))∧Below w.heap.size w wr) (fun _ _ ii _=>l.length - (intOf ii).toNat)
 case atStart=>exact ⟨0,_,_,rfl,by omega,rfl,HL0.out,al1 w _⟩
 case round =>
  clear HL0
  obtain ⟨k,g,c,rfl,hk,rfl,hown,hb⟩:=hrel
  by_cases hlt:k<l.length
  ·obtain ⟨G,rfl,hGlt,g1,g2⟩:=HC.out k hlt
   have c1:=(hb.cell (p:=⟨G,k * 2,none⟩) (by exact hGlt)).trans g1
   have c2:=(hb.cell (p:=⟨G,k * 2+1,none⟩) (by exact hGlt)).trans g2
   have hpm:l.getD k (0,0) ∈ l:=by simp [List.getD_eq_getElem?_getD,hlt]
   have hc:=HIN.out _ hpm
   obtain ⟨pv,hcl⟩:=(HLO.out.below hb) _ hc
   have hok1:=HOK.out _ (mem_getD hc)
   have HT:Hid (toldL ls (l.take (k+1))=toldL ls (l.take k)++[(ls.getD (l.getD k (0,0)).1 L0).id,(l.getD k (0,0)).2]):=by
    have e:l.take (k+1)=l.take k++[l.getD k (0,0)]:=by
     rw [List.take_succ_eq_append_getElem hlt];simp [List.getD_eq_getElem?_getD,hlt]
    unfold Hid;rw [e,toldL_snoc]
   have hxb:(l.getD k (0,0)).2≤2147483647:=HS.out k hlt
   have hid:=hok1.id
   have hc0:wr.cell? ⟨bs.getD (l.getD k (0,0)).1 0,0,none⟩=some (.int .i64 ((ls.getD (l.getD k (0,0)).1 L0).id:Int)):=by rw [blk_cell hcl];rfl
   have hblt:=blk_lt hcl
   generalize (l.getD k (0,0)).2=x at *
   generalize (ls.getD (l.getD k (0,0)).1 L0).id=id at *
   generalize bs.getD (l.getD k (0,0)).1 0=bk at *
   have hB:=al1 wr (.cells #[.pointer (some ⟨bk,0,none⟩),.int .i64 (x:Int)] 163)
   have hbox:=heap_alloc_new wr (.cells #[.pointer (some ⟨bk,0,none⟩),.int .i64 (x:Int)] 163)
   clear g1 g2 hcl hok1 hpm hc
   go_wp2_with fail
   have d0:(wr.alloc (.cells #[.pointer (some ⟨bk,0,none⟩),.int .i64 (x:Int)] 163)).cell? ⟨wr.heap.size,0,none⟩=some (.pointer (some ⟨bk,0,none⟩)):=by rw [blk_cell hbox];rfl
   have d1:(wr.alloc (.cells #[.pointer (some ⟨bk,0,none⟩),.int .i64 (x:Int)] 163)).cell? ⟨wr.heap.size,1,none⟩=some (.int .i64 (x:Int)):=by rw [blk_cell hbox];rfl
   have e0:(wr.alloc (.cells #[.pointer (some ⟨bk,0,none⟩),.int .i64 (x:Int)] 163)).cell? ⟨bk,0,none⟩=some (.int .i64 (id:Int)):=(hB.cell (by exact hblt)).trans hc0
   have hown1:=own_below hown hB
   have hbb:=hb.trans (hB.mono hb.size)
   have hszb:w.heap.size≤(wr.alloc (.cells #[.pointer (some ⟨bk,0,none⟩),.int .i64 (x:Int)] 163)).heap.size:=hbb.size
   generalize (wr.alloc (.cells #[.pointer (some ⟨bk,0,none⟩),.int .i64 (x:Int)] 163))=wb at *
   have hbl:Below wb.heap.size wb (wb.alloc (.cells #[.int .i64 (id:Int),.int .i64 (x:Int)] 2)).drew:=(al1 wb _).drew
   have hbk:(wb.alloc (.cells #[.int .i64 (id:Int),.int .i64 (x:Int)] 2)).drew.heap[wb.heap.size]?=some (.cells #[.int .i64 (id:Int),.int .i64 (x:Int)] 2 (0,0)):=heap_alloc_new wb _
   have hone:∀ u ∈ ([.int .i64 (id:Int),.int .i64 (x:Int)]:List Value),u.oneCell'=true:=by
    intro u hu;simp at hu;rcases hu with rfl | rfl <;> rfl
   have HBB:=hide hbb
   have HON:=hide hown1
   have HBL:=hide hbl
   clear hc0 c1 c2 hown hb hbox hB hbb
   go_region_law (refine step_append_lies _ rfl _ _ 54 rfl w.heap.size 2 i0 (.int .i64 0) 1 8 tUIs hi hz0 hz1 hz2 rfl (by decide) (.slice (some ⟨g,0,none⟩) (1+k * 2) c) (1+k * 2) (I (l.length :: toldL ls (l.take k))) rfl (own_below hown1 hbl) ⟨wb.heap.size,0,none⟩ 2 2 [.int .i64 (id:Int),.int .i64 (x:Int)] rfl rfl (World.news_of_block hbk) hone (by decide) (by unfold maxLen;omega) (by omega) (by simp;omega) (wb.heap.size+1) (by simp) ?_;intro g2 cap2 w2 hown2 hgrow hat hlt2)
   all_goals
    have e1:I (l.length :: toldL ls (l.take k))++[.int .i64 (id:Int),.int .i64 (x:Int)]=I (l.length :: toldL ls (l.take (k+1))):=by rw [HT.out];simp [I]
    rw [e1] at hown2
    have hbw:Below w.heap.size w w2:=(HBB.out.trans (HBL.out.mono HBB.out.size)).grown hgrow (by simp;omega) (fun q hq=>(HON.out.lt q hq).1)
    have HO2:=hide hown2
    have HBW:=hide hbw
    clear hown2 hgrow hat hlt2 hbw e1 hbl hbk hone hown1 d0 d1 e0
    go_wp2_with fail
    go_roundw
    case rel=>exact ⟨k+1,g2,cap2,by go_num,by omega,by rw [show 1+(k+1) * 2=1+k * 2+2 by omega],by rw [show 1+(k+1) * 2=1+k * 2+2 by omega];exact HO2.out,HBW.out⟩
    case measure=>simp [intOf];omega
  ·obtain rfl:k=l.length:=by omega
   rw [List.take_length] at hown
   have hlen:(toldQ ls l).length=1+l.length * 2:=by simp [toldQ,toldL_len];omega
   have HO:=hide hown
   have HLN:=hide hlen
   clear hlt hown hlen
   go_wp2_with fail
   go_ret
   exact ⟨hb,g,c,by rw [HLN.out];rfl,by rw [HLN.out];exact HO.out⟩
def recallC (rcs:List (Nat × Nat)) (ls:List L) (a m:Nat):Nat:=if idx a ls<ls.length then (if rcs.contains (a,m) then 5 else if 10≤rcs.length then 6 else 0) else 4
def recallS (rcs:List (Nat × Nat)) (ls:List L) (a m:Nat):List (Nat × Nat):=if recallC rcs ls a m=0 then rcs++[(a,m)] else rcs
set_option maxHeartbeats 1600000 in
theorem recall_no {rcs:List (Nat × Nat)} {w:World} {S:Nat} {M:Mx} {v:Value} {td:Nat} {bs:List Nat} {pvs:List Value} {ls:List L} {os:List O} (h:PV os rcs w S M v td bs pvs ls) (a m:Nat) (h1:a≤2147483647) (h2:m≤2147483647) (hc0:recallC rcs ls a m≠0) :
  Calls Tryz.prog 54 #[.pointer (some ⟨S,0,none⟩),.agg #[.int .i64 (a:Int),.int .i64 (m:Int)]] w fun e w'=>Below w.heap.size w w'∧e=.returned (.tuple #[.slice none 0 0,.int .i64 (recallC rcs ls a m:Int)]):=by
 have ha:=al1 w (Obj.cells #[.int .i64 (a:Int),.int .i64 (m:Int)] 106)
 have ha2:=ha.alloc (by simp) (Obj.cells #[.int .i64 (a:Int),.int .i64 (m:Int)] 140)
 have hP:=h.below ha
 have hP2:=h.below ha2
 have HF:=hide (find_any hP a h1)
 have HH:=hide (hasRecall_any hP2 a m h1 h2)
 by_cases hi:idx a ls<ls.length
 ·have hfv:findV bs ls a=.pointer (some ⟨bs.getD (idx a ls) 0,0,none⟩):=by unfold findV;rw [if_pos hi]
  rw [hfv] at HF
  generalize bs.getD (idx a ls) 0=bb at *
  cases hc:rcs.contains (a,m) with
  | true =>
   have HC:Hid (recallC rcs ls a m=5):=by unfold Hid recallC;rw [if_pos hi,hc];rfl
   rw [hc] at HH
   rw [HC.out]
   have HA2:=hide ha2
   clear hc h hP hP2 hi hfv hc0 ha ha2
   go_enter Tryz.func54,Tryz.ntmps54
   go_wp2_with (first
    | (go_at_call 77;refine (HF.out).mono ?_;rintro e w1 ⟨rfl,rfl⟩)
    | (go_at_call 84;refine (HH.out).mono ?_;rintro e w2 ⟨rfl,hb2⟩))
   go_ret2
   exact ⟨HA2.out.trans (hb2.mono HA2.out.size),rfl⟩
  | false =>
   have h10:10≤rcs.length:=by
    unfold recallC at hc0;rw [if_pos hi,hc] at hc0
    by_cases q:10≤rcs.length
    ·exact q
    ·rw [if_neg q] at hc0;simp at hc0
   have HC:Hid (recallC rcs ls a m=6):=by unfold Hid recallC;rw [if_pos hi,hc,if_pos h10];rfl
   rw [hc] at HH
   rw [HC.out]
   have HA2:=hide ha2
   have hrl:=h.maps.rc.len
   have HP2:=hide hP2
   obtain ⟨n,HN⟩:∃ n,Hid (n=rcs.length):=⟨_,rfl⟩
   rw [← HN.out] at h10 hrl
   clear hc h hP hP2 hi hfv hc0 ha ha2
   go_enter Tryz.func54,Tryz.ntmps54
   go_wp2_with (first | (go_at_call 77;refine (HF.out).mono ?_;rintro e w1 ⟨rfl,rfl⟩) | fail)
   refine (HH.out).mono ?_
   rintro e w2 ⟨rfl,hb2⟩
   have hP3:=HP2.out.below hb2
   have c4:=hP3.c4
   obtain ⟨D,hD,hRD⟩:=hP3.maps.r
   have hlen:=World.ownsMap.len hD tU56
   rw [hRD.size,← HN.out] at hlen
   clear hP3 hD hRD
   go_wp2_with fail
   go_ret2
   exact ⟨HA2.out.trans (hb2.mono HA2.out.size),rfl⟩
 ·have hfv:findV bs ls a=.pointer none:=by unfold findV;rw [if_neg hi]
  rw [hfv] at HF
  have HC:Hid (recallC rcs ls a m=4):=by unfold Hid recallC;rw [if_neg hi]
  rw [HC.out]
  clear h hP hP2 hi hfv hc0 HH ha2
  go_enter Tryz.func54,Tryz.ntmps54
  go_wp2_with (go_at_call 77;refine (HF.out).mono ?_;rintro e w1 ⟨rfl,rfl⟩)
  go_ret2
  exact ⟨ha,rfl⟩
end Go.Proofs.YtgcedalggnmooabGreatDoor
namespace Go.Proofs.YtgcedalggnmooabGreatDoor
open Go.RowKit
theorem heldQ_facts {ls:List L} (hl:ls.length≤30) (hok:∀ x ∈ ls,L.Ok x) (n:Nat):(heldQ ls n).length≤30∧(∀ p ∈ heldQ ls n,p.1<ls.length∧p.2≤2147483647)∧(∀ k,k<(heldQ ls n).length→((heldQ ls n).getD k (0,0)).2≤2147483647):=by
 have h1:∀ p ∈ heldQ ls n,p.1<ls.length∧p.2≤2147483647:=fun p hp=>by
  obtain ⟨i,hi,rfl⟩:=List.mem_map.1 hp
  have hil:=(heldI_mem.1 hi).1
  have:=(hok _ (mem_getD hil)).sum
  exact ⟨hil,by show (ls.getD i L0).held≤_;omega⟩
 refine ⟨?_,h1,fun k hk=>(h1 _ ?_).2⟩
 ·unfold heldQ;rw [withHeld_len];exact Nat.le_trans (heldI_len ls n) hl
 ·simp [List.getD_eq_getElem?_getD,hk]
set_option maxHeartbeats 3200000 in
theorem recall_ok {rcs:List (Nat × Nat)} {w:World} {S:Nat} {M:Mx} {v:Value} {td:Nat} {bs:List Nat} {pvs:List Value} {ls:List L} {os:List O} (h:PV os rcs w S M v td bs pvs ls) (hids:∀ i j,i<ls.length→j<ls.length→(ls.getD i L0).id=(ls.getD j L0).id→i=j) (a m:Nat) (h1:a≤2147483647) (h2:m≤2147483647) (hi:idx a ls<ls.length) (hc:rcs.contains (a,m)=false) (h10:¬ 10≤rcs.length) :
  Calls Tryz.prog 54 #[.pointer (some ⟨S,0,none⟩),.agg #[.int .i64 (a:Int),.int .i64 (m:Int)]] w fun e w'=>Kp (fun k=>k=M.r) w w'∧PV os (rcs++[(a,m)]) w' S M v td bs pvs ls ∧
   ∃ g c,e=.returned (.tuple #[.slice (some ⟨g,0,none⟩) (toldQ ls (heldQ ls a)).length c,.int .i64 0])∧w'.ownsRow 0 2 1 (.slice (some ⟨g,0,none⟩) (toldQ ls (heldQ ls a)).length c) (toldQ ls (heldQ ls a)).length (I (toldQ ls (heldQ ls a))):=by
 have ha:=al1 w (Obj.cells #[.int .i64 (a:Int),.int .i64 (m:Int)] 106)
 have ha2:=ha.alloc (by simp) (Obj.cells #[.int .i64 (a:Int),.int .i64 (m:Int)] 140)
 have hP:=h.below ha
 have hP2:=h.below ha2
 have HF:=hide (find_any hP a h1)
 have HH:=hide (hasRecall_any hP2 a m h1 h2)
 have hfv:findV bs ls a=.pointer (some ⟨bs.getD (idx a ls) 0,0,none⟩):=by unfold findV;rw [if_pos hi]
 rw [hfv] at HF
 rw [hc] at HH
 generalize bs.getD (idx a ls) 0=bb at *
 have HCon:=hide hc
 have HA2:=hide ha2
 have HP2:=hide hP2
 have HRC:=hide h.maps.rc
 have HIDS:=hide hids
 have HQF:=hide (heldQ_facts h.room h.ok a)
 have hpos:0<ls.length:=by omega
 have hbx:=(Below.heap_alloc (w.alloc (Obj.cells #[.int .i64 (a:Int),.int .i64 (m:Int)] 106)) (Obj.cells #[.int .i64 (a:Int),.int .i64 (m:Int)] 140) w.heap.size (by simp)).trans (heap_alloc_new w (Obj.cells #[.int .i64 (a:Int),.int .i64 (m:Int)] 106))
 have hbk:=heap_alloc_new (w.alloc (Obj.cells #[.int .i64 (a:Int),.int .i64 (m:Int)] 106)) (Obj.cells #[.int .i64 (a:Int),.int .i64 (m:Int)] 140)
 have HBX:=hide hbx
 have HBK:=hide hbk
 have hn10:rcs.length<10:=by omega
 have HL10:=hide h10
 obtain ⟨n,HN⟩:∃ n,Hid (n=rcs.length):=⟨_,rfl⟩
 rw [← HN.out] at hn10
 obtain ⟨hq,HHQ⟩:∃ hq,Hid (hq=heldQ ls a):=⟨_,rfl⟩
 rw [← HHQ.out] at HQF ⊢
 clear hc h hP hP2 hi hfv ha ha2 hbx hbk h10 hids
 go_enter Tryz.func54,Tryz.ntmps54
 go_wp2_with (first | (go_at_call 77;refine (HF.out).mono ?_;rintro e w1 ⟨rfl,rfl⟩) | fail)
 refine (HH.out).mono ?_
 rintro e w2 ⟨rfl,hb2⟩
 have hP3:=HP2.out.below hb2
 have c4:=hP3.c4
 obtain ⟨D,hD,hRD⟩:=hP3.maps.r
 have hlen:=World.ownsMap.len hD tU56
 rw [hRD.size,← HN.out] at hlen
 have hbx2:=(hb2.block _ (blk_lt HBX.out)).trans HBX.out
 have hbk2:=(hb2.block _ (blk_lt HBK.out)).trans HBK.out
 simp only [World.size_alloc] at hbk2
 have k0:w2.cell? ⟨w.heap.size+1,0,none⟩=some (.int .i64 (a:Int)):=by rw [blk_cell hbk2];rfl
 have k1:w2.cell? ⟨w.heap.size+1,1,none⟩=some (.int .i64 (m:Int)):=by rw [blk_cell hbk2];rfl
 obtain ⟨w4,hrun,hown4,hgr4⟩:=World.ownsMap.update (w:=w2.drew) hD kRec tU56 (by rw [hRD.size,← HN.out];unfold maxLen;omega) (key_r h1 h2) (unitElem_mk (H:=Unit))
 have hP4:=(hP3.below (Below.refl _ _).drew).rmap hgr4 hown4 (hRD.put (World.ownsMap.tidy hD kRec) h1 h2 HCon.out _) (HRC.out.put h1 h2 HCon.out HL10.out)
 have hbx4:w4.heap[w.heap.size]?=some (Obj.cells #[.int .i64 (a:Int),.int .i64 (m:Int)] 106 (0,0)):=by
  refine (hgr4.block _ (blk_lt hbx2) (fun e=>?_)).trans hbx2
  obtain ⟨_,_,hmr⟩:=hP3.maps.mr
  exact map_ne hbx2 hmr (Option.some.inj e)
 have j0:w4.cell? ⟨w.heap.size,0,none⟩=some (.int .i64 (a:Int)):=by rw [blk_cell hbx4];rfl
 have HHO:=hide (heldOf_any hP4 HIDS.out a h1 hpos)
 rw [← HHQ.out] at HHO
 have HP4:=hide hP4
 have HK4:Hid (Kp (fun k=>k=M.r) w w4):=(kpB ((HA2.out.trans (hb2.mono HA2.out.size)).drew)).trans (grown_kp hgr4 (Or.inl rfl))
 clear hP3 hD hRD hbx2 hbk2 hown4 hgr4 hP4 hbx4 hb2 HH HF
 go_wp2_with fail
 go_region
 go_wp2_with fail
 refine (HHO.out).mono ?_
 rintro e w5 ⟨hb5,la,lc,rfl,hat⟩
 have HT:=hide (told_line (ls:=ls) (cap:=lc) hat HQF.out.1 HQF.out.2.2 (HP4.out.below hb5).lots HP4.out.ok (fun p hp=>(HQF.out.2.1 p hp).1))
 have HP5:=hide (HP4.out.below hb5)
 have HB5:=hide hb5
 clear hat hb5 HHO
 go_wp2_with fail
 refine (HT.out).mono ?_
 rintro e w6 ⟨hb6,g,c,rfl,ho6⟩
 have HO6:=hide ho6
 clear ho6
 go_wp2_with fail
 go_ret2
 exact ⟨(HK4.out.after HB5.out).after hb6,HP5.out.below hb6,g,c,rfl,own_base HO6.out⟩
end Go.Proofs.YtgcedalggnmooabGreatDoor
namespace Go.Proofs.YtgcedalggnmooabGreatDoor
open Go.RowKit
def recallR (rcs:List (Nat × Nat)) (ls:List L) (a m:Nat):List UInt8:=if recallC rcs ls a m=0 then 0 :: Pl.toldB (toldQ ls (heldQ ls a)) else [UInt8.ofNat (recallC rcs ls a m)]
theorem recallC_le (rcs:List (Nat × Nat)) (ls:List L) (a m:Nat):recallC rcs ls a m≤6:=by unfold recallC;split <;> (try split) <;> (try split) <;> omega
theorem releaseC_le (rcs:List (Nat × Nat)) (a m:Nat):releaseC rcs a m≤10:=by unfold releaseC;split <;> omega
theorem recallC_zero {rcs:List (Nat × Nat)} {ls:List L} {a m:Nat} (h:recallC rcs ls a m=0):idx a ls<ls.length∧rcs.contains (a,m)=false∧¬ 10≤rcs.length:=by
 unfold recallC at h
 by_cases hi:idx a ls<ls.length
 ·rw [if_pos hi] at h
  cases hc:rcs.contains (a,m) with
  | true=>rw [hc] at h;simp at h
  | false =>
   rw [hc] at h
   by_cases h10:10≤rcs.length
   ·rw [if_pos h10] at h;simp at h
   ·exact ⟨hi,rfl,h10⟩
 ·rw [if_neg hi] at h;omega
theorem heldT_small {ls:List L} (hok:∀ x ∈ ls,L.Ok x) (hl:ls.length≤30) (a:Nat):(∀ n ∈ toldQ ls (heldQ ls a),n<9223372036854775808)∧(toldQ ls (heldQ ls a)).length≤61:=by
 obtain ⟨h1,h2,h3⟩:=heldQ_facts hl hok a
 refine ⟨fun n hn=>?_,?_⟩
 ·simp only [toldQ,List.mem_cons] at hn
  rcases hn with rfl | hn
  ·omega
  ·exact toldL_small hok _ h2 n hn
 ·simp only [toldQ,List.length_cons,toldL_len];omega
theorem recall_pi {rcs:List (Nat × Nat)} {Z:Nat→Prop} {w:World} {S td:Nat} {ls:List L} {os:List O} (h:PI os rcs Z w S td ls) (hgo:Good os ls) (a m:Nat) (h1:a≤2147483647) (h2:m≤2147483647) :
  Calls Tryz.prog 54 #[.pointer (some ⟨S,0,none⟩),.agg #[.int .i64 (a:Int),.int .i64 (m:Int)]] w fun e w'=>Kp Z w w'∧PI os (recallS rcs ls a m) (Zn Z w) w' S td ls ∧
   ((recallC rcs ls a m≠0∧e=.returned (.tuple #[.slice none 0 0,.int .i64 (recallC rcs ls a m:Int)]))∨(recallC rcs ls a m=0∧∃ g c,e=.returned (.tuple #[.slice (some ⟨g,0,none⟩) (toldQ ls (heldQ ls a)).length c,.int .i64 0])∧Rw w' g (toldQ ls (heldQ ls a)))):=by
 obtain ⟨M,v,bs,pvs,hP,hin⟩:=h
 by_cases hc:recallC rcs ls a m=0
 ·obtain ⟨q1,q2,q3⟩:=recallC_zero hc
  unfold recallS
  rw [if_pos hc]
  refine (recall_ok hP hgo.ids a m h1 h2 q1 q2 q3).mono ?_
  rintro e w' ⟨hk,hpv,g,c,he,ho⟩
  exact ⟨hk.mono (fun k hk=>by rw [hk];exact hin.m),⟨M,v,bs,pvs,hpv,hin.mono (fun k hk=>Or.inl hk)⟩,Or.inr ⟨hc,g,c,he,Rw.of ho (by simp [toldQ])⟩⟩
 ·unfold recallS
  rw [if_neg hc]
  refine (recall_no hP a m h1 h2 hc).mono ?_
  rintro e w' ⟨hb,he⟩
  exact ⟨kpB hb,⟨M,v,bs,pvs,hP.below hb,hin.mono (fun k hk=>Or.inl hk)⟩,Or.inl ⟨hc,he⟩⟩
set_option maxHeartbeats 1600000 in
theorem do_recall {rcs:List (Nat × Nat)} {Z:Nat→Prop} {w:World} {S td:Nat} {ls:List L} {os:List O} (h:PI os rcs Z w S td ls) (hgo:Good os ls) (a m:Nat) (h1:a≤2147483647) (h2:m≤2147483647) :
  Calls Tryz.prog 35 #[.pointer (some ⟨S,0,none⟩),.iface 106 (.agg #[.int .i64 (a:Int),.int .i64 (m:Int)])] w fun e w'=>Kp Z w w'∧PI os (recallS rcs ls a m) (Zn Z w) w' S td ls ∧
   ((recallC rcs ls a m≠0∧e=.returned (.tuple #[.slice none 0 0,.int .i64 (recallC rcs ls a m:Int)]))∨(recallC rcs ls a m=0∧∃ g c,e=.returned (.tuple #[.slice (some ⟨g,0,none⟩) (toldQ ls (heldQ ls a)).length c,.int .i64 0])∧Rw w' g (toldQ ls (heldQ ls a)))):=by
 have hal:=al1 w (Obj.cells #[.int .i64 (a:Int),.int .i64 (m:Int)] 106)
 obtain ⟨M,v,bs,pvs,hP,hin⟩:=h
 have HD:=hide (recall_pi (Z:=Z) ⟨M,v,bs,pvs,hP.below hal,hin⟩ hgo a m h1 h2)
 generalize recallS rcs ls a m=rs' at HD ⊢
 generalize recallC rcs ls a m=rc at HD ⊢
 generalize toldQ ls (heldQ ls a)=tq at HD ⊢
 clear hP hgo hin
 have t100:=as_Recall_Day
 have t103:=as_Recall_Receive
 have t106:=as_Recall_Split
 have t109:=as_Recall_Merge
 have t_Order:=as_Recall_Order
 have t_Cancel:=as_Recall_Cancel
 have t_Ship:=as_Recall_Ship
 have t_Recall:=as_Recall_Recall
 go_enter Tryz.func35,Tryz.ntmps35
 go_wp2_with fail
 refine (HD.out).mono ?_
 rintro e w1 ⟨hk,hpi,⟨hne,rfl⟩ | ⟨h0,g,c,rfl,hrw⟩⟩
 ·have HPI:=hide hpi
  clear hpi
  go_wp2_with fail
  go_ret2
  exact ⟨Kp.before hal (hk.mono (fun k h=>Or.inl h)),HPI.out.mono (zn_alloc w _),Or.inl ⟨hne,rfl⟩⟩
 ·have HPI:=hide hpi
  have HRW:=hide hrw
  clear hpi hrw
  go_wp2_with fail
  go_ret2
  exact ⟨Kp.before hal (hk.mono (fun k h=>Or.inl h)),HPI.out.mono (zn_alloc w _),Or.inr ⟨h0,g,c,rfl,HRW.out⟩⟩
set_option maxHeartbeats 800000 in
theorem do_release {rcs:List (Nat × Nat)} {Z:Nat→Prop} {w:World} {S td:Nat} {ls:List L} {os:List O} (h:PI os rcs Z w S td ls) (a m:Nat) (h1:a≤2147483647) (h2:m≤2147483647) :
  Calls Tryz.prog 35 #[.pointer (some ⟨S,0,none⟩),.iface 108 (.agg #[.int .i64 (a:Int),.int .i64 (m:Int)])] w fun e w'=>Kp Z w w'∧e=.returned (.tuple #[.slice none 0 0,.int .i64 (releaseC rcs a m:Int)])∧PI os (releaseS rcs a m) (Zn Z w) w' S td ls:=by
 have hal:=al1 w (Obj.cells #[.int .i64 (a:Int),.int .i64 (m:Int)] 108)
 obtain ⟨M,v,bs,pvs,hP,hin⟩:=h
 have HD:=hide (release_any (hP.below hal) a m h1 h2)
 have HIN:=hide hin
 generalize releaseS rcs a m=rs' at HD ⊢
 generalize releaseC rcs a m=rc at HD ⊢
 clear hP hin
 have t100:=as_Release_Day
 have t103:=as_Release_Receive
 have t106:=as_Release_Split
 have t109:=as_Release_Merge
 have t_Order:=as_Release_Order
 have t_Cancel:=as_Release_Cancel
 have t_Ship:=as_Release_Ship
 have t_Recall:=as_Release_Recall
 have t_Release:=as_Release_Release
 go_enter Tryz.func35,Tryz.ntmps35
 go_wp2_with fail
 refine (HD.out).mono ?_
 rintro e w1 ⟨hk,rfl,hpv⟩
 have HPV:=hide hpv
 clear hpv
 go_wp2_with fail
 go_ret2
 exact ⟨Kp.before hal (hk.mono (fun k hk=>Or.inl (by rw [hk];exact HIN.out.m))),rfl,M,v,bs,pvs,HPV.out,HIN.out.mono (fun k hk=>Or.inl hk)⟩
end Go.Proofs.YtgcedalggnmooabGreatDoor
namespace Go.Proofs.YtgcedalggnmooabGreatDoor
open Go.RowKit
def stepR (rcs:List (Nat × Nat)) (td:Nat) (os:List O) (ls:List L):Pl.Cmd→List UInt8 × Nat × List O × List (Nat × Nat) × List L
 | .ok (8,[a,m])=>(recallR rcs ls a m,td,os,recallS rcs ls a m,ls)
 | .ok (9,[a,m])=>([UInt8.ofNat (releaseC rcs a m)],td,os,releaseS rcs a m,ls)
 | c=>((stepO rcs td os ls c).1,(stepO rcs td os ls c).2.1,(stepO rcs td os ls c).2.2.1,rcs,(stepO rcs td os ls c).2.2.2)
theorem stepR_old {rcs:List (Nat × Nat)} {c:Pl.Cmd} (h:PlayedO c) (td:Nat) (os:List O) (ls:List L):stepR rcs td os ls c=((stepO rcs td os ls c).1,(stepO rcs td os ls c).2.1,(stepO rcs td os ls c).2.2.1,rcs,(stepO rcs td os ls c).2.2.2):=by
 cases c with
 | error e=>rfl
 | ok p =>
  obtain ⟨n,ns⟩:=p
  rcases h n ns rfl with rfl | rfl | rfl | rfl | rfl | rfl | rfl | rfl | rfl | rfl <;> rfl
theorem playedR_or (l:List UInt8):PlayedO (Pl.cmd l)∨∃ c ns,formOf l=some (c,ns)∧Pl.mays (Pl.kindsL c) ns=true∧Pl.cmd l=.ok (c,ns)∧(c=8∨c=9)∧ns.length=(Pl.kindsL c).length∧∀ n ∈ ns,n<9223372036854775808:=by
 have hcf:=cmd_form l
 cases hform:formOf l with
 | none=>left;intro n ns hc;rw [hform] at hcf;rw [hcf] at hc;cases hc
 | some p =>
  obtain ⟨c,ns⟩:=p
  rw [hform] at hcf
  obtain ⟨hc1,hc2,hlen,hlt⟩:=form_facts hform
  cases hm:Pl.mays (Pl.kindsL c) ns with
  | false =>
   simp only [hm,Bool.false_eq_true,if_false] at hcf
   left;intro n ns hc;rw [hcf] at hc;cases hc
  | true =>
   simp only [hm,if_true] at hcf
   by_cases h3:c=8∨c=9
   ·right;exact ⟨c,ns,rfl,hm,hcf,h3,hlen,hlt⟩
   ·left;intro n ms hc;rw [hcf] at hc;cases hc;omega
theorem len8 {ns:List Nat} (h:ns.length=(Pl.kindsL 8).length):∃ a m,ns=[a,m]:=by
 match ns,h with
 | [a,m],_=>exact ⟨a,m,rfl⟩
theorem len9 {ns:List Nat} (h:ns.length=(Pl.kindsL 9).length):∃ a m,ns=[a,m]:=by
 match ns,h with
 | [a,m],_=>exact ⟨a,m,rfl⟩
theorem good_stepR {rcs:List (Nat × Nat)} {os:List O} {td:Nat} {ls:List L} (h:Good os ls) (hl:ls.length≤30) (l:List UInt8):Good (stepR rcs td os ls (Pl.cmd l)).2.2.1 (stepR rcs td os ls (Pl.cmd l)).2.2.2.2:=by
 rcases playedR_or l with hold | ⟨c,ns,hform,hm,hcf,h3,hlen,hlt⟩
 ·rw [stepR_old hold];exact good_stepO h hl l hold
 ·rw [hcf]
  rcases h3 with rfl | rfl
  ·obtain ⟨a,m,rfl⟩:=len8 hlen;exact h
  ·obtain ⟨a,m,rfl⟩:=len9 hlen;exact h
end Go.Proofs.YtgcedalggnmooabGreatDoor
