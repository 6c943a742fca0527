import Derived.Test.YtgcedalggnmooabGreatDoorMp0X
set_option linter.unusedSimpArgs false
set_option linter.unusedVariables false
set_option maxRecDepth 100000
namespace Go.Proofs.YtgcedalggnmooabGreatDoor
open Go.RowKit
structure Ex where
 n:Nat
 os:Array Obj
def ext (w:World) (x:Ex):World:={ w with heap:=w.heap++x.os,drawn:=w.drawn+x.n }
theorem ext_below (w:World) (x:Ex):Below w.heap.size w (ext w x) :=
 ⟨rfl,rfl,rfl,by simp [ext],fun k hk=>by simp [ext,Array.getElem?_append_left hk]⟩
theorem ext_alloc (w:World) (x:Ex) (o:Obj):(ext w x).alloc o=ext w ⟨x.n,x.os.push o⟩:=by
 show ({ w with heap:=(w.heap++x.os).push o,drawn:=w.drawn+x.n }:World)={ w with heap:=w.heap++x.os.push o,drawn:=w.drawn+x.n }
 rw [Array.append_push]
theorem wp_region_ext {P:Program} {id:Nat} {Q:Exit→Act→World→Prop} {a:Act} {w:World} {l:List Oper} (hm:P.follows .mixedOrders=true) (hB:Region.lexB .any l.toArray=true)
  (h:wpQuiet P l.toArray (fun w'=>∃ x,w'=ext w x) (fun a'=>∀ w',(∃ x,w'=ext w x)→Q .normal a' w') l a):(Code.region id l.toArray true).wp P Q a w :=
 wp_region_quiet (C:=fun w'=>∃ x,w'=ext w x) hm hB ⟨⟨1,#[]⟩,by simp [ext]⟩ (by simpa using h)
set_option maxHeartbeats 800000 in
theorem has_ext {Mf N b n:Nat} {D:DataW Unit} {w:World} (hm:OwnsF w Mf N D) (hn:n≤2147483647) (hb:w.cell? ⟨b,0,none⟩=some (.int .i64 (n:Int))) (hbl:b<w.heap.size) (x:Ex) :
  Calls Tryz.prog 87 #[.map (some Mf),.pointer (some ⟨b,0,none⟩)] (ext w x) fun e w'=>e=.returned (.bool (Maps.has D (okey n)))∧∃ x',w'=ext w x':=by
 have hb':(ext w x).cell? ⟨b,0,none⟩=some (.int .i64 (n:Int)):=((ext_below w x).cell (by exact hbl)).trans hb
 have hlk:=look_fam (w:=ext w x) (owns_congr hm ((ext_below w x).block Mf (World.ownsMap.lt hm))) hn
 generalize Maps.has D (okey n)=bb at *
 go_enter Tryz.func87,Tryz.ntmps87
 go_wp2_with fail
 go_ret
 exact ⟨rfl,_,ext_alloc w x _⟩
end Go.Proofs.YtgcedalggnmooabGreatDoor
namespace Go.Proofs.YtgcedalggnmooabGreatDoor
open Go.RowKit
def srv (rc:Nat→Bool) (td goods gate:Nat) (l:L):Bool:=((l.goods == goods) && !(rc l.id)) && decide (0<l.free) && decide (td+gate+1≤l.expiry)
def srvI (rcs:List (Nat × Nat)) (td goods gate:Nat) (ls:List L) (k:Nat):List Nat:=(List.range k).filter fun i=>srv (recB rcs ls) td goods gate (ls.getD i L0)
theorem srvI_yes {rcs:List (Nat × Nat)} {td goods gate:Nat} {ls:List L} {k:Nat} (h:srv (recB rcs ls) td goods gate (ls.getD k L0)=true):srvI rcs td goods gate ls (k+1)=srvI rcs td goods gate ls k++[k]:=by
 simp only [srvI,List.range_succ,List.filter_append,List.filter_cons,List.filter_nil,h,if_true]
theorem srvI_no {rcs:List (Nat × Nat)} {td goods gate:Nat} {ls:List L} {k:Nat} (h:srv (recB rcs ls) td goods gate (ls.getD k L0)=false):srvI rcs td goods gate ls (k+1)=srvI rcs td goods gate ls k:=by
 simp only [srvI,List.range_succ,List.filter_append,List.filter_cons,List.filter_nil,h,Bool.false_eq_true,if_false,List.append_nil]
theorem srvI_len {rcs:List (Nat × Nat)} (td goods gate:Nat) (ls:List L) (k:Nat):(srvI rcs td goods gate ls k).length≤k:=by
 have:=List.length_filter_le (fun i=>srv (recB rcs ls) td goods gate (ls.getD i L0)) (List.range k)
 simpa [srvI] using this
def sb (bs:List Nat) (is:List Nat):List Nat:=is.map fun i=>bs.getD i 0
theorem ownP {base n:Nat} {l:List Nat} {b:Nat} {w1:World} {v1:Value} (hl:l.length=n)
  (h:w1.ownsRow base 129 1 v1 (n+1) (ptrs l++[.pointer (some ⟨b,0,none⟩)])):w1.ownsRow base 129 1 v1 (l++[b]).length (ptrs (l++[b])):=by
 have e:ptrs (l++[b])=ptrs l++[.pointer (some ⟨b,0,none⟩)]:=by simp [ptrs]
 rw [e,List.length_append,hl];exact h
set_option maxHeartbeats 1600000 in
theorem canServe_any {rcs:List (Nat × Nat)} {w:World} {S:Nat} {M:Mx} {v:Value} {td:Nat} {bs:List Nat} {pvs:List Value} {ls:List L} {os:List O} (h:PV os rcs w S M v td bs pvs ls) (goods gate:Nat) (h1:goods≤2147483647) (h2:gate≤2147483647) :
  Calls Tryz.prog 88 #[.pointer (some ⟨S,0,none⟩),.int .i64 (goods:Int),.int .i64 (gate:Int)] w fun e w'=>Below w.heap.size w w'∧∃ v',e=.returned v'∧w'.ownsRow w.heap.size 129 1 v' (sb bs (srvI rcs td goods gate ls ls.length)).length (ptrs (sb bs (srvI rcs td goods gate ls ls.length))):=by
 obtain ⟨i0,hi,hz0,hz1,hz2⟩:=info_parts info149
 obtain ⟨a,cap,hv,hrow⟩:=h.shape
 have HR:=hide (recalled_any h)
 have c0:=h.c0
 have c1:=h.c1
 rw [hv] at c1
 have hroom:=h.room
 have htd:=h.today
 have hSlt:=blk_lt h.store
 have HP:=hide h
 clear h hv
 go_enter Tryz.func88,Tryz.ntmps88
 go_wp2_with fail
 refine (HR.out).mono ?_
 rintro e w1 ⟨hb1,Mf,N,D,rfl,hmf,hfd,hmlt⟩
 have c0':w1.cell? ⟨S,0,none⟩=some (.int .i64 (td:Int)):=(hb1.cell (by exact hSlt)).trans c0
 have c1':w1.cell? ⟨S,1,none⟩=some (.slice a ls.length cap):=(hb1.cell (by exact hSlt)).trans c1
 clear c0 c1
 go_wp2_with fail
 have hPw:=hide (HP.out.below hb1)
 have hml:=World.ownsMap.lt hmf
 have HFD:=hide hfd
 clear hfd
 have hrow1:0<ls.length→∃ G,a=some ⟨G,0,none⟩∧G<w1.heap.size∧∀ i,i<ls.length→w1.cell? ⟨G,i,none⟩=some (.pointer (some ⟨bs.getD i 0,0,none⟩)):=fun hp=>by
  obtain ⟨G,hG,hc⟩:=hrow hp
  have hGlt:G<w.heap.size:=by
   have:=hc 0 hp
   unfold World.cell? at this
   cases hh:w.heap[G]? with
   | none=>rw [hh] at this;cases this
   | some o=>exact blk_lt hh
  exact ⟨G,hG,Nat.lt_of_lt_of_le hGlt hb1.size,fun i hi=>(hb1.cell (by exact hGlt)).trans (hc i hi)⟩
 have hSlt1:S<w1.heap.size:=Nat.lt_of_lt_of_le hSlt hb1.size
 clear hrow
 go_loopw [8,10,18] (fun t _ i wr=>∃ k:Nat,k≤ls.length∧i=.int .i64 k∧wr.ownsRow w1.heap.size 129 1 t (sb bs (srvI rcs td goods gate ls k)).length (ptrs (sb bs (srvI rcs td goods gate ls k)))∧Below w1.heap.size w1 wr) (fun _ _ i _=>ls.length - (intOf i).toNat)
 case atStart=>exact ⟨0,by omega,rfl,World.ownsRow_nil _ _ _ _,Below.refl _ _⟩
 case round =>
  obtain ⟨k,hk,rfl,hown,hb⟩:=hrel
  by_cases hlt:k<ls.length
  ·obtain ⟨G,hG,hGlt,hcells⟩:=hrow1 (by omega)
   rw [hG]
   have hPr:=hPw.out.below hb
   have hck:wr.cell? ⟨G,k,none⟩=some (.pointer (some ⟨bs.getD k 0,0,none⟩)):=(hb.cell (by exact hGlt)).trans (hcells k hlt)
   have hok:=hPr.ok _ (mem_getD hlt)
   obtain ⟨l,HL⟩:∃ l,Hid (l=ls.getD k L0):=⟨_,rfl⟩
   have hl0:wr.cell? ⟨bs.getD k 0,0,none⟩=some (.int .i64 (l.id:Int)):=by rw [HL.out,hPr.cl k hlt 0];rfl
   have hl1:wr.cell? ⟨bs.getD k 0,1,none⟩=some (.int .i64 (l.goods:Int)):=by rw [HL.out,hPr.cl k hlt 1];rfl
   have hl2:wr.cell? ⟨bs.getD k 0,2,none⟩=some (.int .i64 (l.expiry:Int)):=by rw [HL.out,hPr.cl k hlt 2];rfl
   have hl6:wr.cell? ⟨bs.getD k 0,6,none⟩=some (.int .i64 (l.free:Int)):=by rw [HL.out,hPr.cl k hlt 6];rfl
   have hS0:wr.cell? ⟨S,0,none⟩=some (.int .i64 (td:Int)):=(hb.cell (by exact hSlt1)).trans c0'
   have hmw:OwnsF wr Mf N D:=owns_congr hmf (hb.block Mf hml)
   have hlid0:=hok.id
   rw [← HL.out] at hok
   have hle1:=hok.goods
   have hle2:=hok.expiry
   have hle3:=hok.sum
   obtain ⟨b,HB⟩:∃ b,Hid (b=bs.getD k 0):=⟨_,rfl⟩
   rw [← HB.out] at hck hl0 hl1 hl2 hl6
   have hblt:b<wr.heap.size:=by rw [HB.out];exact blk_lt (hPr.lot k hlt)
   obtain ⟨lid,lgoods,lexpiry,lfree,hlid,hlgoods,hlexp,hlfree⟩:∃ a b c d,Hid (a=l.id)∧Hid (b=l.goods)∧Hid (c=l.expiry)∧Hid (d=l.free):=⟨_,_,_,_,rfl,rfl,rfl,rfl⟩
   rw [← hlid.out] at hl0
   have hlid1:lid≤2147483647:=by rw [hlid.out,HL.out];exact hlid0
   rw [← hlgoods.out] at hl1 hle1
   rw [← hlexp.out] at hl2 hle2
   rw [← hlfree.out] at hl6 hle3
   have HM:=hide hmw
   have HO:=hide hown
   clear hcells hG hrow1 hPr hok hmw hown
   by_cases hA:lgoods=goods
   ·have hAb:=beqN_t hA
    have HA:=hide hA
    clear hA
    by_cases hB:0<lfree
    ·by_cases hC:td+gate+1≤lexpiry
     ·have hCb:decide ((td:Int)+(gate:Int)+1≤(lexpiry:Int))=true:=by simp;omega
      have hhx:Maps.has D (okey lid)=recB rcs ls lid:=HFD.out lid hlid1
      have HX:=hide (fun x=>has_ext HM.out hlid1 hl0 hblt x)
      rw [hhx] at HX
      have HRB:Hid (recB rcs ls lid=recB rcs ls l.id):=by unfold Hid;rw [hlid.out]
      cases hrb:recB rcs ls lid with
      | true =>
       rw [hrb] at HX
       have HN:Hid (srv (recB rcs ls) td goods gate (ls.getD k L0)=false):=by
        unfold Hid srv;rw [← HL.out,← HRB.out,hrb];simp
       clear hhx hrb HRB
       go_wp2_with fail
       have x1:∀ x,(ext wr x).cell? ⟨b,1,none⟩=some (.int .i64 (lgoods:Int)):=fun x=>((ext_below wr x).cell (by exact hblt)).trans hl1
       have x2:∀ x,(ext wr x).cell? ⟨b,2,none⟩=some (.int .i64 (lexpiry:Int)):=fun x=>((ext_below wr x).cell (by exact hblt)).trans hl2
       have x6:∀ x,(ext wr x).cell? ⟨b,6,none⟩=some (.int .i64 (lfree:Int)):=fun x=>((ext_below wr x).cell (by exact hblt)).trans hl6
       have xS:∀ x,(ext wr x).cell? ⟨S,0,none⟩=some (.int .i64 (td:Int)):=fun x=>((ext_below wr x).cell (by exact (Nat.lt_of_lt_of_le hSlt1 hb.size))).trans hS0
       haveI hinh:Inhabited Ex:=⟨⟨0,#[]⟩⟩
       refine wp_region_ext (by kernel_rfl) (by kernel_rfl) ?_
       repeat (go_big_quiet_step ((go_at_call 87;exact HX.out _)))
       refine wpQuiet_nil ?_
       intro _ hw'
       obtain ⟨x,hw''⟩:=hw'
       subst hw''
       have hbx:=hb.trans ((ext_below wr x).mono hb.size)
       have hox:=own_below HO.out (ext_below wr x)
       generalize ext wr x=wx at *
       clear x1 x2 x6 xS hCb hAb hl0 hl1 hl2 hl6 hS0 hck
       go_wp2_with fail
       go_roundw
       case rel=>exact ⟨k+1,by omega,by go_num,(by rw [srvI_no HN.out];exact hox),hbx⟩
       case measure=>simp [intOf];omega
      | false =>
       rw [hrb] at HX
       have HNR:Hid (recB rcs ls l.id=false):=by unfold Hid;rw [← HRB.out,hrb]
       clear hhx hrb HRB
       go_wp2_with fail
       have x1:∀ x,(ext wr x).cell? ⟨b,1,none⟩=some (.int .i64 (lgoods:Int)):=fun x=>((ext_below wr x).cell (by exact hblt)).trans hl1
       have x2:∀ x,(ext wr x).cell? ⟨b,2,none⟩=some (.int .i64 (lexpiry:Int)):=fun x=>((ext_below wr x).cell (by exact hblt)).trans hl2
       have x6:∀ x,(ext wr x).cell? ⟨b,6,none⟩=some (.int .i64 (lfree:Int)):=fun x=>((ext_below wr x).cell (by exact hblt)).trans hl6
       have xS:∀ x,(ext wr x).cell? ⟨S,0,none⟩=some (.int .i64 (td:Int)):=fun x=>((ext_below wr x).cell (by exact (Nat.lt_of_lt_of_le hSlt1 hb.size))).trans hS0
       haveI hinh:Inhabited Ex:=⟨⟨0,#[]⟩⟩
       refine wp_region_ext (by kernel_rfl) (by kernel_rfl) ?_
       repeat (go_big_quiet_step ((go_at_call 87;exact HX.out _)))
       refine wpQuiet_nil ?_
       intro _ hw'
       obtain ⟨x,hw''⟩:=hw'
       subst hw''
       have HY:Hid (srv (recB rcs ls) td goods gate (ls.getD k L0)=true):=by
        unfold Hid srv;rw [← HL.out,← hlexp.out,← hlgoods.out,← hlfree.out];rw [HNR.out];simp [HA.out,hB,hC]
       have hbx:=hb.trans ((ext_below wr x).mono hb.size)
       have hox:=own_below HO.out (ext_below wr x)
       have hszx:w1.heap.size≤(ext wr x).heap.size:=hbx.size
       have hlen30:=srvI_len (rcs:=rcs) td goods gate ls k
       have hsbl:(sb bs (srvI rcs td goods gate ls k)).length≤30:=by simp only [sb,List.length_map];omega
       generalize ext wr x=wx at *
       clear x1 x2 x6 xS hCb hAb hl0 hl1 hl2 hl6 hS0 hck
       go_wp2_with (at_builtin;refine wpList_append_own _ rfl _ _ 78 rfl (w1.heap.size) 129 i0 (.pointer none) 1 8 tU57 hi hz0 hz1 hz2 rfl (by decide) _ _ _ rfl (hox.alloc _) ⟨wx.heap.size,0,none⟩ 1 1 [.pointer (some ⟨b,0,none⟩)] rfl rfl ?c1 ?c2 ?c3 ?c4 ?c5 ?_)
       case c1=>exact one_new _ _ _
       case c2=>intro u hu;simp at hu;subst hu;rfl
       case c3=>unfold maxLen;omega
       case c4=>omega
       case c5=>simp;omega
       intro v' w2 hown2 hgrow hnn
       have hbb:Below w1.heap.size w1 w2:=(hbx.alloc hszx _).grown hgrow (by simp;omega) (fun k hk=>(hox.lt k hk).1)
       have ho2:=ownP rfl hown2
       have HO2:Hid (w2.ownsRow w1.heap.size 129 1 v' (sb bs (srvI rcs td goods gate ls (k+1))).length (ptrs (sb bs (srvI rcs td goods gate ls (k+1))))):=by
        have e:sb bs (srvI rcs td goods gate ls (k+1))=sb bs (srvI rcs td goods gate ls k)++[b]:=by
         rw [srvI_yes HY.out,HB.out];simp [sb]
        unfold Hid;rw [e];exact ho2
       clear hown2 hgrow hnn ho2 hox hbx
       go_wp2_with fail
       go_roundw
       case rel=>exact ⟨k+1,by omega,by go_num,HO2.out,hbb⟩
       case measure=>simp [intOf];omega
     ·have HN:Hid (srv (recB rcs ls) td goods gate (ls.getD k L0)=false):=by
       unfold Hid srv;rw [← HL.out,← hlexp.out];simp;intro _ _ _;omega
      have hCb:decide ((td:Int)+(gate:Int)+1≤(lexpiry:Int))=false:=by simp;omega
      go_wp2_with fail
      go_quiet (fail)
      go_wp2_with fail
      go_roundw
      case rel=>exact ⟨k+1,by omega,by go_num,(by rw [srvI_no HN.out];exact HO.out),below_drewN hb nq⟩
      case measure=>simp [intOf];omega
    ·have HN:Hid (srv (recB rcs ls) td goods gate (ls.getD k L0)=false):=by
      unfold Hid srv;rw [← HL.out,← hlfree.out];simp [hB]
     have hBb:decide ((0:Int)<(lfree:Int))=false:=by simp;omega
     go_wp2_with fail
     go_quiet (fail)
     go_wp2_with fail
     go_roundw
     case rel=>exact ⟨k+1,by omega,by go_num,(by rw [srvI_no HN.out];exact HO.out),below_drewN hb nq⟩
     case measure=>simp [intOf];omega
   ·have HN:Hid (srv (recB rcs ls) td goods gate (ls.getD k L0)=false):=by
     unfold Hid srv;rw [← HL.out,← hlgoods.out];simp [hA]
    have hAb:=beqN_f hA
    clear hA
    go_wp2_with fail
    go_quiet (fail)
    go_wp2_with fail
    go_roundw
    case rel=>exact ⟨k+1,by omega,by go_num,(by rw [srvI_no HN.out];exact HO.out),below_drewN hb nq⟩
    case measure=>simp [intOf];omega
  ·obtain rfl:k=ls.length:=by omega
   clear hrow1 hlt
   go_wp2_with fail
   go_ret
   refine ⟨hb1.trans (hb.mono hb1.size),_,rfl,?_⟩
   refine ⟨hown.1,?_⟩
   rcases hown.2 with h | ⟨g,cap,cur,q1,q2,q3⟩
   ·exact Or.inl h
   ·exact Or.inr ⟨g,cap,cur,q1,Nat.le_trans hb1.size q2,q3⟩
end Go.Proofs.YtgcedalggnmooabGreatDoor
namespace Go.Proofs.YtgcedalggnmooabGreatDoor
open Go.RowKit
def freeOf (ls:List L) (is:List Nat):Nat:=(is.map fun i=>(ls.getD i L0).free).sum
theorem freeOf_snoc (ls:List L) (is:List Nat) (i:Nat):freeOf ls (is++[i])=freeOf ls is+(ls.getD i L0).free:=by simp [freeOf]
theorem freeOf_take (ls:List L) (is:List Nat) (k:Nat) (h:k<is.length):freeOf ls (is.take (k+1))=freeOf ls (is.take k)+(ls.getD (is.getD k 0) L0).free:=by
 rw [List.take_succ_eq_append_getElem h,freeOf_snoc];simp [List.getD_eq_getElem?_getD,h]
theorem freeOf_le (ls:List L) (hok:∀ l ∈ ls,L.Ok l):∀ (is:List Nat),(∀ i ∈ is,i<ls.length)→freeOf ls is≤2147483647 * is.length
 | [],_=>by simp [freeOf]
 | i :: r,h=>by
  have h1:=freeOf_le ls hok r (fun j hj=>h j (by simp [hj]))
  have h2:=(hok _ (mem_getD (h i (by simp)))).sum
  have e:freeOf ls (i :: r)=(ls.getD i L0).free+freeOf ls r:=by simp [freeOf]
  rw [e,List.length_cons];omega
theorem srvI_lt {rcs:List (Nat × Nat)} {td goods gate:Nat} {ls:List L} {k i:Nat} (h:i ∈ srvI rcs td goods gate ls k):i<k:=by
 simp only [srvI,List.mem_filter,List.mem_range] at h;exact h.1
def supL (rcs:List (Nat × Nat)) (td goods gate:Nat) (ls:List L):List Nat:=[(srvI rcs td goods gate ls ls.length).length,freeOf ls (srvI rcs td goods gate ls ls.length)]
set_option maxHeartbeats 1600000 in
theorem supply_any {rcs:List (Nat × Nat)} {w:World} {S:Nat} {M:Mx} {v:Value} {td:Nat} {bs:List Nat} {pvs:List Value} {ls:List L} {os:List O} (h:PV os rcs w S M v td bs pvs ls) (goods gate:Nat) (h1:goods≤2147483647) (h2:gate≤2147483647) :
  Calls Tryz.prog 58 #[.pointer (some ⟨S,0,none⟩),.agg #[.int .i64 (goods:Int),.int .i64 (gate:Int)]] w fun e w'=>Below w.heap.size w w'∧∃ g,e=.returned (.slice (some ⟨g,0,none⟩) 2 2)∧w'.heap[g]?=some (.cells (I (supL rcs td goods gate ls)).toArray 2 (0,0)):=by
 have ha:=al1 w (Obj.cells #[.int .i64 (goods:Int),.int .i64 (gate:Int)] 117)
 have hP:=h.below ha
 have HC:=hide (canServe_any hP goods gate h1 h2)
 have HP:=hide hP
 have hroom:=h.room
 clear hP h
 go_enter Tryz.func58,Tryz.ntmps58
 go_wp2_with fail
 refine (HC.out).mono ?_
 rintro e w1 ⟨hb1,v',rfl,hown⟩
 obtain ⟨a,cap,hv⟩:=own_shape hown
 have hG:0<(sb bs (srvI rcs td goods gate ls ls.length)).length→∃ G,a=some ⟨G,0,none⟩:=fun hp=>by
  obtain ⟨g,c,hv',_,_⟩:=own_some hown hp
  rw [hv] at hv';cases hv';exact ⟨g,rfl⟩
 rw [hv] at hown
 rw [hv]
 obtain ⟨is,HI⟩:∃ is,Hid (is=srvI rcs td goods gate ls ls.length):=⟨_,rfl⟩
 rw [← HI.out] at hown hG
 rw [← HI.out]
 have hlen:(sb bs is).length=is.length:=by simp [sb]
 have hil:is.length≤30:=by rw [HI.out];have:=srvI_len (rcs:=rcs) td goods gate ls ls.length;omega
 have HLt:Hid (∀ i ∈ is,i<ls.length):=fun i hi=>by rw [HI.out] at hi;exact srvI_lt hi
 rw [hlen] at hown hG
 rw [hlen]
 have hP1:=hide (HP.out.below hb1)
 have HO:=hide hown
 clear hown hv hlen HC HP
 go_wp2_with fail
 go_loop [5,6,8,16] (fun n f _ i=>∃ k:Nat,k≤is.length∧i=.int .i64 k∧n=.int .i64 k∧f=.int .i64 (freeOf ls (is.take k):Nat)) (fun _ _ _ i=>is.length - (intOf i).toNat)
 case atStart=>exact ⟨0,by omega,rfl,rfl,rfl⟩
 case round =>
  obtain ⟨k,hk,rfl,rfl,rfl⟩:=hrel
  have hfl:freeOf ls (is.take k)≤2147483647 * 30:=by
   have h3:=freeOf_le ls hP1.out.ok (is.take k) (fun i hi=>HLt.out i (List.mem_of_mem_take hi))
   have h4:(is.take k).length≤k:=List.length_take_le _ _
   omega
  by_cases hlt:k<is.length
  ·obtain ⟨G,hGe⟩:=hG (by omega)
   rw [hGe]
   have hik:=HLt.out (is.getD k 0) (by simp [List.getD_eq_getElem?_getD,hlt])
   have hck:w1.cell? ⟨G,k,none⟩=some (.pointer (some ⟨bs.getD (is.getD k 0) 0,0,none⟩)):=by
    have ho:=HO.out
    rw [hGe] at ho
    rw [ho.cellAt k (by omega)]
    simp [ptrs,sb,hlt]
   have hcl:w1.cell? ⟨bs.getD (is.getD k 0) 0,6,none⟩=some (.int .i64 ((ls.getD (is.getD k 0) L0).free:Int)):=by rw [hP1.out.cl _ hik 6];rfl
   have hsum:=(hP1.out.ok _ (mem_getD hik)).sum
   have HT:=hide (freeOf_take ls is k hlt)
   generalize bs.getD (is.getD k 0) 0=b at *
   obtain ⟨fr,HF⟩:∃ fr,Hid (fr=(ls.getD (is.getD k 0) L0).free):=⟨_,rfl⟩
   rw [← HF.out] at hcl hsum HT
   clear hGe hG hik
   go_wp2_with fail
   go_round
   case rel=>exact ⟨k+1,by omega,by go_num,by go_num,by rw [HT.out];go_num⟩
   case measure=>simp [intOf];omega
  ·obtain rfl:k=is.length:=by omega
   clear hG hlt
   go_wp2_with fail
   go_ret
   refine ⟨(ha.trans (hb1.mono ha.size)).alloc (by have:=ha.size;have:=hb1.size;omega) _,w1.heap.size,rfl,?_⟩
   rw [heap_alloc_new,HI.out]
   rfl
end Go.Proofs.YtgcedalggnmooabGreatDoor
