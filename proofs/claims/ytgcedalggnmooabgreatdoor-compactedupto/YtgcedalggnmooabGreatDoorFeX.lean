import Derived.Test.YtgcedalggnmooabGreatDoorFaX
import Derived.Test.YtgcedalggnmooabGreatDoorMp0X
import Derived.Test.YtgcedalggnmooabGreatDoorLastX
import Derived.Handy
import Derived.StillTailTactics
import Derived.Deep.RegionHeld3
import Derived.Deep.OwnRows
set_option linter.unusedSimpArgs false
set_option linter.unusedVariables false
set_option maxRecDepth 100000
namespace Go.Proofs.YtgcedalggnmooabGreatDoor
open Go.RowKit
structure PW (N:Nat) (w:World) (S:Nat) (v:Value) (bs:List Nat) (pvs:List Value) (ls:List L):Prop where
 c1:w.cell? ⟨S,1,none⟩=some v
 row:w.ownsRow 0 129 1 v bs.length (ptrs bs)
 len:bs.length=ls.length
 plen:pvs.length=ls.length
 lot:∀ i,i<ls.length→w.heap[bs.getD i 0]?=some (.cells (lotCells (ls.getD i L0) (pvs.getD i default)) 153 (0,0))
 par:∀ i,i<ls.length→Par w (pvs.getD i default) (ls.getD i L0).par
 nodup:bs.Nodup
 ids:∀ l ∈ ls,l.id≤2147483647∧l.goods≤2147483647∧l.place≤30∧l.expiry≤2147483647
 pars:∀ l ∈ ls,l.par.length≤2∧∀ p ∈ l.par,p.1≤2147483647∧p.2≤2147483647
 giv:∀ l ∈ ls,l.given≤N
 room:ls.length≤30
theorem PW.shape {N:Nat} {w:World} {S:Nat} {v:Value} {bs:List Nat} {pvs:List Value} {ls:List L} (h:PW N w S v bs pvs ls):∃ a cap,v=.slice a ls.length cap∧(0<ls.length→∃ G,a=some ⟨G,0,none⟩∧∀ i,i<ls.length→w.cell? ⟨G,i,none⟩=some (.pointer (some ⟨bs.getD i 0,0,none⟩))):=by
 obtain ⟨a,cap,hv⟩:=own_shape h.row
 refine ⟨a,cap,by rw [← h.len];exact hv,fun hp=>?_⟩
 obtain ⟨g,cap',hv',_,_⟩:=own_some h.row (by rw [h.len];exact hp)
 rw [hv] at hv'
 cases hv'
 refine ⟨g,rfl,fun i hi=>?_⟩
 have hr:=h.row
 rw [hv] at hr
 rw [hr.cellAt i (by rw [h.len];omega)]
 have hib:i<bs.length:=by rw [h.len];exact hi
 simp [ptrs,List.getD_eq_getElem?_getD,hib]
theorem PW.cl {N:Nat} {w:World} {S:Nat} {v:Value} {bs:List Nat} {pvs:List Value} {ls:List L} (h:PW N w S v bs pvs ls) (i:Nat) (hi:i<ls.length) (j:Nat):w.cell? ⟨bs.getD i 0,j,none⟩=(lotCells (ls.getD i L0) (pvs.getD i default))[j]?:=blk_cell (h.lot i hi) j
set_option maxHeartbeats 800000 in
theorem findW_any {N:Nat} {w:World} {S:Nat} {v:Value} {bs:List Nat} {pvs:List Value} {ls:List L} (h:PW N w S v bs pvs ls) (n:Nat) (hn:n≤2147483647) :
  Calls Tryz.prog 77 #[.pointer (some ⟨S,0,none⟩),.int .i64 (n:Int)] w fun e w'=>e=.returned (findV bs ls n)∧w'=w:=by
 obtain ⟨a,cap,hv,hrow⟩:=h.shape
 have c1:=h.c1
 rw [hv] at c1
 have hroom:=h.room
 have HP:=hide h
 clear h hv
 go_enter Tryz.func77,Tryz.ntmps77
 go_wp2_with fail
 go_loop [6,12] (fun _ i=>∃ k:Nat,k≤ls.length∧i=.int .i64 k∧(∀ j,j<k→(ls.getD j L0).id≠n)) (fun _ i=>ls.length - (intOf i).toNat)
 case atStart=>exact ⟨0,by omega,rfl,fun j h=>absurd h (by omega)⟩
 case round =>
  obtain ⟨k,hk,rfl,hne⟩:=hrel
  by_cases hlt:k<ls.length
  ·obtain ⟨G,hG,hcells⟩:=hrow (by omega)
   rw [hG]
   have hck:=hcells k hlt
   have hcl:w.cell? ⟨bs.getD k 0,0,none⟩=some (.int .i64 ((ls.getD k L0).id:Int)):=by rw [HP.out.cl k hlt 0];rfl
   have hid:(ls.getD k L0).id≤2147483647:=(HP.out.ids _ (mem_getD hlt)).1
   obtain ⟨m,HM⟩:∃ m,Hid (m=(ls.getD k L0).id):=⟨_,rfl⟩
   obtain ⟨b,HB⟩:∃ b,Hid (b=bs.getD k 0):=⟨_,rfl⟩
   rw [← HM.out] at hcl hid
   rw [← HB.out] at hcl hck
   clear hcells hG hrow
   by_cases hm:m=n
   ·have hmb:((m:Int) == (n:Int))=true:=beqN_t hm
    have HH:Hid (findV bs ls n=.pointer (some ⟨b,0,none⟩)):=by
     have:=idx_hit hlt hne (by rw [← HM.out];exact hm)
     unfold Hid findV;rw [this,if_pos hlt,← HB.out]
    clear hm
    go_wp2_with fail
    go_ret
    exact ⟨by rw [HH.out];rfl,rfl⟩
   ·have hmb:((m:Int) == (n:Int))=false:=beqN_f hm
    have HN:=hide hm
    clear hm
    go_wp2_with fail
    go_round
    case rel =>
     refine ⟨k+1,by omega,by go_num,?_⟩
     intro j hj
     by_cases hjk:j=k
     ·subst hjk;rw [← HM.out];exact HN.out
     ·exact hne j (by omega)
    case measure=>simp [intOf];omega
  ·obtain rfl:k=ls.length:=by omega
   have HH:Hid (findV bs ls n=.pointer none):=by
    have:=idx_miss hne
    unfold Hid findV;rw [this,if_neg (by omega)]
   clear hrow hlt
   go_wp2_with fail
   go_ret
   exact ⟨by rw [HH.out];rfl,rfl⟩
def gvL (l:L) (n:Nat):L:={ l with given:=l.given+n }
def tfk (l:L):List (Nat × Nat)→Nat→List L→Option (List L × Nat)
 | [],e,ls=>some (ls,e)
 | p :: ps,e,ls=>if idx p.1 ls<ls.length∧(ls.getD (idx p.1 ls) L0).goods=l.goods∧(ls.getD (idx p.1 ls) L0).place<l.place then tfk l ps (min e (ls.getD (idx p.1 ls) L0).expiry) (ls.set (idx p.1 ls) (gvL (ls.getD (idx p.1 ls) L0) p.2)) else none
def tfp (ls:List L) (i:Nat):Option (List L) :=
 if (ls.getD i L0).par.length=0 then some ls else (tfk (ls.getD i L0) (ls.getD i L0).par 2147483647 ls).bind fun r=>if (ls.getD i L0).expiry=r.2 then some r.1 else none
theorem PW.below {N:Nat} {w w':World} {S:Nat} {v:Value} {bs:List Nat} {pvs:List Value} {ls:List L} (h:PW N w S v bs pvs ls) (hb:Below w.heap.size w w'):PW N w' S v bs pvs ls := {
 c1:=(hb.cell (p:=⟨S,1,none⟩) (cell_lt h.c1)).trans h.c1
 row:=own_below h.row hb
 len:=h.len
 plen:=h.plen
 lot:=fun i hi=>(hb.block _ (blk_lt (h.lot i hi))).trans (h.lot i hi)
 par:=fun i hi=>(h.par i hi).congr (fun q hq=>by obtain ⟨cs,h3⟩:=(h.par i hi).blk hq;exact hb.block q (blk_lt h3))
 nodup:=h.nodup
 ids:=h.ids
 pars:=h.pars
 giv:=h.giv
 room:=h.room }
theorem PW.give {N:Nat} {w:World} {S:Nat} {v:Value} {bs:List Nat} {pvs:List Value} {ls:List L} (h:PW N w S v bs pvs ls) {j n:Nat} (hj:j<ls.length) (hn:n≤2147483647):PW (N+2147483647) (w.setCell ⟨bs.getD j 0,10,none⟩ (.int .i64 (((ls.getD j L0).given+n:Nat):Int))) S v bs pvs (ls.set j (gvL (ls.getD j L0) n)):=by
 have hlot:=h.lot j hj
 obtain ⟨a,cap,hv,_⟩:=h.shape
 have hS:S≠bs.getD j 0:=fun e=>by
  have h1:=h.c1
  rw [e,blk_cell hlot,hv] at h1
  simp [lotCells] at h1
 have hoth:∀ k,k≠bs.getD j 0→(w.setCell ⟨bs.getD j 0,10,none⟩ (.int .i64 (((ls.getD j L0).given+n:Nat):Int))).heap[k]?=w.heap[k]?:=fun k hk=>Below.heap_setCell _ _ _ _ hk
 have hself:=heap_setCell_same w (bs.getD j 0) 10 _ 153 (.int .i64 (((ls.getD j L0).given+n:Nat):Int)) hlot
 have hget:∀ i,i<ls.length→(ls.set j (gvL (ls.getD j L0) n)).getD i L0=if i=j then gvL (ls.getD j L0) n else ls.getD i L0:=fun i hi=>by
  by_cases e:i=j
  ·subst e;rw [if_pos rfl];simp [List.getD_eq_getElem?_getD,hi]
  ·rw [if_neg e];simp [List.getD_eq_getElem?_getD,List.getElem?_set,Ne.symm e]
 have hall:∀ {P:L→Prop},(∀ l ∈ ls,P l)→P (gvL (ls.getD j L0) n)→∀ l ∈ ls.set j (gvL (ls.getD j L0) n),P l:=fun h1 h2 l hl=>by
  rcases List.mem_or_eq_of_mem_set hl with hl | rfl
  ·exact h1 l hl
  ·exact h2
 have hx1:=h.ids (ls.getD j L0) (mem_getD hj)
 have hx2:=h.pars (ls.getD j L0) (mem_getD hj)
 refine ⟨(World.cell?_of_block (a:=⟨S,1,none⟩) (hoth S hS)).trans h.c1,own_congr h.row (fun g hg=>hoth g (fun e=>?_)),by rw [List.length_set];exact h.len,by rw [List.length_set];exact h.plen,fun i hi=>?_,fun i hi=>?_,h.nodup,hall h.ids hx1,hall h.pars hx2,?_,by rw [List.length_set];exact h.room⟩
 ·obtain ⟨cs,hcs⟩:=own_ty h.row hg
  exact ty_ne hcs hlot (by decide) e
 ·rw [List.length_set] at hi
  rw [hget i hi]
  by_cases e:i=j
  ·subst e;rw [if_pos rfl];exact hself
  ·rw [if_neg e,hoth _ (fun q=>e ?_)]
   ·exact h.lot i hi
   ·have hib:i<bs.length:=by rw [h.len];exact hi
    have hjb:j<bs.length:=by rw [h.len];exact hj
    have:=List.getElem_inj (i:=i) (j:=j) (h₀:=hib) (h₁:=hjb) h.nodup
    exact this.1 (by simpa [List.getD_eq_getElem?_getD,hib,hjb] using q)
 ·rw [List.length_set] at hi
  have hp:Par w (pvs.getD i default) ((ls.set j (gvL (ls.getD j L0) n)).getD i L0).par:=by
   rw [hget i hi]
   by_cases e:i=j
   ·subst e;rw [if_pos rfl];exact h.par i hi
   ·rw [if_neg e];exact h.par i hi
  exact hp.congr (fun q hq=>hoth q (fun e=>by
   obtain ⟨cs,hcs⟩:=hp.blk hq
   exact ty_ne hcs hlot (by decide) e))
 ·have:=h.giv _ (mem_getD hj)
  refine hall (fun l hl=>?_) ?_
  ·have:=h.giv l hl;omega
  ·show (ls.getD j L0).given+n≤_;omega
def TfP (N:Nat) (w:World) (S:Nat) (v:Value) (bs:List Nat) (pvs:List Value) (X:Option (List L)) (e:Ending) (w':World):Prop:=match X with
 | some ls=>e=.returned (.tuple #[])∧PW N w' S v bs pvs ls∧Kp (fun k=>k ∈ bs) w w'
 | none=>(∃ t v,e=.panicked [{ v:=.iface t v,recovered:=false }])∧Kp (fun k=>k ∈ bs) w w'
set_option maxHeartbeats 6400000 in
theorem takeP_any {N:Nat} {w:World} {S:Nat} {v:Value} {bs:List Nat} {pvs:List Value} {ls:List L} (h:PW N w S v bs pvs ls) (hN:N≤1000000000000) (i:Nat) (hi:i<ls.length) (hu:Gu w) (hub:∀ k ∈ bs,k≠4) :
  Calls Tryz.prog 113 #[.pointer (some ⟨S,0,none⟩),.pointer (some ⟨bs.getD i 0,0,none⟩)] w (TfP (N+4294967294) w S v bs pvs (tfp ls i)):=by
 obtain ⟨X,HX⟩:∃ X,Hid (X=tfp ls i):=⟨_,rfl⟩
 rw [← HX.out]
 have hlot:=h.lot i hi
 have hpar:=h.par i hi
 have hids:=h.ids _ (mem_getD hi)
 have hpb:=h.pars _ (mem_getD hi)
 obtain ⟨pa,pcap,hpv⟩:=Prs.isSl hpar
 obtain ⟨l,HL⟩:∃ l,Hid (l=ls.getD i L0):=⟨_,rfl⟩
 obtain ⟨bl,HBL⟩:∃ bl,Hid (bl=bs.getD i 0):=⟨_,rfl⟩
 rw [← HL.out] at hlot hpar hids hpb hpv
 rw [← HBL.out] at hlot ⊢
 rw [hpv] at hlot hpar
 have x4:w.cell? ⟨bl,4,none⟩=some (.slice pa l.par.length pcap):=by rw [blk_cell hlot];rfl
 obtain ⟨np,hnp⟩:∃ np,np=l.par.length:=⟨_,rfl⟩
 have HNP:=hide hnp
 rw [← hnp] at x4 hpb
 have HPW:=hide h
 have HPV:Hid (pvs.getD i default=.slice pa l.par.length pcap):=hpv
 by_cases hp0:np=0
 ·have HXS:Hid (X=some ls):=by unfold Hid;rw [HX.out,tfp,← HL.out,← HNP.out,if_pos hp0]
  subst hp0
  clear h hlot hpar hpv hnp
  go_enter Tryz.func113,Tryz.ntmps113
  go_wp2_with fail
  go_returns
  show TfP _ w S v bs pvs X _ _
  rw [HXS.out]
  refine ⟨rfl,?_,Kp.refl _ _⟩
  have q:=HPW.out
  exact ⟨q.c1,q.row,q.len,q.plen,q.lot,q.par,q.nodup,q.ids,q.pars,fun l hl=>Nat.le_trans (q.giv l hl) (by omega),q.room⟩
 ·have hnz:¬ ((np:Int) == 0)=true:=by simp;omega
  have HXE:Hid (X=(tfk l l.par 2147483647 ls).bind fun r=>if l.expiry=r.2 then some r.1 else none):=by unfold Hid;rw [HX.out,tfp,← HL.out,← HNP.out,if_neg hp0]
  clear h hlot hpv hnp
  go_enter Tryz.func113,Tryz.ntmps113
  go_wp2_with fail
  obtain ⟨Y,HY⟩:∃ Y,Hid (Y=tfk l l.par 2147483647 ls):=⟨_,rfl⟩
  rw [← HY.out] at HXE
  go_loopw [4,6,7,19] (fun ev _ _ ii wr=>∃ (k e:Nat) (ls2:List L),ii=.int .i64 k∧k≤np∧ev=.int .i64 (e:Int)∧e≤2147483647∧ls2.length=ls.length∧ls2.getD i L0=l∧PW (N+k * 2147483647) wr S v bs pvs ls2∧Kp (fun k=>k ∈ bs) w wr∧tfk l (l.par.drop k) e ls2=Y) (fun _ _ _ ii _=>np - (intOf ii).toNat)
  case atStart=>exact ⟨0,2147483647,ls,rfl,by omega,rfl,by omega,rfl,HL.out.symm,by simpa using HPW.out,Kp.refl _ _,by rw [List.drop_zero];exact HY.out.symm⟩
  case round =>
   obtain ⟨k,e,ls2,rfl,hk,rfl,he,hl2,hli,hpw,hkp,hY⟩:=hrel
   have hi2:i<ls2.length:=by rw [hl2];exact hi
   have HU2:Hid (Gu wr):=by
    obtain ⟨t,v,hc⟩:=hu
    exact ⟨t,v,(World.cell?_of_block (a:=⟨4,0,none⟩) (hkp.block _ (cell_lt hc) (fun hm=>hub _ hm rfl))).trans hc⟩
   by_cases hlt:k<np
   ·have hpr:=hpw.par i hi2
    rw [hli,HPV.out] at hpr
    have hkl:k<l.par.length:=by rw [← HNP.out];exact hlt
    obtain ⟨q,qcap,cs,hq1,hq2,hq3⟩:=hpr.resolve_left (fun h=>by rw [h.2] at hkl;simp at hkl)
    obtain ⟨g1,g2⟩:=hq3 k hkl
    rw [← blk_cell hq2] at g1 g2
    have hqe:pa=some ⟨q,0,none⟩:=by cases hq1;rfl
    subst hqe
    rw [show 2 * k=k * 2 by omega] at g1 g2
    have hpm:l.par.getD k (0,0) ∈ l.par:=by simp [List.getD_eq_getElem?_getD,hkl]
    have hpb2:=hpb.2 _ hpm
    have hdr:l.par.drop k=l.par.getD k (0,0) :: l.par.drop (k+1):=by rw [List.drop_eq_getElem_cons hkl];simp [List.getD_eq_getElem?_getD,hkl]
    rw [hdr,tfk] at hY
    generalize l.par.getD k (0,0)=pp at *
    obtain ⟨p1,p2⟩:=pp
    simp only at g1 g2 hpb2 hY
    have hB:=al1 wr (.cells #[.int .i64 (p1:Int),.int .i64 (p2:Int)] 156)
    have hbox:=heap_alloc_new wr (.cells #[.int .i64 (p1:Int),.int .i64 (p2:Int)] 156)
    have hpwB:=hpw.below hB
    have HF:=hide (findW_any hpwB p1 hpb2.1)
    have HKB:=hide (hkp.after hB)
    have HUB:Hid (Gu (wr.alloc (.cells #[.int .i64 (p1:Int),.int .i64 (p2:Int)] 156))):=by
     obtain ⟨t,v,hc⟩:=HU2.out
     exact ⟨t,v,(hB.cell (cell_lt hc)).trans hc⟩
    have d0:(wr.alloc (.cells #[.int .i64 (p1:Int),.int .i64 (p2:Int)] 156)).cell? ⟨wr.heap.size,0,none⟩=some (.int .i64 (p1:Int)):=by rw [blk_cell hbox];rfl
    have d1:(wr.alloc (.cells #[.int .i64 (p1:Int),.int .i64 (p2:Int)] 156)).cell? ⟨wr.heap.size,1,none⟩=some (.int .i64 (p2:Int)):=by rw [blk_cell hbox];rfl
    have hlotB:=hpwB.lot i hi2
    rw [hli,← HBL.out] at hlotB
    by_cases hj:idx p1 ls2<ls2.length
    ·obtain ⟨bf,HBF⟩:∃ bf,Hid (bf=bs.getD (idx p1 ls2) 0):=⟨_,rfl⟩
     obtain ⟨lf,HLF⟩:∃ lf,Hid (lf=ls2.getD (idx p1 ls2) L0):=⟨_,rfl⟩
     have hlf:=hpwB.lot _ hj
     rw [← HLF.out,← HBF.out] at hlf
     have hfv:findV bs ls2 p1=.pointer (some ⟨bf,0,none⟩):=by unfold findV;rw [if_pos hj,← HBF.out]
     rw [hfv] at HF
     have hidf:=hpwB.ids _ (mem_getD hj)
     have hgf:=hpwB.giv _ (mem_getD hj)
     rw [← HLF.out] at hidf hgf hY
     have HPWB:=hide hpwB
     have hub2:bf ∈ bs:=by
      rw [HBF.out]
      have:idx p1 ls2<bs.length:=by rw [hpwB.len];exact hj
      simp [List.getD_eq_getElem?_getD,this]
     have hbp:wr.heap.size≠bf:=fun e=>by rw [← e,hbox] at hlf;cases hlf
     have HLFB:=hide hlf
     have x1:=blk_cell hlf 1
     have x3:=blk_cell hlf 3
     have y1:=blk_cell hlotB 1
     have y3:=blk_cell hlotB 3
     have HJ:=hide hj
     have HBOX:=hide hbox
     clear hpw hkp hpwB hbox hB hlotB hq1 hq2 hq3 hpr hdr hfv hlf hj
     go_wp2_with (go_at_call 77;refine (HF.out).mono ?_;rintro _ w3 ⟨rfl,rfl⟩)
     have HMF:Hid (Calls Tryz.prog 89 #[.bool false] (wr.alloc (.cells #[.int .i64 (p1:Int),.int .i64 (p2:Int)] 156)).drew fun e w'=>w'=(wr.alloc (.cells #[.int .i64 (p1:Int),.int .i64 (p2:Int)] 156)).drew∧∃ t v,e=.panicked [{ v:=.iface t v,recovered:=false }]):=by
      refine (must_any false _ (show Gu (wr.alloc (.cells #[.int .i64 (p1:Int),.int .i64 (p2:Int)] 156)).drew from HUB.out)).mono ?_
      rintro e w' ⟨h1,h2⟩
      rw [if_neg (by simp)] at h2
      exact ⟨h1,h2⟩
     have HMT:Hid (Calls Tryz.prog 89 #[.bool true] (wr.alloc (.cells #[.int .i64 (p1:Int),.int .i64 (p2:Int)] 156)).drew fun e w'=>w'=(wr.alloc (.cells #[.int .i64 (p1:Int),.int .i64 (p2:Int)] 156)).drew∧e=.returned (.tuple #[])):=by
      refine (must_any true _ (show Gu (wr.alloc (.cells #[.int .i64 (p1:Int),.int .i64 (p2:Int)] 156)).drew from HUB.out)).mono ?_
      rintro e w' ⟨h1,h2⟩
      rw [if_pos rfl] at h2
      exact ⟨h1,h2⟩
     generalize (wr.alloc (.cells #[.int .i64 (p1:Int),.int .i64 (p2:Int)] 156))=wb at *
     obtain ⟨S0,hS0⟩:∃ S0:World→Prop,∀ w',S0 w'↔(w'.cell? ⟨bf,1,none⟩=some (.int .i64 (lf.goods:Int))∧w'.cell? ⟨bf,3,none⟩=some (.int .i64 (lf.place:Int))∧w'.cell? ⟨bl,1,none⟩=some (.int .i64 (l.goods:Int))∧w'.cell? ⟨bl,3,none⟩=some (.int .i64 (l.place:Int))):=⟨_,fun _=>Iff.rfl⟩
     have z1:∀ x:Wd S0,x.w.cell? ⟨bf,1,none⟩=some (.int .i64 (lf.goods:Int)):=fun x=>((hS0 _).1 x.h).1
     have z2:∀ x:Wd S0,x.w.cell? ⟨bf,3,none⟩=some (.int .i64 (lf.place:Int)):=fun x=>((hS0 _).1 x.h).2.1
     have z3:∀ x:Wd S0,x.w.cell? ⟨bl,1,none⟩=some (.int .i64 (l.goods:Int)):=fun x=>((hS0 _).1 x.h).2.2.1
     have z4:∀ x:Wd S0,x.w.cell? ⟨bl,3,none⟩=some (.int .i64 (l.place:Int)):=fun x=>((hS0 _).1 x.h).2.2.2
     have hS2:S0 wb.drew:=(hS0 _).2 ⟨x1,x3,y1,y3⟩
     clear hS0
     by_cases hgd:lf.goods=l.goods
     ·have hgb:=beqN_t hgd
      by_cases hpl:lf.place<l.place
      ·have hpi:(lf.place:Int)<(l.place:Int):=by omega
       have HYE:Hid (tfk l (l.par.drop (k+1)) (min e lf.expiry) (ls2.set (idx p1 ls2) (gvL lf p2))=Y):=by
        unfold Hid;rw [← hY,if_pos ⟨HJ.out,hgd,hpl⟩]
       clear hY hgd hpl
       clear x1 x3 y1 y3
       haveI hinh:Inhabited (Wd S0):=⟨⟨_,hS2⟩⟩
       refine wp_region_lit (n:=8) (m:=1) 24 24 (fun w'=>∃ x:Wd S0,w'=x.w) (by kernel_rfl) (by kernel_rfl) (fun _ _ d _ _ h=>by cases d <;> exact h) (by kernel_rfl) (by kernel_rfl) rfl rfl ⟨⟨_,hS2⟩,rfl⟩ ?_
       clear hS2
       dsimp only [List.take]
       repeat (go_big_quiet_step (fail))
       refine wpQuiet_nil ?_
       refine wpN_one (i:=24) (by kernel_rfl) rfl rfl (fun K hK=>?_)
       go_wp2_with (go_at_call 89;refine (HMT.out).mono ?_;rintro _ w4 ⟨rfl,rfl⟩)
       refine hK _ _ (by first | exact Or.inl rfl | exact Or.inl trivial | trivial) ?_
       refine wpN_done (by kernel_rfl) ?_
       clear hK z1 z2 z3 z4
       have hne:idx p1 ls2≠i:=fun e=>by
        have:lf=l:=by rw [HLF.out,e];exact hli
        rw [this] at hpi;omega
       have HPD:=hide (HPWB.out.below ((Below.refl _ _).drew:Below _ wb wb.drew))
       have HKD:=hide (HKB.out.after ((Below.refl _ _).drew))
       have d1':wb.drew.cell? ⟨wr.heap.size,1,none⟩=some (.int .i64 (p2:Int)):=d1
       have hlfd:wb.drew.heap[bf]?=some (.cells (lotCells lf (pvs.getD (idx p1 ls2) default)) 153 (0,0)):=HLFB.out
       clear d1 d0 HF HMT HMF HKB HUB HPWB HLFB HBOX
       generalize wb.drew=wd at *
       have e10:wd.cell? ⟨bf,10,none⟩=some (.int .i64 (lf.given:Int)):=by rw [blk_cell hlfd];rfl
       have f10:=blk_free hlfd 10
       have hself:=heap_setCell_same wd bf 10 _ 153 (.int .i64 ((lf.given:Int)+(p2:Int))) hlfd
       have y2:(wd.setCell ⟨bf,10,none⟩ (.int .i64 ((lf.given:Int)+(p2:Int)))).cell? ⟨bf,2,none⟩=some (.int .i64 (lf.expiry:Int)):=by rw [blk_cell hself];rfl
       have HPN:Hid (PW (N+(k+1) * 2147483647) (wd.setCell ⟨bf,10,none⟩ (.int .i64 ((lf.given:Int)+(p2:Int)))) S v bs pvs (ls2.set (idx p1 ls2) (gvL lf p2))):=by
        have h1:=HPD.out.give HJ.out hpb2.2
        rw [← HLF.out,← HBF.out,Int.natCast_add] at h1
        unfold Hid;rw [show N+(k+1) * 2147483647=N+k * 2147483647+2147483647 by omega];exact h1
       have HKN:Hid (Kp (fun k=>k ∈ bs) w (wd.setCell ⟨bf,10,none⟩ (.int .i64 ((lf.given:Int)+(p2:Int))))):=HKD.out.setCell (p:=⟨bf,10,none⟩) (Or.inl hub2) _
       have hgf2:lf.given≤1100000000000:=by omega
       have hx2:=hidf.2.2.2
       clear hself hlfd HPD HKD
       by_cases hme:e≤lf.expiry
       ·have hm1:(e:Int)≤(lf.expiry:Int):=by omega
        have hm2:¬ (lf.expiry:Int)<(e:Int):=by omega
        have HMI:Hid (min e lf.expiry=e):=Nat.min_eq_left hme
        clear hme
        go_wp2_with fail
        go_region
        go_wp2_with fail
        go_roundw
        case rel =>
         refine ⟨k+1,e,ls2.set (idx p1 ls2) (gvL lf p2),by go_num,by omega,rfl,by omega,by rw [List.length_set];exact hl2,?_,HPN.out.below ((Below.refl _ _).drew),HKN.out.after ((Below.refl _ _).drew),?_⟩
         ·rw [← hli];simp [List.getD_eq_getElem?_getD,List.getElem?_set,hne]
         ·rw [← HYE.out,HMI.out]
        case measure=>simp [intOf];omega
       ·have hm1:¬ (e:Int)≤(lf.expiry:Int):=by omega
        have hm2:(lf.expiry:Int)<(e:Int):=by omega
        have HMI:Hid (min e lf.expiry=lf.expiry):=Nat.min_eq_right (by omega)
        clear hme
        go_wp2_with fail
        go_region
        go_wp2_with fail
        go_roundw
        case rel =>
         refine ⟨k+1,lf.expiry,ls2.set (idx p1 ls2) (gvL lf p2),by go_num,by omega,rfl,by omega,by rw [List.length_set];exact hl2,?_,HPN.out.below ((Below.refl _ _).drew),HKN.out.after ((Below.refl _ _).drew),?_⟩
         ·rw [← hli];simp [List.getD_eq_getElem?_getD,List.getElem?_set,hne]
         ·rw [← HYE.out,HMI.out]
        case measure=>simp [intOf];omega
      ·have hpi:¬ (lf.place:Int)<(l.place:Int):=by omega
       have hpi2:(l.place:Int)≤(lf.place:Int):=by omega
       have HXN:Hid (X=none):=by
        unfold Hid;rw [HXE.out,← hY,if_neg (fun hc=>hpl hc.2.2)];rfl
       clear hY
       clear x1 x3 y1 y3
       haveI hinh:Inhabited (Wd S0):=⟨⟨_,hS2⟩⟩
       refine wp_region_lit (n:=8) (m:=1) 24 24 (fun w'=>∃ x:Wd S0,w'=x.w) (by kernel_rfl) (by kernel_rfl) (fun _ _ d _ _ h=>by cases d <;> exact h) (by kernel_rfl) (by kernel_rfl) rfl rfl ⟨⟨_,hS2⟩,rfl⟩ ?_
       clear hS2
       dsimp only [List.take]
       repeat (go_big_quiet_step (fail))
       refine wpQuiet_nil ?_
       refine wpN_one (i:=24) (by kernel_rfl) rfl rfl (fun K hK=>?_)
       go_wp2_with (go_at_call 89;refine (HMF.out).mono ?_;rintro _ w4 ⟨rfl,t,v',rfl⟩)
       refine ⟨rfl,?_⟩
       show TfP _ w S v bs pvs X _ _
       rw [HXN.out]
       exact ⟨⟨t,v',rfl⟩,HKB.out.after ((Below.refl _ _).drew)⟩
     ·have hgb:=beqN_f hgd
      have HXN:Hid (X=none):=by
       unfold Hid;rw [HXE.out,← hY,if_neg (fun hc=>hgd hc.2.1)];rfl
      clear hY
      clear x1 x3 y1 y3
      haveI hinh:Inhabited (Wd S0):=⟨⟨_,hS2⟩⟩
      refine wp_region_lit (n:=8) (m:=1) 24 24 (fun w'=>∃ x:Wd S0,w'=x.w) (by kernel_rfl) (by kernel_rfl) (fun _ _ d _ _ h=>by cases d <;> exact h) (by kernel_rfl) (by kernel_rfl) rfl rfl ⟨⟨_,hS2⟩,rfl⟩ ?_
      clear hS2
      dsimp only [List.take]
      repeat (go_big_quiet_step (fail))
      refine wpQuiet_nil ?_
      refine wpN_one (i:=24) (by kernel_rfl) rfl rfl (fun K hK=>?_)
      go_wp2_with (go_at_call 89;refine (HMF.out).mono ?_;rintro _ w4 ⟨rfl,t,v',rfl⟩)
      refine ⟨rfl,?_⟩
      show TfP _ w S v bs pvs X _ _
      rw [HXN.out]
      exact ⟨⟨t,v',rfl⟩,HKB.out.after ((Below.refl _ _).drew)⟩
    ·have HXN:Hid (X=none):=by
      unfold Hid;rw [HXE.out,← hY,if_neg (fun hc=>hj hc.1)];rfl
     have hfv:findV bs ls2 p1=.pointer none:=by unfold findV;rw [if_neg hj]
     rw [hfv] at HF
     clear hpw hkp hpwB hbox hB hlotB hY hq1 hq2 hq3 hpr hdr hj hfv
     go_wp2_with (go_at_call 77;refine (HF.out).mono ?_;rintro _ w3 ⟨rfl,rfl⟩)
     have HMU:Hid (∀ wz,Below (wr.alloc (.cells #[.int .i64 (p1:Int),.int .i64 (p2:Int)] 156)).heap.size (wr.alloc (.cells #[.int .i64 (p1:Int),.int .i64 (p2:Int)] 156)) wz→Calls Tryz.prog 89 #[.bool false] wz fun e w'=>w'=wz∧∃ t v,e=.panicked [{ v:=.iface t v,recovered:=false }]):=fun wz hz=>by
      obtain ⟨t,v,hc⟩:=HUB.out
      refine (must_any false wz ⟨t,v,(hz.cell (cell_lt hc)).trans hc⟩).mono ?_
      rintro e w' ⟨h1,h2⟩
      rw [if_neg (by simp)] at h2
      exact ⟨h1,h2⟩
     generalize (wr.alloc (.cells #[.int .i64 (p1:Int),.int .i64 (p2:Int)] 156))=wb at *
     obtain ⟨S0,hS0⟩:∃ S0:World→Prop,S0 wb.drew:=⟨fun _=>True,trivial⟩
     haveI hinh:Inhabited (Wd S0):=⟨⟨_,hS0⟩⟩
     refine wp_region_lit (n:=8) (m:=1) 24 24 (fun w'=>∃ x:Wd S0,w'=x.w) (by kernel_rfl) (by kernel_rfl) (fun _ _ d _ _ h=>by cases d <;> exact h) (by kernel_rfl) (by kernel_rfl) rfl rfl ⟨⟨_,hS0⟩,rfl⟩ ?_
     clear hS0
     dsimp only [List.take]
     repeat (go_big_quiet_step (fail))
     refine wpQuiet_nil ?_
     refine wpN_one (i:=24) (by kernel_rfl) rfl rfl (fun K hK=>?_)
     go_wp2_with (go_at_call 89;refine (HMU.out _ ((Below.refl _ _).drew)).mono ?_;rintro _ w4 ⟨rfl,t,v',rfl⟩)
     refine ⟨rfl,?_⟩
     show TfP _ w S v bs pvs X _ _
     rw [HXN.out]
     exact ⟨⟨t,v',rfl⟩,HKB.out.after ((Below.refl _ _).drew)⟩
   ·have hkn:k=np:=by omega
    subst hkn
    have HYE:Hid (Y=some (ls2,e)):=by
     unfold Hid;rw [← hY,HNP.out,List.drop_length];rfl
    have hlot2:=hpw.lot i hi2
    rw [hli,← HBL.out] at hlot2
    have x2:wr.cell? ⟨bl,2,none⟩=some (.int .i64 (l.expiry:Int)):=by rw [blk_cell hlot2];rfl
    have hue:=hids.2.2.2
    have HPW2:=hide hpw
    have HKP:=hide hkp
    clear hpw hkp hlot2 hY
    by_cases hee:l.expiry=e
    ·have hb1:=beqN_t hee
     have HXS:Hid (X=some ls2):=by unfold Hid;rw [HXE.out,HYE.out];show (if l.expiry=e then some ls2 else none)=_;rw [if_pos hee]
     clear hee
     go_wp2_with fail
     refine (must_any true wr HU2.out).mono ?_
     rintro _ wz ⟨rfl,hm⟩
     rw [if_pos rfl] at hm
     subst hm
     go_wp2_with fail
     go_end0
     show TfP _ w S v bs pvs X _ _
     rw [HXS.out]
     have q:=HPW2.out
     exact ⟨rfl,⟨q.c1,q.row,q.len,q.plen,q.lot,q.par,q.nodup,q.ids,q.pars,fun l hl=>Nat.le_trans (q.giv l hl) (by omega),q.room⟩,HKP.out⟩
    ·have hb1:=beqN_f hee
     have HXN:Hid (X=none):=by unfold Hid;rw [HXE.out,HYE.out];show (if l.expiry=e then some ls2 else none)=_;rw [if_neg hee]
     clear hee
     go_wp2_with fail
     refine (must_any false wr HU2.out).mono ?_
     rintro _ wz ⟨rfl,hm⟩
     rw [if_neg (by simp)] at hm
     obtain ⟨t,v',rfl⟩:=hm
     refine ⟨rfl,?_⟩
     show TfP _ w S v bs pvs X _ _
     rw [HXN.out]
     exact ⟨⟨t,v',rfl⟩,HKP.out⟩
end Go.Proofs.YtgcedalggnmooabGreatDoor
namespace Go.Proofs.YtgcedalggnmooabGreatDoor
open Go.RowKit
theorem infoPL:(Tryz.prog.info? 129).map (fun i=>(i.zero,i.size,i.bytes))=some (some (.pointer none),1,8):=by kernel_rfl
theorem tUPL:Tryz.prog.underlying 78=some (.slice 129):=by kernel_rfl
theorem rdLot_facts {num com:Nat} {l r:List UInt8} {x:L} (h:rdLot num com l=some (x,r)):x.id=num∧x.goods≤2147483647∧x.expiry≤2147483647∧(1≤x.place∧x.place≤com)∧(x.par.length≤2∧∀ p ∈ x.par,p.1≤2147483647∧p.2≤2147483647)∧x.given=0∧r.length≤l.length:=by
 unfold rdLot at h
 rcases h1:rdB 1 2147483647 l with _ | ⟨n1,r1⟩
 ·rw [h1] at h;cases h
 rcases h2:rdB 0 2147483647 r1 with _ | ⟨n2,r2⟩
 ·simp only [h1,h2,Option.bind_some,Option.bind_none] at h;cases h
 rcases h3:rdB 1 com r2 with _ | ⟨n3,r3⟩
 ·simp only [h1,h2,h3,Option.bind_some,Option.bind_none] at h;cases h
 rcases h4:rdB 0 2147483647 r3 with _ | ⟨n4,r4⟩
 ·simp only [h1,h2,h3,h4,Option.bind_some,Option.bind_none] at h;cases h
 rcases h5:rdB 0 2147483647 r4 with _ | ⟨n5,r5⟩
 ·simp only [h1,h2,h3,h4,h5,Option.bind_some,Option.bind_none] at h;cases h
 rcases h6:rdB 0 2147483647 r5 with _ | ⟨n6,r6⟩
 ·simp only [h1,h2,h3,h4,h5,h6,Option.bind_some,Option.bind_none] at h;cases h
 rcases h7:rdB 0 2147483647 r6 with _ | ⟨n7,r7⟩
 ·simp only [h1,h2,h3,h4,h5,h6,h7,Option.bind_some,Option.bind_none] at h;cases h
 rcases h8:rdPars r7 with _ | ⟨ps,r8⟩
 ·simp only [h1,h2,h3,h4,h5,h6,h7,h8,Option.bind_some,Option.bind_none] at h;cases h
 simp only [h1,h2,h3,h4,h5,h6,h7,h8,Option.bind_some] at h
 have hp:=rdPars_facts h8
 obtain ⟨_,a1,b1⟩:=rdB_some h1
 obtain ⟨_,a2,b2⟩:=rdB_some h2
 obtain ⟨c3,a3,b3⟩:=rdB_some h3
 obtain ⟨_,_,b4⟩:=rdB_some h4
 obtain ⟨_,_,b5⟩:=rdB_some h5
 obtain ⟨_,_,b6⟩:=rdB_some h6
 obtain ⟨_,_,b7⟩:=rdB_some h7
 cases h9:(if ps.length=0 then rd1 r8 else some ((ps.map Prod.snd).sum,r8)) with
 | none=>rw [h9] at h;cases h
 | some gt =>
  rw [h9] at h
  simp only [Option.bind_some] at h
  split at h
  ·cases h
   refine ⟨rfl,a1,a2,⟨c3,a3⟩,⟨hp.1,hp.2.1⟩,rfl,?_⟩
   have:gt.2.length≤r8.length:=by
    split at h9
    ·exact rd1_len h9
    ·cases h9;exact Nat.le_refl _
   have:=hp.2.2
   omega
  ·cases h
def rdLs (c:Nat):Nat→Nat→List (Option L)→List UInt8→Option (List (Option L) × List UInt8)
 | 0,_,sl,l=>some (sl,l)
 | k+1,p,sl,l=>(rdB (p+1) 2147483647 l).bind fun a=>(rdLot a.1 c a.2).bind fun x=>if sl.getD (x.1.place - 1) none=none then rdLs c k a.1 (sl.set (x.1.place - 1) (some x.1)) x.2 else none
def tfA:Nat→Nat→List L→Option (List L)
 | 0,_,ls=>some ls
 | k+1,i,ls=>(tfp ls i).bind fun ls'=>tfA k (i+1) ls'
def rdLots (l:List UInt8):Option (List L × List UInt8) :=
 (rdB 0 30 l).bind fun c=>(rd1 c.2).bind fun d=>if d.1=c.1 then (rdLs c.1 c.1 0 (List.replicate c.1 none) d.2).bind fun r=>(tfA c.1 0 (r.1.map fun o=>o.getD L0)).bind fun ls=>some (ls,r.2) else none
structure Sl where
 l:L
 b:Nat
 pv:Value
def sptr (sq:List (Option Sl)):List Value:=sq.map fun o=>.pointer (o.map fun x=>(⟨x.b,0,none⟩:Addr))
def sl0 (sq:List (Option Sl)):List (Option L):=sq.map fun o=>o.map Sl.l
structure SLt (B:Nat) (w:World) (v:Value) (sq:List (Option Sl)):Prop where
 row:w.ownsRow B 129 1 v sq.length (sptr sq)
 lot:∀ (i:Nat) (x:Sl),sq[i]?=some (some x)→w.heap[x.b]?=some (.cells (lotCells x.l x.pv) 153 (0,0))∧B≤x.b∧w.ownsRow B 156 2 x.pv x.l.par.length (lflat x.l.par)
 apart:∀ (i j:Nat) (x y:Sl),sq[i]?=some (some x)→sq[j]?=some (some y)→x.b=y.b→i=j
 fact:∀ (i:Nat) (x:Sl),sq[i]?=some (some x)→(x.l.id≤2147483647∧x.l.goods≤2147483647∧x.l.place=i+1∧x.l.expiry≤2147483647)∧(x.l.par.length≤2∧∀ p ∈ x.l.par,p.1≤2147483647∧p.2≤2147483647)∧x.l.given=0
structure Kt (b S:Nat) (w w':World) (l:List UInt8):Prop where
 kp:Kp (fun k=>k=b∨k=S) w w'
 here:w'.heap[b]?=some (.cells #[.string (bst l)] 147 (0,0))
def Bt (b S:Nat) (w:World) (e:Ending) (w':World):Prop:=(∃ t v,e=.panicked [{ v:=.iface t v,recovered:=false }])∧Kp (fun k=>k=b∨k=S) w w'
theorem Kt.rd {b S:Nat} {w w':World} {l:List UInt8} (h:Kt b S w w' l):Rd b w' w' (bst l):=Rd.refl h.here
theorem Kt.step {b S:Nat} {w w' w'':World} {l r:List UInt8} (h:Kt b S w w' l) (k:Rd b w' w'' (bst r)):Kt b S w w'' r :=
 ⟨h.kp.trans ⟨k.os,k.tape,k.output,by rw [k.size];exact Nat.le_refl _,fun i _ hz=>k.block i (fun e=>hz (Or.inl (Or.inl e)))⟩,k.here⟩
theorem Kt.kr {b S:Nat} {w w' w'':World} {l r:List UInt8} (h:Kt b S w w' l) (k:Kr b w' w'' r):Kt b S w w'' r :=
 ⟨h.kp.trans (k.kp.mono (fun _ e=>Or.inl (Or.inl e))),k.here⟩
theorem Kt.after {b S:Nat} {w w' w'':World} {l:List UInt8} (h:Kt b S w w' l) (k:Below w'.heap.size w' w''):Kt b S w w'' l :=
 ⟨h.kp.after k,(k.block b (blk_lt h.here)).trans h.here⟩
theorem Kt.refl {b S:Nat} {w:World} {l:List UInt8} (h:w.heap[b]?=some (.cells #[.string (bst l)] 147 (0,0))):Kt b S w w l:=⟨Kp.refl _ _,h⟩
theorem Kt.gl {b S:Nat} {w w':World} {l:List UInt8} (h:Kt b S w w' l) (hb:NU≤b) (hS:NU≤S) (hg:Gl w):Gl w':=by
 obtain ⟨⟨t0,v0,h0⟩,⟨t1,v1,h1⟩,h2⟩:=hg
 have hs:=h.kp.size
 unfold NU at hb hS
 refine ⟨⟨t0,v0,(World.cell?_of_block (a:=⟨2,0,none⟩) (h.kp.block _ (by show 2<_;omega) (by show ¬ (2=b∨2=S);omega))).trans h0⟩,⟨t1,v1,(World.cell?_of_block (a:=⟨3,0,none⟩) (h.kp.block _ (by show 3<_;omega) (by show ¬ (3=b∨3=S);omega))).trans h1⟩,by omega⟩
theorem Kt.gu {b S:Nat} {w w':World} {l:List UInt8} (h:Kt b S w w' l) (hb:NU≤b) (hS:NU≤S) (hu:Gu w):Gu w':=by
 obtain ⟨t,v,hc⟩:=hu
 unfold NU at hb hS
 exact ⟨t,v,(World.cell?_of_block (a:=⟨4,0,none⟩) (h.kp.block _ (cell_lt hc) (by show ¬ (4=b∨4=S);omega))).trans hc⟩
theorem Kt.broke {b S:Nat} {w w' w'':World} {l:List UInt8} {e:Ending} (h:Kt b S w w' l) (k:Broke b w' e w''):Bt b S w e w'':=by
 obtain ⟨k1,s,k2⟩:=k
 exact ⟨k1,h.kp.trans ⟨k2.os,k2.tape,k2.output,by rw [k2.size];exact Nat.le_refl _,fun i _ hz=>k2.block i (fun e=>hz (Or.inl (Or.inl e)))⟩⟩
theorem Kt.bk {b S:Nat} {w w' w'':World} {l:List UInt8} {e:Ending} (h:Kt b S w w' l) (k:Bk b w' e w''):Bt b S w e w'':=⟨k.1,h.kp.trans (k.2.mono (fun _ e=>Or.inl (Or.inl e)))⟩
theorem made_list (z:Value) (n:Nat):(madeCells #[z] n).toList=List.replicate n z:=by
 apply List.ext_getElem
 ·simp [size_madeCells]
 ·intro i h1 h2
  simp [madeCells,Nat.mod_one]
theorem row_made (w:World) (B:Nat) (hB:B≤w.heap.size) (e:TypeId) (z:Value) (n:Nat) (hn:n≤30):(w.alloc (.cells (madeCells #[z] n) e)).ownsRow B e 1 (.slice (some ⟨w.heap.size,0,none⟩) n n) n (List.replicate n z) :=
 ⟨by simp,Or.inr ⟨w.heap.size,n,madeCells #[z] n,rfl,hB,heap_alloc_new w _,Nat.le_refl _,by unfold maxLen;omega,by simp [size_madeCells],by rw [made_list];simp⟩⟩
theorem SLt.keep {B:Nat} {w w':World} {v:Value} {sq:List (Option Sl)} (h:SLt B w v sq) (hq:∀ (k:Nat) (cs:Array Value) (t:TypeId),w.heap[k]?=some (.cells cs t (0,0))→t≠147→t≠80→w'.heap[k]?=w.heap[k]?):SLt B w' v sq := {
 row:=own_congr h.row (fun g hg=>by obtain ⟨cs,hc⟩:=own_ty h.row hg;exact hq g cs _ hc (by decide) (by decide))
 lot:=fun i x hx=>by
  obtain ⟨h1,h2,h3⟩:=h.lot i x hx
  exact ⟨(hq _ _ _ h1 (by decide) (by decide)).trans h1,h2,own_congr h3 (fun g hg=>by obtain ⟨cs,hc⟩:=own_ty h3 hg;exact hq g cs _ hc (by decide) (by decide))⟩
 apart:=h.apart
 fact:=h.fact }
theorem SLt.below {B:Nat} {w w':World} {v:Value} {sq:List (Option Sl)} (h:SLt B w v sq) (hb:Below w.heap.size w w'):SLt B w' v sq:=h.keep (fun k cs t hk _ _=>hb.block k (blk_lt hk))
theorem SLt.kr {B b:Nat} {w w':World} {v:Value} {sq:List (Option Sl)} {l r:List UInt8} (h:SLt B w v sq) (hr:w.heap[b]?=some (.cells #[.string (bst l)] 147 (0,0))) (k:Kr b w w' r):SLt B w' v sq:=h.keep (fun z cs t hz h1 _=>k.kp.block z (blk_lt hz) (ty_ne hz hr h1))
theorem SLt.put {B:Nat} {w:World} {G n cap:Nat} {sq:List (Option Sl)} (h:SLt B w (.slice (some ⟨G,0,none⟩) n cap) sq) (hn:n=sq.length) {i:Nat} (hi:i<n) {x:Sl} (hx:w.heap[x.b]?=some (.cells (lotCells x.l x.pv) 153 (0,0))∧B≤x.b∧w.ownsRow B 156 2 x.pv x.l.par.length (lflat x.l.par)) (hnew:∀ (j:Nat) (y:Sl),sq[j]?=some (some y)→y.b≠x.b)
  (hf:(x.l.id≤2147483647∧x.l.goods≤2147483647∧x.l.place=i+1∧x.l.expiry≤2147483647)∧(x.l.par.length≤2∧∀ p ∈ x.l.par,p.1≤2147483647∧p.2≤2147483647)∧x.l.given=0) :
  SLt B (w.setCell ⟨G,i,none⟩ (.pointer (some ⟨x.b,0,none⟩))) (.slice (some ⟨G,0,none⟩) n cap) (sq.set i (some x)):=by
 subst hn
 have hst:=(h.row.stored i (.pointer (some ⟨x.b,0,none⟩))).1
 have hget:∀ (j:Nat) (y:Sl),(sq.set i (some x))[j]?=some (some y)→(j=i∧y=x)∨(j≠i∧sq[j]?=some (some y)):=fun j y hy=>by
  rw [List.getElem?_set] at hy
  by_cases e:i=j
  ·subst e;rw [if_pos rfl,if_pos hi] at hy;cases hy;exact Or.inl ⟨rfl,rfl⟩
  ·rw [if_neg e] at hy;exact Or.inr ⟨Ne.symm e,hy⟩
 obtain ⟨cs,hG⟩:=own_ty h.row (g:=G) rfl
 have hoth:∀ (k:Nat) (cs':Array Value) (t:TypeId),w.heap[k]?=some (.cells cs' t (0,0))→t≠129→(w.setCell ⟨G,i,none⟩ (.pointer (some ⟨x.b,0,none⟩))).heap[k]?=w.heap[k]?:=fun k cs' t hk ht=>Below.heap_setCell _ _ _ _ (ty_ne hk hG ht)
 have hlot:∀ (y:Sl),(w.heap[y.b]?=some (.cells (lotCells y.l y.pv) 153 (0,0))∧B≤y.b∧w.ownsRow B 156 2 y.pv y.l.par.length (lflat y.l.par))→(w.setCell ⟨G,i,none⟩ (.pointer (some ⟨x.b,0,none⟩))).heap[y.b]?=some (.cells (lotCells y.l y.pv) 153 (0,0))∧B≤y.b∧(w.setCell ⟨G,i,none⟩ (.pointer (some ⟨x.b,0,none⟩))).ownsRow B 156 2 y.pv y.l.par.length (lflat y.l.par):=fun y hy =>
  ⟨(hoth _ _ _ hy.1 (by decide)).trans hy.1,hy.2.1,own_congr hy.2.2 (fun g hg=>by obtain ⟨cs2,hc⟩:=own_ty hy.2.2 hg;exact hoth g cs2 _ hc (by decide))⟩
 refine ⟨?_,fun j y hy=>?_,fun a c x1 y1 h1 h2 he=>?_,fun j y hy=>?_⟩
 ·rw [List.length_set]
  have:sptr (sq.set i (some x))=(sptr sq).set i (.pointer (some ⟨x.b,0,none⟩)):=by simp [sptr,List.map_set]
  rw [this];exact hst
 ·rcases hget j y hy with ⟨_,rfl⟩ | ⟨_,h2⟩
  ·exact hlot _ hx
  ·exact hlot _ (h.lot j y h2)
 ·rcases hget a x1 h1 with ⟨e1,e2⟩ | ⟨_,g1⟩ <;> rcases hget c y1 h2 with ⟨e3,e4⟩ | ⟨_,g2⟩
  ·rw [e1,e3]
  ·rw [e2] at he;exact absurd he.symm (hnew _ _ g2)
  ·rw [e4] at he;exact absurd he (hnew _ _ g1)
  ·exact h.apart _ _ _ _ g1 g2 he
 ·rcases hget j y hy with ⟨rfl,rfl⟩ | ⟨_,h2⟩
  ·exact hf
  ·exact h.fact j y h2
theorem par_own {w:World} {B:Nat} {pv:Value} {ps:List (Nat × Nat)} (h:w.ownsRow B 156 2 pv ps.length (lflat ps)):Par w pv ps:=by
 rcases h.2 with ⟨h1,h2⟩ | ⟨g,cap,cur,h1,h2,h3,h4,h5,h6,h7⟩
 ·exact Or.inl ⟨h1,List.length_eq_zero_iff.1 h2⟩
 ·refine Or.inr ⟨g,cap,cur,h1,h3,fun j hj=>?_⟩
  obtain ⟨e1,e2⟩:=lflat_at2 ps j hj
  rw [← h7,List.getElem?_take] at e1 e2
  rw [if_pos (by omega)] at e1 e2
  rw [Nat.mul_comm 2 j]
  exact ⟨by simpa using e1,by simpa using e2⟩
theorem all_some {α:Type}:∀ (l:List (Option α)),l.countP Option.isSome=l.length→∃ xs:List α,l=xs.map some
 | [],_=>⟨[],rfl⟩
 | none :: l,h=>by
  have:=List.countP_le_length (p:=Option.isSome) (l:=l)
  simp at h;omega
 | some x :: l,h=>by
  obtain ⟨xs,rfl⟩:=all_some l (by simpa using h)
  exact ⟨x :: xs,rfl⟩
theorem cnt_put {α:Type} {l:List (Option α)} {i:Nat} (hi:i<l.length) (h:l.getD i none=none) (x:α):(l.set i (some x)).countP Option.isSome=l.countP Option.isSome+1:=by
 rw [List.countP_set hi]
 have:l[i]=none:=by simpa [List.getD_eq_getElem?_getD,hi] using h
 simp [this]
theorem SLt.done {B:Nat} {w:World} {S:Nat} {v:Value} {xs:List Sl} (h:SLt B w v (xs.map some)) (h1:w.cell? ⟨S,1,none⟩=some v) (hn:xs.length≤30):PW 0 w S v (xs.map Sl.b) (xs.map Sl.pv) (xs.map Sl.l):=by
 have hx:∀ i,i<xs.length→∃ x,(xs.map some)[i]?=some (some x)∧x ∈ xs∧(xs.map Sl.b).getD i 0=x.b∧(xs.map Sl.pv).getD i default=x.pv∧(xs.map Sl.l).getD i L0=x.l:=fun i hi=>⟨xs[i],by simp [hi],List.getElem_mem hi,by simp [List.getD_eq_getElem?_getD,hi],by simp [List.getD_eq_getElem?_getD,hi],by simp [List.getD_eq_getElem?_getD,hi]⟩
 have hm:∀ l ∈ xs.map Sl.l,∃ i x,(xs.map some)[i]?=some (some x)∧i<xs.length∧x.l=l:=fun l hl=>by
  obtain ⟨x,hx,rfl⟩:=List.mem_map.1 hl
  obtain ⟨i,hi,rfl⟩:=List.getElem_of_mem hx
  exact ⟨i,xs[i],by simp [hi],hi,rfl⟩
 refine ⟨h1,?_,by simp,by simp,fun i hi=>?_,fun i hi=>?_,?_,fun l hl=>?_,fun l hl=>?_,fun l hl=>?_,by simpa using hn⟩
 ·have hr:=own_lower h.row (Nat.zero_le B)
  rw [List.length_map] at hr ⊢
  have:ptrs (xs.map Sl.b)=sptr (xs.map some):=by simp [ptrs,sptr]
  rw [this];exact hr
 ·obtain ⟨x,e1,_,e2,e3,e4⟩:=hx i (by simpa using hi)
  rw [e2,e3,e4];exact (h.lot i x e1).1
 ·obtain ⟨x,e1,_,e2,e3,e4⟩:=hx i (by simpa using hi)
  rw [e3,e4];exact par_own (h.lot i x e1).2.2
 ·show List.Pairwise (·≠·) _
  rw [List.pairwise_iff_getElem]
  intro i j hi hj hij he
  have hj':j<xs.length:=by simpa using hj
  have hi':i<xs.length:=by omega
  have:=h.apart i j xs[i] xs[j] (by simp [hi']) (by simp [hj']) (by simpa [hi',hj'] using he)
  omega
 ·obtain ⟨i,x,e1,e2,rfl⟩:=hm l hl
  have:=(h.fact i x e1).1
  exact ⟨this.1,this.2.1,by omega,this.2.2.2⟩
 ·obtain ⟨i,x,e1,e2,rfl⟩:=hm l hl
  exact (h.fact i x e1).2.1
 ·obtain ⟨i,x,e1,e2,rfl⟩:=hm l hl
  rw [(h.fact i x e1).2.2];exact Nat.le_refl _
def Sb (w:World) (S td:Nat) (v:Value) (M:Mx):Prop:=w.heap[S]?=some (.cells #[.int .i64 (td:Int),v,.map (some M.o),.map (some M.h),.map (some M.r)] 80 (0,0))
def LtsP (b S td:Nat) (M:Mx) (w:World) (X:Option (List L × List UInt8)) (e:Ending) (w':World):Prop:=match X with
 | some (ls,r)=>e=.returned (.tuple #[])∧(∃ v bs pvs,PW 128849018820 w' S v bs pvs ls∧Sb w' S td v M∧(∀ k ∈ bs,w.heap.size≤k)∧(∀ pv ∈ pvs,∀ q,pv.ownBlock=some q→w.heap.size≤q)∧(∀ g,v.ownBlock=some g→w.heap.size≤g))∧Kt b S w w' r
 | none=>Bt b S w e w'
set_option maxHeartbeats 6400000 in
theorem readLots_any (b S:Nat) (hb:NU≤b) (hS:NU≤S) (l:List UInt8) (hl:l.length≤1000000000) (w:World) (hg:Gl w) (hu:Gu w) (hr:w.heap[b]?=some (.cells #[.string (bst l)] 147 (0,0))) (td:Nat) (v0:Value) (M:Mx) (hs:Sb w S td v0 M) :
  Calls Tryz.prog 91 #[.pointer (some ⟨S,0,none⟩),.pointer (some ⟨b,0,none⟩)] w (LtsP b S td M w (rdLots l)):=by
 obtain ⟨X,HX⟩:∃ X,Hid (X=rdLots l):=⟨_,rfl⟩
 rw [← HX.out]
 obtain ⟨i0,hi,hz0,hz1,hz2⟩:=info_parts infoPL
 have HU:=hide tUPL
 have k0:Kt b S w w l:=Kt.refl hr
 have hbw:=blk_lt hr
 have HSB:=hide hs
 have hbS:S≠b:=fun e=>by rw [← e] at hr;unfold Sb at hs;rw [hs] at hr;cases hr
 go_enter Tryz.func91,Tryz.ntmps91
 go_wp2_with fail
 refine (btw_any b hb l hl 0 30 (by omega) (by omega) w hg hu (Rd.refl hr)).mono ?_
 intro e w1 hm
 rcases h1:rdB 0 30 l with _ | ⟨n,r1⟩
 ·rw [h1] at hm
  obtain ⟨t,v,rfl⟩:=hm.1
  refine ⟨rfl,?_⟩
  show LtsP b S td M w X _ _
  rw [show X=none by rw [HX.out];unfold rdLots;simp only [h1,Option.bind_none]]
  exact k0.broke hm
 rw [h1] at hm
 obtain ⟨rfl,hd1⟩:=hm
 have k1:=k0.step hd1
 obtain ⟨_,hn30,hl1⟩:=rdB_some h1
 have hs1:Sb w1 S td v0 M:=(hd1.block S hbS).trans hs
 clear hd1
 go_wp2_with fail
 refine (rdNum_any b hb r1 (by omega) w1 (k1.gl hb hS hg) k1.rd).mono ?_
 intro e w2 hm
 rcases h2:rd1 r1 with _ | ⟨d,r2⟩
 ·rw [h2] at hm
  obtain ⟨t,v,rfl⟩:=hm.1
  refine ⟨rfl,?_⟩
  show LtsP b S td M w X _ _
  rw [show X=none by rw [HX.out];unfold rdLots;simp only [h1,h2,Option.bind_some,Option.bind_none]]
  exact k1.broke hm
 rw [h2] at hm
 obtain ⟨rfl,hd2⟩:=hm
 have k2:=k1.step hd2
 have hs2:Sb w2 S td v0 M:=(hd2.block S hbS).trans hs1
 have hl2:=rd1_len h2
 have hd63:d<9223372036854775808:=by
  unfold rd1 at h2
  split at h2
  ·cases h2
  ·cases h2;exact Pl.fst_lt _
 clear hd2 hs hs1 k0 k1
 by_cases hdn:d=n
 ·have HXE:Hid (X=(rdLs n n 0 (List.replicate n none) r2).bind fun r=>(tfA n 0 (r.1.map fun o=>o.getD L0)).bind fun ls=>some (ls,r.2)):=by
   unfold Hid;rw [HX.out];unfold rdLots;simp only [h1,h2,Option.bind_some];rw [if_pos hdn]
  have hdb:=beqN_t hdn
  clear hdn
  go_wp2_with fail
  refine (must_any true w2 (k2.gu hb hS hu)).mono ?_
  rintro _ wz ⟨rfl,hm⟩
  rw [if_pos rfl] at hm
  subst hm
  have f1:=blk_free hs2 1
  have hmk:∀ w:World,(Instr.makeSlice 78 (.int .i64 (n:Int)) (.int .i64 (n:Int))).run Tryz.prog w=.ok (.slice (some ⟨w.heap.size,0,none⟩) n n) (w.alloc (.cells (madeCells #[.pointer none] n) 129)):=fun w=>run_make_row' 78 129 (.pointer none) 8 tUPL infoPL rfl .i64 .i64 n (by omega) (by omega) w
  have hB:=al1 wz (.cells (madeCells #[.pointer none] n) 129)
  have hrow:=row_made wz w.heap.size k2.kp.size 129 (.pointer none) n hn30
  have k3:=k2.after hB
  have hs3:Sb (wz.alloc (.cells (madeCells #[.pointer none] n) 129)) S td v0 M:=(hB.block S (blk_lt hs2)).trans hs2
  have f1:=blk_free hs3 1
  have c1:(wz.alloc (.cells (madeCells #[.pointer none] n) 129)).cell? ⟨S,1,none⟩=some v0:=by rw [blk_cell hs3];rfl
  obtain ⟨G,hG⟩:∃ G,G=wz.heap.size:=⟨_,rfl⟩
  have HG:=hide hG
  have hs4:=heap_setCell_same _ S 1 _ 80 (.slice (some ⟨wz.heap.size,0,none⟩) n n) hs3
  have HS4:Hid (Sb ((wz.alloc (.cells (madeCells #[.pointer none] n) 129)).setCell ⟨S,1,none⟩ (.slice (some ⟨wz.heap.size,0,none⟩) n n)) S td (.slice (some ⟨G,0,none⟩) n n) M):=by rw [hG];exact hs4
  have HK4:Hid (Kt b S w ((wz.alloc (.cells (madeCells #[.pointer none] n) 129)).setCell ⟨S,1,none⟩ (.slice (some ⟨wz.heap.size,0,none⟩) n n)) r2):=⟨k3.kp.setCell (p:=⟨S,1,none⟩) (Or.inl (Or.inr rfl)) _,(Below.heap_setCell _ _ _ _ (Ne.symm hbS)).trans k3.here⟩
  have HL4:Hid (SLt w.heap.size ((wz.alloc (.cells (madeCells #[.pointer none] n) 129)).setCell ⟨S,1,none⟩ (.slice (some ⟨wz.heap.size,0,none⟩) n n)) (.slice (some ⟨G,0,none⟩) n n) (List.replicate n none)):=by
   have h0:SLt w.heap.size (wz.alloc (.cells (madeCells #[.pointer none] n) 129)) (.slice (some ⟨G,0,none⟩) n n) (List.replicate n none):=by
    have hno:∀ (i:Nat) (x:Sl),(List.replicate n (none:Option Sl))[i]?=some (some x)→False:=fun i x hx=>by
     have:=List.mem_of_getElem? hx
     simp at this
    refine ⟨?_,fun i x hx=>(hno i x hx).elim,fun i j x y hx=>(hno i x hx).elim,fun i x hx=>(hno i x hx).elim⟩
    rw [hG,List.length_replicate]
    have:sptr (List.replicate n none)=List.replicate n (.pointer none):=by simp [sptr]
    rw [this];exact hrow
   exact h0.keep (fun k cs t hk _ ht=>Below.heap_setCell _ _ _ _ (ty_ne hk hs3 ht))
  clear HSB hr hrow k2 k3 hB hs3 hs2 hs4 hG h1 h2 HX
  obtain ⟨Z,HZ⟩:∃ Z,Hid (Z=rdLs n n 0 (List.replicate n none) r2):=⟨_,rfl⟩
  rw [← HZ.out] at HXE
  go_wp2_with fail
  go_loopw [5,6,22] (fun nv _ ii wr=>∃ (k p:Nat) (sq:List (Option Sl)) (q:List UInt8),ii=.int .i64 k∧k≤n∧nv=.int .i64 (p:Int)∧p≤2147483647∧sq.length=n∧(sl0 sq).countP Option.isSome=k∧q.length≤1000000000∧Sb wr S td (.slice (some ⟨G,0,none⟩) n n) M∧SLt w.heap.size wr (.slice (some ⟨G,0,none⟩) n n) sq∧Kt b S w wr q∧rdLs n (n - k) p (sl0 sq) q=Z) (fun _ _ ii _=>n - (intOf ii).toNat)
  case atStart=>exact ⟨0,0,List.replicate n none,r2,rfl,by omega,rfl,by omega,by simp,by simp [sl0,List.countP_replicate],by omega,HS4.out,HL4.out,HK4.out,by rw [Nat.sub_zero];simpa [sl0] using HZ.out.symm⟩
  case round =>
   clear HS4 HK4 HL4
   obtain ⟨k,p,sq,q,rfl,hk,rfl,hp,hsq,hcnt,hql,hsb,hsl,hkt,hZ⟩:=hrel
   by_cases hlt:k<n
   ·have HZE:Hid ((rdB (p+1) 2147483647 q).bind (fun a=>(rdLot a.1 n a.2).bind fun x=>if (sl0 sq).getD (x.1.place - 1) none=none then rdLs n (n - (k+1)) a.1 ((sl0 sq).set (x.1.place - 1) (some x.1)) x.2 else none)=Z):=by
     unfold Hid;rw [← hZ,show n - k=(n - (k+1))+1 by omega];rfl
    clear hZ
    have HA:=hide (above_any b hb q hql p hp wr (hkt.gl hb hS hg) (hkt.gu hb hS hu) hkt.rd)
    have HSBr:=hide hsb
    have HSLr:=hide hsl
    have HKTr:=hide hkt
    clear hsb hsl hkt
    go_wp2_with fail
    refine (HA.out).mono ?_
    intro e w5 hm
    rcases h5:rdB (p+1) 2147483647 q with _ | ⟨num,q5⟩
    ·rw [h5] at hm
     obtain ⟨t,v,rfl⟩:=hm.1
     refine ⟨rfl,?_⟩
     show LtsP b S td M w X _ _
     rw [show X=none by rw [HXE.out,← HZE.out,h5];rfl]
     exact HKTr.out.broke hm
    rw [h5] at hm
    obtain ⟨rfl,hd5⟩:=hm
    obtain ⟨_,hnum,hq5⟩:=rdB_some h5
    have k5:=HKTr.out.step hd5
    have hs5:Sb w5 S td (.slice (some ⟨G,0,none⟩) n n) M:=(hd5.block S hbS).trans HSBr.out
    have hl5:=HSLr.out.kr HKTr.out.here ((Kr.refl HKTr.out.here).step hd5)
    clear HA HSBr HSLr HKTr hd5
    go_wp2_with fail
    refine (readLot_any b hb num n hnum hn30 q5 (by omega) w5 (k5.gl hb hS hg) (k5.gu hb hS hu) k5.here).mono ?_
    intro e w6 hm
    rcases h6:rdLot num n q5 with _ | ⟨x,q6⟩
    ·rw [h6] at hm
     have hm':Bk b w5 e w6:=hm
     obtain ⟨t,v,rfl⟩:=hm'.1
     refine ⟨rfl,?_⟩
     show LtsP b S td M w X _ _
     rw [show X=none by rw [HXE.out,← HZE.out,h5];simp only [Option.bind_some,h6,Option.bind_none]]
     exact k5.bk hm'
    rw [h6] at hm
    obtain ⟨⟨qb,pv,rfl,hqb,hqc,hpo⟩,hk6⟩:=hm
    have hxf:=rdLot_facts h6
    have k6:=k5.kr hk6
    have hs6:Sb w6 S td (.slice (some ⟨G,0,none⟩) n n) M:=(hk6.kp.block S (blk_lt hs5) hbS).trans hs5
    have hl6:=hl5.kr k5.here hk6
    have HZF:Hid ((if (sl0 sq).getD (x.place - 1) none=none then rdLs n (n - (k+1)) num ((sl0 sq).set (x.place - 1) (some x)) q6 else none)=Z):=by unfold Hid;rw [← HZE.out,h5];simp only [Option.bind_some,h6]
    obtain ⟨i,HI⟩:∃ i,Hid (i=x.place - 1):=⟨_,rfl⟩
    have hin:i<n:=by rw [HI.out];omega
    have HPL:Hid (x.place=i+1):=by unfold Hid;rw [HI.out];omega
    rw [← HI.out] at HZF
    have s1:w6.cell? ⟨S,1,none⟩=some (.slice (some ⟨G,0,none⟩) n n):=by rw [blk_cell hs6];rfl
    have x3:w6.cell? ⟨qb,3,none⟩=some (.int .i64 ((i:Int)+1)):=by
     rw [blk_cell hqc]
     show some (Value.int .i64 (x.place:Int))=_
     rw [HPL.out];rfl
    have HKK:=hide k6
    have HSS:=hide hs6
    have HLL:=hide hl6
    have HQC:=hide hqc
    have HPO:=hide (own_lower hpo k5.kp.size)
    have HQB:Hid (w5.heap.size≤qb):=hqb
    have HL5:=hide hl5
    have HW5:=hide k5.kp.size
    have hcell:w6.cell? ⟨G,i,none⟩=some (.pointer ((sq.getD i none).map fun x=>(⟨x.b,0,none⟩:Addr))):=by
     have hrow6:=hl6.row
     rw [hsq] at hrow6
     rw [hrow6.cellAt i (by omega)]
     simp [sptr,List.getD_eq_getElem?_getD,show i<sq.length by rw [hsq];exact hin]
    have HMT:Hid (Calls Tryz.prog 89 #[.bool true] w6.drew fun e w'=>w'=w6.drew∧e=.returned (.tuple #[])):=by
     refine (must_any true _ (show Gu w6.drew from k6.gu hb hS hu)).mono ?_
     rintro e w' ⟨h1,h2⟩
     rw [if_pos rfl] at h2
     exact ⟨h1,h2⟩
    have HMF:Hid (Calls Tryz.prog 89 #[.bool false] w6.drew fun e w'=>w'=w6.drew∧∃ t v,e=.panicked [{ v:=.iface t v,recovered:=false }]):=by
     refine (must_any false _ (show Gu w6.drew from k6.gu hb hS hu)).mono ?_
     rintro e w' ⟨h1,h2⟩
     rw [if_neg (by simp)] at h2
     exact ⟨h1,h2⟩
    clear k5 k6 hs6 hl6 hs5 hl5 hqc hpo hk6 h5 h6 HZE hqb
    cases ho:sq.getD i none with
    | none =>
     rw [ho] at hcell
     have hcell':w6.cell? ⟨G,i,none⟩=some (.pointer none):=hcell
     have s1':=s1
     have x3':=x3
     clear hcell
     go_wp2_with fail
     obtain ⟨S0,hS0⟩:∃ S0:World→Prop,∀ w',S0 w'↔(w'.cell? ⟨S,1,none⟩=some (.slice (some ⟨G,0,none⟩) n n)∧w'.cell? ⟨qb,3,none⟩=some (.int .i64 ((i:Int)+1))∧w'.cell? ⟨G,i,none⟩=some (.pointer none)):=⟨_,fun _=>Iff.rfl⟩
     have z0:∀ x:Wd S0,x.w.cell? ⟨S,1,none⟩=some (.slice (some ⟨G,0,none⟩) n n):=fun x=>((hS0 _).1 x.h).1
     have z1:∀ x:Wd S0,x.w.cell? ⟨qb,3,none⟩=some (.int .i64 ((i:Int)+1)):=fun x=>((hS0 _).1 x.h).2.1
     have z2:∀ x:Wd S0,x.w.cell? ⟨G,i,none⟩=some (.pointer none):=fun x=>((hS0 _).1 x.h).2.2
     have hS2:S0 w6.drew:=(hS0 _).2 ⟨s1,x3,hcell'⟩
     clear hS0 s1 x3 hcell'
     haveI hinh:Inhabited (Wd S0):=⟨⟨_,hS2⟩⟩
     refine wp_region_lit (n:=8) (m:=1) 12 12 (fun w'=>∃ x:Wd S0,w'=x.w) (by kernel_rfl) (by kernel_rfl) (fun _ _ d _ _ h=>by cases d <;> exact h) (by kernel_rfl) (by kernel_rfl) rfl rfl ⟨⟨_,hS2⟩,rfl⟩ ?_
     clear hS2
     dsimp only [List.take]
     repeat (go_big_quiet_step (fail))
     refine wpQuiet_nil ?_
     refine wpN_one (i:=12) (by kernel_rfl) rfl rfl (fun K hK=>?_)
     go_wp2_with (go_at_call 89;refine (HMT.out).mono ?_;rintro _ w7 ⟨rfl,rfl⟩)
     refine hK _ _ (by first | exact Or.inl rfl | exact Or.inl trivial | trivial) ?_
     refine wpN_done (by kernel_rfl) ?_
     clear hK z0 z1 z2
     have HSN:Hid (SLt w.heap.size (w6.setCell ⟨G,i,none⟩ (.pointer (some ⟨qb,0,none⟩))) (.slice (some ⟨G,0,none⟩) n n) (sq.set i (some ⟨x,qb,pv⟩))):=by
      refine HLL.out.put hsq.symm hin (x:=⟨x,qb,pv⟩) ⟨HQC.out,Nat.le_trans HW5.out HQB.out,HPO.out⟩ (fun j y hy e=>?_) ⟨⟨by show x.id≤_;omega,hxf.2.1,HPL.out,hxf.2.2.1⟩,hxf.2.2.2.2.1,hxf.2.2.2.2.2.1⟩
      have h1:=blk_lt (HL5.out.lot j y hy).1
      have h2:y.b=qb:=e
      have:=HQB.out
      omega
     obtain ⟨csG,hGc⟩:=own_ty HLL.out.row (g:=G) rfl
     have HGB:Hid (w.heap.size≤G):=(HLL.out.row.lt G rfl).1
     have HSM:Hid (Sb (w6.setCell ⟨G,i,none⟩ (.pointer (some ⟨qb,0,none⟩))) S td (.slice (some ⟨G,0,none⟩) n n) M):=(Below.heap_setCell _ _ _ _ (ty_ne HSS.out hGc (by decide))).trans HSS.out
     have HKM:Hid (Kt b S w (w6.setCell ⟨G,i,none⟩ (.pointer (some ⟨qb,0,none⟩))) q6):=⟨HKK.out.kp.setCell (p:=⟨G,i,none⟩) (Or.inr HGB.out) _,(Below.heap_setCell _ _ _ _ (ty_ne HKK.out.here hGc (by decide))).trans HKK.out.here⟩
     have hfG:=blk_free hGc i
     have s1:w6.cell? ⟨S,1,none⟩=some (.slice (some ⟨G,0,none⟩) n n):=s1'
     have hcG:w6.cell? ⟨G,i,none⟩=some (.pointer none):=by
      have hrow6:=HLL.out.row
      rw [hsq] at hrow6
      rw [hrow6.cellAt i (by omega)]
      have hi':i<sq.length:=by rw [hsq];exact hin
      simp only [List.getD_eq_getElem?_getD,List.getElem?_eq_getElem hi',Option.getD_some] at ho
      simp [sptr,hi',ho]
     have HSE:Hid (sl0 (sq.set i (some ⟨x,qb,pv⟩))=(sl0 sq).set i (some x)):=by simp [Hid,sl0,List.map_set]
     have HHO:Hid ((sl0 sq).getD i none=none):=by
      have:(sl0 sq).getD i none=(sq.getD i none).map Sl.l:=by
       simp [sl0,List.getD_eq_getElem?_getD,show i<sq.length by rw [hsq];exact hin]
      rw [Hid,this,ho];rfl
     have HCN:Hid ((sl0 (sq.set i (some ⟨x,qb,pv⟩))).countP Option.isSome=k+1):=by
      rw [Hid,HSE.out,cnt_put (by simp [sl0,hsq,hin]) HHO.out,hcnt]
     have HZN:Hid (rdLs n (n - (k+1)) num (sl0 (sq.set i (some ⟨x,qb,pv⟩))) q6=Z):=by
      rw [Hid,HSE.out,← HZF.out,if_pos HHO.out]
     have hq6:=hxf.2.2.2.2.2.2
     clear HMT HMF HLL HSS HKK HQC HPO HL5 HSE HHO HZF hGc ho hcnt
     go_wp2_with fail
     go_region
     go_wp2_with fail
     go_roundw
     case rel=>exact ⟨k+1,num,sq.set i (some ⟨x,qb,pv⟩),q6,by go_num,by omega,rfl,hnum,by rw [List.length_set];exact hsq,HCN.out,by omega,HSM.out,HSN.out.below ((Below.refl _ _).drew.drew),HKM.out.after ((Below.refl _ _).drew.drew),HZN.out⟩
     case measure=>simp [intOf];omega
    | some y =>
     rw [ho] at hcell
     have hcell':w6.cell? ⟨G,i,none⟩=some (.pointer (some ⟨y.b,0,none⟩)):=hcell
     have HXN:Hid (X=none):=by
      unfold Hid
      rw [HXE.out,← HZF.out,if_neg]
      ·rfl
      ·intro hc
       have:(sl0 sq).getD i none=(sq.getD i none).map Sl.l:=by
        simp [sl0,List.getD_eq_getElem?_getD,show i<sq.length by rw [hsq];exact hin]
       rw [this,ho] at hc
       cases hc
     clear hcell
     go_wp2_with fail
     obtain ⟨S0,hS0⟩:∃ S0:World→Prop,∀ w',S0 w'↔(w'.cell? ⟨S,1,none⟩=some (.slice (some ⟨G,0,none⟩) n n)∧w'.cell? ⟨qb,3,none⟩=some (.int .i64 ((i:Int)+1))∧w'.cell? ⟨G,i,none⟩=some (.pointer (some ⟨y.b,0,none⟩))):=⟨_,fun _=>Iff.rfl⟩
     have z0:∀ x:Wd S0,x.w.cell? ⟨S,1,none⟩=some (.slice (some ⟨G,0,none⟩) n n):=fun x=>((hS0 _).1 x.h).1
     have z1:∀ x:Wd S0,x.w.cell? ⟨qb,3,none⟩=some (.int .i64 ((i:Int)+1)):=fun x=>((hS0 _).1 x.h).2.1
     have z2:∀ x:Wd S0,x.w.cell? ⟨G,i,none⟩=some (.pointer (some ⟨y.b,0,none⟩)):=fun x=>((hS0 _).1 x.h).2.2
     have hS2:S0 w6.drew:=(hS0 _).2 ⟨s1,x3,hcell'⟩
     clear hS0 s1 x3 hcell'
     haveI hinh:Inhabited (Wd S0):=⟨⟨_,hS2⟩⟩
     refine wp_region_lit (n:=8) (m:=1) 12 12 (fun w'=>∃ x:Wd S0,w'=x.w) (by kernel_rfl) (by kernel_rfl) (fun _ _ d _ _ h=>by cases d <;> exact h) (by kernel_rfl) (by kernel_rfl) rfl rfl ⟨⟨_,hS2⟩,rfl⟩ ?_
     clear hS2
     dsimp only [List.take]
     repeat (go_big_quiet_step (fail))
     refine wpQuiet_nil ?_
     refine wpN_one (i:=12) (by kernel_rfl) rfl rfl (fun K hK=>?_)
     go_wp2_with (go_at_call 89;refine (HMF.out).mono ?_;rintro _ w7 ⟨rfl,t,v,rfl⟩)
     refine ⟨rfl,?_⟩
     show LtsP b S td M w X _ _
     rw [HXN.out]
     exact ⟨⟨t,v,rfl⟩,(HKK.out.after ((Below.refl _ _).drew)).kp⟩
   ·have hkn:k=n:=by omega
    subst hkn
    rw [Nat.sub_self] at hZ
    obtain ⟨xs,hxs⟩:=all_some sq (by
     have:(sl0 sq).countP Option.isSome=sq.countP Option.isSome:=by
      simp only [sl0,List.countP_map]
      congr 1
      funext o;cases o <;> rfl
     rw [← this,hcnt,hsq])
    subst hxs
    have hxl:xs.length=k:=by simpa using hsq
    have HXF:Hid (X=(tfA k 0 (xs.map Sl.l)).bind fun ls=>some (ls,q)):=by
     rw [Hid,HXE.out,← hZ,rdLs]
     simp only [Option.bind_some]
     congr 2
     simp [sl0]
    have s1:wr.cell? ⟨S,1,none⟩=some (.slice (some ⟨G,0,none⟩) k k):=by rw [blk_cell hsb];rfl
    have HPW:Hid (PW 0 wr S (.slice (some ⟨G,0,none⟩) k k) (xs.map Sl.b) (xs.map Sl.pv) (xs.map Sl.l)):=hsl.done s1 (by omega)
    have HGB:Hid (w.heap.size≤G):=(hsl.row.lt G rfl).1
    have HBB:Hid (∀ z ∈ xs.map Sl.b,w.heap.size≤z):=fun z hz=>by
     obtain ⟨x,hx,rfl⟩:=List.mem_map.1 hz
     obtain ⟨i,hi,rfl⟩:=List.getElem_of_mem hx
     exact (hsl.lot i xs[i] (by simp [hi])).2.1
    have HPB:Hid (∀ pv ∈ xs.map Sl.pv,∀ q,pv.ownBlock=some q→w.heap.size≤q):=fun pv hpv q hq=>by
     obtain ⟨x,hx,rfl⟩:=List.mem_map.1 hpv
     obtain ⟨i,hi,rfl⟩:=List.getElem_of_mem hx
     exact ((hsl.lot i xs[i] (by simp [hi])).2.2.lt q hq).1
    have HSBr:=hide hsb
    have HKTr:=hide hkt
    have hbl:(xs.map Sl.b).length=k:=by simpa using hxl
    have hll:(xs.map Sl.l).length=k:=by simpa using hxl
    clear hsl hsb hkt hZ hcnt HXE HZ hsq hxl
    generalize xs.map Sl.b=bs at *
    generalize xs.map Sl.pv=pvs at *
    generalize xs.map Sl.l=ls at *
    obtain ⟨Y,HY⟩:∃ Y,Hid (Y=tfA k 0 ls):=⟨_,rfl⟩
    rw [← HY.out] at HXF
    go_wp2_with fail
    go_loopw [8,61] (fun _ ii wr=>∃ (i:Nat) (ls2:List L),ii=.int .i64 i∧i≤k∧ls2.length=k∧PW (i * 4294967294) wr S (.slice (some ⟨G,0,none⟩) k k) bs pvs ls2∧Sb wr S td (.slice (some ⟨G,0,none⟩) k k) M∧Kt b S w wr q∧tfA (k - i) i ls2=Y) (fun _ ii _=>k - (intOf ii).toNat)
    case atStart=>exact ⟨0,ls,rfl,by omega,hll,by rw [Nat.zero_mul];exact HPW.out,HSBr.out,HKTr.out,by rw [Nat.sub_zero];exact HY.out.symm⟩
    case round =>
     clear HPW HSBr HKTr s1
     obtain ⟨i,ls2,rfl,hik,hl2,hpw,hsb,hkt,hY⟩:=hrel
     by_cases hlt2:i<k
     ·have HTF:=hide (takeP_any hpw (by omega) i (by rw [hl2];exact hlt2) (hkt.gu hb hS hu) (fun z hz e=>by
       have h1:=HBB.out z hz
       unfold NU at hb
       omega))
      have HYE:Hid ((tfp ls2 i).bind (fun ls'=>tfA (k - (i+1)) (i+1) ls')=Y):=by
       unfold Hid;rw [← hY,show k - i=(k - (i+1))+1 by omega];rfl
      obtain ⟨a,cap,hv,hrow⟩:=hpw.shape
      obtain ⟨G',hG',hcells⟩:=hrow (by rw [hl2];omega)
      have hcc:=hcells i (by rw [hl2];exact hlt2)
      rw [hG'] at hv
      have hGG:G'=G:=by cases hv;rfl
      subst hGG
      have HPW:=hide hpw
      have HSBr:=hide hsb
      have HKTr:=hide hkt
      obtain ⟨bi,HBI⟩:∃ bi,Hid (bi=bs.getD i 0):=⟨_,rfl⟩
      rw [← HBI.out] at hcc HTF
      clear hpw hsb hkt hY hrow hcells hG' hv
      go_wp2_with fail
      refine (HTF.out).mono ?_
      intro e w8 hm
      cases h8:tfp ls2 i with
      | none =>
       rw [h8] at hm
       obtain ⟨⟨t,v,rfl⟩,hkp8⟩:=hm
       refine ⟨rfl,?_⟩
       show LtsP b S td M w X _ _
       rw [show X=none by rw [HXF.out,← HYE.out,h8];rfl]
       exact ⟨⟨t,v,rfl⟩,HKTr.out.kp.trans (hkp8.mono (fun z hz=>Or.inr (HBB.out z hz)))⟩
      | some ls3 =>
       rw [h8] at hm
       obtain ⟨rfl,hpw3,hkp8⟩:=hm
       have hnb:∀ z cs t,wr.heap[z]?=some (.cells cs t (0,0))→t≠153→z ∉ bs:=fun z cs t hz ht hm=>by
        obtain ⟨j,hj,rfl⟩:=List.getElem_of_mem hm
        have:=HPW.out.lot j (by rw [hl2,← hbl];exact hj)
        simp only [List.getD_eq_getElem?_getD,List.getElem?_eq_getElem hj,Option.getD_some] at this
        exact ty_ne hz this ht rfl
       have HSB8:Hid (Sb w8 S td (.slice (some ⟨G',0,none⟩) k k) M):=(hkp8.block S (blk_lt HSBr.out) (hnb S _ _ HSBr.out (by decide))).trans HSBr.out
       have HKT8:Hid (Kt b S w w8 q):=⟨HKTr.out.kp.trans (hkp8.mono (fun z hz=>Or.inr (HBB.out z hz))),(hkp8.block b (blk_lt HKTr.out.here) (hnb b _ _ HKTr.out.here (by decide))).trans HKTr.out.here⟩
       have HL3:Hid (ls3.length=k):=by rw [Hid,← hpw3.len,hbl]
       have HPW3:=hide hpw3
       have HY3:Hid (tfA (k - (i+1)) (i+1) ls3=Y):=by rw [Hid,← HYE.out,h8];rfl
       clear hpw3 hkp8 h8 HTF HPW HSBr HKTr HYE hnb
       go_wp2_with fail
       go_roundw
       case rel=>exact ⟨i+1,ls3,by go_num,by omega,HL3.out,by rw [Nat.succ_mul];exact HPW3.out,HSB8.out,HKT8.out,HY3.out⟩
       case measure=>simp [intOf];omega
     ·have hie:i=k:=by omega
      subst hie
      rw [Nat.sub_self] at hY
      have HXS:Hid (X=some (ls2,q)):=by rw [Hid,HXF.out,← hY];rfl
      have HPW:=hide hpw
      have HSBr:=hide hsb
      have HKTr:=hide hkt
      clear hpw hsb hkt hY
      go_wp2_with fail
      go_end0
      show LtsP b S td M w X _ _
      rw [HXS.out]
      have p:=HPW.out
      exact ⟨rfl,⟨_,bs,pvs,⟨p.c1,p.row,p.len,p.plen,p.lot,p.par,p.nodup,p.ids,p.pars,fun l hl=>Nat.le_trans (p.giv l hl) (by omega),p.room⟩,HSBr.out,HBB.out,HPB.out,fun g hg=>by cases hg;exact HGB.out⟩,HKTr.out⟩
 ·have hdb:=beqN_f hdn
  have HXN:Hid (X=none):=by
   unfold Hid;rw [HX.out];unfold rdLots;simp only [h1,h2,Option.bind_some];rw [if_neg hdn]
  clear hdn
  go_wp2_with fail
  refine (must_any false w2 (k2.gu hb hS hu)).mono ?_
  rintro _ wz ⟨rfl,hm⟩
  rw [if_neg (by simp)] at hm
  obtain ⟨t,v',rfl⟩:=hm
  refine ⟨rfl,?_⟩
  show LtsP b S td M w X _ _
  rw [HXN.out]
  exact ⟨⟨t,v',rfl⟩,k2.kp⟩
end Go.Proofs.YtgcedalggnmooabGreatDoor
