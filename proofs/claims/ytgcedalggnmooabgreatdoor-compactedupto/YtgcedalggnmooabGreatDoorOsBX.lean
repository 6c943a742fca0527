import Derived.Test.YtgcedalggnmooabGreatDoorOpC
import Derived.Test.YtgcedalggnmooabGreatDoorFpX
import Derived.Deep.RegionHeld
set_option linter.unusedSimpArgs false
set_option linter.unusedVariables false
set_option maxRecDepth 100000
namespace Go.Proofs.YtgcedalggnmooabGreatDoor
open Go.RowKit
def stepL (s:Sv) (t:ByteArray):Sv:=if s.lg=[]∧t.data.toList.getD 0 0=13 then (match rdState t.data.toList with | some (td,ls,os,rcs)=>⟨td,os,rcs,ls,frmB t.data.toList⟩ | none=>s) else stepB s t
theorem stepL_grows (s:Sv) (t:ByteArray):s.lg.length≤(stepL s t).lg.length:=by
 unfold stepL
 split
 ·rename_i h
  rw [h.1];exact Nat.zero_le _
 ·show _≤(lgX _ _ _).length
  unfold lgX
  split
  ·rw [List.length_append];omega
  ·omega
structure GmU (B:Nat) (w:World):Prop where
 gm:GmB B w
 un:Gu w
 lt:4<B
theorem GmU.at {B:Nat} {w0 w:World} (h:GmU B w0) (hb:Below B w0 w):GmU B w:=by
 obtain ⟨t,v,hc⟩:=h.un
 exact ⟨h.gm.at hb,⟨t,v,by rw [hb.cell h.lt];exact hc⟩,h.lt⟩
theorem GmU.up {B:Nat} {w0 w:World} (h:GmU B w0) (hb:Below B w0 w) (hs:B≤w.heap.size):GmU w.heap.size w:=by
 have k:=h.at hb
 exact ⟨⟨k.gm.nogo,k.gm.chk,Nat.lt_of_lt_of_le k.gm.lt1 hs,Nat.lt_of_lt_of_le k.gm.lt2 hs⟩,k.un,Nat.lt_of_lt_of_le k.lt hs⟩
theorem isState_yes (t:ByteArray) (h:t.data.toList.getD 0 0=13) (w:World) :
  Calls Tryz.prog 59 #[.string t] w fun e w'=>e=.returned (.bool true)∧w'=w:=by
 have h0:t.size≠0:=fun h0=>by
  have:t.data.toList.length=0:=by rw [Array.length_toList];exact h0
  rw [List.length_eq_zero_iff.1 this] at h;cases h
 have he:t.toList.isEmpty=false:=by
  rw [ByteArray.toList_eq]
  have:t.data.toList.length≠0:=by rw [Array.length_toList];exact h0
  cases hq:t.data.toList with
  | nil=>rw [hq] at this;exact absurd rfl this
  | cons=>rfl
 have h1:0<t.size:=by omega
 have hx:(t[0].toNat:Int)=13:=by
  have:t.data.toList.getD 0 0=t[0]:=by rw [ba_getD t 0 h1]
  rw [this] at h
  rw [h];rfl
 go_enter Tryz.func59,Tryz.ntmps59
 go_wp2_with fail
 go_ret
 exact ⟨rfl,rfl⟩
theorem PS.anewS {lg f:List UInt8} {rcs rcs':List (Nat × Nat)} {Z Zs:Nat→Prop} {w w1 w5:World} {Lb td td' S S':Nat} {ls ls':List L} {os os':List O} {lv lv':Value} (h:PS lg os rcs Z w Lb td ls S Zs lv) (hf:f≠[])
  (hb:Below w.heap.size w w1) (hpi:PI os' rcs' (fun k=>w.heap.size≤k) w1 S' td' ls')
  (hb5:Below w1.heap.size (w1.setCell ⟨Lb,0,none⟩ (.pointer (some ⟨S',0,none⟩))) w5) (ho:w5.ownsRow w1.heap.size 5 1 lv' f.length (U8 f)) :
  Kp Z w (w5.setCell ⟨Lb,1,none⟩ lv')∧PL f os' rcs' (Zn Z w) (w5.setCell ⟨Lb,1,none⟩ lv') Lb td' ls':=by
 have hlt:=blk_lt h.here
 have hs1:=hb.size
 have hL1:=(hb.block Lb hlt).trans h.here
 have hself1:=heap_setCell_same w1 Lb 0 _ 53 (.pointer (some ⟨S',0,none⟩)) hL1
 have hL5:=(hb5.block Lb (by omega)).trans hself1
 have hself:=heap_setCell_same w5 Lb 1 _ 53 lv' hL5
 have hoth:∀ k,k≠Lb→(w5.setCell ⟨Lb,1,none⟩ lv').heap[k]?=w5.heap[k]?:=fun k hk=>Below.heap_setCell _ _ _ _ hk
 have hoth1:∀ k,k≠Lb→(w1.setCell ⟨Lb,0,none⟩ (.pointer (some ⟨S',0,none⟩))).heap[k]?=w1.heap[k]?:=fun k hk=>Below.heap_setCell _ _ _ _ hk
 have hsz1:(w1.setCell ⟨Lb,0,none⟩ (.pointer (some ⟨S',0,none⟩))).heap.size=w1.heap.size:=by simp [World.setCell]
 have hs5:=hb5.size
 rw [hsz1] at hs5
 have hsz:(w5.setCell ⟨Lb,1,none⟩ lv').heap.size=w5.heap.size:=by simp [World.setCell]
 have hall:∀ k,k<w1.heap.size→k≠Lb→(w5.setCell ⟨Lb,1,none⟩ lv').heap[k]?=w1.heap[k]?:=fun k hk hne=>(hoth k hne).trans ((hb5.block k hk).trans (hoth1 k hne))
 have hlv':∀ k,lv'.ownBlock=some k→w1.heap.size≤k:=fun k hk=>(ho.lt k hk).1
 obtain ⟨M,v,bs,pvs,hP,hin⟩:=hpi
 have hin2:=hP.bound hin
 refine ⟨⟨hb5.os.trans hb.os,hb5.tape.trans hb.tape,hb5.output.trans hb.output,by rw [hsz];omega,fun k hk hz=>?_⟩,S',fun k=>w.heap.size≤k∧k<w1.heap.size,lv',hself,Or.inl h.inZ,fun q=>by omega,fun k q=>Or.inr q.1,?_,⟨own_congr (own_lower ho (Nat.zero_le _)) (fun k hk=>hoth k (fun e=>?_)),fun e=>absurd e hf⟩,fun k hk=>?_⟩
 ·have hzl:k≠Lb:=fun e=>hz (e ▸ h.inZ)
  exact (hall k (by omega) hzl).trans (hb.block k hk)
 ·exact ⟨M,v,bs,pvs,hP.congr hin2 (fun k hk=>hall k hk.2 (fun e=>by have:=hk.1;omega)),hin2⟩
 ·have:=hlv' k hk;omega
 ·have:=hlv' k hk
  exact ⟨Or.inr (by omega),by omega,fun z=>by omega⟩
def RedoS (B:Nat) (w0:World) (Z:Nat→Prop) (w:World) (Lb:Nat) (s:Sv) (t:ByteArray) (e:Ending) (w':World):Prop :=
 (((stepL s t).lg.length≠s.lg.length∧e=.returned (.tuple #[]))∨((stepL s t).lg.length=s.lg.length∧∃ u v,e=.panicked [{ v:=.iface u v,recovered:=false }]))∧∃ Z',Kv B w0 w' Z' Lb (stepL s t)∧Kn Z w Z' w'
set_option maxHeartbeats 1600000 in
theorem redoS_any {B:Nat} {w0 w:World} {Z:Nat→Prop} {Lb:Nat} {s:Sv} (h:Kv B w0 w Z Lb s) (hm:GmU B w0) (t:ByteArray) (ht:t.size≤2097152) (hlg:s.lg.length≤35184372088832) (hst:s.lg=[]→t.data.toList.getD 0 0=13→∀ td ls os rcs,rdState t.data.toList=some (td,ls,os,rcs)→Good os ls) :
  Calls Tryz.prog 39 #[.pointer (some ⟨Lb,0,none⟩),.string t] w (RedoS B w0 Z w Lb s t):=by
 by_cases hS:s.lg=[]∧t.data.toList.getD 0 0=13
 ·obtain ⟨h0,h13⟩:=hS
  obtain ⟨S,Zs,lv,hps⟩:=h.pl.ps
  obtain rfl:lv=.slice none 0 0:=hps.log.2 h0
  have hL:=hps.here
  have c0:w.cell? ⟨Lb,0,none⟩=some (.pointer (some ⟨S,0,none⟩)):=by rw [blk_cell hL];rfl
  have c1:w.cell? ⟨Lb,1,none⟩=some (.slice none 0 0):=by rw [blk_cell hL];rfl
  have HIS:=hide (isState_yes t h13 w)
  have HFS:=hide (fromState_any t (by omega) w h.gl (hm.at h.old).un)
  have hgd:=hst h0 h13
  cases hX:rdState t.data.toList with
  | none =>
   have e:stepL s t=s:=by unfold stepL;rw [if_pos ⟨h0,h13⟩,hX]
   rw [hX] at HFS
   have HK:=hide h
   have HE:=hide e
   clear h hst hgd hps e
   go_enter Tryz.func39,Tryz.ntmps39
   go_wp2_with (go_at_call 59;refine (HIS.out).mono ?_;rintro e w1 ⟨rfl,hw1⟩;have hw2:=hw1.symm;subst hw2;clear hw1)
   refine (HFS.out).mono ?_
   rintro e w1 ⟨⟨tp,vp,rfl⟩,hb1⟩
   refine ⟨rfl,Or.inr ⟨by rw [HE.out],tp,vp,rfl⟩,Z,?_,Kn.below hb1⟩
   rw [HE.out];exact HK.out.below hb1
  | some x =>
   obtain ⟨td,ls,os,rcs⟩:=x
   have e:stepL s t=⟨td,os,rcs,ls,frmB t.data.toList⟩:=by unfold stepL;rw [if_pos ⟨h0,h13⟩,hX]
   have hgood:=hgd td ls os rcs hX
   rw [hX] at HFS
   have HK:=hide h
   have HE:=hide e
   have HPS:=hide hps
   have HGO:=hide hgood
   have HFA:=hide (fun (w1:World)=>fappend_any w1.heap.size (.slice none 0 0) [] t (by omega) (by simp) w1 (Nat.le_refl _) (World.ownsRow_nil _ _ _ _))
   have hlt:=blk_lt hL
   have HLN:Hid (s.lg.length=0):=by unfold Hid;rw [h0];rfl
   obtain ⟨F,HF⟩:∃ F,Hid (F=frmB t.data.toList):=⟨_,rfl⟩
   rw [← HF.out] at HFA HE
   have hfpos:0<([]++F).length:=by have:=List.length_pos_iff.2 (frmB_ne t.data.toList);rw [← HF.out] at this;simpa using this
   clear h hst hgd hps e hgood
   go_enter Tryz.func39,Tryz.ntmps39
   go_wp2_with (go_at_call 59;refine (HIS.out).mono ?_;rintro e w1 ⟨rfl,hw1⟩;have hw2:=hw1.symm;subst hw2;clear hw1)
   refine (HFS.out).mono ?_
   rintro e w1 ⟨S',rfl,hpi,hb1⟩
   have hL1:=(hb1.block Lb hlt).trans hL
   have d0:w1.cell? ⟨Lb,0,none⟩=some (.pointer (some ⟨S,0,none⟩)):=by rw [blk_cell hL1];rfl
   have f0:=blk_free hL1 0
   clear HFS
   go_wp2_with (go_at_call 30;refine (HFA.out _).mono ?_;rintro e w5 ⟨v5,rfl,ho5,hg5,hl5⟩;have hL2:=heap_setCell_same w1 Lb 0 _ 53 (.pointer (some ⟨S',0,none⟩)) hL1;have hb5:Below w1.heap.size (w1.setCell ⟨Lb,0,none⟩ (.pointer (some ⟨S',0,none⟩))) w5:=((Below.refl _ _).grown hg5 (by simp [World.setCell]) (fun k hk=>by cases hk));obtain ⟨g5,cap5,hv5,_,_⟩:=own_someS ho5 hfpos;subst hv5;have hL5:=(hb5.block Lb (by have:=hb1.size;omega)).trans hL2;have c51:w5.cell? ⟨Lb,1,none⟩=some (.slice none 0 0):=(by rw [blk_cell hL5];rfl);have f51:=blk_free hL5 1)
   go_end0
   have hszw:(w1.setCell ⟨Lb,0,none⟩ (.pointer (some ⟨S',0,none⟩))).heap.size=w1.heap.size:=by simp [World.setCell]
   have ho6:w5.ownsRow w1.heap.size 5 1 (.slice (some ⟨g5,0,none⟩) F.length cap5) F.length (U8 F):=own_lower (by simpa using ho5) (Nat.le_refl _)
   have hFne:F≠[]:=by rw [HF.out];exact frmB_ne _
   obtain ⟨hk,hpl⟩:=HPS.out.anewS hFne hb1 hpi hb5 ho6
   have h:=HK.out
   have hlz:([]++F).length=F.length:=by simp
   refine ⟨Or.inl ⟨by rw [HE.out,HLN.out];show F.length≠0;rw [hlz] at hfpos;omega,rfl⟩,fun k=>Zn Z w k∧k<(w5.setCell ⟨Lb,1,none⟩ (.slice (some ⟨g5,0,none⟩) F.length cap5)).heap.size,?_,?_⟩
   ·rw [HE.out]
    refine ⟨h.old.trans ⟨hk.os,hk.tape,hk.output,hk.size,fun k hkB=>hk.block k (Nat.lt_of_lt_of_le hkB h.size) (fun hz=>by have:=(h.zin k hz).1;omega)⟩,Nat.le_trans h.size hk.size,h.two,h.gl.kp hk (fun hz=>by have:=(h.zin 2 hz).1;have:=h.two;omega) (fun hz=>by have:=(h.zin 3 hz).1;have:=h.two;omega),hpl.bound,?_,HGO.out⟩
    rintro k ⟨hz,hlt⟩
    rcases hz with hz | hz
    ·exact ⟨(h.zin k hz).1,hlt⟩
    ·exact ⟨Nat.le_trans h.size hz,hlt⟩
   ·refine ⟨hk.size,fun k hkl hz=>⟨hk.block k hkl hz,?_⟩⟩
    rintro ⟨hq,_⟩
    rcases hq with hq | hq
    ·exact hz hq
    ·omega
 ·have e:stepL s t=stepB s t:=by unfold stepL;rw [if_neg hS]
  refine (redo_any h hm.gm t ht hlg (fun h0 h13=>hS ⟨h0,h13⟩)).mono ?_
  intro e' w' hr
  unfold RedoS
  rw [e];exact hr
end Go.Proofs.YtgcedalggnmooabGreatDoor
namespace Go.Proofs.YtgcedalggnmooabGreatDoor
open Go.RowKit
def rpS:Nat→List UInt8→Sv→Sv
 | 0,_,s=>s
 | f+1,l,s=>if s.lg.length<l.length then
   (match frP (l.drop s.lg.length) with
   | none=>s
   | some (c,_)=>if (stepL s ⟨c.toArray⟩).lg.length=s.lg.length then stepL s ⟨c.toArray⟩ else rpS f l (stepL s ⟨c.toArray⟩))
  else s
structure WayS (l:List UInt8) (I:Sv→Prop):Prop where
 small:∀ s,I s→s.lg.length≤35184372088832
 step:∀ s c n,I s→s.lg.length<l.length→frP (l.drop s.lg.length)=some (c,n)→c.length≤2097152∧(s.lg=[]→c.getD 0 0=13→∀ td ls os rcs,rdState c=some (td,ls,os,rcs)→Good os ls)∧I (stepL s ⟨c.toArray⟩)
set_option maxHeartbeats 3200000 in
theorem replayS_any {B:Nat} {w0 w:World} {Z:Nat→Prop} {Lb:Nat} {s:Sv} (h:Kv B w0 w Z Lb s) (hm:GmU B w0) (log:ByteArray) (hlog:log.size≤35184372088832) (I:Sv→Prop) (hI0:I s) (hI:WayS log.data.toList I) :
  Calls Tryz.prog 28 #[.pointer (some ⟨Lb,0,none⟩),.string log] w fun e w'=>e=.returned (.int .i64 (((rpS log.size log.data.toList s).lg.length:Nat):Int))∧∃ Z',Kv B w0 w' Z' Lb (rpS log.size log.data.toList s)∧Kn Z w Z' w':=by
 have hmf:∀ (fn:Fn) (first cap:Array Value) (w:World),(Instr.makeFunc fn first cap).run Tryz.prog w=.ok (.func fn first cap) w:=fun _ _ _ _=>rfl
 have hb2:Below w.heap.size w (laid2 w Lb):=(al1 w _).trans ((al1 _ _).mono (by show _≤(w.heap.push _).size;rw [Array.size_push];omega))
 have h2:=h.below hb2
 have hsz:(laid2 w Lb).heap.size=w.heap.size+2:=by show ((w.heap.push _).push _).size=_;rw [Array.size_push,Array.size_push]
 have hh0:(laid2 w Lb).heap[w.heap.size]?=some (.cells #[.pointer (some ⟨Lb,0,none⟩)] 23 (0,0)):=by
  show ((w.heap.push _).push _)[w.heap.size]?=_
  rw [Array.getElem?_push,if_neg (by simp),Array.getElem?_push,if_pos rfl]
 have hh1:(laid2 w Lb).heap[w.heap.size+1]?=some (.cells #[.int .i64 0] 3 (0,0)):=by
  show ((w.heap.push _).push _)[w.heap.size+1]?=_
  rw [Array.getElem?_push,if_pos (by simp)]
 have hnz0:¬ Z w.heap.size:=fun hz=>by have:=(h.zin _ hz).2;omega
 have hnz1:¬ Z (w.heap.size+1):=fun hz=>by have:=(h.zin _ hz).2;omega
 have hknw:∀ {Z':Nat→Prop} {w':World},Kn Z (laid2 w Lb) Z' w'→Kn Z w Z' w':=fun hk=>(Kn.below hb2).trans hk
 obtain ⟨l,HL⟩:∃ l,Hid (l=log.data.toList):=⟨_,rfl⟩
 have hll:l.length=log.size:=by rw [HL.out,Array.length_toList];rfl
 rw [← HL.out] at hI ⊢
 obtain ⟨sf,HSF⟩:∃ sf,Hid (sf=rpS log.size l s):=⟨_,rfl⟩
 rw [← HSF.out]
 go_enter_defers Tryz.func28,Tryz.ntmps28
 go_wp2_with fail
 go_loopw [6] (fun _ wr=>∃ (Z':Nat→Prop) (s':Sv) (f:Nat),Kv B w0 wr Z' Lb s'∧Kn Z (laid2 w Lb) Z' wr∧I s'∧log.size - s'.lg.length≤f∧rpS f l s'=sf) (fun _ wr=>log.size - lenAt wr Lb)
 case atStart=>exact ⟨Z,s,log.size,h2,Kn.refl _ _,hI0,by omega,HSF.out.symm⟩
 case round =>
  obtain ⟨Z1,s1,f,hkv,hkn,hi,hf,hrp⟩:=hrel
  obtain ⟨a1,c1,hl1⟩:=hkv.logv
  obtain ⟨k0,z0⟩:=hkn.keep w.heap.size (by rw [hsz];omega) hnz0
  obtain ⟨k1,z1⟩:=hkn.keep (w.heap.size+1) (by rw [hsz];omega) hnz1
  have c0:wr.cell? ⟨w.heap.size,0,none⟩=some (.pointer (some ⟨Lb,0,none⟩)):=by rw [blk_cell (k0.trans hh0)];rfl
  have c1x:wr.cell? ⟨w.heap.size+1,0,none⟩=some (.int .i64 0):=by rw [blk_cell (k1.trans hh1)];rfl
  have f1:wr.frozen? ⟨w.heap.size+1,0,none⟩=false:=blk_free (k1.trans hh1) 0
  have hs1:=hI.small s1 hi
  by_cases hlt:s1.lg.length<log.size
  ·have hb1:(0:Int)≤(s1.lg.length:Int):=by omega
   have hb2:(s1.lg.length:Int)≤(log.size:Int):=by omega
   have hD:Below wr.heap.size wr wr.drew:=⟨rfl,rfl,rfl,Nat.le_refl _,fun _ _=>rfl⟩
   have hkvD:=hkv.below hD
   have hff:=ffirst_any (log.extract s1.lg.length log.size) (by rw [ByteArray.size_extract];omega) wr.drew hkvD.gl (hm.at hkvD.old).gm.chk (Nat.lt_of_lt_of_le hm.gm.lt2 hkvD.size)
   have hlx:(log.extract s1.lg.length log.size).data.toList=l.drop s1.lg.length:=by rw [ex_list,← HL.out,List.take_of_length_le (l:=l) (by omega)]
   rw [hlx] at hff
   have HF0:=hide hff
   have hw2:∀ w2,Below wr.drew.heap.size wr.drew w2→Kv B w0 w2 Z1 Lb s1∧Kn Z w Z1 w2∧w2.heap[w.heap.size]?=some (.cells #[.pointer (some ⟨Lb,0,none⟩)] 23 (0,0))∧w2.heap[w.heap.size+1]?=some (.cells #[.int .i64 0] 3 (0,0)):=fun w2 hb=>by
    have hb':Below wr.heap.size wr w2:=hD.trans hb
    exact ⟨hkv.below hb',(hknw hkn).trans (Kn.below hb'),(hb'.block _ (blk_lt (k0.trans hh0))).trans (k0.trans hh0),(hb'.block _ (blk_lt (k1.trans hh1))).trans (k1.trans hh1)⟩
   have HW2:=hide hw2
   clear hff hw2 hkvD
   go_wp2_with fail
   refine wp_split [{ target:=.fn (.func 38) #[.pointer (some ⟨w.heap.size,0,none⟩),.pointer (some ⟨w.heap.size+1,0,none⟩)],args:=#[] }] (.pointer (some ⟨w.heap.size+1,0,none⟩)) (Rpx B w0 w Z Lb sf) ?_ ?_
   ·rintro ch ⟨T,D⟩ w2 hDD hT ⟨⟨tp,vp,rfl⟩,⟨Z2,hkvP,hknP,zP⟩,c0P,b1P,hsmP⟩
    obtain rfl:D=_:=hDD
    have hT4:T.getD 4 undef=.pointer (some ⟨w.heap.size+1,0,none⟩):=hT
    have hT5:T[4]?.getD undef=.pointer (some ⟨w.heap.size+1,0,none⟩):=by rw [← hT4];simp
    have c1P:w2.cell? ⟨w.heap.size+1,0,none⟩=some (.int .i64 0):=by rw [blk_cell b1P];rfl
    have f1P:w2.frozen? ⟨w.heap.size+1,0,none⟩=false:=blk_free b1P 0
    go_wp2_with fail
    have hfin:=World.cell?_setCell_same w2 ⟨w.heap.size+1,0,none⟩ (Value.int .i64 (sf.lg.length:Int)) c1P
    obtain ⟨aP,cP,hlP⟩:=hkvP.logv
    have hk:=kv_set hkvP zP (Nat.le_trans h.size (by omega)) 0 (Value.int .i64 (sf.lg.length:Int))
    have hn:=kn_set hknP (b:=w.heap.size+1) (by omega) 0 (Value.int .i64 (sf.lg.length:Int))
    have hpost:∃ Z',Kv B w0 (w2.setCell ⟨w.heap.size+1,0,none⟩ (Value.int .i64 (sf.lg.length:Int))) Z' Lb sf∧Kn Z w Z' (w2.setCell ⟨w.heap.size+1,0,none⟩ (Value.int .i64 (sf.lg.length:Int))):=⟨Z2,hk,hn⟩
    refine leaves_cons (f:=38) (args:=#[.pointer (some ⟨w.heap.size,0,none⟩),.pointer (some ⟨w.heap.size+1,0,none⟩)]) (by simp) (by simp [go_sem]) ?_
    refine (rcatch_panicking ⟨w.heap.size,0,none⟩ ⟨w.heap.size+1,0,none⟩ Lb aP sf.lg.length cP (.int .i64 0) tp vp [] w2 hsmP c0P hlP c1P f1P).mono ?_
    rintro e u' w'' ⟨rfl,rfl,rfl⟩
    clear hk hn hlP
    generalize (w2.setCell ⟨w.heap.size+1,0,none⟩ (Value.int .i64 (sf.lg.length:Int)))=W at hfin hpost ⊢
    simp [Leaves,settle,results,Tryz.results28,go_sem,hfin,hpost,hT5]
   have hSd:wr.drew.cell? ⟨w.heap.size,0,none⟩=some (.pointer (some ⟨Lb,0,none⟩)):=c0
   refine wp_region_held_drew (S:=fun w'=>w'.cell? ⟨w.heap.size,0,none⟩=some (.pointer (some ⟨Lb,0,none⟩))) (by kernel_rfl) hSd (fun _=>?_)
   refine wpAnyH_take (i:=0) (v:=.pointer (some ⟨Lb,0,none⟩)) rfl (by kernel_rfl) (by kernel_rfl) (by kernel_rfl) (pq_put _ (by decide) _) (Or.inl ⟨by rfl,fun w hSw=>by dsimp only at hSw;go_simp⟩) hSd ?_
   simp only [Act.put,List.setIfInBounds_toArray,List.set_cons_zero,List.set_cons_succ]
   refine wpAnyH_take (i:=1) (v:=.string log) rfl (by kernel_rfl) (by kernel_rfl) (by kernel_rfl) (pq_put _ (by decide) _) (Or.inl ⟨by rfl,fun w hSw=>by dsimp only at hSw;go_simp⟩) hSd ?_
   simp only [Act.put,List.setIfInBounds_toArray,List.set_cons_zero,List.set_cons_succ]
   refine wpAnyH_take (i:=2) (v:=.pointer (some ⟨Lb,0,none⟩)) rfl (by kernel_rfl) (by kernel_rfl) (by kernel_rfl) (pq_put _ (by decide) _) (Or.inl ⟨by rfl,fun w hSw=>by dsimp only at hSw;go_simp⟩) hSd ?_
   simp only [Act.put,List.setIfInBounds_toArray,List.set_cons_zero,List.set_cons_succ]
   refine wpAnyH_take (i:=3) (v:=.pointer (some ⟨Lb,0,none⟩)) rfl (by kernel_rfl) (by kernel_rfl) (by kernel_rfl) (pq_put _ (by decide) _) (Or.inl ⟨by rfl,fun w hSw=>by dsimp only at hSw;go_simp⟩) hSd ?_
   simp only [Act.put,List.setIfInBounds_toArray,List.set_cons_zero,List.set_cons_succ]
   refine wpAnyH_take (i:=4) (v:=.pointer (some ⟨Lb,1,none⟩)) rfl (by kernel_rfl) (by kernel_rfl) (by kernel_rfl) (pq_put _ (by decide) _) (Or.inl ⟨by rfl,fun w hSw=>by dsimp only at hSw;go_simp⟩) hSd ?_
   simp only [Act.put,List.setIfInBounds_toArray,List.set_cons_zero,List.set_cons_succ]
   refine wpAnyH_ready (rs:=[5]) (by kernel_rfl) (by simp) (AllReadyH.cons rfl (fun K hK=>?_) AllReadyH.nil)
   go_simp
   refine hK.out _ _ hSd (fun _=>?_)
   clear hK K
   refine wpAnyH_ready (rs:=[6]) (by kernel_rfl) (by simp) (AllReadyH.cons rfl (fun K hK=>?_) AllReadyH.nil)
   go_simp
   refine hK.out _ _ hSd (fun _=>?_)
   clear hK K
   refine wpAnyH_ready (rs:=[7]) (by kernel_rfl) (by simp) (AllReadyH.cons rfl (fun K hK=>?_) AllReadyH.nil)
   go_simp
   refine hK.out _ _ hSd (fun _=>?_)
   clear hK K
   cases hfr:frP (l.drop s1.lg.length) with
   | none =>
    have hsf:sf=s1:=by
     rw [← hrp]
     obtain ⟨f',rfl⟩:∃ f',f=f'+1:=⟨f - 1,by omega⟩
     show (if s1.lg.length<l.length then _ else _)=_
     rw [if_pos (by omega),hfr]
    subst hsf
    have HFF:Hid (Calls Tryz.prog 40 #[.string (log.extract sf.lg.length log.size)] wr.drew fun e w2=>(∃ tp vp,e=.panicked [{ v:=.iface tp vp,recovered:=false }])∧Below wr.drew.heap.size wr.drew w2):=HF0.out.mono fun e w2 ⟨q1,q2⟩=>by
     rw [hfr] at q2
     exact ⟨q2,q1⟩
    clear HF0
    refine wpAnyH_ready (rs:=[8]) (by kernel_rfl) (by simp) (AllReadyH.cons rfl (fun K hK=>?_) AllReadyH.nil)
    go_simp
    refine (HFF.out).mono ?_
    rintro e w2 ⟨⟨tp,vp,rfl⟩,hb2⟩
    obtain ⟨hkv2,hkn2,e0,e1⟩:=HW2.out w2 hb2
    refine ⟨rfl,rfl,⟨tp,vp,rfl⟩,⟨Z1,hkv2,hkn2,z1⟩,?_,e1,by omega⟩
    rw [blk_cell e0];rfl
   | some p =>
    obtain ⟨c,n⟩:=p
    obtain ⟨hc1,hc2,hc3⟩:=hI.step s1 c n hi (by omega) hfr
    have HFF:Hid (Calls Tryz.prog 40 #[.string (log.extract s1.lg.length log.size)] wr.drew fun e w2=>e=.returned (.string ⟨c.toArray⟩)∧Below wr.drew.heap.size wr.drew w2):=HF0.out.mono fun e w2 ⟨q1,q2⟩=>by
     rw [hfr] at q2
     exact ⟨q2,q1⟩
    clear HF0
    refine wpAnyH_ready (rs:=[8]) (by kernel_rfl) (by simp) (AllReadyH.cons rfl (fun K hK=>?_) AllReadyH.nil)
    go_simp
    refine (HFF.out).mono ?_
    clear HFF
    rintro e w2 ⟨rfl,hb2⟩
    obtain ⟨hkv2,hkn2,e0,e1⟩:=HW2.out w2 hb2
    have hS2:w2.cell? ⟨w.heap.size,0,none⟩=some (.pointer (some ⟨Lb,0,none⟩)):=by rw [blk_cell e0];rfl
    have HRD:=hide (redoS_any hkv2 hm ⟨c.toArray⟩ (by show c.toArray.size≤_;simpa using hc1) hs1 (by simpa using hc2))
    refine hK.out _ _ hS2 (fun _=>?_)
    clear hK K
    refine wpAnyH_ready (rs:=[9]) (by kernel_rfl) (by simp) (AllReadyH.cons rfl (fun K hK=>?_) AllReadyH.nil)
    go_simp
    refine (HRD.out).mono ?_
    clear HRD
    rintro e w3 ⟨(⟨hne,rfl⟩ | ⟨heq,tp,vp,rfl⟩),Z3,hkv3,hkn3⟩
    ·obtain ⟨q0,x0⟩:=hkn3.keep w.heap.size (blk_lt e0) z0
     have hS3:w3.cell? ⟨w.heap.size,0,none⟩=some (.pointer (some ⟨Lb,0,none⟩)):=by rw [blk_cell (q0.trans e0)];rfl
     refine hK.out _ _ hS3 (fun _=>?_)
     clear hK K
     refine wpAnyH_done (by kernel_rfl) ?_ _
     have hst:=stepL_grows s1 ⟨c.toArray⟩
     simp only [PQ]
     go_wp2_with fail
     obtain ⟨a3,c3,hl3⟩:=hkv3.logv
     have m1:lenAt wr Lb=s1.lg.length:=by unfold lenAt;rw [hl1]
     have m3:lenAt w3 Lb=(stepL s1 ⟨c.toArray⟩).lg.length:=by unfold lenAt;rw [hl3]
     rw [m1,m3]
     refine ⟨⟨Z3,stepL s1 ⟨c.toArray⟩,f - 1,hkv3,(hkn.trans (Kn.below (hD.trans hb2))).trans hkn3,hc3,by omega,?_⟩,by omega⟩
     rw [← hrp]
     obtain ⟨f',rfl⟩:∃ f',f=f'+1:=⟨f - 1,by omega⟩
     symm
     show (if s1.lg.length<l.length then _ else _)=_
     rw [if_pos (by omega),hfr]
     exact if_neg hne
    ·obtain ⟨q0,x0⟩:=hkn3.keep w.heap.size (blk_lt e0) z0
     obtain ⟨q1,x1⟩:=hkn3.keep (w.heap.size+1) (blk_lt e1) z1
     have hsf:sf=stepL s1 ⟨c.toArray⟩:=by
      rw [← hrp]
      obtain ⟨f',rfl⟩:∃ f',f=f'+1:=⟨f - 1,by omega⟩
      show (if s1.lg.length<l.length then _ else _)=_
      rw [if_pos (by omega),hfr]
      exact if_pos heq
     subst hsf
     refine ⟨rfl,rfl,⟨tp,vp,rfl⟩,⟨Z3,hkv3,hkn2.trans hkn3,x1⟩,?_,q1.trans e1,by omega⟩
     rw [blk_cell (q0.trans e0)];rfl
  ·have hsf:sf=s1:=by
    rw [← hrp]
    cases f with
    | zero=>rfl
    | succ f' =>
     show (if s1.lg.length<l.length then _ else _)=_
     rw [if_neg (by omega)]
   subst hsf
   go_wp2_with fail
   have hfin:=World.cell?_setCell_same wr ⟨w.heap.size+1,0,none⟩ (Value.int .i64 (sf.lg.length:Int)) c1x
   have hk:=kv_set hkv z1 (Nat.le_trans h.size (by omega)) 0 (Value.int .i64 (sf.lg.length:Int))
   have hn:=kn_set (hknw hkn) (b:=w.heap.size+1) (by omega) 0 (Value.int .i64 (sf.lg.length:Int))
   refine leaves_cons (f:=38) (args:=#[.pointer (some ⟨w.heap.size,0,none⟩),.pointer (some ⟨w.heap.size+1,0,none⟩)]) (by simp) (by simp [go_sem]) ?_
   refine (rcatch_idle ⟨w.heap.size,0,none⟩ ⟨w.heap.size+1,0,none⟩ _).mono ?_
   rintro e u' w'' ⟨rfl,rfl,rfl⟩
   have hpost:∃ Z',Kv B w0 (wr.setCell ⟨w.heap.size+1,0,none⟩ (Value.int .i64 (sf.lg.length:Int))) Z' Lb sf∧Kn Z w Z' (wr.setCell ⟨w.heap.size+1,0,none⟩ (Value.int .i64 (sf.lg.length:Int))):=⟨Z1,hk,hn⟩
   clear hk hn
   generalize (wr.setCell ⟨w.heap.size+1,0,none⟩ (Value.int .i64 (sf.lg.length:Int)))=W at hfin hpost ⊢
   simp [Leaves,settle,results,Tryz.results28,go_sem,hfin,hpost]
set_option maxHeartbeats 1600000 in
theorem openS_any (w:World) (hg:Gl w) (hm:GmU w.heap.size w) (log:ByteArray) (hlog:log.size≤35184372088832) (I:Sv→Prop) (hI0:I sNil) (hI:WayS log.data.toList I) :
  Calls Tryz.prog 15 #[.string log] w fun e w'=>∃ Lb Z,e=.returned (.tuple #[.pointer (some ⟨Lb,0,none⟩),.int .i64 (((rpS log.size log.data.toList sNil).lg.length:Nat):Int)])∧Kv w.heap.size w w' Z Lb (rpS log.size log.data.toList sNil):=by
 have HNW:=hide (new_any w hg)
 go_enter Tryz.func15,Tryz.ntmps15
 go_wp2_with (go_at_call 16;refine (HNW.out).mono ?_;rintro e w1 ⟨Lb,Z,rfl,hkv⟩;clear HNW)
 have HRP:=hide (replayS_any hkv hm log hlog I hI0 hI)
 clear hI hI0
 refine (HRP.out).mono ?_
 rintro e w2 ⟨rfl,Z2,hkv2,hkn2⟩
 clear HRP
 go_wp2_with fail
 go_ret2
 exact ⟨Lb,Z2,rfl,hkv2⟩
end Go.Proofs.YtgcedalggnmooabGreatDoor
