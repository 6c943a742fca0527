import Derived.Test.YtgcedalggnmooabGreatDoorKU0X
set_option linter.unusedSimpArgs false
set_option linter.unusedVariables false
set_option maxRecDepth 100000
namespace Go.Proofs.YtgcedalggnmooabGreatDoor
open Go.RowKit
structure GmB (B:Nat) (w:World):Prop where
 nogo:∃ t v,w.cell? ⟨0,0,none⟩=some (.iface t v)
 chk:∃ t v,w.cell? ⟨1,0,none⟩=some (.iface t v)
 lt1:0<B
 lt2:1<B
theorem GmB.at {B:Nat} {w0 w:World} (h:GmB B w0) (hb:Below B w0 w):GmB B w:=by
 obtain ⟨⟨t0,v0,h0⟩,⟨t1,v1,h1⟩,l1,l2⟩:=h
 exact ⟨⟨t0,v0,by rw [hb.cell l1];exact h0⟩,⟨t1,v1,by rw [hb.cell l2];exact h1⟩,l1,l2⟩
theorem Kv.logv {B:Nat} {w0 w:World} {Z:Nat→Prop} {Lb:Nat} {s:Sv} (h:Kv B w0 w Z Lb s):∃ a c,w.cell? ⟨Lb,1,none⟩=some (.slice a s.lg.length c):=by
 obtain ⟨S,Zs,lv,hps⟩:=h.pl.ps
 have c1:w.cell? ⟨Lb,1,none⟩=some lv:=by rw [blk_cell hps.here];rfl
 have hlog:=hps.log
 cases hl:s.lg with
 | nil =>
  obtain rfl:=hlog.2 hl
  exact ⟨none,0,c1⟩
 | cons b r =>
  rw [hl] at hlog
  obtain ⟨g,cap,rfl,_,_⟩:=own_some' hlog.1 (by simp)
  exact ⟨_,cap,c1⟩
theorem do_kb {B:Nat} {w0 w:World} {Z:Nat→Prop} {Lb:Nat} {s:Sv} (h:Kv B w0 w Z Lb s) (t:ByteArray) (ht:t.size≤2097152) (hlg:s.lg.length≤35184372088832) :
  Calls Tryz.prog 23 #[.pointer (some ⟨Lb,0,none⟩),.string t] w fun e w'=>(∃ vn er,e=.returned (.tuple #[vn,er]))∧∃ Z',Kv B w0 w' Z' Lb (stepB s t)∧Kn Z w Z' w':=by
 have hgs:=good_stepR (rcs:=s.rcs) (td:=s.td) h.good h.room t.data.toList
 refine (ldo_any h.pl h.good h.gl t ht (fun _=>hlg)).mono ?_
 rintro e w' ⟨⟨vn,ms,er,he,_,_,_⟩,hk,hpl⟩
 refine ⟨⟨_,_,he⟩,fun k=>Zn Z w k∧k<w'.heap.size,⟨h.old.trans ⟨hk.os,hk.tape,hk.output,hk.size,fun k hkB=>hk.block k (Nat.lt_of_lt_of_le hkB h.size) (fun hz=>by have:=(h.zin k hz).1;omega)⟩,Nat.le_trans h.size hk.size,h.two,h.gl.kp hk (fun hz=>by have:=(h.zin 2 hz).1;have:=h.two;omega) (fun hz=>by have:=(h.zin 3 hz).1;have:=h.two;omega),hpl.bound,?_,hgs⟩,hk.size,fun k hkl hz=>⟨hk.block k hkl hz,?_⟩⟩
 ·rintro k ⟨hz,hlt⟩
  rcases hz with hz | hz
  ·exact ⟨(h.zin k hz).1,hlt⟩
  ·exact ⟨Nat.le_trans h.size hz,hlt⟩
 ·rintro ⟨hq,_⟩
  rcases hq with hq | hq
  ·exact hz hq
  ·omega
theorem isState_no (t:ByteArray) (h:t.data.toList.getD 0 0≠13) (w:World) :
  Calls Tryz.prog 59 #[.string t] w fun e w'=>e=.returned (.bool false)∧w'=w:=by
 by_cases h0:t.size=0
 ·have he:t.toList.isEmpty=true:=by
   rw [ByteArray.toList_eq]
   have:t.data.toList.length=0:=by rw [Array.length_toList];exact h0
   rw [List.length_eq_zero_iff.1 this];rfl
  go_enter Tryz.func59,Tryz.ntmps59
  go_wp2_with fail
  go_ret
  exact ⟨rfl,rfl⟩
 ·have he:t.toList.isEmpty=false:=by
   rw [ByteArray.toList_eq]
   have:t.data.toList.length≠0:=by rw [Array.length_toList];exact h0
   cases hq:t.data.toList with
   | nil=>rw [hq] at this;exact absurd rfl this
   | cons=>rfl
  have h1:0<t.size:=by omega
  have hx:(t[0].toNat:Int)≠13:=by
   intro hq
   apply h
   have:t.data.toList.getD 0 0=t[0]:=by rw [ba_getD t 0 h1]
   rw [this]
   have h13:(13:UInt8).toNat=13:=rfl
   exact UInt8.toNat_inj.1 (by omega)
  go_enter Tryz.func59,Tryz.ntmps59
  go_wp2_with fail
  rw [beq_eq_false_iff_ne.2 hx]
  go_ret
  exact ⟨rfl,rfl⟩
def RedoP (B:Nat) (w0:World) (Z:Nat→Prop) (w:World) (Lb:Nat) (s:Sv) (t:ByteArray) (e:Ending) (w':World):Prop :=
 (((stepB s t).lg.length≠s.lg.length∧e=.returned (.tuple #[]))∨((stepB s t).lg.length=s.lg.length∧∃ u v,e=.panicked [{ v:=.iface u v,recovered:=false }]))∧∃ Z',Kv B w0 w' Z' Lb (stepB s t)∧Kn Z w Z' w'
set_option maxHeartbeats 1600000 in
theorem redo_any {B:Nat} {w0 w:World} {Z:Nat→Prop} {Lb:Nat} {s:Sv} (h:Kv B w0 w Z Lb s) (hm:GmB B w0) (t:ByteArray) (ht:t.size≤2097152) (hlg:s.lg.length≤35184372088832) (hst:s.lg=[]→t.data.toList.getD 0 0≠13) :
  Calls Tryz.prog 39 #[.pointer (some ⟨Lb,0,none⟩),.string t] w (RedoP B w0 Z w Lb s t):=by
 obtain ⟨a1,c1,hl1⟩:=h.logv
 have HDO:=hide (do_kb h t ht hlg)
 have hlg2:=stepB_lg s t ht
 by_cases h0:s.lg.length=0
 ·have HIS:=hide (isState_no t (hst (List.length_eq_zero_iff.1 h0)) w)
  clear h hst
  rw [h0] at hl1
  go_enter Tryz.func39,Tryz.ntmps39
  go_wp2_with (go_at_call 59;refine (HIS.out).mono ?_;rintro e w1 ⟨rfl,rfl⟩)
  refine (HDO.out).mono ?_
  rintro e w2 ⟨⟨vn,er,rfl⟩,Z2,hkv2,hkn2⟩
  obtain ⟨a2,c2,hl2⟩:=hkv2.logv
  obtain ⟨t0,v0,hg0⟩:=(hm.at hkv2.old).nogo
  clear HDO
  go_wp2_with fail
  ·have hz:(((stepB s t).lg.length:Int) == 0)=true:=by assumption
   rw [beq_iff_eq] at hz
   exact ⟨rfl,Or.inr ⟨by omega,t0,v0,rfl⟩,Z2,hkv2,hkn2⟩
  ·have hz:(((stepB s t).lg.length:Int) == 0)=false:=by assumption
   rw [beq_eq_false_iff_ne] at hz
   go_end0
   exact ⟨Or.inl ⟨by omega,rfl⟩,Z2,hkv2,hkn2⟩
 ·clear h hst
  go_enter Tryz.func39,Tryz.ntmps39
  go_wp2_with fail
  refine (HDO.out).mono ?_
  rintro e w2 ⟨⟨vn,er,rfl⟩,Z2,hkv2,hkn2⟩
  obtain ⟨a2,c2,hl2⟩:=hkv2.logv
  obtain ⟨t0,v0,hg0⟩:=(hm.at hkv2.old).nogo
  clear HDO
  go_wp2_with fail
  ·have hz:(((stepB s t).lg.length:Int) == (s.lg.length:Int))=true:=by assumption
   rw [beq_iff_eq] at hz
   exact ⟨rfl,Or.inr ⟨by omega,t0,v0,rfl⟩,Z2,hkv2,hkn2⟩
  ·have hz:(((stepB s t).lg.length:Int) == (s.lg.length:Int))=false:=by assumption
   rw [beq_eq_false_iff_ne] at hz
   go_end0
   exact ⟨Or.inl ⟨by omega,rfl⟩,Z2,hkv2,hkn2⟩
set_option maxHeartbeats 3200000 in
theorem rcatch_panicking (p q:Addr) (Lb:Nat) (a:Option Addr) (n c:Nat) (x:Value) (u:TypeId) (pv:Value) (older:List PanicEntry) (w:World) (hn:n≤70368744177664) (hc:w.cell? p=some (.pointer (some ⟨Lb,0,none⟩))) (hl:w.cell? ⟨Lb,1,none⟩=some (.slice a n c)) (hc2:w.cell? q=some x) (hz2:w.frozen? q=false) :
  CallsD Tryz.prog 38 #[.pointer (some p),.pointer (some q)] (.panicking ({ v:=.iface u pv,recovered:=false } :: older)) w fun e u' w' =>
   e=.returned (.tuple #[])∧u'=.panicking ({ v:=.iface u pv,recovered:=true } :: older)∧w'=w.setCell q (.int .i64 (n:Int)):=by
 refine callsD_of_wpS Tryz.func38 rfl fun c₀ cs hu=>?_
 apply wpS_seq
 apply wpS_region
 simp [wpOpsS,go_sem,recoverD,hu,Tryz.ntmps38,Exit.thenS]
 refine wpS_cond (t:=true) (by simp [Act.eval,Array.replicate]) ?_
 simp only [if_true]
 apply wpS_region
 simp [wpOpsS,go_sem,hc,hl,hc2,hz2,bodyPostS,results,Tryz.results38]
theorem rcatch_idle (p q:Addr) (w:World) :
  CallsD Tryz.prog 38 #[.pointer (some p),.pointer (some q)] .returning w fun e u' w'=>e=.returned (.tuple #[])∧u'=.returning∧w'=w:=by
 refine callsD_of_wpS Tryz.func38 rfl fun c₀ cs hu=>?_
 apply wpS_seq
 apply wpS_region
 simp [wpOpsS,go_sem,recoverD,hu,Tryz.ntmps38,Exit.thenS]
 refine wpS_cond (t:=false) (by simp [Act.eval,Array.replicate]) ?_
 simp only [Bool.false_eq_true,if_false]
 refine wpS_of_wp (wp_skip ?_)
 cases c₀
 simp_all [bodyPostS,results,Tryz.results38]
end Go.Proofs.YtgcedalggnmooabGreatDoor
