import Derived.Test.YtgcedalggnmooabGreatDoorCards
import Derived.Test.YtgcedalggnmooabGreatDoorTie
import Derived.Test.YtgcedalggnmooabGreatDoorCs
import Derived.Test.YtgcedalggnmooabGreatDoorKFX
import Derived.Test.YtgcedalggnmooabGreatDoorBulk2X
import Derived.ProofKit
import Derived.OpenShut
import Derived.Carry
import Derived.LaidLaws
import Derived.LaidMore
import Derived.Deep.DeepHandedRow
import Derived.Deep.DeepWitnessRowRef
set_option linter.unusedSimpArgs false
set_option linter.unusedVariables false
namespace Go.Proofs.YtgcedalggnmooabGreatDoor
open Go.ChangeShapes Go.WideShapes Go.ChangeAt Go.RowKit
theorem ownK:ownKnob Tryz.prog.godebug=none:=by kernel_rfl
theorem laidOutK:laidOutB Tryz.prog=true:=laidOutJ
theorem gCode : Tryz.prog.globalNamed "larder/command.errCode" = some 2 := by kernel_rfl
theorem gBroken : Tryz.prog.globalNamed "larder/wire.errBroken" = some 3 := by kernel_rfl
theorem gCodeT:(Tryz.prog.globals[2]?).map (·.type)=some 122:=by kernel_rfl
theorem gBrokenT:(Tryz.prog.globals[3]?).map (·.type)=some 122:=by kernel_rfl
def laidTwo : List (String × DataW Unit) := [("larder/wire.errBroken", Rows.laid_larder_wire_errBroken), ("larder/command.errCode", Rows.laid_larder_command_errCode), ("larder/frame.errCheck", Rows.laid_larder_frame_errCheck), ("larder/store.errUnsound", Rows.laid_larder_store_errUnsound), ("larder/larder.errNoGo", Rows.laid_larder_larder_errNoGo)]
theorem cell_blk {w:World} {b j:Nat} {x:Value} (h:w.cell? ⟨b,j,none⟩=some x):b<w.heap.size:=by
 rcases Nat.lt_or_ge b w.heap.size with h' | h'
 ·exact h'
 ·simp [World.cell?,Array.getElem?_eq_none h'] at h
theorem gCheck : Tryz.prog.globalNamed "larder/frame.errCheck" = some 1 := by kernel_rfl
theorem gCheckT:(Tryz.prog.globals[1]?).map (·.type)=some 122:=by kernel_rfl
theorem gUnsound : Tryz.prog.globalNamed "larder/store.errUnsound" = some 4 := by kernel_rfl
theorem gUnsoundT:(Tryz.prog.globals[4]?).map (·.type)=some 122:=by kernel_rfl
theorem gNoGo : Tryz.prog.globalNamed "larder/larder.errNoGo" = some 0 := by kernel_rfl
theorem gNoGoT:(Tryz.prog.globals[0]?).map (·.type)=some 122:=by kernel_rfl
theorem gl_of_laid {W:World} (h:laidMetH Tryz.prog laidTwo W):Gl W∧GmU W.heap.size W:=by
 have h':laidMet Tryz.prog laidTwo W:=h
 obtain ⟨ps,⟨g0,t0,cs0,f0,p0,q0,hg0,ht0,hv0,hd0,⟨g1,t1,cs1,f1,p1,q1,hg1,ht1,hv1,hd1,⟨g2,t2,cs2,f2,p2,q2,hg2,ht2,hv2,hd2,⟨g3,t3,cs3,f3,p3,q3,hg3,ht3,hv3,hd3,⟨g4,t4,cs4,f4,p4,q4,hg4,ht4,hv4,hd4,hq4,e4⟩,e3⟩,e2⟩,e1⟩,e0⟩,hnd,hrows⟩:=h'
 obtain rfl:=Option.some.inj (gBroken.symm.trans hg0)
 obtain rfl:=Option.some.inj (gCode.symm.trans hg1)
 obtain rfl:=Option.some.inj (gCheck.symm.trans hg2)
 obtain rfl:=Option.some.inj (gUnsound.symm.trans hg3)
 obtain rfl:=Option.some.inj (gNoGo.symm.trans hg4)
 obtain rfl:=Option.some.inj (gBrokenT.symm.trans ht0)
 obtain rfl:=Option.some.inj (gCodeT.symm.trans ht1)
 obtain rfl:=Option.some.inj (gCheckT.symm.trans ht2)
 obtain rfl:=Option.some.inj (gUnsoundT.symm.trans ht3)
 obtain rfl:=Option.some.inj (gNoGoT.symm.trans ht4)
 obtain ⟨l0⟩:=cs0
 obtain ⟨l1⟩:=cs1
 obtain ⟨l2⟩:=cs2
 obtain ⟨l3⟩:=cs3
 obtain ⟨l4⟩:=cs4
 obtain ⟨_,u0,v0,rfl,_,_⟩:=iface_of_trod Tryz.underlying122 hd0
 obtain ⟨_,u1,v1,rfl,_,_⟩:=iface_of_trod Tryz.underlying122 hd1
 obtain ⟨_,u2,v2,rfl,_,_⟩:=iface_of_trod Tryz.underlying122 hd2
 obtain ⟨_,u3,v3,rfl,_,_⟩:=iface_of_trod Tryz.underlying122 hd3
 obtain ⟨_,u4,v4,rfl,_,_⟩:=iface_of_trod Tryz.underlying122 hd4
 have c0:W.cell? ⟨3,0,none⟩=some (.iface u0 v0):=by simpa using World.var?_cell gBroken hv0 0
 have c1:W.cell? ⟨2,0,none⟩=some (.iface u1 v1):=by simpa using World.var?_cell gCode hv1 0
 have c2:W.cell? ⟨1,0,none⟩=some (.iface u2 v2):=by simpa using World.var?_cell gCheck hv2 0
 have c3:W.cell? ⟨4,0,none⟩=some (.iface u3 v3):=by simpa using World.var?_cell gUnsound hv3 0
 have c4:W.cell? ⟨0,0,none⟩=some (.iface u4 v4):=by simpa using World.var?_cell gNoGo hv4 0
 exact ⟨⟨⟨u1,v1,c1⟩,⟨u0,v0,c0⟩,cell_blk c0⟩,⟨⟨⟨u4,v4,c4⟩,⟨u2,v2,c2⟩,cell_blk c4,cell_blk c2⟩,⟨u3,v3,c3⟩,cell_blk c3⟩⟩
set_option maxRecDepth 100000 in
theorem compacted_contract (H:Type) (enc:TypeId × Value→H) (W:World) (base:Nat) (args:Array Value) (ds gs:List (DataW H)) (before:List MemPlace)
  (hval:∀ (j:Nat) t v,Tryz.f5.params[j]?=some t→args[j]?=some v→Value.okWide Tryz.prog W .any base t v)
  (hW:DataW.Whole enc Tryz.prog Tryz.f5.params.toList Rows.compactedSpec.vars false W args.toList ds gs before) (hL:laidMetH Tryz.prog laidTwo W)
  (hk:Rows.uptoSmall H (ds++gs)=true) :
  Calls Tryz.prog 5 args W fun e W'=>∃ v,e=.returned v∧Rows.compactedSpec.post enc Tryz.prog Tryz.f5 false true false false W args v W':=by
 have hW':=hW
 obtain ⟨p,q,hA0,hV,rfl,hfz,hnd⟩:=hW
 have hA:DataW.TrodAll enc Tryz.prog W 0 (fun _=>true) true Tryz.f5.params.toList args.toList ds p:=hA0
 rw [Tryz.params5] at hA hval
 obtain ⟨v0,vs0,d0,ds0,p0,q0,hargs,rfl,rfl,h0,r0⟩:=trodAll_cons hA
 obtain ⟨v1,vs1,d1,ds1,p1,q1,rfl,rfl,rfl,h1,r1⟩:=trodAll_cons r0
 obtain ⟨rfl,rfl,rfl⟩:=trodAll_nil r1
 obtain rfl:args=#[v0,v1]:=Array.toList_inj.1 hargs
 obtain ⟨rfl,rfl⟩:=trodVars_none hV
 obtain ⟨a0,len,cap,rfl⟩:=okWide_slice Tryz.underlying22 (hval 0 22 v0 rfl rfl)
 obtain ⟨a2,len2,cap2,rfl⟩:=okWide_slice Tryz.underlying22 (hval 1 22 v1 rfl rfl)
 have h0k:=h0
 obtain ⟨fuel,hf⟩:=h0
 have h1k:=h1
 obtain ⟨fuel2,hf2⟩:=h1
 clear hA0
 simp only [List.append_nil] at hW' hk
 have hlt0:∀ x ∈ p0,x.block<W.heap.size:=fun x hx=>by simpa using hW'.lt x (by simp [hx])
 have hlt1:∀ x ∈ p1,x.block<W.heap.size:=fun x hx=>by simpa using hW'.lt x (by simp [hx])
 have walk:Calls Tryz.prog 5 #[.slice a0 len cap,.slice a2 len2 cap2] W fun e w'=>e=.returned (.bool true)∧Below W.heap.size W w':=by
  obtain ⟨_,X,hX⟩:=open_script hf
  have hlen:len≤Rows.uptoBulk d0:=bulks.slice_len Tryz.underlying22 hf
  have hfb:Rows.uptoBulk d0≤1048576:=bulks.first hk
  obtain ⟨_,X2,hX2⟩:=open_script hf2
  have hlen2:len2≤Rows.uptoBulk d1:=bulks.slice_len Tryz.underlying22 hf2
  have hfb2:Rows.uptoBulk d1≤1048576:=by
   have h:Rows.uptoBulkAll [d0,d1]≤1048576:=of_decide_eq_true hk
   simp only [Rows.uptoBulkAll] at h
   omega
  exact compacted_any a0 len cap (by omega) X a2 len2 cap2 (by omega) X2 W (gl_of_laid hL).1 (gl_of_laid hL).2 hX hX2
 refine walk.mono fun e W' ⟨he,bel⟩=>?_
 subst he
 have e1:Rows.compactedSpec.fn H ([d0,d1]++[])={ results:=[.lit (.bool true)],args:=[d0,d1] }:=rfl
 refine ⟨_,rfl,_,_,_,[],p0++(p1),[],hW',?_,?_,?_,bel.frame _,fun h=>?_⟩
 ·rw [e1];exact trodAll_mk1 (shut_bool Tryz.underlying4 _)
 ·rw [e1];exact (trodAll_cons_mk (Below.trod laidOutK (by kernel_rfl) (of_decide_eq_true (by kernel_rfl)) h0k bel hlt0) (trodAll_mk1 (Below.trod laidOutK (by kernel_rfl) (of_decide_eq_true (by kernel_rfl)) h1k bel hlt1)))
 ·rw [e1];rfl
 ·cases h
theorem laid_metK (os:Os):laidMet Tryz.prog laidTwo ((World.doorLaid Tryz.prog 104 os).forCall (fun _ _=>0) ⟨#[],#[.slice none 0 0,.slice none 0 0],[]⟩).memory :=
 laidMet_of_run' 8 (by kernel_rfl) (by kernel_rfl)
theorem readsK (os:Os) {H:Type} (enc:TypeId × Value→H):∃ places,DataW.whole enc Tryz.prog ((World.doorLaid Tryz.prog 104 os).forCall (fun _ _=>0) ⟨#[],#[.slice none 0 0,.slice none 0 0],[]⟩).memory Tryz.f5.params.toList Rows.compactedSpec.vars false #[Value.slice none 0 0,.slice none 0 0].toList 8=some ([.nil,.nil],[],places) :=
 ⟨[],by kernel_rfl⟩
set_option maxRecDepth 100000 in
theorem compacted_lifted (os:Os) (started:os.Started) (H:Type) (enc:TypeId × Value→H) (F:Stop.Interp) :
  ReturnsInHanded {} Tryz.checked os 5 .any ((Rows.OpenSpec.upto Rows.compactedSpec).preRow enc Tryz.prog Tryz.f5 Rows.compactedUptoRow.domain false Rows.compactedUptoRow.laid) (((Rows.OpenSpec.upto Rows.compactedSpec).at F).post enc Tryz.prog Tryz.f5 false true false false):=by
 obtain ⟨places,hx⟩:=readsK os enc
 refine returnsInHanded_of_row (C:=Tryz.checked) (s:=Rows.OpenSpec.upto Rows.compactedSpec) ownK started (by kernel_rfl) Tryz.func5
  (witness_row_atRef (enc:=enc) (C:=Tryz.checked) false (World.doorLaid Tryz.prog 104 os) #[.slice none 0 0,.slice none 0 0] rfl (by kernel_rfl) (by kernel_rfl) (by kernel_rfl)
   (OpenSpec.preRow_of_cond 8 hx (by kernel_rfl) (fun k hk=>by cases hk;kernel_rfl) (by kernel_rfl) (laid_metK os))) ?_
 intro W base args ds gs before hval hW _ hcond _ hL _ _
 exact compacted_contract H enc W base args ds gs before hval hW hL (hcond _ rfl)
theorem compacted_j1:(Rows.compactedUptoRow.inPlace == Tryz.prog.inPlace 5)=true:=by kernel_rfl
theorem compacted_j2:(Rows.compactedUptoRow.unfollowed == Tryz.prog.unfollowed 5)=true:=by kernel_rfl
theorem compacted_j3:(Rows.compactedUptoRow.recurses == Tryz.prog.recurses 5)=true:=by kernel_rfl
theorem compacted_j4:(Rows.compactedUptoRow.named == Tryz.prog.varsNamed 5)=true:=by kernel_rfl
theorem compacted_joined:joinedFacts Tryz.pinned.checked.prog 5 Tryz.f5 (Rows.OpenSpec.upto Rows.compactedSpec).bare Rows.compactedUptoRow=true:=by
 show joinedFacts Tryz.prog 5 Tryz.f5 (Rows.OpenSpec.upto Rows.compactedSpec).bare Rows.compactedUptoRow=true
 have hl:(Rows.compactedUptoRow.lifted == Tryz.prog.liftsFinal)=true:=liftsJ
 have hm:(Tryz.prog.make == some Rows.compactedUptoRow.make)=true:=makeJ
 unfold joinedFacts
 rw [laidOutJ,mapsRowedJ,mayJ,heardJ,hl,hm,compacted_j1,compacted_j2,compacted_j3,compacted_j4]
 show (_:Bool)=true
 kernel_rfl
theorem compacted_said:Rows.CompactedUptoSaid :=
 OpenClaim.holds_of_cond 5 Tryz.f5 rfl rfl rfl rfl rfl rfl rfl ⟨rfl,rfl,rfl,rfl,rfl⟩ rfl rfl rfl rfl rfl (by kernel_rfl) Tryz.func5 compacted_joined
  (of_decide_eq_true (by kernel_rfl)) (by unfold Func.isWrapper;first | (rw [if_pos (by decide +kernel)];kernel_rfl) | (rw [if_neg (by decide +kernel)];exact ⟨rfl,rfl⟩))
  (fun os started H enc _ F=>by rw [OpenClaim.pre_eq_preRow];exact compacted_lifted os started H enc F)
theorem compacted_plain (f : FuncId) (fn : Func) (hf : Tryz.pinned.checked.prog.funcNamed "larder/larderkeep.Compacted" = some f) (hfn : Tryz.pinned.checked.prog.funcs[f]? = some fn) :
  true=Tryz.pinned.checked.prog.looks []∧∀ (j:Nat) t,fn.params[j]?=some t→Tryz.pinned.checked.prog.wantsStandIn t=false:=by
 obtain rfl : f = 5 := Option.some.inj ((show Tryz.prog.funcNamed "larder/larderkeep.Compacted" = some 5 by kernel_rfl).symm.trans hf) |>.symm
 obtain rfl:fn=Tryz.f5:=(Option.some.inj (Tryz.func5.symm.trans hfn)).symm
 refine ⟨by kernel_rfl,fun j t ht=>?_⟩
 rw [Tryz.params5] at ht
 have hm:t=22:=by simpa using Array.mem_of_getElem? ht
 subst hm
 exact (show Tryz.prog.wantsStandIn 22=false by kernel_rfl)
theorem compacted_card:Rows.CompactedUptoCardSaid :=
 Claim7.holds_tied_plain_at .later [] _ _ _ _ compacted_said (fun _ h=>by cases h) (by kernel_rfl) (fun _ h=>by cases h) compactedUpto_row_tie rfl ⟨rfl,rfl⟩ (by kernel_rfl) rfl compacted_plain (by kernel_rfl)
end Go.Proofs.YtgcedalggnmooabGreatDoor
