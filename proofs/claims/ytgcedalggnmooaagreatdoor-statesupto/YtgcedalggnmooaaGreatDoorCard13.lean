import Derived.Test.YtgcedalggnmooaaGreatDoorCards
import Derived.Test.YtgcedalggnmooaaGreatDoorTie
import Derived.Test.YtgcedalggnmooaaGreatDoorBulkX
import Derived.Test.YtgcedalggnmooaaGreatDoorLwAX
import Derived.ProofKit
import Derived.OpenShut
import Derived.Carry
import Derived.LaidLaws
import Derived.LaidMore
import Derived.Deep.DeepHandedRow
import Derived.Deep.DeepWitnessRowRef
set_option linter.unusedSimpArgs false
set_option linter.unusedVariables false
namespace Go.Proofs.YtgcedalggnmooaaGreatDoor
open Go.ChangeShapes Go.WideShapes Go.ChangeAt Go.RowKit
theorem ownK:ownKnob Tryz.prog.godebug=none:=by kernel_rfl
theorem laidOutK:laidOutB Tryz.prog=true:=laidOutJ
theorem gCode : Tryz.prog.globalNamed "larder/command.errCode" = some 2 := by kernel_rfl
theorem gBroken : Tryz.prog.globalNamed "larder/wire.errBroken" = some 3 := by kernel_rfl
theorem gCodeT:(Tryz.prog.globals[2]?).map (·.type)=some 212:=by kernel_rfl
theorem gBrokenT:(Tryz.prog.globals[3]?).map (·.type)=some 212:=by kernel_rfl
theorem tU3s:Tryz.prog.underlying 3=some (.int .i64):=by kernel_rfl
theorem cellsK9:Tryz.prog.cellsOf 9=1:=by kernel_rfl
def laidTwo : List (String × DataW Unit) := [("larder/wire.errBroken", Rows.laid_larder_wire_errBroken), ("larder/command.errCode", Rows.laid_larder_command_errCode)]
theorem cell_blk {w:World} {b j:Nat} {x:Value} (h:w.cell? ⟨b,j,none⟩=some x):b<w.heap.size:=by
 rcases Nat.lt_or_ge b w.heap.size with h' | h'
 ·exact h'
 ·simp [World.cell?,Array.getElem?_eq_none h'] at h
theorem gl_of_laid {W:World} (h:laidMetH Tryz.prog laidTwo W):Gl W:=by
 have h':laidMet Tryz.prog laidTwo W:=h
 obtain ⟨ps,⟨g0,t0,cs0,f0,p0,q0,hg0,ht0,hv0,hd0,⟨g1,t1,cs1,f1,p1,q1,hg1,ht1,hv1,hd1,hq1,e1⟩,e0⟩,hnd,hrows⟩:=h'
 obtain rfl:=Option.some.inj (gBroken.symm.trans hg0)
 obtain rfl:=Option.some.inj (gCode.symm.trans hg1)
 obtain rfl:=Option.some.inj (gBrokenT.symm.trans ht0)
 obtain rfl:=Option.some.inj (gCodeT.symm.trans ht1)
 obtain ⟨l0⟩:=cs0
 obtain ⟨l1⟩:=cs1
 obtain ⟨_,u0,v0,rfl,_,_⟩:=iface_of_trod Tryz.underlying212 hd0
 obtain ⟨_,u1,v1,rfl,_,_⟩:=iface_of_trod Tryz.underlying212 hd1
 have c1:W.cell? ⟨3,0,none⟩=some (.iface u0 v0):=by simpa using World.var?_cell gBroken hv0 0
 have c0:W.cell? ⟨2,0,none⟩=some (.iface u1 v1):=by simpa using World.var?_cell gCode hv1 0
 exact ⟨⟨u1,v1,c0⟩,⟨u0,v0,c1⟩,cell_blk c1⟩
theorem open_rowK {H:Type} {enc:TypeId × Value→H} {W:World} {a0:Option Addr} {len cap fuel:Nat} {x:DataW H × List MemPlace}
  (hf:DataW.trod enc Tryz.prog W 0 (fun _=>true) true fuel 22 [.slice a0 len cap]=some x) :
  len=0∨∃ (b off:Nat) (ss sp:List ByteArray),ss.length=len∧a0=some ⟨b,off,none⟩∧b<W.heap.size∧(∀ j,j<len→W.cell? ⟨b,off+j,none⟩=some (.string (ss.getD j ByteArray.empty))) ∧
   x.1=.slice (strs ss) (strs sp):=by
 rcases open_strings Tryz.underlying22 Tryz.underlying9 cellsK9 hf with ⟨hcs,hx⟩ | ⟨a,len',cap',ss,hcs,_,hl,hm,hz,hx,hcell,_⟩
 ·simp at hcs
  exact Or.inl hcs.2.1
 ·simp at hcs
  obtain ⟨rfl,rfl,rfl⟩:=hcs
  subst hx
  simp only [if_true] at hz
  rcases Nat.eq_zero_or_pos len with h0 | h0
  ·exact Or.inl h0
  right
  obtain ⟨b,off,spot⟩:=a
  have hspot:spot=none:=by simpa [Addr.add] using World.cell?_spot (hcell 0 (by omega))
  subst hspot
  refine ⟨b,off,ss.take len,ss.drop len,by simp;omega,rfl,cell_blk (hcell 0 (by omega)),fun j hj=>?_,rfl⟩
  have e:(ss.take len).getD j ByteArray.empty=ss.getD j ByteArray.empty:=by simp [List.getD,List.getElem?_take_of_lt hj]
  rw [e,← add_plain]
  exact hcell j (by omega)
set_option maxRecDepth 100000 in
theorem states_contract (H:Type) (enc:TypeId × Value→H) (W:World) (base:Nat) (args:Array Value) (ds gs:List (DataW H)) (before:List MemPlace)
  (hval:∀ (j:Nat) t v,Tryz.f8.params[j]?=some t→args[j]?=some v→Value.okWide Tryz.prog W .any base t v)
  (hW:DataW.Whole enc Tryz.prog Tryz.f8.params.toList Rows.statesSpec.vars false W args.toList ds gs before) (hL:laidMetH Tryz.prog laidTwo W)
  (hk:Rows.uptoSmall H (ds++gs)=true) :
  Calls Tryz.prog 8 args W fun e W'=>∃ v,e=.returned v∧Rows.statesSpec.post enc Tryz.prog Tryz.f8 false true false false W args v W':=by
 have hW':=hW
 obtain ⟨p,q,hA0,hV,rfl,hfz,hnd⟩:=hW
 have hA:DataW.TrodAll enc Tryz.prog W 0 (fun _=>true) true Tryz.f8.params.toList args.toList ds p:=hA0
 rw [Tryz.params8] at hA hval
 obtain ⟨v0,vs0,d0,ds0,p0,q0,hargs,rfl,rfl,h0,r0⟩:=trodAll_cons hA
 obtain ⟨v1,vs1,d1,ds1,p1,q1,rfl,rfl,rfl,h1,r1⟩:=trodAll_cons r0
 obtain ⟨rfl,rfl,rfl⟩:=trodAll_nil r1
 obtain rfl:args=#[v0,v1]:=Array.toList_inj.1 hargs
 obtain ⟨rfl,rfl⟩:=trodVars_none hV
 obtain ⟨a0,len,cap,rfl⟩:=okWide_slice Tryz.underlying22 (hval 0 22 v0 rfl rfl)
 obtain ⟨x1,rfl⟩:=okWide_int tU3s (hval 1 3 v1 rfl rfl)
 have h0k:=h0
 obtain ⟨fuel,hf⟩:=h0
 clear hA0
 simp only [List.append_nil] at hW' hk
 have hlt:∀ x ∈ p0,x.block<W.heap.size:=fun x hx=>by simpa using hW'.lt x (by simp [hx])
 have hlt1:∀ x ∈ p1,x.block<W.heap.size:=fun x hx=>by simpa using hW'.lt x (by simp [hx])
 have walk:Calls Tryz.prog 8 #[.slice a0 len cap,.int .i64 x1] W fun e w'=>e=.returned (.bool true)∧Below W.heap.size W w':=by
  rcases open_rowK hf with rfl | ⟨b,off,ss,sp,hl,rfl,hb,hc,hx⟩
  ·exact states_zero a0 cap x1 W (gl_of_laid hL)
  ·simp only at hx
   subst hx
   have hk1:Rows.uptoSmall H [.slice (strs ss) (strs sp)]=true:=by
    have h:Rows.uptoBulkAll [DataW.slice (H:=H) (strs ss) (strs sp),d1]≤1048576:=of_decide_eq_true hk
    refine decide_eq_true ?_
    simp only [Rows.uptoBulkAll] at h ⊢
    omega
   obtain ⟨h1,h2⟩:=bulks.strings hk1
   exact states_any b off len cap x1 ss (by omega) (by omega) (fun j hj=>Nat.le_trans (h2 j (by omega)) (by omega)) W (gl_of_laid hL) hb hc
 refine walk.mono fun e W' ⟨he,bel⟩=>?_
 subst he
 have e1:Rows.statesSpec.fn H ([d0,d1]++[])={ results:=[.lit (.bool true)],args:=[d0,d1] }:=rfl
 refine ⟨_,rfl,_,_,_,[],p0++p1,[],hW',?_,?_,?_,bel.frame _,fun h=>?_⟩
 ·rw [e1];exact trodAll_mk1 (shut_bool Tryz.underlying4 _)
 ·rw [e1];exact trodAll_cons_mk (Below.trod laidOutK (by kernel_rfl) (of_decide_eq_true (by kernel_rfl)) h0k bel hlt) (trodAll_mk1 (Below.trod laidOutK (by kernel_rfl) (of_decide_eq_true (by kernel_rfl)) h1 bel hlt1))
 ·rw [e1];rfl
 ·cases h
theorem laid_metK (os:Os):laidMet Tryz.prog laidTwo ((World.doorLaid Tryz.prog 104 os).forCall (fun _ _=>0) ⟨#[],#[.slice none 0 0,.int .i64 0],[]⟩).memory :=
 laidMet_of_run' 8 (by kernel_rfl) (by kernel_rfl)
theorem readsK (os:Os) {H:Type} (enc:TypeId × Value→H):∃ places,DataW.whole enc Tryz.prog ((World.doorLaid Tryz.prog 104 os).forCall (fun _ _=>0) ⟨#[],#[.slice none 0 0,.int .i64 0],[]⟩).memory Tryz.f8.params.toList Rows.statesSpec.vars false #[Value.slice none 0 0,.int .i64 0].toList 8=some ([.nil,.lit (.int .i64 0)],[],places) :=
 ⟨[],by kernel_rfl⟩
set_option maxRecDepth 100000 in
theorem states_lifted (os:Os) (started:os.Started) (H:Type) (enc:TypeId × Value→H) (F:Stop.Interp) :
  ReturnsInHanded {} Tryz.checked os 8 .any ((Rows.OpenSpec.upto Rows.statesSpec).preRow enc Tryz.prog Tryz.f8 Rows.statesUptoRow.domain false Rows.statesUptoRow.laid) (((Rows.OpenSpec.upto Rows.statesSpec).at F).post enc Tryz.prog Tryz.f8 false true false false):=by
 obtain ⟨places,hx⟩:=readsK os enc
 refine returnsInHanded_of_row (C:=Tryz.checked) (s:=Rows.OpenSpec.upto Rows.statesSpec) ownK started (by kernel_rfl) Tryz.func8
  (witness_row_atRef (enc:=enc) (C:=Tryz.checked) false (World.doorLaid Tryz.prog 104 os) #[.slice none 0 0,.int .i64 0] rfl (by kernel_rfl) (by kernel_rfl) (by kernel_rfl)
   (OpenSpec.preRow_of_cond 8 hx (by kernel_rfl) (fun k hk=>by cases hk;kernel_rfl) (by kernel_rfl) (laid_metK os))) ?_
 intro W base args ds gs before hval hW _ hcond _ hL _ _
 exact states_contract H enc W base args ds gs before hval hW hL (hcond _ rfl)
theorem states_j1:(Rows.statesUptoRow.inPlace == Tryz.prog.inPlace 8)=true:=by kernel_rfl
theorem states_j2:(Rows.statesUptoRow.unfollowed == Tryz.prog.unfollowed 8)=true:=by kernel_rfl
theorem states_j3:(Rows.statesUptoRow.recurses == Tryz.prog.recurses 8)=true:=by kernel_rfl
theorem states_j4:(Rows.statesUptoRow.named == Tryz.prog.varsNamed 8)=true:=by kernel_rfl
theorem states_joined:joinedFacts Tryz.pinned.checked.prog 8 Tryz.f8 (Rows.OpenSpec.upto Rows.statesSpec).bare Rows.statesUptoRow=true:=by
 show joinedFacts Tryz.prog 8 Tryz.f8 (Rows.OpenSpec.upto Rows.statesSpec).bare Rows.statesUptoRow=true
 have hl:(Rows.statesUptoRow.lifted == Tryz.prog.liftsFinal)=true:=liftsJ
 have hm:(Tryz.prog.make == some Rows.statesUptoRow.make)=true:=makeJ
 unfold joinedFacts
 rw [laidOutJ,mapsRowedJ,mayJ,heardJ,hl,hm,states_j1,states_j2,states_j3,states_j4]
 show (_:Bool)=true
 kernel_rfl
theorem states_said:Rows.StatesUptoSaid :=
 OpenClaim.holds_of_cond 8 Tryz.f8 rfl rfl rfl rfl rfl rfl rfl ⟨rfl,rfl,rfl,rfl,rfl⟩ rfl rfl rfl rfl rfl (by kernel_rfl) Tryz.func8 states_joined
  (of_decide_eq_true (by kernel_rfl)) (by unfold Func.isWrapper;first | (rw [if_pos (by decide +kernel)];kernel_rfl) | (rw [if_neg (by decide +kernel)];exact ⟨rfl,rfl⟩))
  (fun os started H enc _ F=>by rw [OpenClaim.pre_eq_preRow];exact states_lifted os started H enc F)
theorem states_plain (f : FuncId) (fn : Func) (hf : Tryz.pinned.checked.prog.funcNamed "larder/larderlaw.States" = some f) (hfn : Tryz.pinned.checked.prog.funcs[f]? = some fn) :
  true=Tryz.pinned.checked.prog.looks []∧∀ (j:Nat) t,fn.params[j]?=some t→Tryz.pinned.checked.prog.wantsStandIn t=false:=by
 obtain rfl : f = 8 := Option.some.inj ((show Tryz.prog.funcNamed "larder/larderlaw.States" = some 8 by kernel_rfl).symm.trans hf) |>.symm
 obtain rfl:fn=Tryz.f8:=(Option.some.inj (Tryz.func8.symm.trans hfn)).symm
 refine ⟨by kernel_rfl,fun j t ht=>?_⟩
 rw [Tryz.params8] at ht
 have hm:t=22∨t=3:=by simpa using Array.mem_of_getElem? ht
 rcases hm with rfl | rfl
 ·exact (show Tryz.prog.wantsStandIn 22=false by kernel_rfl)
 ·exact (show Tryz.prog.wantsStandIn 3=false by kernel_rfl)
theorem states_card:Rows.StatesUptoCardSaid :=
 Claim7.holds_tied_plain_at .later [] _ _ _ _ states_said (fun _ h=>by cases h) (by kernel_rfl) (fun _ h=>by cases h) statesUpto_row_tie rfl ⟨rfl,rfl⟩ (by kernel_rfl) rfl states_plain (by kernel_rfl)
end Go.Proofs.YtgcedalggnmooaaGreatDoor
