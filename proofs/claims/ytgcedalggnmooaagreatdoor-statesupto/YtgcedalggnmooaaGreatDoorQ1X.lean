import Derived.Test.YtgcedalggnmooaaGreatDoorR6X
import Derived.Test.YtgcedalggnmooaaGreatDoorOd4X
set_option linter.unusedSimpArgs false
set_option linter.unusedVariables false
set_option maxRecDepth 100000
namespace Go.Proofs.YtgcedalggnmooaaGreatDoor
open Go.RowKit
theorem oflat_at:∀ (os:List O) (fs:List Value),fs.length=os.length→∀ (i:Nat),i<os.length→(oflat os fs)[i * 3]?=some (.int .i64 ((os.getD i O0).id:Int))∧(oflat os fs)[i * 3+1]?=some (.int .i64 ((os.getD i O0).goods:Int))∧(oflat os fs)[i * 3+2]?=some (fs.getD i default)
 | [],_,_,i,hi=>by simp at hi
 | _ :: _,[],h,_,_=>by simp at h
 | o :: os,f :: fs,h,0,_=>by simp [oflat]
 | o :: os,f :: fs,h,i+1,hi=>by
  have ih:=oflat_at os fs (by simpa using h) i (by simpa using hi)
  have e1:(i+1) * 3=i * 3+1+1+1:=by omega
  rw [e1]
  simpa [oflat] using ih
theorem lflat_at:∀ (l:List (Nat × Nat)) (i:Nat),i<l.length→(lflat l)[i * 2]?=some (.int .i64 ((l.getD i (0,0)).1:Int))∧(lflat l)[i * 2+1]?=some (.int .i64 ((l.getD i (0,0)).2:Int))
 | [],_,h=>by simp at h
 | p :: r,0,_=>by simp [lflat]
 | p :: r,i+1,h=>by
  have:=lflat_at r i (by simpa using h)
  have e1:(i+1) * 2=i * 2+1+1:=by omega
  rw [e1]
  simpa [lflat] using this
theorem parts_cells {w:World} {base:Nat} {a:Option Addr} {cap:Nat} {l:List (Nat × Nat)} (h:w.ownsRow base 181 2 (.slice a l.length cap) l.length (lflat l)) (k:Nat) (hk:k<l.length):∃ G,a=some ⟨G,0,none⟩∧G<w.heap.size∧w.cell? ⟨G,k * 2,none⟩=some (.int .i64 ((l.getD k (0,0)).1:Int))∧w.cell? ⟨G,k * 2+1,none⟩=some (.int .i64 ((l.getD k (0,0)).2:Int)):=by
 obtain ⟨g,cap',hv',_,hlt⟩:=own_someS h (by omega)
 cases hv'
 refine ⟨g,rfl,hlt,?_,?_⟩
 ·rw [h.cellAt (k * 2) (by omega)];exact (lflat_at l k hk).1
 ·rw [h.cellAt (k * 2+1) (by omega)];exact (lflat_at l k hk).2
theorem Od.shape {rcs:List (Nat × Nat)} {os:List O} {ro:Ro} {w:World} (h:Od os rcs ro w):∃ a cap,ro.ov=.slice a os.length cap∧∀ i,i<os.length→∃ G,a=some ⟨G,0,none⟩∧G<w.heap.size∧w.cell? ⟨G,i * 3,none⟩=some (.int .i64 ((os.getD i O0).id:Int))∧w.cell? ⟨G,i * 3+1,none⟩=some (.int .i64 ((os.getD i O0).goods:Int))∧w.cell? ⟨G,i * 3+2,none⟩=some (ro.lvs.getD i default):=by
 obtain ⟨a,cap,hv⟩:=own_shapeS h.row
 refine ⟨a,cap,hv,fun i hi=>?_⟩
 obtain ⟨g,cap',hv',_,hlt⟩:=own_someS h.row (by omega)
 rw [hv] at hv'
 cases hv'
 have hr:=h.row
 rw [hv] at hr
 obtain ⟨q1,q2,q3⟩:=oflat_at os ro.lvs h.llen i hi
 refine ⟨g,rfl,hlt,?_,?_,?_⟩
 ·rw [hr.cellAt (i * 3) (by omega)];exact q1
 ·rw [hr.cellAt (i * 3+1) (by omega)];exact q2
 ·rw [hr.cellAt (i * 3+2) (by omega)];exact q3
def oix (n:Nat) (os:List O):Nat:=os.findIdx (fun o=>o.id == n)
theorem oix_hit {n:Nat} {os:List O} {k:Nat} (hk:k<os.length) (hb:∀ j,j<k→(os.getD j O0).id≠n) (hh:(os.getD k O0).id=n):oix n os=k:=by
 unfold oix
 rw [List.findIdx_eq hk]
 simp only [List.getD_eq_getElem?_getD,List.getElem?_eq_getElem hk,Option.getD_some] at hh
 refine ⟨by simpa using hh,fun j hj=>?_⟩
 have:=hb j hj
 simp only [List.getD_eq_getElem?_getD,List.getElem?_eq_getElem (show j<os.length by omega),Option.getD_some] at this
 simpa using this
theorem oix_miss {n:Nat} {os:List O} (hb:∀ j,j<os.length→(os.getD j O0).id≠n):oix n os=os.length:=by
 unfold oix
 rw [List.findIdx_eq_length]
 intro x hx
 obtain ⟨j,hj,rfl⟩:=List.getElem_of_mem hx
 have:=hb j hj
 simp only [List.getD_eq_getElem?_getD,List.getElem?_eq_getElem hj,Option.getD_some] at this
 simpa using this
theorem oix_any {n:Nat} {os:List O}:oix n os<os.length↔os.any (fun o=>o.id == n)=true:=by
 unfold oix
 rw [List.findIdx_lt_length]
 simp [List.any_eq_true]
theorem oix_id {n:Nat} {os:List O} (h:oix n os<os.length):(os.getD (oix n os) O0).id=n:=by
 have h2:(os[oix n os]'h).id=n:=beq_iff_eq.1 (List.findIdx_getElem (xs:=os) (p:=fun o:O=>o.id == n) (w:=h))
 simp only [List.getD_eq_getElem?_getD,List.getElem?_eq_getElem h,Option.getD_some]
 exact h2
def orderV (os:List O) (n:Nat):Int:=if oix n os<os.length then (oix n os:Int) else -1
set_option maxHeartbeats 800000 in
theorem orderR_any {rcs:List (Nat × Nat)} {w:World} {R:Nat} {v:Value} {td:Nat} {rec:ByteArray} {fs:List Value} {ls:List L} {os:List O} {ro:Ro} (h:RV os rcs ro w R v td rec fs ls) (hol:os.length≤10) (hoid:∀ o ∈ os,o.id≤2147483647) (n:Nat) (hn:n≤2147483647) :
  Calls Tryz.prog 114 #[.pointer (some ⟨R,0,none⟩),.int .i64 (n:Int)] w fun e w'=>e=.returned (.int .i64 (orderV os n))∧w'=w:=by
 obtain ⟨a,cap,hv,hrow⟩:=h.ord.shape
 have c2:=h.c2
 rw [hv] at c2
 clear h hv
 go_enter Tryz.func114,Tryz.ntmps114
 go_wp2_with fail
 go_loop [5] (fun i=>∃ k:Nat,k≤os.length∧i=.int .i64 k∧(∀ j,j<k→(os.getD j O0).id≠n)) (fun i=>os.length - (intOf i).toNat)
 case atStart=>exact ⟨0,by omega,rfl,fun j h=>absurd h (by omega)⟩
 case round =>
  obtain ⟨k,hk,rfl,hne⟩:=hrel
  by_cases hlt:k<os.length
  ·obtain ⟨G,hG,_,hcl,_,_⟩:=hrow k hlt
   subst hG
   have hid:(os.getD k O0).id≤2147483647:=hoid _ (by simp [List.getD_eq_getElem?_getD,hlt])
   obtain ⟨m,HM⟩:∃ m,Hid (m=(os.getD k O0).id):=⟨_,rfl⟩
   rw [← HM.out] at hcl hid
   clear hrow
   by_cases hm:m=n
   ·have hmb:=beqN_t hm
    have HH:Hid (orderV os n=(k:Int)):=by
     have:=oix_hit hlt hne (by rw [← HM.out];exact hm)
     unfold Hid orderV;rw [this,if_pos hlt]
    clear hm
    go_wp2_with fail
    go_ret
    exact ⟨by rw [HH.out];rfl,rfl⟩
   ·have hmb:=beqN_f hm
    have HN:=hide hm
    clear hm
    go_wp2_with fail
    go_round
    case rel =>
     refine ⟨k+1,by omega,by go_num,?_⟩
     intro j hj
     by_cases hjk:j=k
     ·subst hjk;rw [← HM.out];exact HN.out
     ·exact hne j (by omega)
    case measure=>simp [intOf];omega
  ·obtain rfl:k=os.length:=by omega
   have HH:Hid (orderV os n=-1):=by
    have:=oix_miss hne
    unfold Hid orderV;rw [this,if_neg (by omega)]
   clear hrow hlt
   go_wp2_with fail
   go_ret
   exact ⟨by rw [HH.out];rfl,rfl⟩
theorem and2e {way:Nat} (h:way≤3):(bits .and .i64 (way:Int) 2 == 2)=wayF way:=by
 rcases (show way=0∨way=1∨way=2∨way=3 by omega) with rfl | rfl | rfl | rfl <;> decide
theorem and1e {way:Nat} (h:way≤3):(bits .and .i64 (way:Int) 1 == 1)=wayW way:=by
 rcases (show way=0∨way=1∨way=2∨way=3 by omega) with rfl | rfl | rfl | rfl <;> decide
end Go.Proofs.YtgcedalggnmooaaGreatDoor
namespace Go.Proofs.YtgcedalggnmooaaGreatDoor
open Go.RowKit
def rAgg (l:L) (f:Value):Value:=.agg #[.int .i64 (l.id:Int),.int .i64 (l.goods:Int),.int .i64 (l.expiry:Int),.int .i64 (l.place:Int),.int .i64 (l.got:Int),.int .i64 (l.free:Int),.int .i64 (l.held:Int),.int .i64 (l.shipped:Int),.int .i64 (l.scrapped:Int),.int .i64 (l.given:Int),f]
def rObj (l:L) (f:Value):Obj:=.cells #[.int .i64 (l.id:Int),.int .i64 (l.goods:Int),.int .i64 (l.expiry:Int),.int .i64 (l.place:Int),.int .i64 (l.got:Int),.int .i64 (l.free:Int),.int .i64 (l.held:Int),.int .i64 (l.shipped:Int),.int .i64 (l.scrapped:Int),.int .i64 (l.given:Int),f] 129 (0,0)
set_option maxHeartbeats 1600000 in
theorem sooner_ext (la lb:L) (fa fb:Option Addr) (na nb ca cb:Nat) (way:Nat) (hway:way≤3) (oa:L.Ok la) (ob:L.Ok lb) (w:World) (x:Ex) :
  Calls Tryz.prog 184 #[rAgg la (.slice fa na ca),rAgg lb (.slice fb nb cb),.int .i64 (way:Int)] (ext w x) fun e w'=>e=.returned (.bool (bef (wayF way) la lb))∧∃ x',w'=ext w x':=by
 have q1:=oa.place
 have q2:=ob.place
 have q3:=oa.expiry
 have q4:=ob.expiry
 have q5:=oa.id
 have q6:=ob.id
 have h2b:=and2e hway
 have hA:=heap_alloc_new (ext w x) (rObj la (.slice fa na ca))
 have hA2:=(al1 ((ext w x).alloc (rObj la (.slice fa na ca))) (rObj lb (.slice fb nb cb))).block (ext w x).heap.size (by simp)
 have hA':=hA2.trans hA
 have hB':=heap_alloc_new ((ext w x).alloc (rObj la (.slice fa na ca))) (rObj lb (.slice fb nb cb))
 have e1:(((ext w x).alloc (rObj la (.slice fa na ca))).alloc (rObj lb (.slice fb nb cb))).cell? ⟨(ext w x).heap.size,3,none⟩=some (.int .i64 (la.place:Int)):=by rw [blk_cell hA'];rfl
 have e2:(((ext w x).alloc (rObj la (.slice fa na ca))).alloc (rObj lb (.slice fb nb cb))).cell? ⟨((ext w x).alloc (rObj la (.slice fa na ca))).heap.size,3,none⟩=some (.int .i64 (lb.place:Int)):=by rw [blk_cell hB'];rfl
 have e3:(((ext w x).alloc (rObj la (.slice fa na ca))).alloc (rObj lb (.slice fb nb cb))).cell? ⟨(ext w x).heap.size,2,none⟩=some (.int .i64 (la.expiry:Int)):=by rw [blk_cell hA'];rfl
 have e4:(((ext w x).alloc (rObj la (.slice fa na ca))).alloc (rObj lb (.slice fb nb cb))).cell? ⟨((ext w x).alloc (rObj la (.slice fa na ca))).heap.size,2,none⟩=some (.int .i64 (lb.expiry:Int)):=by rw [blk_cell hB'];rfl
 have e5:(((ext w x).alloc (rObj la (.slice fa na ca))).alloc (rObj lb (.slice fb nb cb))).cell? ⟨(ext w x).heap.size,0,none⟩=some (.int .i64 (la.id:Int)):=by rw [blk_cell hA'];rfl
 have e6:(((ext w x).alloc (rObj la (.slice fa na ca))).alloc (rObj lb (.slice fb nb cb))).cell? ⟨((ext w x).alloc (rObj la (.slice fa na ca))).heap.size,0,none⟩=some (.int .i64 (lb.id:Int)):=by rw [blk_cell hB'];rfl
 have HX:Hid (((ext w x).alloc (rObj la (.slice fa na ca))).alloc (rObj lb (.slice fb nb cb))=ext w ⟨x.n,(x.os.push (rObj la (.slice fa na ca))).push (rObj lb (.slice fb nb cb))⟩):=by unfold Hid;rw [ext_alloc,ext_alloc]
 simp only [World.size_alloc] at e2 e4 e6
 unfold rObj at e1 e2 e3 e4 e5 e6 HX
 unfold rAgg
 clear hA hA2 hA' hB'
 cases hw:wayF way with
 | true =>
  have HB:Hid (bef true la lb=decide (la.place<lb.place)):=rfl
  generalize bef true la lb=bb at HB ⊢
  rw [hw] at h2b
  clear hw oa ob
  go_enter Tryz.func184,Tryz.ntmps184
  go_wp2_with fail
  go_ret
  exact ⟨by rw [HB.out];rfl,_,HX.out⟩
 | false =>
  rw [hw] at h2b
  by_cases hlt:la.expiry<lb.expiry
  ·have HB:Hid (bef false la lb=true):=by unfold Hid bef;simp [hlt]
   generalize bef false la lb=bb at HB ⊢
   have hd:decide ((la.expiry:Int)<(lb.expiry:Int))=true:=by simp;omega
   clear hw oa ob
   go_enter Tryz.func184,Tryz.ntmps184
   go_wp2_with fail
   go_ret
   exact ⟨by rw [HB.out];rfl,_,HX.out⟩
  ·have hd:decide ((la.expiry:Int)<(lb.expiry:Int))=false:=by simp;omega
   by_cases he:la.expiry=lb.expiry
   ·have HB:Hid (bef false la lb=decide (la.id<lb.id)):=by unfold Hid bef;simp [he]
    have heb:=beqN_t he
    generalize bef false la lb=bb at HB ⊢
    clear hw oa ob he
    go_enter Tryz.func184,Tryz.ntmps184
    go_wp2_with fail
    go_ret
    exact ⟨by rw [HB.out];rfl,_,HX.out⟩
   ·have HB:Hid (bef false la lb=false):=by unfold Hid bef;simp [he];omega
    have heb:=beqN_f he
    generalize bef false la lb=bb at HB ⊢
    clear hw oa ob he
    go_enter Tryz.func184,Tryz.ntmps184
    go_wp2_with fail
    go_ret
    exact ⟨by rw [HB.out];rfl,_,HX.out⟩
end Go.Proofs.YtgcedalggnmooaaGreatDoor
namespace Go.Proofs.YtgcedalggnmooaaGreatDoor
open Go.RowKit
def cand (rcs:List (Nat × Nat)) (td goods gate:Nat) (ls:List L) (ln:List (Nat × Nat)) (i:Nat):Prop:=srv (recB rcs ls) td goods gate (ls.getD i L0)=true∧∀ p ∈ ln,p.1≠(ls.getD i L0).id
def Nx (rcs:List (Nat × Nat)) (f:Bool) (td goods gate:Nat) (ls:List L) (ln:List (Nat × Nat)) (k:Nat) (r:Int):Prop :=
 (r=-1∧∀ c,c<k→¬ cand rcs td goods gate ls ln c)∨∃ b:Nat,r=(b:Int)∧b<k∧cand rcs td goods gate ls ln b∧∀ c,c<k→cand rcs td goods gate ls ln c→befI f ls c b=false
theorem Nx.skip {rcs:List (Nat × Nat)} {f:Bool} {td goods gate:Nat} {ls:List L} {ln:List (Nat × Nat)} {k:Nat} {r:Int} (h:Nx rcs f td goods gate ls ln k r) (hn:¬ cand rcs td goods gate ls ln k):Nx rcs f td goods gate ls ln (k+1) r:=by
 rcases h with ⟨h1,h2⟩ | ⟨b,h1,h2,h3,h4⟩
 ·refine Or.inl ⟨h1,fun c hc=>?_⟩
  by_cases e:c=k
  ·subst e;exact hn
  ·exact h2 c (by omega)
 ·refine Or.inr ⟨b,h1,by omega,h3,fun c hc hq=>?_⟩
  by_cases e:c=k
  ·subst e;exact absurd hq hn
  ·exact h4 c (by omega) hq
theorem Nx.first {rcs:List (Nat × Nat)} {f:Bool} {td goods gate:Nat} {ls:List L} {ln:List (Nat × Nat)} {k:Nat} (h:∀ c,c<k→¬ cand rcs td goods gate ls ln c) (hc:cand rcs td goods gate ls ln k):Nx rcs f td goods gate ls ln (k+1) (k:Int):=by
 refine Or.inr ⟨k,rfl,by omega,hc,fun c hc' hq=>?_⟩
 by_cases e:c=k
 ·subst e;exact bef_irrefl f _
 ·exact absurd hq (h c (by omega))
theorem Nx.better {rcs:List (Nat × Nat)} {f:Bool} {td goods gate:Nat} {ls:List L} {ln:List (Nat × Nat)} {k b:Nat} (h4:∀ c,c<k→cand rcs td goods gate ls ln c→befI f ls c b=false) (hc:cand rcs td goods gate ls ln k) (ht:befI f ls k b=true):Nx rcs f td goods gate ls ln (k+1) (k:Int):=by
 refine Or.inr ⟨k,rfl,by omega,hc,fun c hc' hq=>?_⟩
 by_cases e:c=k
 ·subst e;exact bef_irrefl f _
 ·exact bef_trans (bef_asymm ht) (h4 c (by omega) hq)
theorem Nx.stay {rcs:List (Nat × Nat)} {f:Bool} {td goods gate:Nat} {ls:List L} {ln:List (Nat × Nat)} {k b:Nat} (hb:b<k) (hcb:cand rcs td goods gate ls ln b) (h4:∀ c,c<k→cand rcs td goods gate ls ln c→befI f ls c b=false) (ht:befI f ls k b=false):Nx rcs f td goods gate ls ln (k+1) (b:Int):=by
 refine Or.inr ⟨b,rfl,by omega,hcb,fun c hc' hq=>?_⟩
 by_cases e:c=k
 ·subst e;exact ht
 ·exact h4 c (by omega) hq
set_option maxHeartbeats 3200000 in
theorem next_any {rcs:List (Nat × Nat)} {w:World} {R:Nat} {v:Value} {td:Nat} {rec:ByteArray} {fs:List Value} {ls:List L} {os:List O} {ro:Ro} (h:RV os rcs ro w R v td rec fs ls) (ln:List (Nat × Nat)) (hln:ln.length≤30) (hlb:∀ p ∈ ln,p.1≤2147483647) (a:Option Addr) (cap:Nat) (base:Nat) (hrow:w.ownsRow base 181 2 (.slice a ln.length cap) ln.length (lflat ln)) (goods gate way:Nat) (h1:goods≤2147483647) (h2:gate≤2147483647) (h3:way≤3) :
  Calls Tryz.prog 160 #[.pointer (some ⟨R,0,none⟩),.slice a ln.length cap,.int .i64 (goods:Int),.int .i64 (gate:Int),.int .i64 (way:Int)] w fun e w'=>Below w.heap.size w w'∧∃ r:Int,e=.returned (.int .i64 r)∧Nx rcs (wayF way) td goods gate ls ln ls.length r:=by
 obtain ⟨va,vcap,hv,hcells⟩:=h.shape
 have c1:=h.c1
 rw [hv] at c1
 have hR:=blk_lt h.store
 have hroom:=h.room
 have HP:=hide h
 have HCE:=hide hcells
 have HPA:=hide (fun k hk=>parts_cells hrow k hk)
 have HLB:=hide hlb
 clear h hv hcells hrow hlb
 go_enter Tryz.func160,Tryz.ntmps160
 go_wp2_with fail
 go_loopw [11,12,13,14,15] (fun bb ii _ _ _ wr=>∃ (k:Nat) (r:Int),ii=.int .i64 k∧k≤ls.length∧bb=.int .i64 r∧Nx rcs (wayF way) td goods gate ls ln k r∧Below w.heap.size w wr) (fun _ ii _ _ _ _=>ls.length - (intOf ii).toNat)
 case atStart=>exact ⟨0,-1,rfl,by omega,rfl,Or.inl ⟨rfl,fun c hc=>absurd hc (by omega)⟩,Below.refl _ _⟩
 case round =>
  obtain ⟨k,r,rfl,hk,rfl,hnx,hb⟩:=hrel
  have cR:wr.cell? ⟨R,1,none⟩=some (.slice va ls.length vcap):=(hb.cell (by exact hR)).trans c1
  by_cases hlt:k<ls.length
  ·have HS:=hide (serves_any (HP.out.below hb) k goods gate hlt h1 h2)
   have HNX:=hide hnx
   have HB:=hide hb
   clear hnx hb
   go_wp2_with fail
   with_reducible refine (HS.out).mono ?_
   rintro e w1 ⟨rfl,hb1⟩
   have HB1:=hide (HB.out.trans (hb1.mono HB.out.size))
   obtain ⟨G,hG,hGlt,hcl⟩:=HCE.out (by omega)
   subst hG
   have hidk:w.cell? ⟨G,k * 11,none⟩=some (.int .i64 ((ls.getD k L0).id:Int)):=hcl k hlt 0 (by omega)
   have hidb:(ls.getD k L0).id≤2147483647:=(HP.out.ok _ (mem_getD hlt)).id
   have HCL:=hide hcl
   obtain ⟨sk,HSK⟩:∃ sk,Hid (sk=srv (recB rcs ls) td goods gate (ls.getD k L0)):=⟨_,rfl⟩
   rw [← HSK.out]
   obtain ⟨idk,HID⟩:∃ idk,Hid (idk=(ls.getD k L0).id):=⟨_,rfl⟩
   rw [← HID.out] at hidk hidb
   clear hb1 hcl HS
   rename World=>wx
   go_wp2_with fail
   go_loopw [13,14] (fun oo jj w2=>∃ j:Nat,jj=.int .i64 j∧j≤ln.length∧oo=.bool (sk && (ln.take j).all (fun p=>p.1 != idk))∧Below w.heap.size w w2) (fun _ jj _=>ln.length - (intOf jj).toNat)
   case atStart=>exact ⟨0,rfl,by omega,by simp,HB1.out⟩
   case round =>
    clear HB1 cR
    obtain ⟨j,rfl,hj,rfl,hb2⟩:=hrel
    have cR:wr.cell? ⟨R,1,none⟩=some (.slice (some ⟨G,0,none⟩) ls.length vcap):=(hb2.cell (by exact hR)).trans c1
    have cK:wr.cell? ⟨G,k * 11,none⟩=some (.int .i64 (idk:Int)):=(hb2.cell (by exact hGlt)).trans hidk
    by_cases hjl:j<ln.length
    ·obtain ⟨PG,hPG,hPlt,p1,p2⟩:=HPA.out j hjl
     subst hPG
     have cP:wr.cell? ⟨PG,j * 2,none⟩=some (.int .i64 ((ln.getD j (0,0)).1:Int)):=(hb2.cell (by exact hPlt)).trans p1
     have hpb:(ln.getD j (0,0)).1≤2147483647:=HLB.out _ (by simp [List.getD_eq_getElem?_getD,hjl])
     have HT:Hid ((ln.take (j+1)).all (fun p=>p.1 != idk)=((ln.take j).all (fun p=>p.1 != idk) && ((ln.getD j (0,0)).1 != idk))):=by
      have e:ln.take (j+1)=ln.take j++[ln.getD j (0,0)]:=by
       rw [List.take_succ_eq_append_getElem hjl];simp [List.getD_eq_getElem?_getD,hjl]
      unfold Hid;rw [e,List.all_append];simp
     obtain ⟨pj,HPJ⟩:∃ pj,Hid (pj=(ln.getD j (0,0)).1):=⟨_,rfl⟩
     rw [← HPJ.out] at cP hpb HT
     clear p1 p2
     cases hok:(sk && (ln.take j).all (fun p=>p.1 != idk)) with
     | true =>
      have HN:Hid ((sk && (ln.take (j+1)).all (fun p=>p.1 != idk))=(pj != idk)):=by
       unfold Hid;rw [HT.out,← Bool.and_assoc,hok];simp
      by_cases hne:pj=idk
      ·have hbn:((pj:Int) != (idk:Int))=false:=by rw [hne];simp
       have HN2:Hid ((sk && (ln.take (j+1)).all (fun p=>p.1 != idk))=false):=by unfold Hid;rw [HN.out,hne];simp
       clear hok hne
       go_wp2_with fail
       go_quiet (fail)
       go_wp2_with fail
       go_roundw
       case rel=>exact ⟨j+1,by go_num,by omega,by rw [HN2.out],below_drewN hb2 nq⟩
       case measure=>simp [intOf];omega
      ·have hbn:((pj:Int) != (idk:Int))=true:=by rw [bne_iff_ne];omega
       have HN2:Hid ((sk && (ln.take (j+1)).all (fun p=>p.1 != idk))=true):=by unfold Hid;rw [HN.out];simp [hne]
       clear hok hne
       go_wp2_with fail
       go_quiet (fail)
       go_wp2_with fail
       go_roundw
       case rel=>exact ⟨j+1,by go_num,by omega,by rw [HN2.out],below_drewN hb2 nq⟩
       case measure=>simp [intOf];omega
     | false =>
      have HN:Hid ((sk && (ln.take (j+1)).all (fun p=>p.1 != idk))=false):=by
       unfold Hid;rw [HT.out,← Bool.and_assoc,hok];simp
      clear hok
      go_wp2_with fail
      go_quiet (fail)
      go_wp2_with fail
      go_roundw
      case rel=>exact ⟨j+1,by go_num,by omega,by rw [HN.out],below_drewN hb2 nq⟩
      case measure=>simp [intOf];omega
    ·obtain rfl:j=ln.length:=by omega
     rw [List.take_length]
     have hcand:(sk && ln.all (fun p=>p.1 != idk))=true↔cand rcs td goods gate ls ln k:=by
      unfold cand
      rw [HSK.out,HID.out,Bool.and_eq_true,List.all_eq_true]
      constructor
      ·rintro ⟨q1,q2⟩;exact ⟨q1,fun p hp=>by simpa using q2 p hp⟩
      ·rintro ⟨q1,q2⟩;exact ⟨q1,fun p hp=>by simpa using q2 p hp⟩
     cases hok:(sk && ln.all (fun p=>p.1 != idk)) with
     | false =>
      have HN:=hide (HNX.out.skip (fun q=>by rw [hcand.2 q] at hok;cases hok))
      clear hok hcand hjl
      go_wp2_with fail
      go_roundw
      case rel=>exact ⟨k+1,r,by go_num,by omega,rfl,HN.out,hb2⟩
      case measure=>simp [intOf];omega
     | true =>
      have hc:=hcand.1 hok
      clear hok hcand hjl
      rcases HNX.out with ⟨hr,hno⟩ | ⟨b,hr,hbk,hcb,hmin⟩
      ·subst hr
       have HN:=hide (Nx.first (f:=wayF way) hno hc)
       clear hno hc
       go_wp2_with fail
       go_roundw
       case rel=>exact ⟨k+1,(k:Int),by go_num,by omega,rfl,HN.out,hb2⟩
       case measure=>simp [intOf];omega
      ·subst hr
       have hbl:b<ls.length:=by omega
       have hsk:IsSl (fs.getD k default):=HP.out.fsl _ (getD_mem_val (by rw [HP.out.flen];exact hlt))
       have hsb:IsSl (fs.getD b default):=HP.out.fsl _ (getD_mem_val (by rw [HP.out.flen];exact hbl))
       obtain ⟨ka,kn,kc,hsk⟩:=hsk
       obtain ⟨ba,bn,bc,hsb⟩:=hsb
       have kC:∀ x j,j<11→(ext wr x).cell? ⟨G,k * 11+j,none⟩=(refCells (ls.getD k L0) (.slice ka kn kc))[j]?:=fun x j hj=>by
        rw [← hsk];exact ((ext_below wr x).cell (by exact Nat.lt_of_lt_of_le hGlt hb2.size)).trans ((hb2.cell (by exact hGlt)).trans (HCL.out k hlt j hj))
       have bC:∀ x j,j<11→(ext wr x).cell? ⟨G,b * 11+j,none⟩=(refCells (ls.getD b L0) (.slice ba bn bc))[j]?:=fun x j hj=>by
        rw [← hsb];exact ((ext_below wr x).cell (by exact Nat.lt_of_lt_of_le hGlt hb2.size)).trans ((hb2.cell (by exact hGlt)).trans (HCL.out b hbl j hj))
       have HSO:=hide (fun x=>sooner_ext (ls.getD k L0) (ls.getD b L0) ka ba kn bn kc bc way h3 (HP.out.ok _ (mem_getD hlt)) (HP.out.ok _ (mem_getD hbl)) wr x)
       have xR:∀ x,(ext wr x).cell? ⟨R,1,none⟩=some (.slice (some ⟨G,0,none⟩) ls.length vcap):=fun x=>((ext_below wr x).cell (by exact Nat.lt_of_lt_of_le hR hb2.size)).trans cR
       have HBE:Hid (befI (wayF way) ls k b=bef (wayF way) (ls.getD k L0) (ls.getD b L0)):=rfl
       obtain ⟨lk,HLK⟩:∃ lk,Hid (lk=ls.getD k L0):=⟨_,rfl⟩
       obtain ⟨lb,HLBB⟩:∃ lb,Hid (lb=ls.getD b L0):=⟨_,rfl⟩
       rw [← HLK.out] at kC HSO HBE
       rw [← HLBB.out] at bC HSO HBE
       unfold rAgg at HSO
       have k0:∀ x,(ext wr x).cell? ⟨G,k * 11,none⟩=some (.int .i64 (lk.id:Int)):=fun x=>kC x 0 (by omega)
       have k1:∀ x,(ext wr x).cell? ⟨G,k * 11+1,none⟩=some (.int .i64 (lk.goods:Int)):=fun x=>kC x 1 (by omega)
       have k2:∀ x,(ext wr x).cell? ⟨G,k * 11+2,none⟩=some (.int .i64 (lk.expiry:Int)):=fun x=>kC x 2 (by omega)
       have k3:∀ x,(ext wr x).cell? ⟨G,k * 11+3,none⟩=some (.int .i64 (lk.place:Int)):=fun x=>kC x 3 (by omega)
       have k4:∀ x,(ext wr x).cell? ⟨G,k * 11+4,none⟩=some (.int .i64 (lk.got:Int)):=fun x=>kC x 4 (by omega)
       have k5:∀ x,(ext wr x).cell? ⟨G,k * 11+5,none⟩=some (.int .i64 (lk.free:Int)):=fun x=>kC x 5 (by omega)
       have k6:∀ x,(ext wr x).cell? ⟨G,k * 11+6,none⟩=some (.int .i64 (lk.held:Int)):=fun x=>kC x 6 (by omega)
       have k7:∀ x,(ext wr x).cell? ⟨G,k * 11+7,none⟩=some (.int .i64 (lk.shipped:Int)):=fun x=>kC x 7 (by omega)
       have k8:∀ x,(ext wr x).cell? ⟨G,k * 11+8,none⟩=some (.int .i64 (lk.scrapped:Int)):=fun x=>kC x 8 (by omega)
       have k9:∀ x,(ext wr x).cell? ⟨G,k * 11+9,none⟩=some (.int .i64 (lk.given:Int)):=fun x=>kC x 9 (by omega)
       have k10:∀ x,(ext wr x).cell? ⟨G,k * 11+10,none⟩=some (.slice ka kn kc):=fun x=>kC x 10 (by omega)
       have b0:∀ x,(ext wr x).cell? ⟨G,b * 11,none⟩=some (.int .i64 (lb.id:Int)):=fun x=>bC x 0 (by omega)
       have b1:∀ x,(ext wr x).cell? ⟨G,b * 11+1,none⟩=some (.int .i64 (lb.goods:Int)):=fun x=>bC x 1 (by omega)
       have b2:∀ x,(ext wr x).cell? ⟨G,b * 11+2,none⟩=some (.int .i64 (lb.expiry:Int)):=fun x=>bC x 2 (by omega)
       have b3:∀ x,(ext wr x).cell? ⟨G,b * 11+3,none⟩=some (.int .i64 (lb.place:Int)):=fun x=>bC x 3 (by omega)
       have b4:∀ x,(ext wr x).cell? ⟨G,b * 11+4,none⟩=some (.int .i64 (lb.got:Int)):=fun x=>bC x 4 (by omega)
       have b5:∀ x,(ext wr x).cell? ⟨G,b * 11+5,none⟩=some (.int .i64 (lb.free:Int)):=fun x=>bC x 5 (by omega)
       have b6:∀ x,(ext wr x).cell? ⟨G,b * 11+6,none⟩=some (.int .i64 (lb.held:Int)):=fun x=>bC x 6 (by omega)
       have b7:∀ x,(ext wr x).cell? ⟨G,b * 11+7,none⟩=some (.int .i64 (lb.shipped:Int)):=fun x=>bC x 7 (by omega)
       have b8:∀ x,(ext wr x).cell? ⟨G,b * 11+8,none⟩=some (.int .i64 (lb.scrapped:Int)):=fun x=>bC x 8 (by omega)
       have b9:∀ x,(ext wr x).cell? ⟨G,b * 11+9,none⟩=some (.int .i64 (lb.given:Int)):=fun x=>bC x 9 (by omega)
       have b10:∀ x,(ext wr x).cell? ⟨G,b * 11+10,none⟩=some (.slice ba bn bc):=fun x=>bC x 10 (by omega)
       clear kC bC cK hsk hsb
       haveI hinh:Inhabited Ex:=⟨⟨0,#[]⟩⟩
       generalize bef (wayF way) lk lb=bb at HSO HBE
       cases bb with
       | true =>
        have HN:=hide (Nx.better hmin hc HBE.out)
        clear hmin hc hcb
        go_wp2_with fail
        refine wp_region_ext (by kernel_rfl) (by kernel_rfl) ?_
        repeat (go_big_quiet_step ((go_at_call 184;exact HSO.out _)))
        refine wpQuiet_nil ?_
        intro _ hw'
        obtain ⟨x,hw''⟩:=hw'
        subst hw''
        have hbx:=hb2.trans ((ext_below wr x).mono hb2.size)
        generalize ext wr x=wz at *
        clear xR k0 k1 k2 k3 k4 k5 k6 k7 k8 k9 k10 b0 b1 b2 b3 b4 b5 b6 b7 b8 b9 b10 HSO
        go_wp2_with fail
        go_roundw
        case rel=>exact ⟨k+1,(k:Int),by go_num,by omega,rfl,HN.out,hbx⟩
        case measure=>simp [intOf];omega
       | false =>
        have HN:=hide (Nx.stay hbk hcb hmin HBE.out)
        clear hmin hc hcb
        go_wp2_with fail
        refine wp_region_ext (by kernel_rfl) (by kernel_rfl) ?_
        repeat (go_big_quiet_step ((go_at_call 184;exact HSO.out _)))
        refine wpQuiet_nil ?_
        intro _ hw'
        obtain ⟨x,hw''⟩:=hw'
        subst hw''
        have hbx:=hb2.trans ((ext_below wr x).mono hb2.size)
        generalize ext wr x=wz at *
        clear xR k0 k1 k2 k3 k4 k5 k6 k7 k8 k9 k10 b0 b1 b2 b3 b4 b5 b6 b7 b8 b9 b10 HSO
        go_wp2_with fail
        go_roundw
        case rel=>exact ⟨k+1,(b:Int),by go_num,by omega,rfl,HN.out,hbx⟩
        case measure=>simp [intOf];omega
  ·obtain rfl:k=ls.length:=by omega
   have HNX:=hide hnx
   have HB:=hide hb
   clear hlt hnx hb
   go_wp2_with fail
   go_ret
   exact ⟨HB.out,r,rfl,HNX.out⟩
end Go.Proofs.YtgcedalggnmooaaGreatDoor
