import Derived.Test.YtgcedalggnmooabGreatDoorOpB
import Derived.Deep.RegionHeld
set_option linter.unusedSimpArgs false
set_option linter.unusedVariables false
set_option maxRecDepth 100000
namespace Go.Proofs.YtgcedalggnmooabGreatDoor
open Go.RowKit
def lenAt (w:World) (Lb:Nat):Nat:=match w.cell? ⟨Lb,1,none⟩ with | some (.slice _ n _)=>n | _=>0
theorem kv_set {B:Nat} {w0 w:World} {Z:Nat→Prop} {Lb:Nat} {s:Sv} (h:Kv B w0 w Z Lb s) {b:Nat} (hz:¬ Z b) (hB:B≤b) (i:Nat) (u:Value):Kv B w0 (w.setCell ⟨b,i,none⟩ u) Z Lb s:=by
 have hsz:(w.setCell ⟨b,i,none⟩ u).heap.size=w.heap.size:=by simp [World.setCell]
 have hne:∀ k,k≠b→(w.setCell ⟨b,i,none⟩ u).heap[k]?=w.heap[k]?:=fun k hk=>Below.heap_setCell _ _ _ _ hk
 have h2:=h.two
 refine ⟨⟨h.old.os,h.old.tape,h.old.output,by rw [hsz];exact h.old.size,fun k hk=>(hne k (by omega)).trans (h.old.block k hk)⟩,by rw [hsz];exact h.size,h.two,?_,h.pl.congr (fun k hk=>hne k (fun e=>hz (e ▸ hk))),fun k hk=>by rw [hsz];exact h.zin k hk,h.good⟩
 obtain ⟨⟨t0,v0,g0⟩,⟨t1,v1,g1⟩,g2⟩:=h.gl
 exact ⟨⟨t0,v0,(World.cell?_of_block (a:=⟨2,0,none⟩) (hne 2 (by omega))).trans g0⟩,⟨t1,v1,(World.cell?_of_block (a:=⟨3,0,none⟩) (hne 3 (by omega))).trans g1⟩,by rw [hsz];exact g2⟩
theorem kn_set {Z Z':Nat→Prop} {w w':World} (h:Kn Z w Z' w') {b:Nat} (hb:w.heap.size≤b) (i:Nat) (u:Value):Kn Z w Z' (w'.setCell ⟨b,i,none⟩ u) :=
 ⟨by simp [World.setCell];exact h.size,fun k hk hz=>⟨(Below.heap_setCell _ _ _ _ (show k≠b by omega)).trans (h.keep k hk hz).1,(h.keep k hk hz).2⟩⟩
def PQ (Qn:Act→World→Prop) (D:List Deferred) (p:Value) (G:List PanicEntry→World→Prop) (e:Exit) (a:Act) (w:World):Prop :=
 match e with
 | .normal=>Qn a w
 | .panic ch=>a.defers=D∧a.tmps.getD 4 undef=p∧G ch w
 | _=>False
theorem pq_put {Qn:Act→World→Prop} {D:List Deferred} {p:Value} {G:List PanicEntry→World→Prop} (d:Nat) (hd:d≠4) (v:Value):∀ c a w,PQ Qn D p G (.panic c) (a.put (some d) v) w→PQ Qn D p G (.panic c) a w:=by
 rintro c a w ⟨h1,h2,h3⟩
 refine ⟨h1,?_,h3⟩
 have h2':(a.tmps.setIfInBounds d v).getD 4 undef=p:=h2
 rw [← h2']
 simp [Array.getD_eq_getD_getElem?,Array.getElem?_setIfInBounds_ne hd]
theorem wp_split {P:Program} {c:Code} {Q:Exit→Act→World→Prop} {a:Act} {w:World} (D:List Deferred) (p:Value) (G:List PanicEntry→World→Prop) (hG:∀ ch a' w',a'.defers=D→a'.tmps.getD 4 undef=p→G ch w'→Q (.panic ch) a' w')
  (h:c.wp P (PQ (Q .normal) D p G) a w):c.wp P Q a w :=
 Code.wp_mono (fun e a w q=>by cases e <;> first | exact q | exact hG _ _ _ q.1 q.2.1 q.2.2 | exact False.elim q) h
structure Rpx (B:Nat) (w0 w:World) (Z:Nat→Prop) (Lb:Nat) (sf:Sv) (ch:List PanicEntry) (w2:World):Prop where
 one:∃ tp vp,ch=[{ v:=.iface tp vp,recovered:=false }]
 kv:∃ Z2,Kv B w0 w2 Z2 Lb sf∧Kn Z w Z2 w2∧¬ Z2 (w.heap.size+1)
 box:w2.cell? ⟨w.heap.size,0,none⟩=some (.pointer (some ⟨Lb,0,none⟩))
 tak:w2.heap[w.heap.size+1]?=some (.cells #[.int .i64 0] 3 (0,0))
 sml:sf.lg.length≤70368744177664
abbrev laid2 (w:World) (Lb:Nat):World:=(w.alloc (.cells #[.pointer (some ⟨Lb,0,none⟩)] 23)).alloc (.cells #[.int .i64 0] 3)
end Go.Proofs.YtgcedalggnmooabGreatDoor
