import Derived.Test.YtgcedalggnmooabGreatDoorOpDX
import Derived.Test.YtgcedalggnmooabGreatDoorOpFX
set_option linter.unusedSimpArgs false
set_option linter.unusedVariables false
set_option maxRecDepth 100000
namespace Go.Proofs.YtgcedalggnmooabGreatDoor
open Go.RowKit
end Go.Proofs.YtgcedalggnmooabGreatDoor
namespace Go.Proofs.YtgcedalggnmooabGreatDoor
open Go.RowKit
theorem Kv.keep {B:Nat} {w0 w w':World} {Z:Nat→Prop} {Lb:Nat} {s:Sv} (h:Kv B w0 w Z Lb s) (hb:Below B w0 w') (hs:w.heap.size≤w'.heap.size) (hk:∀ k,Z k→w'.heap[k]?=w.heap[k]?):Kv B w0 w' Z Lb s:=by
 have h2:=h.two
 refine ⟨hb,Nat.le_trans h.size hs,h.two,?_,h.pl.congr hk,fun k hz=>⟨(h.zin k hz).1,Nat.lt_of_lt_of_le (h.zin k hz).2 hs⟩,h.good⟩
 obtain ⟨⟨t0,v0,g0⟩,⟨t1,v1,g1⟩,g2⟩:=h.gl
 have hq:∀ b,b<B→w'.heap[b]?=w.heap[b]?:=fun b hb'=>(hb.block b hb').trans (h.old.block b hb').symm
 exact ⟨⟨t0,v0,(World.cell?_of_block (a:=⟨2,0,none⟩) (hq _ (by show 2<B;omega))).trans g0⟩,⟨t1,v1,(World.cell?_of_block (a:=⟨3,0,none⟩) (hq _ (by show 3<B;omega))).trans g1⟩,Nat.le_trans g2 hs⟩
theorem Kv.wide {B B':Nat} {w0 w1 w:World} {Z:Nat→Prop} {Lb:Nat} {s:Sv} (h:Kv B' w1 w Z Lb s) (hb:Below B w0 w1) (hB:B≤B') (h2:4≤B):Kv B w0 w Z Lb s :=
 ⟨hb.trans (h.old.mono hB),Nat.le_trans hB h.size,h2,h.gl,h.pl,fun k hz=>⟨Nat.le_trans hB (h.zin k hz).1,(h.zin k hz).2⟩,h.good⟩
structure Two (B:Nat) (w0 w:World) (Zp:Nat→Prop) (Lp:Nat) (sp:Sv) (Zq:Nat→Prop) (Lq:Nat) (sq:Sv):Prop where
 p:Kv B w0 w Zp Lp sp
 q:Kv B w0 w Zq Lq sq
 dis:∀ k,Zp k→¬ Zq k
theorem Two.swap {B:Nat} {w0 w:World} {Zp Zq:Nat→Prop} {Lp Lq:Nat} {sp sq:Sv} (h:Two B w0 w Zp Lp sp Zq Lq sq):Two B w0 w Zq Lq sq Zp Lp sp:=⟨h.q,h.p,fun k hq hp=>h.dis k hp hq⟩
theorem Two.stepP {B:Nat} {w0 w w':World} {Zp Zq Zp':Nat→Prop} {Lp Lq:Nat} {sp sq sp':Sv} (h:Two B w0 w Zp Lp sp Zq Lq sq) (hk:Kv B w0 w' Zp' Lp sp') (hn:Kn Zp w Zp' w'):Two B w0 w' Zp' Lp sp' Zq Lq sq :=
 ⟨hk,h.q.keep hk.old hn.size (fun k hz=>(hn.keep k (h.q.zin k hz).2 (fun hp=>h.dis k hp hz)).1),fun k hp hq=>(hn.keep k (h.q.zin k hq).2 (fun hp'=>h.dis k hp' hq)).2 hp⟩
theorem Two.below {B:Nat} {w0 w w':World} {Zp Zq:Nat→Prop} {Lp Lq:Nat} {sp sq:Sv} (h:Two B w0 w Zp Lp sp Zq Lq sq) (hb:Below w.heap.size w w'):Two B w0 w' Zp Lp sp Zq Lq sq:=⟨h.p.below hb,h.q.below hb,h.dis⟩
end Go.Proofs.YtgcedalggnmooabGreatDoor
namespace Go.Proofs.YtgcedalggnmooabGreatDoor
open Go.RowKit
theorem Kv.fresh {B:Nat} {w0 w w':World} {Z Z':Nat→Prop} {Lb Lb':Nat} {s s':Sv} (h:Kv B w0 w Z Lb s) (k:Kv w.heap.size w w' Z' Lb' s'):Two B w0 w' Z Lb s Z' Lb' s' :=
 ⟨h.below k.old,k.wide h.old h.size h.two,fun j hz hz'=>by have:=(h.zin j hz).2;have:=(k.zin j hz').1;omega⟩
end Go.Proofs.YtgcedalggnmooabGreatDoor
