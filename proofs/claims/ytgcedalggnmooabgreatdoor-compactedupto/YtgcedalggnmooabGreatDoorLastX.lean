import Derived.Test.YtgcedalggnmooabGreatDoorPlain
import Derived.OrdersHeld
import Derived.BigQuiet
set_option linter.unusedSimpArgs false
set_option linter.unusedVariables false
set_option maxRecDepth 100000
namespace Go.Proofs.YtgcedalggnmooabGreatDoor
open Go.RowKit
section
variable {P:Program} {ops:Array Oper} {Q:Exit→Act→World→Prop} {S:World→Prop} {N:Nat}
def wpN (P:Program) (ops:Array Oper) (Q:Exit→Act→World→Prop) (S:World→Prop) (N:Nat):Nat→Array Bool→Act→World→Prop
 | 0,listed,a,w=>Region.ready .any ops listed=[]∧Q .normal a w
 | fuel+1,listed,a,w=>(Region.ready .any ops listed=[]→Q .normal a w) ∧
  ∀ i ∈ Region.ready .any ops listed,wpOp P ops Q i (fun a' w'=>(i=N∨S w')∧wpN P ops Q S N fuel (listed.setIfInBounds i true) a' w') a w
theorem wpAny_of_wpN:∀ (fuel:Nat) (listed:Array Bool) (a:Act) (w:World),wpN P ops Q S N fuel listed a w→wpAny P .any ops Q fuel listed a w
 | 0,_,_,_,h=>h
 | fuel+1,_,_,_,h=>⟨h.1,fun i hi=>wpOp_mono (fun a' w' h'=>wpAny_of_wpN fuel _ a' w' h'.2) (h.2 i hi)⟩
def ShutB (ops:Array Oper) (listed:Array Bool):Prop:=∀ j o,ops[j]?=some o→listed.getD j false=true→∀ e ∈ o.after,Region.binds .any e=true→listed.getD e.on false=true
theorem ShutB.step {listed:Array Bool} (h:ShutB ops listed) {i:Nat} (hi:i ∈ Region.ready .any ops listed):ShutB ops (listed.setIfInBounds i true):=by
 intro j o hj hl e he hb
 by_cases hji:i=j
 ·subst hji
  obtain ⟨_,o',ho',hall⟩:=mem_ready.1 hi
  rw [hj] at ho'
  cases ho'
  exact getD_set_true (hall e he hb)
 ·rw [getD_set_ne false hji] at hl
  exact getD_set_true (h j o hj hl e he hb)
def waitsB (ops:Array Oper) (i:Nat):Nat→Nat→Bool
 | 0,_=>false
 | n+1,x=>match ops[x]? with
  | some o=>o.after.any fun e=>Region.binds .any e && (e.on == i || waitsB ops i n e.on)
  | none=>false
theorem waits_spec {listed:Array Bool} {i:Nat} (hc:ShutB ops listed) (hi:listed.getD i false=false):∀ (n x:Nat),waitsB ops i n x=true→∃ o,ops[x]?=some o∧∃ e ∈ o.after,Region.binds .any e=true∧listed.getD e.on false=false
 | 0,_,h=>by simp [waitsB] at h
 | n+1,x,h=>by
  unfold waitsB at h
  cases ho:ops[x]? with
  | none=>rw [ho] at h;simp at h
  | some o =>
   rw [ho] at h
   simp only [Array.any_eq_true'] at h
   obtain ⟨e,he,h2⟩:=h
   rw [Bool.and_eq_true,Bool.or_eq_true] at h2
   refine ⟨o,rfl,e,he,h2.1,?_⟩
   rcases h2.2 with h3 | h3
   ·rw [beq_iff_eq] at h3;rw [h3];exact hi
   ·obtain ⟨o',ho',e',he',hb',hl'⟩:=waits_spec hc hi n e.on h3
    cases hq:listed.getD e.on false with
    | false=>rfl
    | true=>rw [hc e.on o' ho' hq e' he' hb'] at hl';cases hl'
theorem waits_not {listed:Array Bool} {i n x:Nat} (hc:ShutB ops listed) (hi:listed.getD i true=false) (h:waitsB ops i n x=true):x ∉ Region.ready .any ops listed:=fun hx=>by
 have hi':listed.getD i false=false:=by
  rcases Nat.lt_or_ge i listed.size with h' | h'
  ·simpa [h'] using hi
  ·simp [Array.getElem?_eq_none h']
 obtain ⟨o,ho,e,he,hb,hl⟩:=waits_spec hc hi' n x h
 obtain ⟨_,o',ho',hall⟩:=mem_ready.1 hx
 rw [ho] at ho'
 cases ho'
 rw [hall e he hb] at hl
 cases hl
theorem wpN_first {i n:Nat} {oi:Oper} {v:Value} (hi:ops[i]?=some oi) (hs:Region.noSelect ops=true) (hw:waitsB ops i n N=true) (hiN:i≠N)
  (hQ:∀ c a w,Q (.panic c) (a.put oi.dst v) w→Q (.panic c) a w):∀ (fuel:Nat) (listed:Array Bool) (a:Act) (w:World),ShutB ops listed →
   (∀ j oj,ops[j]?=some oj→j≠i→listed.getD j true=false→(∀ e ∈ oj.after,Region.binds .any e=true→e.on≠i)→oi.apart ops oj=true) →
   i ∈ Region.ready .any ops listed→YieldsIf P ops S oi v a→S w→wpN P ops Q S N fuel (listed.setIfInBounds i true) (a.put oi.dst v) w→wpN P ops Q S N (fuel+1) listed a w:=by
 intro fuel
 induction fuel with
 | zero =>
  intro listed a w hc _ hr hy hS H
  refine ⟨fun h=>(by rw [h] at hr;cases hr),fun j hj=>?_⟩
  by_cases hji:j=i
  ·subst hji;exact hy.wpOp hi hS ⟨Or.inr hS,H⟩
  ·have:=ready_mono hj hji
   rw [H.1] at this
   cases this
 | succ fuel ih =>
  intro listed a w hc hf hr hy hS H
  refine ⟨fun h=>(by rw [h] at hr;cases hr),fun j hj=>?_⟩
  by_cases hji:j=i
  ·subst hji;exact hy.wpOp hi hS ⟨Or.inr hS,H⟩
  ·have hjN:j≠N:=fun e=>waits_not hc (mem_ready.1 hr).1 hw (e ▸ hj)
   have h1:=H.2 j (ready_mono hj hji)
   obtain ⟨hju,oj,hoj,hall⟩:=mem_ready.1 hj
   have hno:∀ e ∈ oj.after,Region.binds .any e=true→e.on≠i:=fun e he hb heq=>by
    have hx:=hall e he hb
    have h0:=(mem_ready.1 hr).1
    rw [heq] at hx
    rcases Nat.lt_or_ge i listed.size with h' | h'
    ·simp [h'] at h0 hx;rw [h0] at hx;cases hx
    ·simp [Array.getElem?_eq_none h'] at hx
   have hsel:=Region.noSelect_spec hs
   have h2:=wpOp_putIf hoj (hf j oj hoj hji hju hno) (fun cs b=>hsel i oi cs b hi) (fun cs b=>hsel j oj cs b hoj) hQ hy h1
   refine wpOp_mono (fun a' w' h3=>?_) h2
   have hSw:=h3.2.1.resolve_left hjN
   refine ⟨Or.inr hSw,ih (listed.setIfInBounds j true) a' w' (hc.step hj) (fun k ok hk hki hun hno'=>hf k ok hk hki ?_ hno') (ready_mono hr (Ne.symm hji)) h3.1 hSw ?_⟩
   ·by_cases hjk:j=k
    ·subst hjk;exact hju
    ·rw [getD_set_ne true hjk] at hun;exact hun
   ·rw [Array.setIfInBounds_comm _ _ hji]
    exact h3.2.2
def plainB (o:Oper):Bool:=match o.op with
 | .move _ | .load _ _ | .fieldAddr _ _ _ | .indexAddr _ _ _ | .build _ _ | .binOp _ _ _ _ _=>true
 | .nilCheck _ | .pick _ _ _ | .lookup _ _ _ _=>true
 | _=>false
def preB (ops:Array Oper) (N n:Nat):Nat→Nat→Array Bool→Bool
 | 0,_,_=>true
 | m+1,k,listed=>(Region.ready .any ops listed).contains k && Region.free .any ops listed k && waitsB ops k n N && k != N && preB ops N n m (k+1) (listed.setIfInBounds k true)
def afterB:Nat→Nat→Array Bool→Array Bool
 | 0,_,listed=>listed
 | m+1,k,listed=>afterB m (k+1) (listed.setIfInBounds k true)
end
end Go.Proofs.YtgcedalggnmooabGreatDoor
namespace Go.Proofs.YtgcedalggnmooabGreatDoor
open Go.RowKit
structure Wd (S:World→Prop) where
 w:World
 h:S w
def YV (P:Program) (s:Sem Next):Prop:=∀ w nx w',s.run P w=.ok nx w'→∃ u,nx=.value u
theorem yv_pure {P:Program} (u:Value):YV P (pure (.value u)):=fun w nx w' h=>by rw [Sem.run_pure] at h;cases h;exact ⟨_,rfl⟩
theorem yv_bind {P:Program} {A:Type} (s:Sem A) (f:A→Sem Next) (hf:∀ a,YV P (f a)):YV P (s >>= f):=fun w nx w' h=>by
 rw [Sem.run_bind] at h
 cases hs:s.run P w with
 | ok a w1=>rw [hs] at h;exact hf a w1 nx w' h
 | halt x w1=>rw [hs] at h;simp [Result.andThen] at h
theorem yv_panic {P:Program}:YV P (runtimePanic .nilDeref:Sem Next):=fun w nx w' h=>by
 simp [go_sem] at h
theorem plain_value {P:Program} {ρ:Operand→Value} {o:Oper} (h:plainB o=true):YV P (execOp ρ o):=by
 unfold plainB at h
 unfold execOp
 split at h <;> rename_i hop <;> simp only [hop]
 ·exact yv_pure _
 ·exact yv_bind _ _ (fun _=>yv_pure _)
 ·exact yv_bind _ _ (fun _=>yv_pure _)
 ·exact yv_bind _ _ (fun _=>yv_pure _)
 ·exact yv_bind _ _ (fun _=>yv_pure _)
 ·exact yv_bind _ _ (fun _=>yv_pure _)
 ·split
  ·exact yv_panic
  ·exact yv_panic
  ·exact yv_panic
  ·split
   ·exact yv_panic
   ·refine yv_bind _ _ (fun _=>yv_bind _ _ (fun b=>?_))
    by_cases hb:(b != some false)=true
    ·rw [if_pos hb];exact yv_bind _ _ (fun _=>yv_pure _)
    ·rw [if_neg hb];exact yv_pure _
   ·exact yv_pure _
  ·exact yv_pure _
 ·exact yv_bind _ _ (fun _=>yv_pure _)
 ·exact yv_bind _ _ (fun _=>yv_pure _)
 ·cases h
section
variable {P:Program} {ops:Array Oper} {Q:Exit→Act→World→Prop} {S:World→Prop} {N:Nat}
theorem yields_of_quiet {o:Oper} {a:Act} {v:Value} (hp:plainB o=true) (hw:Region.wanted o (yielded ops a.tmps)=true) (h:∀ w,S w→o.quietAt P a S w v):YieldsIf P ops S o v a:=by
 refine Or.inl ⟨hw,fun w hS=>?_⟩
 have h1:=h w hS
 unfold Oper.quietAt at h1
 cases hr:(execOp a.eval o).run P w with
 | ok nx w' =>
  obtain ⟨u,rfl⟩:=plain_value hp w nx w' hr
  rw [hr] at h1
  obtain ⟨h2,h3⟩:=h1
  rw [h2,h3]
 | halt x w' =>
  rw [hr] at h1
  exact h1.elim
theorem wpN_lex (n:Nat) (hs:Region.noSelect ops=true) (hQ:∀ c (a:Act) d v w,Q (.panic c) (a.put d v) w→Q (.panic c) a w) :
  ∀ (l:List Oper) (k fuel:Nat) (listed:Array Bool) (a:Act) (w:World),(∀ j o,l[j]?=some o→ops[k+j]?=some o)→(∀ o ∈ l,plainB o=true)→preB ops N n l.length k listed=true→ShutB ops listed→S w →
   wpQuiet P ops S (fun a'=>wpN P ops Q S N fuel (afterB l.length k listed) a' w) l a→wpN P ops Q S N (fuel+l.length) listed a w
 | [],_,_,_,_,_,_,_,_,_,_,h=>h
 | o :: l,k,fuel,listed,a,w,hl,hp,hB,hc,hS,h=>by
  have h0:ops[k]?=some o:=by simpa using hl 0 o (by simp)
  simp only [List.length_cons,preB,Bool.and_eq_true] at hB
  obtain ⟨⟨⟨⟨hr,hf⟩,hw⟩,hn⟩,hB'⟩:=hB
  have hr':k ∈ Region.ready .any ops listed:=by simpa using hr
  have hkN:k≠N:=by simpa using hn
  have hl':∀ j o,l[j]?=some o→ops[k+1+j]?=some o:=fun j o hj=>by
   have:=hl (j+1) o (by simpa using hj)
   rw [show k+1+j=k+(j+1) by omega];exact this
  have step:∀ v,YieldsIf P ops S o v a→wpQuiet P ops S (fun a'=>wpN P ops Q S N fuel (afterB l.length (k+1) (listed.setIfInBounds k true)) a' w) l (a.put o.dst v)→wpN P ops Q S N (fuel+(l.length+1)) listed a w:=fun v hy hq =>
   wpN_first h0 hs hw hkN (fun c a w=>hQ c a _ _ w) (fuel+l.length) listed a w hc (Region.free_spec h0 hf) hr' hy hS
    (wpN_lex n hs hQ l (k+1) fuel _ _ w hl' (fun o ho=>hp o (List.mem_cons_of_mem _ ho)) hB' (hc.step hr') hS hq)
  by_cases hwt:Region.wanted o (yielded ops a.tmps)=true
  ·rw [wpQuiet,if_pos hwt] at h
   obtain ⟨v,hv,hq⟩:=h
   exact step v (yields_of_quiet (hp o (List.mem_cons_self)) hwt hv) hq
  ·rw [wpQuiet,if_neg hwt] at h
   exact step undef (Or.inr ⟨by simpa using hwt,rfl⟩) h
theorem wp_region_last {id n m:Nat} {l r:List Oper} {a:Act} {w:World} (N:Nat) (S:World→Prop) (hm:P.follows .mixedOrders=true) (hs:Region.noSelect (l++r).toArray=true) (hQ:∀ c (a:Act) d v w,Q (.panic c) (a.put d v) w→Q (.panic c) a w)
  (hp:l.all plainB=true) (hB:preB (l++r).toArray N n l.length 0 (Array.replicate (l++r).length false)=true) (hr:r.length=m) (hS:S w.drew)
  (h:wpQuiet P (l++r).toArray S (fun a'=>wpN P (l++r).toArray Q S N m (afterB l.length 0 (Array.replicate (l++r).length false)) a' w.drew) l a):(Code.region id (l++r).toArray true).wp P Q a w:=by
 refine wp_region_any hm (wpAny_of_wpN (S:=S) (N:=N) _ _ _ _ ?_)
 have e:(l++r).toArray.size=m+l.length:=by simp [hr];omega
 rw [e]
 have e2:Array.replicate (m+l.length) false=Array.replicate (l++r).length false:=by congr 1;simp [hr];omega
 rw [e2]
 refine wpN_lex n hs hQ l 0 m _ a _ (fun j o hj=>?_) (fun o ho=>List.all_eq_true.1 hp o ho) hB ?_ hS h
 ·simp only [Nat.zero_add,List.getElem?_toArray]
  rw [List.getElem?_append_left (List.getElem?_eq_some_iff.1 hj).1];exact hj
 ·intro j o _ hl
  simp [Array.getElem?_replicate] at hl
  split at hl <;> simp at hl
theorem wp_region_lit {id n m:Nat} {L:List Oper} {a:Act} {w:World} (k N:Nat) (S:World→Prop) (hm:P.follows .mixedOrders=true) (hs:Region.noSelect L.toArray=true) (hQ:∀ c (a:Act) d v w,Q (.panic c) (a.put d v) w→Q (.panic c) a w)
  (hp:(L.take k).all plainB=true) (hB:preB L.toArray N n k 0 (Array.replicate L.length false)=true) (hk:(L.take k).length=k) (hr:(L.drop k).length=m) (hS:S w.drew)
  (h:wpQuiet P L.toArray S (fun a'=>wpN P L.toArray Q S N m (afterB k 0 (Array.replicate L.length false)) a' w.drew) (L.take k) a):(Code.region id L.toArray true).wp P Q a w:=by
 have e:=List.take_append_drop k L
 have:=wp_region_last (P:=P) (id:=id) (n:=n) (m:=m) (l:=L.take k) (r:=L.drop k) (a:=a) (w:=w) (Q:=Q) N S hm (by rw [e];exact hs) hQ hp (by rw [e,hk];exact hB) hr hS (by rw [e,hk];exact h)
 rw [e] at this
 exact this
theorem wpN_one {fuel i:Nat} {o:Oper} {listed:Array Bool} {a:Act} {w:World} (hr:Region.ready .any ops listed=[i]) (ho:ops[i]?=some o) (hg:o.guard=none)
  (h:∀ K:Act→World→Prop,(∀ a w,(i=N∨S w)→wpN P ops Q S N fuel (listed.setIfInBounds i true) a w→K a w)→o.wp P a w K Q):wpN P ops Q S N (fuel+1) listed a w:=by
 refine ⟨fun h0=>(by rw [hr] at h0;cases h0),fun j hj=>?_⟩
 rw [hr] at hj
 simp only [List.mem_singleton] at hj
 subst hj
 unfold wpOp
 simp only [ho]
 have hw:Region.wanted o (yielded ops a.tmps)=true:=by simp [Region.wanted,hg]
 rw [if_pos hw]
 exact Or.inl (h _ (fun a w h1 h2=>⟨h1,h2⟩))
theorem wpN_done {listed:Array Bool} {a:Act} {w:World} (hr:Region.ready .any ops listed=[]) (h:Q .normal a w):wpN P ops Q S N 0 listed a w:=⟨hr,h⟩
end
end Go.Proofs.YtgcedalggnmooabGreatDoor
