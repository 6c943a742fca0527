import Derived.Test.YtgcedalggnmooaaGreatDoorR0X
import Derived.Test.YtgcedalggnmooaaGreatDoorQ1X
import Derived.Deep.AppendLies
import Derived.Deep.RegionHeld3
import Derived.Test.YtgcedalggnmooaaGreatDoorChkAX
import Derived.Test.YtgcedalggnmooaaGreatDoorR3X
set_option linter.unusedSimpArgs false
set_option linter.unusedVariables false
set_option maxRecDepth 100000
namespace Go.Proofs.YtgcedalggnmooaaGreatDoor
open Go.RowKit
def nxA (x:Nat→Nat) (n:Nat):Nat→Option Nat
 | 0=>none
 | k+1=>if n<x k∧(∀ b,nxA x n k=some b→x k<x b) then some k else nxA x n k
def ixV (o:Option Nat):Int:=match o with | none=>-1 | some i=>(i:Int)
theorem nxA_lt {x:Nat→Nat} {n:Nat}:∀ {k i:Nat},nxA x n k=some i→i<k∧n<x i
 | 0,i,h=>by simp [nxA] at h
 | k+1,i,h=>by
  rw [nxA] at h
  split at h
  ·rename_i hc
   cases h;exact ⟨by omega,hc.1⟩
  ·have:=nxA_lt h;exact ⟨by omega,this.2⟩
set_option maxHeartbeats 1600000 in
theorem lotOf_any {rcs:List (Nat × Nat)} {w:World} {R:Nat} {v:Value} {td:Nat} {rec:ByteArray} {fs:List Value} {ls:List L} {os:List O} {ro:Ro} (h:RV os rcs ro w R v td rec fs ls) (n:Nat) (hn:n≤2147483647) :
  Calls Tryz.prog 80 #[.pointer (some ⟨R,0,none⟩),.int .i64 (n:Int)] w fun e w'=>e=.returned (.int .i64 (ixV (nxA (fun i=>(ls.getD i L0).id) n ls.length)))∧Below w.heap.size w w':=by
 obtain ⟨a,cap,hv,hrow⟩:=h.shape
 have c1:=h.c1
 rw [hv] at c1
 have hroom:=h.room
 have HP:=hide h
 have HRW:=hide hrow
 have hRl:=blk_lt h.store
 have HC1:=hide c1
 clear h hv hrow c1
 go_enter Tryz.func80,Tryz.ntmps80
 go_wp2_with fail
 have HX:Hid (∀ i,i<ls.length→(ls.getD i L0).id≤2147483647):=fun i hi=>(HP.out.ok _ (mem_getD hi)).id
 obtain ⟨x,HXE⟩:∃ x:Nat→Nat,Hid (x=fun i=>(ls.getD i L0).id):=⟨_,rfl⟩
 have HXB:Hid (∀ i,i<ls.length→x i≤2147483647):=fun i hi=>by rw [HXE.out];exact HX.out i hi
 have HCE:Hid (0<ls.length→∃ G,a=some ⟨G,0,none⟩∧G<w.heap.size∧∀ i,i<ls.length→w.cell? ⟨G,i * 11,none⟩=some (.int .i64 (x i:Int))):=fun hp=>by
  obtain ⟨G,h1,h2,h3⟩:=HRW.out hp
  exact ⟨G,h1,h2,fun i hi=>by rw [HXE.out];exact h3 i hi 0 (by omega)⟩
 generalize hNN:ls.length=N at *
 have HNN:=hide hNN
 clear hNN
 clear HX HRW HP
 go_loopw [5,6] (fun bv ii wr=>∃ k:Nat,k≤N∧ii=.int .i64 k∧bv=.int .i64 (ixV (nxA x n k))∧Below w.heap.size w wr) (fun _ ii _=>N - (intOf ii).toNat)
 case atStart=>exact ⟨0,by omega,rfl,rfl,Below.refl _ _⟩
 case round =>
  obtain ⟨k,hk,rfl,rfl,hb⟩:=hrel
  have c1:=(hb.cell (p:=⟨R,1,none⟩) hRl).trans HC1.out
  have HB:=hide hb
  by_cases hlt:k<N
  ·obtain ⟨G,hG,hGl,hcl⟩:=HCE.out (by omega)
   rw [hG] at c1
   have g1:=(hb.cell (p:=⟨G,k * 11,none⟩) hGl).trans (hcl k hlt)
   have x1:=HXB.out k hlt
   have HNS:Hid (nxA x n (k+1)=if n<x k∧(∀ b,nxA x n k=some b→x k<x b) then some k else nxA x n k):=rfl
   by_cases h1:n<x k
   ·have f1:decide ((n:Int)<(x k:Int))=true:=decide_eq_true (by omega)
    cases hq:nxA x n k with
    | none =>
     rw [if_pos ⟨h1,fun b hb=>by rw [hq] at hb;cases hb⟩] at HNS
     have HQ:=hide hq
     clear hb hcl hG hq
     simp only [ixV]
     go_wp2_with fail
     go_quiet (fail)
     go_wp2_with fail
     go_roundw
     case rel=>exact ⟨k+1,by omega,by go_num,by rw [HNS.out],below_drewN HB.out nq⟩
     case measure=>simp [intOf];omega
    | some b =>
     obtain ⟨hbk,hbx⟩:=nxA_lt hq
     have g2:=(hb.cell (p:=⟨G,b * 11,none⟩) hGl).trans (hcl b (by omega))
     have x2:=HXB.out b (by omega)
     have f0:decide ((b:Int)<0)=false:=decide_eq_false (by omega)
     simp only [ixV]
     by_cases h2:x k<x b
     ·rw [if_pos ⟨h1,fun b' hb'=>by rw [hq] at hb';cases hb';exact h2⟩] at HNS
      have f2:decide ((x k:Int)<(x b:Int))=true:=decide_eq_true (by omega)
      clear hb hcl hG hq hbx
      go_wp2_with fail
      go_quiet (fail)
      go_wp2_with fail
      go_roundw
      case rel=>exact ⟨k+1,by omega,by go_num,by rw [HNS.out],below_drewN HB.out nq⟩
      case measure=>simp [intOf];omega
     ·rw [if_neg (fun hc=>h2 (hc.2 b hq)),hq] at HNS
      have f2:decide ((x k:Int)<(x b:Int))=false:=decide_eq_false (by omega)
      clear hb hcl hG hq hbx
      go_wp2_with fail
      go_quiet (fail)
      go_wp2_with fail
      go_roundw
      case rel=>exact ⟨k+1,by omega,by go_num,by rw [HNS.out],below_drewN HB.out nq⟩
      case measure=>simp [intOf];omega
   ·rw [if_neg (fun hc=>h1 hc.1)] at HNS
    have f1:decide ((n:Int)<(x k:Int))=false:=decide_eq_false (by omega)
    generalize hq:nxA x n k=q at *
    clear hb hcl hG hq
    go_wp2_with fail
    go_quiet (fail)
    go_wp2_with fail
    go_roundw
    case rel=>exact ⟨k+1,by omega,by go_num,by rw [HNS.out],below_drewN HB.out nq⟩
    case measure=>simp [intOf];omega
  ·obtain rfl:k=N:=by omega
   clear hb hlt
   go_wp2_with fail
   go_ret
   exact ⟨by rw [← HXE.out,HNN.out];rfl,HB.out⟩
set_option maxHeartbeats 1600000 in
theorem orderOf_any {rcs:List (Nat × Nat)} {w:World} {R:Nat} {v:Value} {td:Nat} {rec:ByteArray} {fs:List Value} {ls:List L} {os:List O} {ro:Ro} (h:RV os rcs ro w R v td rec fs ls) (hgo:Good os ls) (n:Nat) (hn:n≤2147483647) :
  Calls Tryz.prog 82 #[.pointer (some ⟨R,0,none⟩),.int .i64 (n:Int)] w fun e w'=>e=.returned (.int .i64 (ixV (nxA (fun i=>(os.getD i O0).id) n os.length)))∧Below w.heap.size w w':=by
 obtain ⟨a,cap,hv,hrow⟩:=h.ord.shape
 have c1:=h.c2
 rw [hv] at c1
 have hroom:=hgo.olen
 have HGO:=hide hgo
 have HP:=hide h
 have HRW:=hide hrow
 have hRl:=blk_lt h.store
 have HC1:=hide c1
 clear h hv hrow c1 hgo
 go_enter Tryz.func82,Tryz.ntmps82
 go_wp2_with fail
 have HX:Hid (∀ i,i<os.length→(os.getD i O0).id≤2147483647):=fun i hi=>HGO.out.oid _ (by simp [List.getD_eq_getElem?_getD,hi])
 obtain ⟨x,HXE⟩:∃ x:Nat→Nat,Hid (x=fun i=>(os.getD i O0).id):=⟨_,rfl⟩
 have HXB:Hid (∀ i,i<os.length→x i≤2147483647):=fun i hi=>by rw [HXE.out];exact HX.out i hi
 have HCE:Hid (0<os.length→∃ G,a=some ⟨G,0,none⟩∧G<w.heap.size∧∀ i,i<os.length→w.cell? ⟨G,i * 3,none⟩=some (.int .i64 (x i:Int))):=fun hp=>by
  obtain ⟨G,h1,h2,_⟩:=HRW.out 0 hp
  refine ⟨G,h1,h2,fun i hi=>?_⟩
  obtain ⟨G',h1',_,h3,_⟩:=HRW.out i hi
  rw [h1] at h1'
  cases h1'
  rw [HXE.out];exact h3
 generalize hNN:os.length=N at *
 have HNN:=hide hNN
 clear hNN
 clear HX HRW HP HGO
 go_loopw [5,6] (fun bv ii wr=>∃ k:Nat,k≤N∧ii=.int .i64 k∧bv=.int .i64 (ixV (nxA x n k))∧Below w.heap.size w wr) (fun _ ii _=>N - (intOf ii).toNat)
 case atStart=>exact ⟨0,by omega,rfl,rfl,Below.refl _ _⟩
 case round =>
  obtain ⟨k,hk,rfl,rfl,hb⟩:=hrel
  have c1:=(hb.cell (p:=⟨R,2,none⟩) hRl).trans HC1.out
  have HB:=hide hb
  by_cases hlt:k<N
  ·obtain ⟨G,hG,hGl,hcl⟩:=HCE.out (by omega)
   rw [hG] at c1
   have g1:=(hb.cell (p:=⟨G,k * 3,none⟩) hGl).trans (hcl k hlt)
   have x1:=HXB.out k hlt
   have HNS:Hid (nxA x n (k+1)=if n<x k∧(∀ b,nxA x n k=some b→x k<x b) then some k else nxA x n k):=rfl
   by_cases h1:n<x k
   ·have f1:decide ((n:Int)<(x k:Int))=true:=decide_eq_true (by omega)
    cases hq:nxA x n k with
    | none =>
     rw [if_pos ⟨h1,fun b hb=>by rw [hq] at hb;cases hb⟩] at HNS
     have HQ:=hide hq
     clear hb hcl hG hq
     simp only [ixV]
     go_wp2_with fail
     go_quiet (fail)
     go_wp2_with fail
     go_roundw
     case rel=>exact ⟨k+1,by omega,by go_num,by rw [HNS.out],below_drewN HB.out nq⟩
     case measure=>simp [intOf];omega
    | some b =>
     obtain ⟨hbk,hbx⟩:=nxA_lt hq
     have g2:=(hb.cell (p:=⟨G,b * 3,none⟩) hGl).trans (hcl b (by omega))
     have x2:=HXB.out b (by omega)
     have f0:decide ((b:Int)<0)=false:=decide_eq_false (by omega)
     simp only [ixV]
     by_cases h2:x k<x b
     ·rw [if_pos ⟨h1,fun b' hb'=>by rw [hq] at hb';cases hb';exact h2⟩] at HNS
      have f2:decide ((x k:Int)<(x b:Int))=true:=decide_eq_true (by omega)
      clear hb hcl hG hq hbx
      go_wp2_with fail
      go_quiet (fail)
      go_wp2_with fail
      go_roundw
      case rel=>exact ⟨k+1,by omega,by go_num,by rw [HNS.out],below_drewN HB.out nq⟩
      case measure=>simp [intOf];omega
     ·rw [if_neg (fun hc=>h2 (hc.2 b hq)),hq] at HNS
      have f2:decide ((x k:Int)<(x b:Int))=false:=decide_eq_false (by omega)
      clear hb hcl hG hq hbx
      go_wp2_with fail
      go_quiet (fail)
      go_wp2_with fail
      go_roundw
      case rel=>exact ⟨k+1,by omega,by go_num,by rw [HNS.out],below_drewN HB.out nq⟩
      case measure=>simp [intOf];omega
   ·rw [if_neg (fun hc=>h1 hc.1)] at HNS
    have f1:decide ((n:Int)<(x k:Int))=false:=decide_eq_false (by omega)
    generalize hq:nxA x n k=q at *
    clear hb hcl hG hq
    go_wp2_with fail
    go_quiet (fail)
    go_wp2_with fail
    go_roundw
    case rel=>exact ⟨k+1,by omega,by go_num,by rw [HNS.out],below_drewN HB.out nq⟩
    case measure=>simp [intOf];omega
  ·obtain rfl:k=N:=by omega
   clear hb hlt
   go_wp2_with fail
   go_ret
   exact ⟨by rw [← HXE.out,HNN.out];rfl,HB.out⟩
end Go.Proofs.YtgcedalggnmooaaGreatDoor
namespace Go.Proofs.YtgcedalggnmooaaGreatDoor
open Go.RowKit
theorem infoPrt:(Tryz.prog.info? 181).map (fun i=>(i.zero,i.size,i.bytes))=some (some (.agg #[.int .i64 0,.int .i64 0]),2,16):=by kernel_rfl
theorem tUPrts:Tryz.prog.underlying 40=some (.slice 181):=by kernel_rfl
theorem lflat_sn (p:Nat × Nat):∀ l,lflat (l++[p])=lflat l++[.int .i64 (p.1:Int),.int .i64 (p.2:Int)]
 | []=>rfl
 | q :: l=>by show _ :: _ :: lflat (l++[p])=_;rw [lflat_sn p l];rfl
def prtB (a b:Nat × Nat):Bool:=decide (a.1<b.1) || (decide (a.1=b.1) && decide (a.2<b.2))
def insK (p:Nat × Nat) (out:List (Nat × Nat)):Nat→List (Nat × Nat) × Bool
 | 0=>([],false)
 | k+1=>if prtB p (out.getD k (0,0))=true∧(insK p out k).2=false then ((insK p out k).1++[p]++[out.getD k (0,0)],true) else ((insK p out k).1++[out.getD k (0,0)],(insK p out k).2)
def insP (p:Nat × Nat) (out:List (Nat × Nat)):List (Nat × Nat):=if (insK p out out.length).2=true then (insK p out out.length).1 else (insK p out out.length).1++[p]
def prtN (l:List (Nat × Nat)):Nat→List (Nat × Nat)
 | 0=>[]
 | k+1=>insP (l.getD k (0,0)) (prtN l k)
def prtS (l:List (Nat × Nat)):List (Nat × Nat):=prtN l l.length
theorem insK_len (p:Nat × Nat) (out:List (Nat × Nat)):∀ k,(insK p out k).1.length=k+(if (insK p out k).2=true then 1 else 0)
 | 0=>rfl
 | k+1=>by
  have ih:=insK_len p out k
  rw [insK]
  split
  ·rename_i h
   rw [h.2] at ih
   simp at ih ⊢;omega
  ·simp only [List.length_append,List.length_cons,List.length_nil]
   omega
theorem insP_len (p:Nat × Nat) (out:List (Nat × Nat)):(insP p out).length=out.length+1:=by
 have:=insK_len p out out.length
 unfold insP
 split
 ·rename_i h;rw [if_pos h] at this;exact this
 ·rename_i h;rw [if_neg h] at this;rw [List.length_append,this];simp
theorem prtN_len (l:List (Nat × Nat)):∀ k,(prtN l k).length=k
 | 0=>rfl
 | k+1=>by rw [prtN,insP_len,prtN_len l k]
theorem insK_mem {p q:Nat × Nat} {out:List (Nat × Nat)}:∀ {k},k≤out.length→q ∈ (insK p out k).1→q=p∨q ∈ out
 | 0,_,h=>by simp [insK] at h
 | k+1,hk,h=>by
  have hm:out.getD k (0,0) ∈ out:=by simp [List.getD_eq_getElem?_getD,show k<out.length by omega]
  rw [insK] at h
  split at h
  ·simp only [List.mem_append,List.mem_singleton] at h
   rcases h with (h | h) | h
   ·exact insK_mem (by omega) h
   ·exact Or.inl h
   ·exact Or.inr (h ▸ hm)
  ·simp only [List.mem_append,List.mem_singleton] at h
   rcases h with h | h
   ·exact insK_mem (by omega) h
   ·exact Or.inr (h ▸ hm)
theorem insP_mem {p q:Nat × Nat} {out:List (Nat × Nat)} (h:q ∈ insP p out):q=p∨q ∈ out:=by
 unfold insP at h
 split at h
 ·exact insK_mem (Nat.le_refl _) h
 ·rcases List.mem_append.1 h with h | h
  ·exact insK_mem (Nat.le_refl _) h
  ·exact Or.inl (by simpa using h)
theorem prtN_mem {l:List (Nat × Nat)}:∀ {k},k≤l.length→∀ {q},q ∈ prtN l k→q ∈ l
 | 0,_,q,h=>by simp [prtN] at h
 | k+1,hk,q,h=>by
  rw [prtN] at h
  rcases insP_mem h with rfl | h
  ·simp [List.getD_eq_getElem?_getD,show k<l.length by omega]
  ·exact prtN_mem (by omega) h
set_option maxHeartbeats 800000 in
theorem less_any (a b:Nat × Nat) (ha:a.1<9223372036854775808∧a.2<9223372036854775808) (hb:b.1<9223372036854775808∧b.2<9223372036854775808) (w:World) :
  Calls Tryz.prog 132 #[.agg #[.int .i64 (a.1:Int),.int .i64 (a.2:Int)],.agg #[.int .i64 (b.1:Int),.int .i64 (b.2:Int)]] w fun e w'=>e=.returned (.bool (prtB a b))∧Below w.heap.size w w':=by
 obtain ⟨a1,a2⟩:=a
 obtain ⟨b1,b2⟩:=b
 simp only at ha hb ⊢
 obtain ⟨ha1,ha2⟩:=ha
 obtain ⟨hb1,hb2⟩:=hb
 unfold prtB
 simp only
 by_cases h1:a1<b1
 ·have f1:decide ((a1:Int)<(b1:Int))=true:=decide_eq_true (by omega)
  rw [decide_eq_true h1,Bool.true_or]
  go_enter Tryz.func132,Tryz.ntmps132
  go_wp2_with fail
  go_ret
  exact ⟨rfl,by first | exact (al1 w _).alloc (by simp) _ | exact ((al1 w _).alloc (by simp) _).drew⟩
 ·have f1:decide ((a1:Int)<(b1:Int))=false:=decide_eq_false (by omega)
  rw [decide_eq_false h1,Bool.false_or]
  by_cases h2:a1=b1
  ·have f2:((a1:Int) == (b1:Int))=true:=by rw [beq_iff_eq];omega
   rw [decide_eq_true h2,Bool.true_and]
   by_cases h3:a2<b2
   ·have f3:decide ((a2:Int)<(b2:Int))=true:=decide_eq_true (by omega)
    rw [decide_eq_true h3]
    clear h2
    go_enter Tryz.func132,Tryz.ntmps132
    go_wp2_with fail
    go_ret
    exact ⟨rfl,by first | exact (al1 w _).alloc (by simp) _ | exact ((al1 w _).alloc (by simp) _).drew⟩
   ·have f3:decide ((a2:Int)<(b2:Int))=false:=decide_eq_false (by omega)
    rw [decide_eq_false h3]
    clear h2
    go_enter Tryz.func132,Tryz.ntmps132
    go_wp2_with fail
    go_ret
    exact ⟨rfl,by first | exact (al1 w _).alloc (by simp) _ | exact ((al1 w _).alloc (by simp) _).drew⟩
  ·have f2:((a1:Int) == (b1:Int))=false:=by rw [beq_eq_false_iff_ne];omega
   rw [decide_eq_false h2,Bool.false_and]
   go_enter Tryz.func132,Tryz.ntmps132
   go_wp2_with fail
   go_ret
   exact ⟨rfl,by first | exact (al1 w _).alloc (by simp) _ | exact ((al1 w _).alloc (by simp) _).drew⟩
theorem Bparts {l:List (Nat × Nat)} (h:∀ p ∈ l,p.1<9223372036854775808∧p.2<9223372036854775808) (k:Nat):(l.getD k (0,0)).1<9223372036854775808∧(l.getD k (0,0)).2<9223372036854775808:=by
 by_cases hk:k<l.length
 ·exact h _ (by simp [List.getD_eq_getElem?_getD,hk])
 ·simp [List.getD_eq_getElem?_getD,List.getElem?_eq_none (show l.length≤k by omega)]
set_option maxHeartbeats 3200000 in
theorem parts_any {w:World} {base:Nat} {v:Value} {l:List (Nat × Nat)} (h:w.ownsRow base 181 2 v l.length (lflat l)) (hl:l.length≤1000) (hm:∀ p ∈ l,p.1<9223372036854775808∧p.2<9223372036854775808) :
  Calls Tryz.prog 83 #[v] w fun e w'=>Below w.heap.size w w'∧∃ v',e=.returned v'∧w'.ownsRow w.heap.size 181 2 v' l.length (lflat (prtS l)):=by
 obtain ⟨ip,hip,hp0,hp1,hp2⟩:=info_parts infoPrt
 obtain ⟨a,cap,hv⟩:=own_shapeS h
 subst hv
 have HO:=hide h
 have HM:=hide hm
 obtain ⟨N,hN⟩:∃ N,N=l.length:=⟨_,rfl⟩
 have HNE:=hide hN
 rw [← hN] at hl HO ⊢
 clear h hm hN
 go_enter Tryz.func83,Tryz.ntmps83
 go_wp2_with fail
 go_loopw [3,4,5,6,7,8] (fun ov ii _ _ _ _ wr=>∃ k:Nat,k≤N∧ii=.int .i64 k∧wr.ownsRow w.heap.size 181 2 ov k (lflat (prtN l k))∧Below w.heap.size w wr) (fun _ ii _ _ _ _ _=>N - (intOf ii).toNat)
 case atStart=>exact ⟨0,by omega,rfl,World.ownsRow_nil _ _ _ _,Below.refl _ _⟩
 case round =>
  obtain ⟨k,hk,rfl,hown,hb⟩:=hrel
  by_cases hlt:k<N
  ·obtain ⟨oa,oc,hov⟩:=own_shapeS hown
   subst hov
   obtain ⟨G,hG,hGl,hcl⟩:∃ G,a=some ⟨G,0,none⟩∧G<w.heap.size∧∀ i,i<N→w.cell? ⟨G,i * 2,none⟩=some (.int .i64 ((l.getD i (0,0)).1:Int))∧w.cell? ⟨G,i * 2+1,none⟩=some (.int .i64 ((l.getD i (0,0)).2:Int)):=by
    obtain ⟨g,c,hv,_,hgl⟩:=own_someS HO.out (by omega)
    cases hv
    refine ⟨g,rfl,hgl,fun i hi=>?_⟩
    have:=HO.out
    rw [HNE.out] at this
    exact lflat_cell this i (by rw [← HNE.out];exact hi)
   subst hG
   have hPB:=Bparts HM.out k
   have HCP:Hid (∀ wx,Below w.heap.size w wx→wx.cell? ⟨G,k * 2,none⟩=some (.int .i64 ((l.getD k (0,0)).1:Int))∧wx.cell? ⟨G,k * 2+1,none⟩=some (.int .i64 ((l.getD k (0,0)).2:Int))):=fun wx hx=>⟨(hx.cell (p:=⟨G,k * 2,none⟩) hGl).trans (hcl k hlt).1,(hx.cell (p:=⟨G,k * 2+1,none⟩) hGl).trans (hcl k hlt).2⟩
   have HPS:Hid (prtN l (k+1)=insP (l.getD k (0,0)) (prtN l k)):=rfl
   have HOB:Hid (∀ q ∈ prtN l k,q.1<9223372036854775808∧q.2<9223372036854775808):=fun q hq=>HM.out q (prtN_mem (by have:=HNE.out;omega) hq)
   have HOL:=hide (prtN_len l k)
   generalize l.getD k (0,0)=p at *
   generalize prtN l k=out at *
   have HOW:=hide hown
   have HB:=hide hb
   have hwk:=hb.size
   have HPI:Hid (insP p out=if (insK p out out.length).2=true then (insK p out out.length).1 else (insK p out out.length).1++[p]):=rfl
   rw [HOL.out] at HPI
   have HIL:=hide (insK_len p out)
   have HIN:Hid (∀ wx,Below wr.heap.size wr wx→Below w.heap.size w wx∧wx.ownsRow w.heap.size 181 2 (.slice oa k oc) k (lflat out)):=fun wx hx=>⟨HB.out.trans (hx.mono HB.out.size),own_below HOW.out hx⟩
   obtain ⟨wi,HWI⟩:∃ wi,Hid (wi=wr):=⟨_,rfl⟩
   have hwi:w.heap.size≤wi.heap.size:=by rw [HWI.out];exact hwk
   rw [← HWI.out] at HIN
   clear hown hb hcl HOW HB
   go_wp2_with fail
   rw [← HWI.out]
   clear HWI hwk
   go_loopw [5,6,7,8] (fun nv iv kk _ wx=>∃ j:Nat,j≤k∧kk=.int .i64 j∧iv=.bool (insK p out j).2∧wx.ownsRow wi.heap.size 181 2 nv (insK p out j).1.length (lflat (insK p out j).1)∧Below wi.heap.size wi wx) (fun _ _ kk _ _=>k - (intOf kk).toNat)
   case atStart=>exact ⟨0,by omega,rfl,rfl,World.ownsRow_nil _ _ _ _,Below.refl _ _⟩
   case round =>
    obtain ⟨j,hj,rfl,rfl,hnx,hbx⟩:=hrel
    by_cases hlt2:j<k
    ·obtain ⟨hbw,hox⟩:=HIN.out wr hbx
     obtain ⟨g1,g2⟩:=HCP.out wr hbw
     obtain ⟨H,c',hv',_,hHl⟩:=own_someS hox (by omega)
     cases hv'
     have hOB:=Bparts HOB.out j
     have HCC:Hid (∀ wx,Below wi.heap.size wi wx→(wx.cell? ⟨G,k * 2,none⟩=some (.int .i64 (p.1:Int))∧wx.cell? ⟨G,k * 2+1,none⟩=some (.int .i64 (p.2:Int)))∧wx.cell? ⟨H,j * 2,none⟩=some (.int .i64 ((out.getD j (0,0)).1:Int))∧wx.cell? ⟨H,j * 2+1,none⟩=some (.int .i64 ((out.getD j (0,0)).2:Int))):=fun wx hx=>⟨HCP.out wx (HIN.out wx hx).1,lflat_cell (by rw [HOL.out];exact (HIN.out wx hx).2) j (by rw [HOL.out];exact hlt2)⟩
     have HLS:=hide (less_any p (out.getD j (0,0)) hPB hOB)
     have HIS:Hid (insK p out (j+1)=if prtB p (out.getD j (0,0))=true∧(insK p out j).2=false then ((insK p out j).1++[p]++[out.getD j (0,0)],true) else ((insK p out j).1++[out.getD j (0,0)],(insK p out j).2)):=rfl
     have hnl:=HIL.out j
     generalize out.getD j (0,0)=q at *
     generalize insK p out j=st at *
     obtain ⟨nx,inb⟩:=st
     obtain ⟨p1,p2⟩:=p
     obtain ⟨q1,q2⟩:=q
     simp only at HCC HLS HIS hnl hnx ⊢
     have hnl2:nx.length≤1001:=by
      by_cases hi:inb=true
      ·rw [if_pos hi] at hnl;omega
      ·rw [if_neg hi] at hnl;omega
     generalize hNX:nx.length=nxl at *
     have HNL:=hide hNX
     have HNX:=hide hnx
     have HBX:=hide hbx
     obtain ⟨⟨g1,g2⟩,o1,o2⟩:=HCC.out wr hbx
     generalize hpb:prtB (p1,p2) (q1,q2)=pb at *
     clear hnx hbx hox hbw hpb hNX hnl
     go_wp2_with fail
     go_region_with (go_at_call 132;refine (HLS.out _).mono ?_;rintro e w2 ⟨rfl,hb2⟩)
     all_goals
      have hb3:Below wr.heap.size wr w2:=((Below.refl _ _).drew).trans hb2
      have HB1:Hid (Below wi.heap.size wi w2):=HBX.out.trans (hb3.mono HBX.out.size)
      have HN1:=hide (own_below HNX.out hb3)
      obtain ⟨⟨k1,k2⟩,k3,k4⟩:=HCC.out w2 HB1.out
      clear hb2 hb3 g1 g2 o1 o2
      by_cases hc:pb=true∧inb=false
      ·obtain ⟨rfl,rfl⟩:=hc
       rw [if_pos ⟨rfl,rfl⟩] at HIS
       go_wp2_with (at_builtin;refine wpList_append_own _ rfl _ _ 40 rfl wi.heap.size 181 ip (.agg #[.int .i64 0,.int .i64 0]) 2 16 tUPrts hip hp0 hp1 hp2 rfl (by decide) _ nxl (lflat nx) rfl (HN1.out.alloc _) ⟨w2.heap.size,0,none⟩ 1 1 [.int .i64 (p1:Int),.int .i64 (p2:Int)] rfl rfl ?d11 ?d21 ?d31 ?d41 ?d51 ?_)
       case d11=>exact cell_two_new _ _ _ _
       case d21=>intro u hu;simp at hu;rcases hu with rfl | rfl <;> rfl
       case d31=>unfold maxLen;omega
       case d41=>omega
       case d51=>have:=HB1.out.size;simp;omega
       intro nv1 wn1 hown1 hgrow1 hnn1
       have HBN1:Hid (Below wi.heap.size wi wn1):=(HB1.out.alloc HB1.out.size _).grown hgrow1 (by have:=HB1.out.size;simp;omega) (fun q hq=>(HN1.out.lt q hq).1)
       have HON1:Hid (wn1.ownsRow wi.heap.size 181 2 nv1 (nxl+1) (lflat (nx++[(p1,p2)]))):=by unfold Hid;rw [lflat_sn];exact hown1
       clear hown1 hgrow1 hnn1
       obtain ⟨_,m3,m4⟩:=HCC.out wn1 HBN1.out
       have HB2:=hide HBN1.out
       clear k1 k2 k3 k4
       go_wp2_with (at_builtin;refine wpList_append_own _ rfl _ _ 40 rfl wi.heap.size 181 ip (.agg #[.int .i64 0,.int .i64 0]) 2 16 tUPrts hip hp0 hp1 hp2 rfl (by decide) _ (nxl+1) (lflat (nx++[(p1,p2)])) rfl (HON1.out.alloc _) ⟨wn1.heap.size,0,none⟩ 1 1 [.int .i64 (q1:Int),.int .i64 (q2:Int)] rfl rfl ?d12 ?d22 ?d32 ?d42 ?d52 ?_)
       case d12=>exact cell_two_new _ _ _ _
       case d22=>intro u hu;simp at hu;rcases hu with rfl | rfl <;> rfl
       case d32=>unfold maxLen;omega
       case d42=>omega
       case d52=>have:=HB2.out.size;simp;omega
       intro nv2 wn2 hown2 hgrow2 hnn2
       have HBN2:Hid (Below wi.heap.size wi wn2):=(HB2.out.alloc HB2.out.size _).grown hgrow2 (by have:=HB2.out.size;simp;omega) (fun q hq=>(HON1.out.lt q hq).1)
       have HON2:Hid (wn2.ownsRow wi.heap.size 181 2 nv2 ((nxl+1)+1) (lflat ((nx++[(p1,p2)])++[(q1,q2)]))):=by unfold Hid;rw [lflat_sn];exact hown2
       clear hown2 hgrow2 hnn2
       go_wp2_with fail
       go_roundw
       case rel=>exact ⟨j+1,by omega,by go_num,by rw [HIS.out],by rw [HIS.out];simp only [List.length_append,List.length_cons,List.length_nil,HNL.out];exact HON2.out,HBN2.out⟩
       case measure=>simp [intOf];omega
      ·rw [if_neg hc] at HIS
       cases pb with
       | false =>
        clear hc k1 k2
        go_wp2_with (at_builtin;refine wpList_append_own _ rfl _ _ 40 rfl wi.heap.size 181 ip (.agg #[.int .i64 0,.int .i64 0]) 2 16 tUPrts hip hp0 hp1 hp2 rfl (by decide) _ nxl (lflat nx) rfl (HN1.out.alloc _) ⟨w2.heap.size,0,none⟩ 1 1 [.int .i64 (q1:Int),.int .i64 (q2:Int)] rfl rfl ?d13 ?d23 ?d33 ?d43 ?d53 ?_)
        case d13=>exact cell_two_new _ _ _ _
        case d23=>intro u hu;simp at hu;rcases hu with rfl | rfl <;> rfl
        case d33=>unfold maxLen;omega
        case d43=>omega
        case d53=>have:=HB1.out.size;simp;omega
        intro nv3 wn3 hown3 hgrow3 hnn3
        have HBN3:Hid (Below wi.heap.size wi wn3):=(HB1.out.alloc HB1.out.size _).grown hgrow3 (by have:=HB1.out.size;simp;omega) (fun q hq=>(HN1.out.lt q hq).1)
        have HON3:Hid (wn3.ownsRow wi.heap.size 181 2 nv3 (nxl+1) (lflat (nx++[(q1,q2)]))):=by unfold Hid;rw [lflat_sn];exact hown3
        clear hown3 hgrow3 hnn3
        go_wp2_with fail
        go_roundw
        case rel=>exact ⟨j+1,by omega,by go_num,by rw [HIS.out],by rw [HIS.out];simp only [List.length_append,List.length_cons,List.length_nil,HNL.out];exact HON3.out,HBN3.out⟩
        case measure=>simp [intOf];omega
       | true =>
        have hin:inb=true:=by
         cases inb with
         | true=>rfl
         | false=>exact absurd ⟨rfl,rfl⟩ hc
        subst hin
        clear hc k1 k2
        go_wp2_with (at_builtin;refine wpList_append_own _ rfl _ _ 40 rfl wi.heap.size 181 ip (.agg #[.int .i64 0,.int .i64 0]) 2 16 tUPrts hip hp0 hp1 hp2 rfl (by decide) _ nxl (lflat nx) rfl (HN1.out.alloc _) ⟨w2.heap.size,0,none⟩ 1 1 [.int .i64 (q1:Int),.int .i64 (q2:Int)] rfl rfl ?d14 ?d24 ?d34 ?d44 ?d54 ?_)
        case d14=>exact cell_two_new _ _ _ _
        case d24=>intro u hu;simp at hu;rcases hu with rfl | rfl <;> rfl
        case d34=>unfold maxLen;omega
        case d44=>omega
        case d54=>have:=HB1.out.size;simp;omega
        intro nv4 wn4 hown4 hgrow4 hnn4
        have HBN4:Hid (Below wi.heap.size wi wn4):=(HB1.out.alloc HB1.out.size _).grown hgrow4 (by have:=HB1.out.size;simp;omega) (fun q hq=>(HN1.out.lt q hq).1)
        have HON4:Hid (wn4.ownsRow wi.heap.size 181 2 nv4 (nxl+1) (lflat (nx++[(q1,q2)]))):=by unfold Hid;rw [lflat_sn];exact hown4
        clear hown4 hgrow4 hnn4
        go_wp2_with fail
        go_roundw
        case rel=>exact ⟨j+1,by omega,by go_num,by rw [HIS.out],by rw [HIS.out];simp only [List.length_append,List.length_cons,List.length_nil,HNL.out];exact HON4.out,HBN4.out⟩
        case measure=>simp [intOf];omega
    ·obtain rfl:j=k:=by omega
     obtain ⟨hbw,_⟩:=HIN.out wr hbx
     obtain ⟨g1,g2⟩:=HCP.out wr hbw
     have hnl:=HIL.out j
     generalize hst:insK p out j=st at *
     obtain ⟨nx,inb⟩:=st
     obtain ⟨p1,p2⟩:=p
     simp only at g1 g2 hnl hnx HPI ⊢
     generalize hNX:nx.length=nxl at *
     have HNL:=hide hNX
     have HNX:=hide hnx
     have HB5:=hide hbx
     have HBW:=hide hbw
     clear hnx hbx hbw hNX hst hlt2
     cases inb with
     | true =>
      rw [if_pos rfl] at hnl HPI
      go_wp2_with fail
      go_roundw
      case rel=>exact ⟨j+1,by omega,by go_num,by rw [HPS.out,HPI.out,← hnl];exact own_weaken HNX.out hwi,HBW.out⟩
      case measure=>simp [intOf];omega
     | false =>
      rw [if_neg (by simp)] at hnl HPI
      have hnxb:nxl≤1000:=by omega
      have HNLE:=hide hnl
      clear hnl
      go_wp2_with (at_builtin;refine wpList_append_own _ rfl _ _ 40 rfl wi.heap.size 181 ip (.agg #[.int .i64 0,.int .i64 0]) 2 16 tUPrts hip hp0 hp1 hp2 rfl (by decide) _ nxl (lflat nx) rfl (HNX.out.alloc _) ⟨wr.heap.size,0,none⟩ 1 1 [.int .i64 (p1:Int),.int .i64 (p2:Int)] rfl rfl ?d15 ?d25 ?d35 ?d45 ?d55 ?_)
      case d25=>first | exact ⟨rfl,rfl⟩ | (intro u hu;simp at hu;rcases hu with rfl | rfl <;> rfl)
      case d35=>unfold maxLen;omega
      case d45=>omega
      case d55=>have:=HB5.out.size;simp;omega
      intro nv5 wn5 hown5 hgrow5 hnn5
      have HBN5:Hid (Below wi.heap.size wi wn5):=(HB5.out.alloc HB5.out.size _).grown hgrow5 (by have:=HB5.out.size;simp;omega) (fun q hq=>(HNX.out.lt q hq).1)
      have HON5:Hid (wn5.ownsRow wi.heap.size 181 2 nv5 (nxl+1) (lflat (nx++[(p1,p2)]))):=by unfold Hid;rw [lflat_sn];exact hown5
      clear hown5 hgrow5 hnn5
      go_wp2_with fail
      go_roundw
      case rel=>exact ⟨j+1,by omega,by go_num,by rw [HPS.out,HPI.out,show j+1=nxl+1 by have:=HNLE.out;omega];exact own_weaken HON5.out hwi,(HIN.out _ HBN5.out).1⟩
      case measure=>simp [intOf];omega
  ·obtain rfl:k=N:=by omega
   have HPE:Hid (prtS l=prtN l k):=by unfold Hid prtS;rw [← HNE.out]
   go_wp2_with fail
   go_ret
   exact ⟨hb,_,rfl,by rw [HPE.out];exact hown⟩
end Go.Proofs.YtgcedalggnmooaaGreatDoor
namespace Go.Proofs.YtgcedalggnmooaaGreatDoor
open Go.RowKit
def PRow (w:World) (v:Value) (l:List (Nat × Nat)):Prop:=∃ a cap,v=.slice a l.length cap∧∀ i,i<l.length→∃ G,a=some ⟨G,0,none⟩∧G<w.heap.size∧w.cell? ⟨G,i * 2,none⟩=some (.int .i64 ((l.getD i (0,0)).1:Int))∧w.cell? ⟨G,i * 2+1,none⟩=some (.int .i64 ((l.getD i (0,0)).2:Int))
theorem PRow.own {w:World} {base:Nat} {v:Value} {l:List (Nat × Nat)} (h:w.ownsRow base 181 2 v l.length (lflat l)):PRow w v l:=by
 obtain ⟨a,cap,hv⟩:=own_shapeS h
 subst hv
 refine ⟨a,cap,rfl,fun i hi=>?_⟩
 obtain ⟨g,c,hv,_,hgl⟩:=own_someS h (by omega)
 cases hv
 obtain ⟨c1,c2⟩:=lflat_cell h i hi
 exact ⟨g,rfl,hgl,c1,c2⟩
theorem PRow.prs {w:World} {t:TypeId} {v:Value} {l:List (Nat × Nat)} (h:Prs t w v l):PRow w v l:=by
 rcases h with ⟨hv,hl⟩ | ⟨q,cap,cs,hv,hq,hc⟩
 ·subst hv;subst hl
  exact ⟨none,0,rfl,fun i hi=>absurd hi (by simp)⟩
 ·refine ⟨_,cap,hv,fun i hi=>⟨q,rfl,blk_lt hq,?_,?_⟩⟩
  ·rw [blk_cell hq,show i * 2=2 * i by omega];exact (hc i hi).1
  ·rw [blk_cell hq,show i * 2+1=2 * i+1 by omega];exact (hc i hi).2
theorem PRow.below {w w':World} {v:Value} {l:List (Nat × Nat)} (h:PRow w v l) (hb:Below w.heap.size w w'):PRow w' v l:=by
 obtain ⟨a,cap,hv,hc⟩:=h
 refine ⟨a,cap,hv,fun i hi=>?_⟩
 obtain ⟨G,h1,h2,h3,h4⟩:=hc i hi
 exact ⟨G,h1,Nat.lt_of_lt_of_le h2 hb.size,(hb.cell (p:=⟨G,i * 2,none⟩) h2).trans h3,(hb.cell (p:=⟨G,i * 2+1,none⟩) h2).trans h4⟩
def flK (l:List (Nat × Nat)) (k:Nat):List Nat:=l.length :: (l.take k).flatMap (fun p=>[p.1,p.2])
def flP (l:List (Nat × Nat)):List Nat:=l.length :: l.flatMap (fun p=>[p.1,p.2])
theorem flK_succ {l:List (Nat × Nat)} {k:Nat} (hk:k<l.length):flK l (k+1)=flK l k++[(l.getD k (0,0)).1,(l.getD k (0,0)).2]:=by
 have e:l.getD k (0,0)=l[k]:=by simp [List.getD_eq_getElem?_getD,hk]
 unfold flK
 rw [List.take_succ_eq_append_getElem hk,List.flatMap_append,e];rfl
theorem flK_len {l:List (Nat × Nat)}:∀ {k:Nat},k≤l.length→(flK l k).length=1+2 * k
 | 0,_=>rfl
 | k+1,hk=>by rw [flK_succ (by omega),List.length_append,flK_len (show k≤l.length by omega)];simp;omega
theorem flK_all (l:List (Nat × Nat)):flK l l.length=flP l:=by unfold flK flP;rw [List.take_length]
set_option maxHeartbeats 3200000 in
theorem flat_any {w:World} {v:Value} {l:List (Nat × Nat)} (h:PRow w v l) (hl:l.length≤1000) (hm:∀ p ∈ l,p.1<9223372036854775808∧p.2<9223372036854775808) :
  Calls Tryz.prog 81 #[v] w fun e w'=>Below w.heap.size w w'∧∃ g cap,e=.returned (.slice (some ⟨g,0,none⟩) (1+2 * l.length) cap)∧w'.ownsRow w.heap.size 3 1 (.slice (some ⟨g,0,none⟩) (1+2 * l.length) cap) (1+2 * l.length) (I (flP l)):=by
 obtain ⟨i0,hi,hz0,hz1,hz2⟩:=info_parts info3
 have HPR:=hide h
 obtain ⟨a,cap,hv,hc⟩:=h
 subst hv
 have HC:=hide hc
 have HM:=hide hm
 have HFA:=hide (flK_all l)
 obtain ⟨N,hN⟩:∃ N,N=l.length:=⟨_,rfl⟩
 have HNE:=hide hN
 rw [← hN] at hl HC HFA ⊢
 have HINI:Hid ((w.alloc (.cells #[.int .i64 (N:Int)] 3)).ownsRow w.heap.size 3 1 (.slice (some ⟨w.heap.size,0,none⟩) 1 1) (1+2 * 0) (I (flK l 0))∧Below w.heap.size w (w.alloc (.cells #[.int .i64 (N:Int)] 3))):=by
  refine ⟨⟨by simp [I,flK],Or.inr ⟨w.heap.size,1,#[.int .i64 (N:Int)],rfl,Nat.le_refl _,heap_alloc_new w _,?_⟩⟩,al1 w _⟩
  simp [I,flK,HNE.out]
  unfold maxLen;omega
 clear hc hm hN
 go_enter Tryz.func81,Tryz.ntmps81
 go_wp2_with fail
 obtain ⟨w1,HW1⟩:∃ w1,Hid (w1=w.alloc (.cells #[.int .i64 (N:Int)] 3)):=⟨_,rfl⟩
 rw [← HW1.out] at HINI ⊢
 obtain ⟨wb,HWB⟩:∃ wb,Hid (wb=w.heap.size):=⟨_,rfl⟩
 rw [← HWB.out]
 clear HW1
 go_loopw [3,4] (fun ov ii wr=>∃ k:Nat,k≤N∧ii=.int .i64 k∧wr.ownsRow w.heap.size 3 1 ov (1+2 * k) (I (flK l k))∧Below w.heap.size w wr) (fun _ ii _=>N - (intOf ii).toNat)
 case atStart=>exact ⟨0,by omega,rfl,by rw [HWB.out];exact HINI.out.1,HINI.out.2⟩
 case round =>
  clear HINI HWB
  obtain ⟨k,hk,rfl,hown,hb⟩:=hrel
  obtain ⟨g,gc,hv,hg1,hg2⟩:=own_some hown (by omega)
  subst hv
  by_cases hlt:k<N
  ·obtain ⟨G,hG,hGl,c1,c2⟩:=HC.out k hlt
   subst hG
   have k1:=(hb.cell (p:=⟨G,k * 2,none⟩) hGl).trans c1
   have k2:=(hb.cell (p:=⟨G,k * 2+1,none⟩) hGl).trans c2
   have hpb:=Bparts HM.out k
   have HFS:=hide (flK_succ (l:=l) (k:=k) (by rw [← HNE.out];exact hlt))
   generalize l.getD k (0,0)=p at *
   obtain ⟨p1,p2⟩:=p
   simp only at k1 k2 hpb HFS
   obtain ⟨M,HMM⟩:∃ M,Hid (M=1+2 * k):=⟨_,rfl⟩
   have hMb:M≤2001:=by have:=HMM.out;omega
   rw [← HMM.out] at hown ⊢
   have HB:=hide hb
   have HO:=hide hown
   have hws:=hb.size
   have hbl:Below wr.heap.size wr (wr.alloc (.cells #[.int .i64 (p1:Int),.int .i64 (p2:Int)] 3)).drew:=(al1 wr _).drew
   have hbk:(wr.alloc (.cells #[.int .i64 (p1:Int),.int .i64 (p2:Int)] 3)).drew.heap[wr.heap.size]?=some (.cells #[.int .i64 (p1:Int),.int .i64 (p2:Int)] 3 (0,0)):=heap_alloc_new wr _
   have hone:∀ u ∈ ([.int .i64 (p1:Int),.int .i64 (p2:Int)]:List Value),u.oneCell'=true:=by intro u hu;simp at hu;rcases hu with rfl | rfl <;> rfl
   clear hown hb c1 c2
   go_wp2_with fail
   go_region_law (refine step_append_lies _ rfl _ _ 55 rfl w.heap.size 3 i0 (.int .i64 0) 1 8 tU48 hi hz0 hz1 hz2 rfl (by decide) (.slice (some ⟨g,0,none⟩) M gc) M (I (flK l k)) rfl (own_below HO.out hbl) ⟨wr.heap.size,0,none⟩ 2 2 [.int .i64 (p1:Int),.int .i64 (p2:Int)] rfl rfl (World.news_of_block hbk) hone (by decide) (by unfold maxLen;omega) (by omega) (by simp;omega) (wr.heap.size+1) (by simp) ?_;intro g5 cap5 w5 hown5 hg5 hat5 hlt5)
   all_goals
    have HB5:Hid (Below w.heap.size w w5):=((HB.out.alloc HB.out.size _).drew).grown hg5 (by simp;omega) (fun q hq=>(HO.out.lt q hq).1)
    have HO5:Hid (w5.ownsRow w.heap.size 3 1 (.slice (some ⟨g5,0,none⟩) (M+2) cap5) (M+2) (I (flK l (k+1)))):=by
     unfold Hid
     rw [HFS.out]
     have e:I (flK l k++[p1,p2])=I (flK l k)++[.int .i64 (p1:Int),.int .i64 (p2:Int)]:=by simp [I]
     rw [e];exact hown5
    clear hown5 hg5 hat5 hlt5
    go_wp2_with fail
    go_roundw
    case rel=>exact ⟨k+1,by omega,by go_num,by rw [show 1+2 * (k+1)=M+2 by have:=HMM.out;omega];exact HO5.out,HB5.out⟩
    case measure=>simp [intOf];omega
  ·obtain rfl:k=N:=by omega
   have HO:Hid (wr.ownsRow w.heap.size 3 1 (.slice (some ⟨g,0,none⟩) (1+2 * k) gc) (1+2 * k) (I (flP l))):=by rw [← HFA.out];exact hown
   have HB:=hide hb
   clear hown hb hlt
   go_wp2_with fail
   go_ret
   exact ⟨HB.out,g,gc,rfl,HO.out⟩
end Go.Proofs.YtgcedalggnmooaaGreatDoor
namespace Go.Proofs.YtgcedalggnmooaaGreatDoor
open Go.RowKit
def lotN (l:L):List Nat:=[l.id,l.goods,l.expiry,l.place,l.free,l.held,l.shipped,l.scrapped]++flP (dpar l.par)++(if (dpar l.par).length=0 then [l.got] else [])
def ordN (o:O):List Nat:=[o.id,o.goods]++flP (prtS o.lines)
def enumI (x:Nat→Nat) (N:Nat):Nat→Nat→List Nat
 | 0,_=>[]
 | f+1,n=>match nxA x n N with
  | none=>[]
  | some i=>i :: enumI x N f (x i)
def cntA (x:Nat→Nat) (n:Nat):Nat→Nat
 | 0=>0
 | k+1=>cntA x n k+(if n<x k then 1 else 0)
theorem cntA_le (x:Nat→Nat) (n:Nat):∀ k,cntA x n k≤k
 | 0=>Nat.le_refl _
 | k+1=>by
  have:=cntA_le x n k
  rw [cntA];split <;> omega
theorem cntA_mono (x:Nat→Nat) {n m:Nat} (h:n≤m):∀ k,cntA x m k≤cntA x n k
 | 0=>Nat.le_refl _
 | k+1=>by
  have:=cntA_mono x h k
  rw [cntA,cntA]
  split
  ·rw [if_pos (by omega)];omega
  ·split <;> omega
theorem cntA_lt (x:Nat→Nat) {n i:Nat} (hx:n<x i):∀ k,i<k→cntA x (x i) k<cntA x n k
 | 0,h=>absurd h (by omega)
 | k+1,h=>by
  rw [cntA,cntA]
  by_cases hik:i=k
  ·subst hik
   have:=cntA_mono x (Nat.le_of_lt hx) i
   rw [if_neg (by omega),if_pos hx];omega
  ·have:=cntA_lt x hx k (by omega)
   split
   ·rw [if_pos (by omega)];omega
   ·split <;> omega
def stL (ls:List L):List Nat:=(enumI (fun i=>(ls.getD i L0).id) ls.length (ls.length+1) 0).flatMap (fun i=>lotN (ls.getD i L0))
def stO (os:List O):List Nat:=(enumI (fun i=>(os.getD i O0).id) os.length (os.length+1) 0).flatMap (fun i=>ordN (os.getD i O0))
def stN (td:Nat) (os:List O) (rcs:List (Nat × Nat)) (ls:List L):List Nat:=[td,ls.length,ls.length]++stL ls++[os.length]++stO os++flP (prtS rcs)
def stB (td:Nat) (os:List O) (rcs:List (Nat × Nat)) (ls:List L):List UInt8:=13 :: Pl.toldB (stN td os rcs ls)
theorem enum_step {x:Nat→Nat} {N f n i:Nat} (h:nxA x n N=some i):enumI x N (f+1) n=i :: enumI x N f (x i):=by rw [enumI,h]
theorem enum_stop {x:Nat→Nat} {N n:Nat} (h:nxA x n N=none):∀ f,enumI x N f n=[]
 | 0=>rfl
 | f+1=>by rw [enumI,h]
structure En (x:Nat→Nat) (N:Nat) (done:List Nat) (cur:Nat):Prop where
 eq:enumI x N (N+1) 0=done++enumI x N (N+1 - done.length) cur
 cnt:done.length+cntA x cur N≤N
theorem En.start (x:Nat→Nat) (N:Nat):En x N [] 0:=⟨by simp,by simpa using cntA_le x 0 N⟩
theorem En.step {x:Nat→Nat} {N cur i:Nat} {done:List Nat} (h:En x N done cur) (hi:nxA x cur N=some i):En x N (done++[i]) (x i):=by
 obtain ⟨h1,h2⟩:=nxA_lt hi
 have hc:=cntA_lt x h2 N h1
 have hn:=h.cnt
 refine ⟨?_,by rw [List.length_append,List.length_singleton];omega⟩
 rw [h.eq,List.length_append,List.length_singleton,show N+1 - done.length=(N+1 - (done.length+1))+1 by omega,enum_step hi];simp
theorem En.stop {x:Nat→Nat} {N cur:Nat} {done:List Nat} (h:En x N done cur) (hi:nxA x cur N=none):enumI x N (N+1) 0=done:=by
 rw [h.eq,enum_stop hi,List.append_nil]
theorem En.len {x:Nat→Nat} {N cur:Nat} {done:List Nat} (h:En x N done cur):done.length≤N:=by have:=h.cnt;omega
def meA (x:Nat→Nat) (N:Nat) (iv:Value):Nat:=if intOf iv<0 then 0 else 1+cntA x (x (intOf iv).toNat) N
theorem meA_step {x:Nat→Nat} {N i:Nat}:meA x N (.int .i64 (ixV (nxA x (x i) N)))<meA x N (.int .i64 (i:Int)):=by
 have e:meA x N (.int .i64 (i:Int))=1+cntA x (x i) N:=by
  unfold meA
  rw [if_neg (by show ¬ (i:Int)<0;omega)];rfl
 rw [e]
 cases hq:nxA x (x i) N with
 | none =>
  have:meA x N (.int .i64 (ixV none))=0:=by unfold meA;rw [if_pos (by show (-1:Int)<0;omega)]
  rw [this];omega
 | some j =>
  obtain ⟨h1,h2⟩:=nxA_lt hq
  have:=cntA_lt x h2 N h1
  have e2:meA x N (.int .i64 (ixV (some j)))=1+cntA x (x j) N:=by
   unfold meA
   rw [if_neg (by show ¬ (j:Int)<0;omega)];rfl
  rw [e2];omega
theorem lotN_len {l:L} (h:L.Ok l):(lotN l).length≤14:=by
 have h1:=dpar_len l.par
 have h2:=h.par.1
 have h3:(flP (dpar l.par)).length=1+2 * (dpar l.par).length:=by rw [← flK_all,flK_len (Nat.le_refl _)]
 unfold lotN
 simp only [List.length_append,List.length_cons,List.length_nil]
 split
 ·simp;omega
 ·simp;omega
theorem flatMap_len_le {f:Nat→List Nat} (b:Nat):∀ l:List Nat,(∀ i ∈ l,(f i).length≤b)→(l.flatMap f).length≤l.length * b
 | [],_=>by simp
 | i :: l,h=>by
  have:=flatMap_len_le b l (fun j hj=>h j (by simp [hj]))
  have h1:=h i (by simp)
  rw [List.flatMap_cons,List.length_append,List.length_cons,Nat.succ_mul];omega
theorem prtS_len (l:List (Nat × Nat)):(prtS l).length=l.length:=prtN_len l l.length
theorem ordN_len (o:O):(ordN o).length=3+2 * o.lines.length:=by
 have h3:(flP (prtS o.lines)).length=1+2 * o.lines.length:=by rw [← flK_all,flK_len (Nat.le_refl _),prtS_len]
 unfold ordN
 simp only [List.length_append,List.length_cons,List.length_nil,h3];omega
theorem news_lit (w1:World) (cs:Array Value) (t:TypeId) (b:Nat) (hb:b=w1.heap.size):∀ (j:Nat) (u:Value),cs.toList[j]?=some u→(w1.alloc (.cells cs t)).cell? (Addr.add ⟨b,0,none⟩ j)=some u:=by
 subst hb;exact World.news_of_block (heap_alloc_new w1 _)
theorem news_own {w:World} {base g n cap:Nat} {ns:List Nat} (h:w.ownsRow base 3 1 (.slice (some ⟨g,0,none⟩) n cap) n (I ns)) (hn:n=ns.length):∀ (j:Nat) (u:Value),(I ns)[j]?=some u→w.cell? (Addr.add ⟨g,0,none⟩ j)=some u:=by
 subst hn
 intro j u hj
 have hl:j<ns.length:=by
  rcases Nat.lt_or_ge j ns.length with h | h
  ·exact h
  ·rw [List.getElem?_eq_none (by simpa [I] using h)] at hj;cases hj
 have ha:Addr.add ⟨g,0,none⟩ j=⟨g,j,none⟩:=by unfold Addr.add;split <;> simp_all
 rw [ha,ownInts_cell h j hl,← hj]
 simp [I,List.getD_eq_getElem?_getD,hl]
set_option maxHeartbeats 3200000 in
theorem state_any {rcs:List (Nat × Nat)} {w:World} {R:Nat} {v:Value} {td:Nat} {rec:ByteArray} {fs:List Value} {ls:List L} {os:List O} {ro:Ro} (h:RV os rcs ro w R v td rec fs ls) (hgo:Good os ls) (hst:∀ n ∈ stN td os rcs ls,n<9223372036854775808) (hpar:∀ l ∈ ls,∀ p ∈ l.par,p.2<9223372036854775808) (hlin:∀ o ∈ os,∀ p ∈ o.lines,p.1<9223372036854775808∧p.2<9223372036854775808) (hrcs:∀ p ∈ rcs,p.1<9223372036854775808∧p.2<9223372036854775808) :
  Calls Tryz.prog 56 #[.pointer (some ⟨R,0,none⟩)] w fun e w'=>Below w.heap.size w w'∧e=.returned (.string ⟨(stB td os rcs ls).toArray⟩):=by
 obtain ⟨i0,hi,hz0,hz1,hz2⟩:=info_parts info3
 have HP:=hide h
 have HGO:=hide hgo
 have HST:=hide hst
 have HPAR:=hide hpar
 have HLIN:=hide hlin
 have HRCS:=hide hrcs
 clear hst hpar hlin hrcs
 have HLO:=hide (fun (wx:World) (hx:Below w.heap.size w wx) (n:Nat) (hn:n≤2147483647)=>lotOf_any (h.below hx) n hn)
 have HOO:=hide (fun (wx:World) (hx:Below w.heap.size w wx) (n:Nat) (hn:n≤2147483647)=>orderOf_any (h.below hx) hgo n hn)
 have c0:=h.c0
 have c1:=h.c1
 obtain ⟨a,cap,hv,hrow⟩:=h.shape
 rw [hv] at c1
 have htd:=h.today
 have hroom:=h.room
 have HRW:=hide hrow
 obtain ⟨N,hN⟩:∃ N,N=ls.length:=⟨_,rfl⟩
 have HNE:=hide hN
 rw [← hN] at c1 hroom
 have hRl:=blk_lt h.store
 clear h hgo hv hrow hN
 go_enter Tryz.func56,Tryz.ntmps56
 go_wp2_with fail
 go_region_held3 (fun w'=>w'.cell? ⟨R,0,none⟩=some (.int .i64 (td:Int))∧w'.cell? ⟨R,1,none⟩=some (.slice a N cap)) (go_keep) (fail)
 have HB1:Hid (Below w.heap.size w (w.alloc (.cells #[.int .i64 (td:Int),.int .i64 (N:Int),.int .i64 (N:Int)] 3)).drew):=(al1 w _).drew
 have HN1:Hid ((w.alloc (.cells #[.int .i64 (td:Int),.int .i64 (N:Int),.int .i64 (N:Int)] 3)).drew.ownsRow w.heap.size 3 1 (.slice (some ⟨w.heap.size,0,none⟩) 3 3) [td,N,N].length (I [td,N,N])):=by
  refine ⟨by simp [I],Or.inr ⟨w.heap.size,3,#[.int .i64 (td:Int),.int .i64 (N:Int),.int .i64 (N:Int)],rfl,Nat.le_refl _,heap_alloc_new w _,?_⟩⟩
  simp [I]
  unfold maxLen;omega
 obtain ⟨w1,HW1⟩:∃ w1,Hid (w1=(w.alloc (.cells #[.int .i64 (td:Int),.int .i64 (N:Int),.int .i64 (N:Int)] 3)).drew):=⟨_,rfl⟩
 rw [← HW1.out] at HB1 HN1 ⊢
 clear HW1
 obtain ⟨x,HXE⟩:∃ x:Nat→Nat,Hid (x=fun i=>(ls.getD i L0).id):=⟨_,rfl⟩
 rw [← HXE.out,← HNE.out] at HLO
 go_wp2_with fail
 refine (HLO.out _ HB1.out 0 (by omega)).mono ?_
 rintro e w2 ⟨rfl,hb2⟩
 obtain ⟨iz,HIZ⟩:∃ iz,Hid (iz=ixV (nxA x 0 N)):=⟨_,rfl⟩
 rw [← HIZ.out]
 have HB2:Hid (Below w.heap.size w w2):=HB1.out.trans (hb2.mono HB1.out.size)
 have HN2:=hide (own_below HN1.out hb2)
 clear hb2 HB1 HN1
 go_wp2_with fail
 have HOK:Hid (∀ i,i<N→L.Ok (ls.getD i L0)):=fun i hi=>HP.out.ok _ (mem_getD (by rw [← HNE.out];exact hi))
 have HXB:Hid (∀ i,i<N→x i≤2147483647):=fun i hi=>by rw [HXE.out];exact (HOK.out i hi).id
 obtain ⟨F,HFE⟩:∃ F:Nat→List Nat,Hid (F=fun i=>lotN (ls.getD i L0)):=⟨_,rfl⟩
 have HFL:Hid (∀ i,i<N→(F i).length≤14):=fun i hi=>by rw [HFE.out];exact lotN_len (HOK.out i hi)
 go_loopw [3,4,5] (fun nv iv _ wr=>∃ (done:List Nat) (cur:Nat),iv=.int .i64 (ixV (nxA x cur N))∧En x N done cur∧(∀ i ∈ done,i<N)∧wr.ownsRow w.heap.size 3 1 nv ([td,N,N]++done.flatMap F).length (I ([td,N,N]++done.flatMap F))∧Below w.heap.size w wr) (fun _ iv _ _=>meA x N iv)
 case atStart=>exact ⟨[],0,by rw [HIZ.out],En.start x N,(fun i h=>by cases h),HN2.out,HB2.out⟩
 case round =>
  clear HN2 HB2
  obtain ⟨done,cur,rfl,hen,hdn,hown,hb⟩:=hrel
  have hlen:([td,N,N]++done.flatMap F).length≤500:=by
   have h1:=flatMap_len_le 14 done (fun i hi=>HFL.out i (hdn i hi))
   have h2:=hen.len
   rw [List.length_append]
   simp only [List.length_cons,List.length_nil]
   omega
  cases hq:nxA x cur N with
  | some i =>
   obtain ⟨hiN,hxi⟩:=nxA_lt hq
   have HEN:=hide (hen.step hq)
   have HDN:Hid (∀ j ∈ done++[i],j<N):=fun j hj=>by
    rcases List.mem_append.1 hj with h | h
    ·exact hdn j h
    ·simp at h;omega
   obtain ⟨G,hG,hGl,hcells⟩:=HRW.out (by rw [← HNE.out];omega)
   have HFI:Hid (F i=lotN (ls.getD i L0)):=by rw [HFE.out];rfl
   have hxe:x i=(ls.getD i L0).id:=by rw [HXE.out]
   have HPF:=hide (PRow.prs (HP.out.from (i:=i) (by rw [← HNE.out];exact hiN)))
   have hok:=HOK.out i hiN
   have hcl:=fun j hj=>hcells i (by rw [← HNE.out];exact hiN) j hj
   have HGC:Hid (w.cell? ⟨G,i * 11,none⟩=some (.int .i64 (x i:Int))):=by rw [hxe];exact hcl 0 (by omega)
   generalize hfv:fs.getD i default=fv at *
   generalize hll:ls.getD i L0=l at *
   have hlt:=Nat.lt_of_lt_of_le hGl hb.size
   have q0:wr.cell? ⟨G,i * 11,none⟩=some (.int .i64 (l.id:Int)):=(hb.cell (p:=⟨G,i * 11+0,none⟩) hGl).trans (hcl 0 (by omega))
   have q1:wr.cell? ⟨G,i * 11+1,none⟩=some (.int .i64 (l.goods:Int)):=(hb.cell (p:=⟨G,i * 11+1,none⟩) hGl).trans (hcl 1 (by omega))
   have q2:wr.cell? ⟨G,i * 11+2,none⟩=some (.int .i64 (l.expiry:Int)):=(hb.cell (p:=⟨G,i * 11+2,none⟩) hGl).trans (hcl 2 (by omega))
   have q3:wr.cell? ⟨G,i * 11+3,none⟩=some (.int .i64 (l.place:Int)):=(hb.cell (p:=⟨G,i * 11+3,none⟩) hGl).trans (hcl 3 (by omega))
   have q4:wr.cell? ⟨G,i * 11+4,none⟩=some (.int .i64 (l.got:Int)):=(hb.cell (p:=⟨G,i * 11+4,none⟩) hGl).trans (hcl 4 (by omega))
   have q5:wr.cell? ⟨G,i * 11+5,none⟩=some (.int .i64 (l.free:Int)):=(hb.cell (p:=⟨G,i * 11+5,none⟩) hGl).trans (hcl 5 (by omega))
   have q6:wr.cell? ⟨G,i * 11+6,none⟩=some (.int .i64 (l.held:Int)):=(hb.cell (p:=⟨G,i * 11+6,none⟩) hGl).trans (hcl 6 (by omega))
   have q7:wr.cell? ⟨G,i * 11+7,none⟩=some (.int .i64 (l.shipped:Int)):=(hb.cell (p:=⟨G,i * 11+7,none⟩) hGl).trans (hcl 7 (by omega))
   have q8:wr.cell? ⟨G,i * 11+8,none⟩=some (.int .i64 (l.scrapped:Int)):=(hb.cell (p:=⟨G,i * 11+8,none⟩) hGl).trans (hcl 8 (by omega))
   have q9:wr.cell? ⟨G,i * 11+9,none⟩=some (.int .i64 (l.given:Int)):=(hb.cell (p:=⟨G,i * 11+9,none⟩) hGl).trans (hcl 9 (by omega))
   have q10:wr.cell? ⟨G,i * 11+10,none⟩=some fv:=(hb.cell (p:=⟨G,i * 11+10,none⟩) hGl).trans (hcl 10 (by omega))
   obtain ⟨fa,fc,hfs,-⟩:=HPF.out
   have r1:=(hb.cell (p:=⟨R,1,none⟩) hRl).trans c1
   rw [hG] at r1
   have HGA:=hide hG
   clear hG
   generalize hT:[td,N,N]++done.flatMap F=T at *
   obtain ⟨M,hM⟩:∃ M,M=T.length:=⟨_,rfl⟩
   have HME:=hide hM
   rw [← hM] at hown hlen
   have hM3:3≤M:=by
    rw [hM,← hT,List.length_append];simp only [List.length_cons,List.length_nil];omega
   obtain ⟨gn,nc,hnv,-,hgn⟩:=own_some hown (by omega)
   subst hnv
   have HO:=hide hown
   have HB:=hide hb
   have HTE:=hide hT
   simp only [ixV]
   clear hown hb hcl hcells hen hdn hq hT hM
   subst hfs
   go_wp2_with (at_builtin;refine wpList_append_own _ rfl _ _ 55 rfl w.heap.size 3 i0 (.int .i64 0) 1 8 tU48 hi hz0 hz1 hz2 rfl (by decide) _ M (I T) rfl ((HO.out.alloc _).alloc _) ⟨wr.heap.size+1,0,none⟩ 8 8 [.int .i64 (l.id:Int),.int .i64 (l.goods:Int),.int .i64 (l.expiry:Int),.int .i64 (l.place:Int),.int .i64 (l.free:Int),.int .i64 (l.held:Int),.int .i64 (l.shipped:Int),.int .i64 (l.scrapped:Int)] rfl rfl ?d11 ?d21 ?d31 ?d41 ?d51 ?_)
   case d11=>exact news_lit _ _ _ _ (by simp)
   case d21=>intro u hu;simp at hu;rcases hu with rfl | rfl | rfl | rfl | rfl | rfl | rfl | rfl <;> rfl
   case d31=>unfold maxLen;omega
   case d41=>omega
   case d51=>have:=HB.out.size;simp;omega
   intro nv3 w3 hown3 hgrow3 hnn3
   have HB3:Hid (Below w.heap.size w w3):=((HB.out.alloc HB.out.size _).alloc (by have:=HB.out.size;simp;omega) _).grown hgrow3 (by have:=HB.out.size;simp;omega) (fun q hq=>(HO.out.lt q hq).1)
   obtain ⟨A8,HA8⟩:∃ A:List Nat,Hid (A=[l.id,l.goods,l.expiry,l.place,l.free,l.held,l.shipped,l.scrapped]):=⟨_,rfl⟩
   have HO3:Hid (w3.ownsRow w.heap.size 3 1 nv3 (M+8) (I (T++A8))):=by
    unfold Hid
    have e:I (T++A8)=I T++[.int .i64 (l.id:Int),.int .i64 (l.goods:Int),.int .i64 (l.expiry:Int),.int .i64 (l.place:Int),.int .i64 (l.free:Int),.int .i64 (l.held:Int),.int .i64 (l.shipped:Int),.int .i64 (l.scrapped:Int)]:=by rw [HA8.out];simp [I]
    rw [e];exact hown3
   have hbox:w3.heap[wr.heap.size]?=some (.cells #[.int .i64 (l.id:Int),.int .i64 (l.goods:Int),.int .i64 (l.expiry:Int),.int .i64 (l.place:Int),.int .i64 (l.got:Int),.int .i64 (l.free:Int),.int .i64 (l.held:Int),.int .i64 (l.shipped:Int),.int .i64 (l.scrapped:Int),.int .i64 (l.given:Int),.slice fa (dpar l.par).length fc] 129 (0,0)):=by
    rw [hgrow3.block wr.heap.size (by simp;omega) (by simp [Value.ownBlock];omega),Below.heap_alloc _ _ _ (by simp)]
    exact heap_alloc_new wr _
   obtain ⟨g3,c3,hv3,-,hg3l⟩:=own_some hown3 (by omega)
   subst hv3
   obtain ⟨bx,hbx⟩:∃ bx,bx=wr.heap.size:=⟨_,rfl⟩
   have hg3:g3≠bx:=fun e=>by
    obtain ⟨cs,hcs⟩:=own_ty hown3 (g:=g3) rfl
    rw [e,hbx,hbox] at hcs
    simp at hcs
   rw [← hbx] at hbox ⊢
   have b10:w3.cell? ⟨bx,10,none⟩=some (.slice fa (dpar l.par).length fc):=by rw [blk_cell hbox];rfl
   have HBOX:=hide hbox
   have hbl:bx<w3.heap.size:=blk_lt hbox
   have hpl:=dpar_len l.par
   have hp2:=hok.par.1
   have HFLT:=hide (flat_any (HPF.out.below HB3.out) (by omega) (fun p hp=>by
    rw [dpar_mem] at hp
    exact ⟨by have:=hok.par.2 p hp;omega,HPAR.out l (by rw [← hll];exact mem_getD (by rw [← HNE.out];exact hiN)) p hp⟩))
   generalize hkk:(dpar l.par).length=kk at *
   have HKK:=hide hkk
   have hkk2:kk≤2:=by omega
   clear hown3 hgrow3 hnn3 HO HB q0 q1 q2 q3 q4 q5 q6 q7 q8 q9 q10 hbox hbx hkk hpl hfv hxe
   go_wp2_with fail
   refine (HFLT.out).mono ?_
   rintro e w4 ⟨hb4,g4,c4,rfl,hown4⟩
   have HB4:Hid (Below w.heap.size w w4):=HB3.out.trans (hb4.mono HB3.out.size)
   have HO4:=hide (own_below HO3.out hb4)
   have HBX4:Hid (w4.heap[bx]?=w3.heap[bx]?):=hb4.block bx hbl
   have hbl4:=Nat.lt_of_lt_of_le hbl hb4.size
   have hl4:1+2 * kk=(flP (dpar l.par)).length:=by rw [← flK_all,flK_len (Nat.le_refl _),HKK.out]
   have HNW:=hide (news_own hown4 hl4)
   have HLP:=hide hl4
   have hws4:=HB4.out.size
   clear hb4 hown4 HFLT HB3 HO3 b10 hl4
   go_wp2_with (at_builtin;refine wpList_append_own _ rfl _ _ 55 rfl w.heap.size 3 i0 (.int .i64 0) 1 8 tU48 hi hz0 hz1 hz2 rfl (by decide) _ (M+8) (I (T++A8)) rfl HO4.out ⟨g4,0,none⟩ (1+2 * kk) c4 (I (flP (dpar l.par))) rfl ?e01 ?e11 ?e21 ?e31 ?e41 ?e51 ?_)
   case e01=>rw [I_len,← HLP.out];omega
   case e11=>exact HNW.out
   case e21=>intro u hu;simp only [I,List.mem_map] at hu;obtain ⟨n,_,rfl⟩:=hu;rfl
   case e31=>unfold maxLen;omega
   case e41=>omega
   case e51=>exact hws4
   intro nv5 w5 hown5 hgrow5 hnn5
   have HB5:Hid (Below w.heap.size w w5):=HB4.out.grown hgrow5 hws4 (fun q hq=>(HO4.out.lt q hq).1)
   have HO5:Hid (w5.ownsRow w.heap.size 3 1 nv5 (M+8+(1+2 * kk)) (I (T++A8++flP (dpar l.par)))):=by
    unfold Hid
    have e:I (T++A8++flP (dpar l.par))=I (T++A8)++I (flP (dpar l.par)):=by simp [I]
    rw [e];exact hown5
   have hbx5:w5.heap[bx]?=_:=((hgrow5.block bx hbl4 (by simp [Value.ownBlock];exact fun e=>hg3 e.symm)).trans HBX4.out).trans HBOX.out
   have s10:w5.cell? ⟨bx,10,none⟩=some (.slice fa kk fc):=by rw [blk_cell hbx5,← HKK.out];rfl
   have s4:w5.cell? ⟨bx,4,none⟩=some (.int .i64 (l.got:Int)):=by rw [blk_cell hbx5];rfl
   obtain ⟨g5,c5,hv5,-,hg5l⟩:=own_some hown5 (by omega)
   subst hv5
   have HFF:Hid (lotN l=A8++flP (dpar l.par)++(if kk=0 then [l.got] else [])):=by unfold Hid lotN;rw [HA8.out,HKK.out]
   have HTN:Hid ([td,N,N]++(done++[i]).flatMap F=T++lotN l):=by
    unfold Hid
    rw [List.flatMap_append,← List.append_assoc,HTE.out,← HFI.out];simp
   have HCR:Hid (∀ wx,Below w.heap.size w wx→wx.cell? ⟨R,1,none⟩=some (.slice (some ⟨G,0,none⟩) N cap)∧wx.cell? ⟨G,i * 11,none⟩=some (.int .i64 (x i:Int))):=fun wx hx=>by
    refine ⟨?_,?_⟩
    ·rw [← HGA.out];exact (hx.cell (p:=⟨R,1,none⟩) hRl).trans c1
    ·exact (hx.cell (p:=⟨G,i * 11,none⟩) hGl).trans (HGC.out)
   have hxib:=HXB.out i hiN
   clear hown5 hgrow5 hnn5 HO4 HB4 HNW HLP hbx5 HBX4 r1
   by_cases hk0:kk=0
   ·rw [if_pos hk0] at HFF
    subst hk0
    go_wp2_with (at_builtin;refine wpList_append_own _ rfl _ _ 55 rfl w.heap.size 3 i0 (.int .i64 0) 1 8 tU48 hi hz0 hz1 hz2 rfl (by decide) _ _ (I (T++A8++flP (dpar l.par))) rfl (HO5.out.alloc _) ⟨w5.heap.size,0,none⟩ 1 1 [.int .i64 (l.got:Int)] rfl rfl ?f11 ?f21 ?f31 ?f41 ?f51 ?_)
    case f11=>exact one_new _ _ _
    case f21=>intro u hu;simp at hu;subst hu;rfl
    case f31=>unfold maxLen;omega
    case f41=>omega
    case f51=>have:=HB5.out.size;simp;omega
    intro nv6 w6 hown6 hgrow6 hnn6
    have HB6:Hid (Below w.heap.size w w6):=(HB5.out.alloc HB5.out.size _).grown hgrow6 (by have:=HB5.out.size;simp;omega) (fun q hq=>(HO5.out.lt q hq).1)
    have HON:Hid (w6.ownsRow w.heap.size 3 1 nv6 ([td,N,N]++(done++[i]).flatMap F).length (I ([td,N,N]++(done++[i]).flatMap F))):=by
     unfold Hid
     rw [HTN.out,HFF.out]
     have e:I (T++(A8++flP (dpar l.par)++[l.got]))=I (T++(A8++flP (dpar l.par)))++[.int .i64 (l.got:Int)]:=by simp [I]
     have e2:(T++(A8++flP (dpar l.par)++[l.got])).length=M+8+1+1:=by
      have h1:(flP (dpar l.par)).length=1:=by rw [← flK_all,flK_len (Nat.le_refl _),HKK.out]
      simp only [List.length_append,List.length_cons,List.length_nil,h1,HA8.out,← HME.out]
     rw [e,e2];exact hown6
    obtain ⟨r1,r2⟩:=HCR.out w6 HB6.out
    clear hown6 hgrow6 hnn6 HO5 HB5
    go_wp2_with fail
    refine (HLO.out _ HB6.out (x i) hxib).mono ?_
    rintro e w9 ⟨rfl,hb9⟩
    have HB9:Hid (Below w.heap.size w w9):=HB6.out.trans (hb9.mono HB6.out.size)
    have HO9:=hide (own_below HON.out hb9)
    clear hb9 HON HB6
    have hme:=meA_step (x:=x) (N:=N) (i:=i)
    have HMS:=hide hme
    clear hme
    obtain ⟨ij,HIJ⟩:∃ ij,Hid (ij=ixV (nxA x (x i) N)):=⟨_,rfl⟩
    rw [← HIJ.out] at HMS ⊢
    go_wp2_with fail
    go_roundw
    case rel=>exact ⟨done++[i],x i,by rw [HIJ.out];rfl,HEN.out,HDN.out,HO9.out,HB9.out⟩
    case measure=>exact HMS.out
   ·rw [if_neg hk0,List.append_nil] at HFF
    have hkb:((kk:Int) == 0)=false:=by rw [beq_eq_false_iff_ne];omega
    obtain ⟨r1,r2⟩:=HCR.out w5 HB5.out
    have HON:Hid (w5.ownsRow w.heap.size 3 1 (.slice (some ⟨g5,0,none⟩) (M+8+(1+2 * kk)) c5) ([td,N,N]++(done++[i]).flatMap F).length (I ([td,N,N]++(done++[i]).flatMap F))):=by
     unfold Hid
     rw [HTN.out,HFF.out]
     have e2:(T++(A8++flP (dpar l.par))).length=M+8+(1+2 * kk):=by
      have h1:(flP (dpar l.par)).length=1+2 * kk:=by rw [← flK_all,flK_len (Nat.le_refl _),HKK.out]
      simp only [List.length_append,List.length_cons,List.length_nil,h1,HA8.out,← HME.out];omega
     rw [e2,← List.append_assoc];exact HO5.out
    clear HO5
    go_wp2_with fail
    refine (HLO.out _ HB5.out (x i) hxib).mono ?_
    rintro e w9 ⟨rfl,hb9⟩
    have HB9:Hid (Below w.heap.size w w9):=HB5.out.trans (hb9.mono HB5.out.size)
    have HO9:=hide (own_below HON.out hb9)
    clear hb9 HON HB5
    have hme:=meA_step (x:=x) (N:=N) (i:=i)
    have HMS:=hide hme
    clear hme
    obtain ⟨ij,HIJ⟩:∃ ij,Hid (ij=ixV (nxA x (x i) N)):=⟨_,rfl⟩
    rw [← HIJ.out] at HMS ⊢
    go_wp2_with fail
    go_roundw
    case rel=>exact ⟨done++[i],x i,by rw [HIJ.out];rfl,HEN.out,HDN.out,HO9.out,HB9.out⟩
    case measure=>exact HMS.out
  | none =>
   have HTS:Hid ([td,N,N]++done.flatMap F=[td,ls.length,ls.length]++stL ls):=by
    unfold Hid stL
    rw [← HNE.out,← HXE.out,← HFE.out,hen.stop hq]
   have HB:=hide hb
   have HO:=hide hown
   rw [HTS.out] at HO hlen
   obtain ⟨oa,ocap,hov,horow⟩:=HP.out.ord.shape
   have hoc:wr.cell? ⟨R,2,none⟩=some ro.ov:=(hb.cell (p:=⟨R,2,none⟩) hRl).trans HP.out.c2
   rw [hov] at hoc
   have HOC0:Hid (w.cell? ⟨R,2,none⟩=some (.slice oa os.length ocap)):=by rw [← hov];exact HP.out.c2
   have HORW:=hide horow
   have holen:=HGO.out.olen
   obtain ⟨K,hK⟩:∃ K,K=os.length:=⟨_,rfl⟩
   have HKE:=hide hK
   rw [← hK] at hoc holen HOC0
   generalize hT:[td,ls.length,ls.length]++stL ls=T at *
   have HTE:=hide hT
   obtain ⟨M,hM⟩:∃ M,M=T.length:=⟨_,rfl⟩
   have HME:=hide hM
   rw [← hM] at HO hlen
   have hM3:3≤M:=by
    rw [hM,← hT,List.length_append];simp only [List.length_cons,List.length_nil];omega
   have hnv:=hown
   obtain ⟨gn,nc,hnv2,-,hgn⟩:=own_some HO.out (by omega)
   subst hnv2
   simp only [ixV]
   clear hown hnv hb hen hdn hq hT hM hov horow hK HFL HFE HRW HLO HXE
   go_wp2_with (at_builtin;refine wpList_append_own _ rfl _ _ 55 rfl w.heap.size 3 i0 (.int .i64 0) 1 8 tU48 hi hz0 hz1 hz2 rfl (by decide) _ M (I T) rfl (HO.out.alloc _) ⟨wr.heap.size,0,none⟩ 1 1 [.int .i64 (K:Int)] rfl rfl ?h11 ?h21 ?h31 ?h41 ?h51 ?_)
   case h11=>exact one_new _ _ _
   case h21=>intro u hu;simp at hu;subst hu;rfl
   case h31=>unfold maxLen;omega
   case h41=>omega
   case h51=>have:=HB.out.size;simp;omega
   intro nv3 w3 hown3 hgrow3 hnn3
   have HB3:Hid (Below w.heap.size w w3):=(HB.out.alloc HB.out.size _).grown hgrow3 (by have:=HB.out.size;simp;omega) (fun q hq=>(HO.out.lt q hq).1)
   have HO3:Hid (w3.ownsRow w.heap.size 3 1 nv3 (T++[K]).length (I (T++[K]))):=by
    unfold Hid
    have e:I (T++[K])=I T++[.int .i64 (K:Int)]:=by simp [I]
    rw [e,List.length_append,← HME.out];exact hown3
   clear hown3 hgrow3 hnn3 HO HB hoc
   have HLT:Hid ((T++[K]).length=M+1):=by unfold Hid;rw [List.length_append,← HME.out];rfl
   obtain ⟨y,HYE⟩:∃ y:Nat→Nat,Hid (y=fun i=>(os.getD i O0).id):=⟨_,rfl⟩
   rw [← HYE.out,← HKE.out] at HOO
   have HMO:Hid (∀ i,i<K→os.getD i O0 ∈ os):=fun i hi=>by
    have h':i<os.length:=by rw [← HKE.out];exact hi
    simp [List.getD_eq_getElem?_getD,h']
   have HYB:Hid (∀ i,i<K→y i≤2147483647):=fun i hi=>by rw [HYE.out];exact HGO.out.oid _ (HMO.out i hi)
   obtain ⟨H,HHE⟩:∃ H:Nat→List Nat,Hid (H=fun i=>ordN (os.getD i O0)):=⟨_,rfl⟩
   have HLL:Hid (∀ i,i<K→(os.getD i O0).lines.length≤30):=fun i hi=>Nat.le_trans (HGO.out.oLines (HMO.out i hi)) HP.out.room
   have HHL:Hid (∀ i,i<K→(H i).length≤63):=fun i hi=>by rw [HHE.out];show (ordN _).length≤63;rw [ordN_len];have:=HLL.out i hi;omega
   generalize hT1:T++[K]=T1 at *
   have HT1:=hide hT1
   clear hT1
   go_wp2_with fail
   refine (HOO.out _ HB3.out 0 (by omega)).mono ?_
   rintro e w4 ⟨rfl,hb4⟩
   obtain ⟨iz2,HIZ2⟩:∃ iz,Hid (iz=ixV (nxA y 0 K)):=⟨_,rfl⟩
   rw [← HIZ2.out]
   have HB4:Hid (Below w.heap.size w w4):=HB3.out.trans (hb4.mono HB3.out.size)
   have HN4:=hide (own_below HO3.out hb4)
   clear hb4 HB3 HO3
   go_wp2_with fail
   go_loopw [3,6,7] (fun nv iv _ wr=>∃ (done:List Nat) (cur:Nat),iv=.int .i64 (ixV (nxA y cur K))∧En y K done cur∧(∀ i ∈ done,i<K)∧wr.ownsRow w.heap.size 3 1 nv (T1++done.flatMap H).length (I (T1++done.flatMap H))∧Below w.heap.size w wr) (fun _ iv _ _=>meA y K iv)
   case atStart=>exact ⟨[],0,by rw [HIZ2.out],En.start y K,(fun i h=>by cases h),by rw [List.flatMap_nil,List.append_nil];exact HN4.out,HB4.out⟩
   case round =>
    clear HN4 HB4
    obtain ⟨done2,cur2,rfl,hen,hdn,hown,hb⟩:=hrel
    have hlen2:(T1++done2.flatMap H).length≤1200:=by
     have h1:=flatMap_len_le 63 done2 (fun i hi=>HHL.out i (hdn i hi))
     have h2:=hen.len
     have h3:=HLT.out
     rw [List.length_append]
     omega
    cases hq:nxA y cur2 K with
    | some i =>
     obtain ⟨hiN,hxi⟩:=nxA_lt hq
     have HEN:=hide (hen.step hq)
     have HDN:Hid (∀ j ∈ done2++[i],j<K):=fun j hj=>by
      rcases List.mem_append.1 hj with h | h
      ·exact hdn j h
      ·simp at h;omega
     obtain ⟨G,hG,hGl,g0,g1,g2⟩:=HORW.out i (by rw [← HKE.out];exact hiN)
     have HFI:Hid (H i=ordN (os.getD i O0)):=by rw [HHE.out];rfl
     have hye:y i=(os.getD i O0).id:=by rw [HYE.out]
     have HGC:Hid (w.cell? ⟨G,i * 3,none⟩=some (.int .i64 (y i:Int))):=by rw [hye];exact g0
     have HLR:=hide (HP.out.ord.lines i (by rw [← HKE.out];exact hiN))
     have hll30:=HLL.out i hiN
     have HLB:=hide (HLIN.out _ (HMO.out i hiN))
     generalize hfv:ro.lvs.getD i default=fv at *
     generalize hoo:os.getD i O0=o at *
     have q0:=(hb.cell (p:=⟨G,i * 3,none⟩) hGl).trans g0
     have q1:=(hb.cell (p:=⟨G,i * 3+1,none⟩) hGl).trans g1
     have q2:=(hb.cell (p:=⟨G,i * 3+2,none⟩) hGl).trans g2
     have hoc:w.cell? ⟨R,2,none⟩=some (.slice oa K ocap):=HOC0.out
     have r1:=(hb.cell (p:=⟨R,2,none⟩) hRl).trans hoc
     rw [hG] at r1
     have HGA:=hide hG
     obtain ⟨fa,fc,hfs⟩:=own_shapeS HLR.out
     generalize hT2:T1++done2.flatMap H=T2 at *
     obtain ⟨M2,hM2⟩:∃ M2,M2=T2.length:=⟨_,rfl⟩
     have HME2:=hide hM2
     rw [← hM2] at hown hlen2
     have hM23:3≤M2:=by
      rw [hM2,← hT2,List.length_append,HLT.out];omega
     obtain ⟨gn2,nc2,hnv2,-,hgn2⟩:=own_some hown (by omega)
     subst hnv2
     have HO:=hide hown
     have HB:=hide hb
     have HTE2:=hide hT2
     subst hfs
     simp only [ixV]
     clear hown hb hen hdn hq hT2 hM2 hG g0 g1 g2 hye hoc hfv
     go_wp2_with (at_builtin;refine wpList_append_own _ rfl _ _ 55 rfl w.heap.size 3 i0 (.int .i64 0) 1 8 tU48 hi hz0 hz1 hz2 rfl (by decide) _ M2 (I T2) rfl ((HO.out.alloc _).alloc _) ⟨wr.heap.size+1,0,none⟩ 2 2 [.int .i64 (o.id:Int),.int .i64 (o.goods:Int)] rfl rfl ?d11 ?d21 ?d31 ?d41 ?d51 ?_)
     case d11=>exact news_lit _ _ _ _ (by simp)
     case d21=>intro u hu;simp at hu;rcases hu with rfl | rfl <;> rfl
     case d31=>unfold maxLen;omega
     case d41=>omega
     case d51=>have:=HB.out.size;simp;omega
     intro nv3 w3 hown3 hgrow3 hnn3
     have HB3:Hid (Below w.heap.size w w3):=((HB.out.alloc HB.out.size _).alloc (by have:=HB.out.size;simp;omega) _).grown hgrow3 (by have:=HB.out.size;simp;omega) (fun q hq=>(HO.out.lt q hq).1)
     have HO3:Hid (w3.ownsRow w.heap.size 3 1 nv3 (M2+2) (I (T2++[o.id,o.goods]))):=by
      unfold Hid
      have e:I (T2++[o.id,o.goods])=I T2++[.int .i64 (o.id:Int),.int .i64 (o.goods:Int)]:=by simp [I]
      rw [e];exact hown3
     have hbox:w3.heap[wr.heap.size]?=some (.cells #[.int .i64 (o.id:Int),.int .i64 (o.goods:Int),.slice fa o.lines.length fc] 132 (0,0)):=by
      rw [hgrow3.block wr.heap.size (by simp;omega) (by simp [Value.ownBlock];omega),Below.heap_alloc _ _ _ (by simp)]
      exact heap_alloc_new wr _
     obtain ⟨g3,c3,hv3,-,hg3l⟩:=own_some hown3 (by omega)
     subst hv3
     have b2:w3.cell? ⟨wr.heap.size,2,none⟩=some (.slice fa o.lines.length fc):=by rw [blk_cell hbox];rfl
     have hpp:=parts_any (own_below HLR.out HB3.out) (by omega) HLB.out
     have HPP:=hide hpp
     obtain ⟨bx,HBX⟩:∃ bx,Hid (bx=wr.heap.size):=⟨_,rfl⟩
     rw [← HBX.out] at b2 ⊢
     generalize hkk:o.lines.length=kk at *
     have HKK:=hide hkk
     clear hown3 hgrow3 hnn3 HO HB q0 q1 q2 hbox hkk hpp HBX
     go_wp2_with fail
     refine (HPP.out).mono ?_
     rintro e w4 ⟨hb4,v4,rfl,hown4⟩
     have HB4:Hid (Below w.heap.size w w4):=HB3.out.trans (hb4.mono HB3.out.size)
     have HO4:=hide (own_below HO3.out hb4)
     have hps:(prtS o.lines).length=kk:=by rw [prtS_len,HKK.out]
     have HFT:=hide (flat_any (l:=prtS o.lines) (PRow.own (by rw [hps];exact hown4)) (by omega) (fun p hp=>HLB.out p (prtN_mem (Nat.le_refl _) hp)))
     rw [hps] at HFT
     have HPS:=hide hps
     clear hb4 hown4 HPP HB3 HO3 b2 hps
     go_wp2_with fail
     refine (HFT.out).mono ?_
     rintro e w5 ⟨hb5,g5,c5,rfl,hown5⟩
     have HB5:Hid (Below w.heap.size w w5):=HB4.out.trans (hb5.mono HB4.out.size)
     have HO5:=hide (own_below HO4.out hb5)
     have hl5:1+2 * kk=(flP (prtS o.lines)).length:=by rw [← flK_all,flK_len (Nat.le_refl _),HPS.out]
     have HNW:=hide (news_own hown5 hl5)
     have HLP:=hide hl5
     have hws5:=HB5.out.size
     clear hb5 hown5 HFT HB4 HO4 hl5
     go_wp2_with (at_builtin;refine wpList_append_own _ rfl _ _ 55 rfl w.heap.size 3 i0 (.int .i64 0) 1 8 tU48 hi hz0 hz1 hz2 rfl (by decide) _ (M2+2) (I (T2++[o.id,o.goods])) rfl HO5.out ⟨g5,0,none⟩ (1+2 * kk) c5 (I (flP (prtS o.lines))) rfl ?e01 ?e11 ?e21 ?e31 ?e41 ?e51 ?_)
     case e01=>rw [I_len,← HLP.out];omega
     case e11=>exact HNW.out
     case e21=>intro u hu;simp only [I,List.mem_map] at hu;obtain ⟨n,_,rfl⟩:=hu;rfl
     case e31=>unfold maxLen;omega
     case e41=>omega
     case e51=>exact hws5
     intro nv6 w6 hown6 hgrow6 hnn6
     have HB6:Hid (Below w.heap.size w w6):=HB5.out.grown hgrow6 hws5 (fun q hq=>(HO5.out.lt q hq).1)
     have HON:Hid (w6.ownsRow w.heap.size 3 1 nv6 (T1++(done2++[i]).flatMap H).length (I (T1++(done2++[i]).flatMap H))):=by
      unfold Hid
      have e0:T1++(done2++[i]).flatMap H=T2++[o.id,o.goods]++flP (prtS o.lines):=by
       rw [List.flatMap_append,← List.append_assoc,HTE2.out]
       have:List.flatMap H [i]=ordN o:=by rw [← HFI.out];simp
       rw [this,ordN,List.append_assoc]
      have e:I (T2++[o.id,o.goods]++flP (prtS o.lines))=I (T2++[o.id,o.goods])++I (flP (prtS o.lines)):=by simp [I]
      have e2:(T2++[o.id,o.goods]++flP (prtS o.lines)).length=M2+2+(1+2 * kk):=by
       simp only [List.length_append,List.length_cons,List.length_nil,← HLP.out,← HME2.out]
      rw [e0,e2,e];exact hown6
     have HCR:Hid (w6.cell? ⟨R,2,none⟩=some (.slice (some ⟨G,0,none⟩) K ocap)∧w6.cell? ⟨G,i * 3,none⟩=some (.int .i64 (y i:Int))):=by
      refine ⟨?_,?_⟩
      ·rw [← HGA.out];exact (HB6.out.cell (p:=⟨R,2,none⟩) hRl).trans HOC0.out
      ·exact (HB6.out.cell (p:=⟨G,i * 3,none⟩) hGl).trans HGC.out
     have hyib:=HYB.out i hiN
     obtain ⟨r1',r2'⟩:=HCR.out
     obtain ⟨g6,c6,hv6,-,-⟩:=own_some hown6 (by omega)
     subst hv6
     clear hown6 hgrow6 hnn6 HO5 HB5 HNW HLP r1 HCR
     go_wp2_with fail
     refine (HOO.out _ HB6.out (y i) hyib).mono ?_
     rintro e w9 ⟨rfl,hb9⟩
     have HB9:Hid (Below w.heap.size w w9):=HB6.out.trans (hb9.mono HB6.out.size)
     have HO9:=hide (own_below HON.out hb9)
     clear hb9 HON HB6
     have HMS:=hide (meA_step (x:=y) (N:=K) (i:=i))
     obtain ⟨ij,HIJ⟩:∃ ij,Hid (ij=ixV (nxA y (y i) K)):=⟨_,rfl⟩
     rw [← HIJ.out] at HMS ⊢
     go_wp2_with fail
     go_roundw
     case rel=>exact ⟨done2++[i],y i,by rw [HIJ.out];rfl,HEN.out,HDN.out,HO9.out,HB9.out⟩
     case measure=>exact HMS.out
    | none =>
     have HTS2:Hid (T1++done2.flatMap H=T1++stO os):=by
      unfold Hid stO
      rw [← HKE.out,← HYE.out,← HHE.out,hen.stop hq]
     have HB:=hide hb
     have HO:=hide hown
     rw [HTS2.out] at HO hlen2
     have hrc:wr.cell? ⟨R,3,none⟩=some ro.rv:=(hb.cell (p:=⟨R,3,none⟩) hRl).trans HP.out.c3
     have HRR:=hide HP.out.ord.fd.rrow
     have hr10:=HP.out.rc.len
     generalize hrv:ro.rv=rv at *
     obtain ⟨ra,rcap,hrs⟩:=own_shapeS HRR.out
     have HPP:=hide (parts_any (own_below HRR.out hb) (by omega) HRCS.out)
     generalize hT2:T1++stO os=T2 at *
     have HTE2:=hide hT2
     obtain ⟨M2,hM2⟩:∃ M2,M2=T2.length:=⟨_,rfl⟩
     have HME2:=hide hM2
     rw [← hM2] at HO hlen2
     have hM23:3≤M2:=by
      rw [hM2,← hT2,List.length_append,HLT.out];omega
     obtain ⟨gn2,nc2,hnv2,-,hgn2⟩:=own_some HO.out (by omega)
     subst hnv2
     subst hrs
     obtain ⟨kk,hkk⟩:∃ kk,kk=rcs.length:=⟨_,rfl⟩
     have HKK:=hide hkk
     rw [← hkk] at hr10 HPP hrc
     simp only [ixV]
     clear hown hb hen hdn hq hT2 hM2 hrv HRR hkk
     go_wp2_with fail
     refine (HPP.out).mono ?_
     rintro e w4 ⟨hb4,v4,rfl,hown4⟩
     have HB4:Hid (Below w.heap.size w w4):=HB.out.trans (hb4.mono HB.out.size)
     have HO4:=hide (own_below HO.out hb4)
     have hps:(prtS rcs).length=kk:=by rw [prtS_len,HKK.out]
     have HFT:=hide (flat_any (l:=prtS rcs) (PRow.own (by rw [hps];exact hown4)) (by omega) (fun p hp=>HRCS.out p (prtN_mem (Nat.le_refl _) hp)))
     rw [hps] at HFT
     have HPS:=hide hps
     clear hb4 hown4 HPP HB HO hps hrc
     go_wp2_with fail
     refine (HFT.out).mono ?_
     rintro e w5 ⟨hb5,g5,c5,rfl,hown5⟩
     have HB5:Hid (Below w.heap.size w w5):=HB4.out.trans (hb5.mono HB4.out.size)
     have HO5:=hide (own_below HO4.out hb5)
     have hl5:1+2 * kk=(flP (prtS rcs)).length:=by rw [← flK_all,flK_len (Nat.le_refl _),HPS.out]
     have HNW:=hide (news_own hown5 hl5)
     have HLP:=hide hl5
     have hws5:=HB5.out.size
     clear hb5 hown5 HFT HB4 HO4 hl5
     go_wp2_with (at_builtin;refine wpList_append_own _ rfl _ _ 55 rfl w.heap.size 3 i0 (.int .i64 0) 1 8 tU48 hi hz0 hz1 hz2 rfl (by decide) _ M2 (I T2) rfl HO5.out ⟨g5,0,none⟩ (1+2 * kk) c5 (I (flP (prtS rcs))) rfl ?k01 ?k11 ?k21 ?k31 ?k41 ?k51 ?_)
     case k01=>rw [I_len,← HLP.out];omega
     case k11=>exact HNW.out
     case k21=>intro u hu;simp only [I,List.mem_map] at hu;obtain ⟨n,_,rfl⟩:=hu;rfl
     case k31=>unfold maxLen;omega
     case k41=>omega
     case k51=>exact hws5
     intro nv6 w6 hown6 hgrow6 hnn6
     have HB6:Hid (Below w.heap.size w w6):=HB5.out.grown hgrow6 hws5 (fun q hq=>(HO5.out.lt q hq).1)
     have HSN:Hid (stN td os rcs ls=T2++flP (prtS rcs)):=by
      unfold Hid stN
      rw [← HTE2.out,← HT1.out,← HTE.out,← HKE.out]
     have e2:(T2++flP (prtS rcs)).length=M2+(1+2 * kk):=by
      simp only [List.length_append,← HLP.out,← HME2.out]
     have HSL:Hid ((stN td os rcs ls).length=M2+(1+2 * kk)):=by rw [HSN.out];exact e2
     have HON:Hid (w6.ownsRow w.heap.size 3 1 nv6 (M2+(1+2 * kk)) (I (stN td os rcs ls))):=by
      unfold Hid
      have e:I (T2++flP (prtS rcs))=I T2++I (flP (prtS rcs)):=by simp [I]
      rw [HSN.out,e];exact hown6
     obtain ⟨g6,c6,hv6,-,hg6⟩:=own_some hown6 (by omega)
     subst hv6
     have hcell:=fun j hj=>ownInts_cell (by have:=HON.out;rw [← HSL.out] at this;exact this) j hj
     have HTD:=hide (told_some g6 c6 (stN td os rcs ls) HST.out (by rw [HSL.out];omega) w6 hg6 hcell)
     rw [HSL.out] at HTD
     have htl:=Pl.toldB_len _ HST.out
     rw [HSL.out] at htl
     have HSB:Hid (stB td os rcs ls=13 :: Pl.toldB (stN td os rcs ls)):=rfl
     generalize hPB:Pl.toldB (stN td os rcs ls)=PB at *
     clear hown6 hgrow6 hnn6 HO5 HB5 HNW HLP e2 hcell HON
     go_wp2_with fail
     refine (HTD.out).mono ?_
     rintro e w7 ⟨rfl,hb7⟩
     have HB7:Hid (Below w.heap.size w w7):=HB6.out.trans (hb7.mono HB6.out.size)
     clear hb7 HTD HB6
     have hcv:=conv1 w7 13 (by omega) (by omega) (0,0)
     have HPBE:=hide hPB
     clear hPB
     go_wp2_with fail
     go_ret
     exact ⟨HB7.out.alloc HB7.out.size _,by rw [HSB.out];exact congrArg (fun b=>Ending.returned (.string b)) (ByteArray.mk_append_mk [13] PB)⟩
end Go.Proofs.YtgcedalggnmooaaGreatDoor
namespace Go.Proofs.YtgcedalggnmooaaGreatDoor
open Go.RowKit
def stF (td:Nat) (os:List O) (rcs:List (Nat × Nat)) (ls:List L):ByteArray:=frmA ⟨(stB td os rcs ls).toArray⟩
set_option maxHeartbeats 1600000 in
theorem compactR_any {rcs:List (Nat × Nat)} {Z:Nat→Prop} {w:World} {R td:Nat} {rec:ByteArray} {ls:List L} {os:List O} (h:RI os rcs Z w R td rec ls) (hgo:Good os ls) (hst:∀ n ∈ stN td os rcs ls,n<9223372036854775808) (hpar:∀ l ∈ ls,∀ p ∈ l.par,p.2<9223372036854775808) (hlin:∀ o ∈ os,∀ p ∈ o.lines,p.1<9223372036854775808∧p.2<9223372036854775808) (hrcs:∀ p ∈ rcs,p.1<9223372036854775808∧p.2<9223372036854775808) (hsz:(stB td os rcs ls).length≤2097143) :
  Calls Tryz.prog 40 #[.pointer (some ⟨R,0,none⟩)] w fun e w'=>e=.returned (.tuple #[])∧Kp Z w w'∧RI os rcs (Zn Z w) w' R td (stF td os rcs ls) ls:=by
 obtain ⟨v,fs,ro,hrv,hz1,hz2,hz3⟩:=h
 have HS:=hide (state_any hrv hgo hst hpar hlin hrcs)
 have HRV:=hide hrv
 have HF:=hide (fun w1=>frame_fx ⟨(stB td os rcs ls).toArray⟩ (by rw [ByteArray.size_mk'];simpa using hsz) w1)
 have HFE:Hid (stF td os rcs ls=frmA ⟨(stB td os rcs ls).toArray⟩):=rfl
 generalize (⟨(stB td os rcs ls).toArray⟩:ByteArray)=B at *
 clear hrv hgo hst hpar hlin hrcs
 go_enter Tryz.func40,Tryz.ntmps40
 go_wp2_with fail
 refine (HS.out).mono ?_
 rintro e w1 ⟨hb1,rfl⟩
 have HB1:=hide hb1
 clear hb1 HS
 go_wp2_with fail
 refine (HF.out _).mono ?_
 rintro e w2 ⟨hb2,f,rfl,hf,hfe⟩
 have HB2:Hid (Below w.heap.size w w2):=HB1.out.trans (hb2.mono HB1.out.size)
 have HRV2:=hide (HRV.out.below HB2.out)
 have HFF:=hide hfe
 have c4:=HRV2.out.c4
 have f4:=blk_free HRV2.out.store 4
 clear hb2 HB1 hfe HF
 go_wp2_with fail
 go_end0
 refine ⟨rfl,?_,v,fs,ro,?_,Or.inl hz1,fun g hg=>Or.inl (hz2 g hg),fun g hg=>Or.inl (hz3 g hg)⟩
 ·exact (kpB HB2.out).setCell (p:=⟨R,4,none⟩) (Or.inl hz1) _
 ·rw [HFE.out,← HFF.out];exact HRV2.out.recs _
end Go.Proofs.YtgcedalggnmooaaGreatDoor
