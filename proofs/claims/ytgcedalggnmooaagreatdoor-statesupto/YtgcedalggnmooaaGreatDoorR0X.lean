import Derived.Test.YtgcedalggnmooaaGreatDoorMp0X
import Derived.Test.YtgcedalggnmooaaGreatDoorExtX
set_option linter.unusedSimpArgs false
set_option linter.unusedVariables false
set_option maxRecDepth 100000
namespace Go.Proofs.YtgcedalggnmooaaGreatDoor
open Go.RowKit
def refCells (l:L) (f:Value):List Value :=
 [.int .i64 (l.id:Int),.int .i64 (l.goods:Int),.int .i64 (l.expiry:Int),.int .i64 (l.place:Int),.int .i64 (l.got:Int),.int .i64 (l.free:Int),.int .i64 (l.held:Int),.int .i64 (l.shipped:Int),.int .i64 (l.scrapped:Int),.int .i64 (l.given:Int),f]
def flat:List L→List Value→List Value
 | l :: ls,f :: fs=>refCells l f++flat ls fs
 | _,_=>[]
theorem flat_at:∀ (ls:List L) (fs:List Value),fs.length=ls.length→∀ (i j:Nat),i<ls.length→j<11→(flat ls fs)[i * 11+j]?=(refCells (ls.getD i L0) (fs.getD i default))[j]?
 | [],[],_,i,_,hi,_=>by simp at hi
 | [],_ :: _,h,_,_,_,_=>by simp at h
 | _ :: _,[],h,_,_,_,_=>by simp at h
 | l :: ls,f :: fs,h,0,j,_,hj=>by
  simp only [flat,Nat.zero_mul,Nat.zero_add,List.getD_cons_zero]
  rw [List.getElem?_append_left (by simpa [refCells] using hj)]
 | l :: ls,f :: fs,h,i+1,j,hi,hj=>by
  have ih:=flat_at ls fs (by simpa using h) i j (by simpa using hi) hj
  have e:(i+1) * 11+j=(refCells l f).length+(i * 11+j):=by simp [refCells];omega
  simp only [flat,List.getD_cons_succ]
  rw [e,List.getElem?_append_right (by omega),Nat.add_sub_cancel_left,ih]
theorem flat_snoc:∀ (ls:List L) (fs:List Value) (l:L) (f:Value),fs.length=ls.length→flat (ls++[l]) (fs++[f])=flat ls fs++refCells l f
 | [],[],l,f,_=>by simp [flat]
 | [],_ :: _,_,_,h=>by simp at h
 | _ :: _,[],_,_,h=>by simp at h
 | a :: ls,b :: fs,l,f,h=>by
  have:=flat_snoc ls fs l f (by simpa using h)
  simp only [List.cons_append,flat,this,List.append_assoc]
def IsSl (v:Value):Prop:=∃ a n c,v=.slice a n c
structure Ro where
 ov:Value
 lvs:List Value
 rv:Value
 fvs:List Value
 pss:List (List (Nat × Nat))
def O0:O:=⟨0,0,[]⟩
def oflat:List O→List Value→List Value
 | o :: os,f :: fs=>.int .i64 (o.id:Int) :: .int .i64 (o.goods:Int) :: f :: oflat os fs
 | _,_=>[]
def lflat:List (Nat × Nat)→List Value
 | p :: ps=>.int .i64 (p.1:Int) :: .int .i64 (p.2:Int) :: lflat ps
 | _=>[]
def PB (ro:Ro) (g:Nat):Prop:=∃ i,i<ro.fvs.length∧(ro.fvs.getD i default).ownBlock=some g
def FB (ro:Ro) (g:Nat):Prop:=ro.rv.ownBlock=some g∨PB ro g
def LB (ro:Ro) (g:Nat):Prop:=∃ i,i<ro.lvs.length∧(ro.lvs.getD i default).ownBlock=some g
structure Fd (rcs:List (Nat × Nat)) (ro:Ro) (w:World):Prop where
 rrow:w.ownsRow 0 181 2 ro.rv rcs.length (lflat rcs)
 flen:ro.fvs.length=ro.pss.length
 frm:∀ i,i<ro.fvs.length→Prs 181 w (ro.fvs.getD i default) (ro.pss.getD i [])
 apart:∀ g,ro.rv.ownBlock=some g→¬ LB ro g∧¬ PB ro g
structure Od (os:List O) (rcs:List (Nat × Nat)) (ro:Ro) (w:World):Prop where
 row:w.ownsRow 0 132 3 ro.ov os.length (oflat os ro.lvs)
 llen:ro.lvs.length=os.length
 lines:∀ i,i<os.length→w.ownsRow 0 181 2 (ro.lvs.getD i default) (os.getD i O0).lines.length (lflat (os.getD i O0).lines)
 fd:Fd rcs ro w
def OB (ro:Ro) (g:Nat):Prop:=ro.ov.ownBlock=some g∨LB ro g∨FB ro g
theorem Fd.congr {rcs:List (Nat × Nat)} {ro:Ro} {w w':World} (h:Fd rcs ro w) (hq:∀ g,FB ro g→w'.heap[g]?=w.heap[g]?):Fd rcs ro w' := {
 rrow:=own_congr h.rrow (fun g hg=>hq g (Or.inl hg))
 flen:=h.flen
 frm:=fun i hi=>(h.frm i hi).congr (fun g hg=>hq g (Or.inr ⟨i,hi,hg⟩))
 apart:=h.apart }
theorem Fd.ty {rcs:List (Nat × Nat)} {ro:Ro} {w:World} (h:Fd rcs ro w) {g:Nat} (hg:FB ro g):∃ cs,w.heap[g]?=some (.cells cs 181 (0,0)):=by
 rcases hg with hg | ⟨i,hi,hg⟩
 ·exact own_ty h.rrow hg
 ·exact (h.frm i hi).blk hg
theorem Od.congr {rcs:List (Nat × Nat)} {os:List O} {ro:Ro} {w w':World} (h:Od os rcs ro w) (hq:∀ g,OB ro g→w'.heap[g]?=w.heap[g]?):Od os rcs ro w' := {
 row:=own_congr h.row (fun g hg=>hq g (Or.inl hg))
 llen:=h.llen
 lines:=fun i hi=>own_congr (h.lines i hi) (fun g hg=>hq g (Or.inr (Or.inl ⟨i,by rw [h.llen];exact hi,hg⟩)))
 fd:=h.fd.congr (fun g hg=>hq g (Or.inr (Or.inr hg))) }
theorem Od.ty {rcs:List (Nat × Nat)} {os:List O} {ro:Ro} {w:World} (h:Od os rcs ro w) {g:Nat} (hg:OB ro g):∃ cs t,w.heap[g]?=some (.cells cs t (0,0))∧(t=132∨t=181):=by
 rcases hg with hg | ⟨i,hi,hg⟩ | hg
 ·obtain ⟨cs,hc⟩:=own_ty h.row hg;exact ⟨cs,_,hc,Or.inl rfl⟩
 ·obtain ⟨cs,hc⟩:=own_ty (h.lines i (by rw [← h.llen];exact hi)) hg;exact ⟨cs,_,hc,Or.inr rfl⟩
 ·obtain ⟨cs,hc⟩:=h.fd.ty hg;exact ⟨cs,_,hc,Or.inr rfl⟩
theorem Od.lt {rcs:List (Nat × Nat)} {os:List O} {ro:Ro} {w:World} (h:Od os rcs ro w) {g:Nat} (hg:OB ro g):g<w.heap.size:=by
 obtain ⟨cs,t,hc,_⟩:=h.ty hg;exact blk_lt hc
theorem Od.ne {rcs:List (Nat × Nat)} {os:List O} {ro:Ro} {w:World} (h:Od os rcs ro w) {g:Nat} (hg:OB ro g) {b:Nat} {cs:Array Value} {t:TypeId} (hb:w.heap[b]?=some (.cells cs t (0,0))) (h1:t≠132) (h2:t≠181):g≠b:=by
 obtain ⟨cs',t',hc,ht⟩:=h.ty hg
 refine (ty_ne hb hc (fun e=>?_)).symm
 rcases ht with rfl | rfl
 ·exact h1 e
 ·exact h2 e
def dpar:List (Nat × Nat)→List (Nat × Nat)
 | [a,b]=>if b.1<a.1 then [b,a] else [a,b]
 | l=>l
theorem dpar_len (l:List (Nat × Nat)):(dpar l).length=l.length:=by
 unfold dpar;split
 ·split <;> rfl
 ·rfl
theorem dpar_any (f:Nat × Nat→Bool) (l:List (Nat × Nat)):(dpar l).any f=l.any f:=by
 unfold dpar;split
 ·split
  ·simp only [List.any_cons,List.any_nil,Bool.or_false];exact Bool.or_comm _ _
  ·rfl
 ·rfl
theorem dpar_mem {l:List (Nat × Nat)} {p:Nat × Nat}:p ∈ dpar l↔p ∈ l:=by
 unfold dpar;split
 ·split
  ·simp [or_comm]
  ·rfl
 ·rfl
structure RV (os:List O) (rcs:List (Nat × Nat)) (ro:Ro) (w:World) (R:Nat) (v:Value) (td:Nat) (rec:ByteArray) (fs:List Value) (ls:List L):Prop where
 store:w.heap[R]?=some (.cells #[.int .i64 (td:Int),v,ro.ov,ro.rv,.string rec] 42 (0,0))
 row:w.ownsRow 0 129 11 v ls.length (flat ls fs)
 flen:fs.length=ls.length
 fro:ro.fvs=fs∧ro.pss=ls.map (fun l=>dpar l.par)
 ord:Od os rcs ro w
 today:td≤2147483647
 ok:∀ l ∈ ls,L.Ok l
 room:ls.length≤30
 fam:Fam ls
 rc:Rc rcs
theorem RV.fsl {os:List O} {rcs:List (Nat × Nat)} {ro:Ro} {w:World} {R:Nat} {v:Value} {td:Nat} {rec:ByteArray} {fs:List Value} {ls:List L} (h:RV os rcs ro w R v td rec fs ls):∀ f ∈ fs,IsSl f:=fun f hf=>by
 obtain ⟨i,hi,rfl⟩:=List.getElem_of_mem hf
 have hp:=h.ord.fd.frm i (by rw [h.fro.1];exact hi)
 rw [h.fro.1,List.getD_eq_getElem?_getD,List.getElem?_eq_getElem hi] at hp
 obtain ⟨a,c,e⟩:=hp.isSl
 exact ⟨a,_,c,e⟩
theorem RV.from {os:List O} {rcs:List (Nat × Nat)} {ro:Ro} {w:World} {R:Nat} {v:Value} {td:Nat} {rec:ByteArray} {fs:List Value} {ls:List L} (h:RV os rcs ro w R v td rec fs ls) {i:Nat} (hi:i<ls.length):Prs 181 w (fs.getD i default) (dpar (ls.getD i L0).par):=by
 have hp:=h.ord.fd.frm i (by rw [h.fro.1,h.flen];exact hi)
 rw [h.fro.1,h.fro.2] at hp
 have e:(ls.map (fun l=>dpar l.par)).getD i []=dpar (ls.getD i L0).par:=by simp [List.getD_eq_getElem?_getD,hi]
 rw [e] at hp;exact hp
theorem own_shape' {w:World} {base e size n:Nat} {v:Value} {xs:List Value} (h:w.ownsRow base e size v n xs):∃ a cap,v=.slice a n cap:=by
 rcases h.2 with ⟨hv,hx⟩ | ⟨g,cap,cur,hv,_⟩
 ·exact ⟨none,0,by rw [hv,hx]⟩
 ·exact ⟨_,cap,hv⟩
theorem own_some' {w:World} {base e size n:Nat} {v:Value} {xs:List Value} (h:w.ownsRow base e size v n xs) (hn:0<n):∃ g cap,v=.slice (some ⟨g,0,none⟩) n cap∧base≤g∧g<w.heap.size:=by
 rcases h.2 with ⟨hv,hx⟩ | ⟨g,cap,cur,hv,hg,hh,_⟩
 ·omega
 ·exact ⟨g,cap,hv,hg,(Array.getElem?_eq_some_iff.1 hh).1⟩
theorem RV.shape {rcs:List (Nat × Nat)} {w:World} {R:Nat} {v:Value} {td:Nat} {rec:ByteArray} {fs:List Value} {ls:List L} {os:List O} {ro:Ro} (h:RV os rcs ro w R v td rec fs ls):∃ a cap,v=.slice a ls.length cap∧(0<ls.length→∃ G,a=some ⟨G,0,none⟩∧G<w.heap.size ∧
  ∀ i,i<ls.length→∀ j,j<11→w.cell? ⟨G,i * 11+j,none⟩=(refCells (ls.getD i L0) (fs.getD i default))[j]?):=by
 obtain ⟨a,cap,hv⟩:=own_shape' h.row
 refine ⟨a,cap,hv,fun hp=>?_⟩
 obtain ⟨g,cap',hv',_,hlt⟩:=own_some' h.row hp
 rw [hv] at hv'
 cases hv'
 refine ⟨g,rfl,hlt,fun i hi j hj=>?_⟩
 have hr:=h.row
 rw [hv] at hr
 rw [hr.cellAt (i * 11+j) (by omega)]
 exact flat_at ls fs h.flen i j hi hj
theorem RV.c0 {rcs:List (Nat × Nat)} {w:World} {R:Nat} {v:Value} {td:Nat} {rec:ByteArray} {fs:List Value} {ls:List L} {os:List O} {ro:Ro} (h:RV os rcs ro w R v td rec fs ls):w.cell? ⟨R,0,none⟩=some (.int .i64 (td:Int)):=by rw [blk_cell h.store];rfl
theorem RV.c1 {rcs:List (Nat × Nat)} {w:World} {R:Nat} {v:Value} {td:Nat} {rec:ByteArray} {fs:List Value} {ls:List L} {os:List O} {ro:Ro} (h:RV os rcs ro w R v td rec fs ls):w.cell? ⟨R,1,none⟩=some v:=by rw [blk_cell h.store];rfl
theorem RV.c3 {rcs:List (Nat × Nat)} {w:World} {R:Nat} {v:Value} {td:Nat} {rec:ByteArray} {fs:List Value} {ls:List L} {os:List O} {ro:Ro} (h:RV os rcs ro w R v td rec fs ls):w.cell? ⟨R,3,none⟩=some ro.rv:=by rw [blk_cell h.store];rfl
theorem RV.c2 {rcs:List (Nat × Nat)} {w:World} {R:Nat} {v:Value} {td:Nat} {rec:ByteArray} {fs:List Value} {ls:List L} {os:List O} {ro:Ro} (h:RV os rcs ro w R v td rec fs ls):w.cell? ⟨R,2,none⟩=some ro.ov:=by rw [blk_cell h.store];rfl
theorem RV.c4 {rcs:List (Nat × Nat)} {w:World} {R:Nat} {v:Value} {td:Nat} {rec:ByteArray} {fs:List Value} {ls:List L} {os:List O} {ro:Ro} (h:RV os rcs ro w R v td rec fs ls):w.cell? ⟨R,4,none⟩=some (.string rec):=by rw [blk_cell h.store];rfl
theorem RV.below {rcs:List (Nat × Nat)} {w w':World} {R:Nat} {v:Value} {td:Nat} {rec:ByteArray} {fs:List Value} {ls:List L} {os:List O} {ro:Ro} (h:RV os rcs ro w R v td rec fs ls) (hb:Below w.heap.size w w'):RV os rcs ro w' R v td rec fs ls := {
 store:=by rw [hb.block R (blk_lt h.store)];exact h.store
 row:=own_below h.row hb
 flen:=h.flen
 fro:=h.fro
 ord:=h.ord.congr (fun g hg=>hb.block g (h.ord.lt hg))
 today:=h.today
 ok:=h.ok
 room:=h.room
 fam:=h.fam
 rc:=h.rc }
def atV (ls:List L) (n:Nat):Int:=if idx n ls<ls.length then (idx n ls:Int) else -1
set_option maxHeartbeats 800000 in
theorem at_any {rcs:List (Nat × Nat)} {w:World} {R:Nat} {v:Value} {td:Nat} {rec:ByteArray} {fs:List Value} {ls:List L} {os:List O} {ro:Ro} (h:RV os rcs ro w R v td rec fs ls) (n:Nat) (hn:n≤2147483647) :
  Calls Tryz.prog 111 #[.pointer (some ⟨R,0,none⟩),.int .i64 (n:Int)] w fun e w'=>e=.returned (.int .i64 (atV ls n))∧w'=w:=by
 obtain ⟨a,cap,hv,hrow⟩:=h.shape
 have c1:=h.c1
 rw [hv] at c1
 have hroom:=h.room
 have HP:=hide h
 clear h hv
 go_enter Tryz.func111,Tryz.ntmps111
 go_wp2_with fail
 go_loop [5] (fun i=>∃ k:Nat,k≤ls.length∧i=.int .i64 k∧(∀ j,j<k→(ls.getD j L0).id≠n)) (fun i=>ls.length - (intOf i).toNat)
 case atStart=>exact ⟨0,by omega,rfl,fun j h=>absurd h (by omega)⟩
 case round =>
  obtain ⟨k,hk,rfl,hne⟩:=hrel
  by_cases hlt:k<ls.length
  ·obtain ⟨G,hG,_,hcells⟩:=hrow (by omega)
   rw [hG] at c1
   have hcl:w.cell? ⟨G,k * 11,none⟩=some (.int .i64 ((ls.getD k L0).id:Int)):=hcells k hlt 0 (by omega)
   have hid:(ls.getD k L0).id≤2147483647:=(HP.out.ok _ (mem_getD hlt)).id
   obtain ⟨m,HM⟩:∃ m,Hid (m=(ls.getD k L0).id):=⟨_,rfl⟩
   rw [← HM.out] at hcl hid
   clear hcells hG hrow
   by_cases hm:m=n
   ·have hmb:=beqN_t hm
    have HH:Hid (atV ls n=(k:Int)):=by
     have:=idx_hit hlt hne (by rw [← HM.out];exact hm)
     unfold Hid atV;rw [this,if_pos hlt]
    clear hm
    go_wp2_with fail
    go_ret
    exact ⟨by rw [HH.out];rfl,rfl⟩
   ·have hmb:=beqN_f hm
    have HN:=hide hm
    clear hm
    go_wp2_with fail
    go_round
    case rel =>
     refine ⟨k+1,by omega,by go_num,?_⟩
     intro j hj
     by_cases hjk:j=k
     ·subst hjk;rw [← HM.out];exact HN.out
     ·exact hne j (by omega)
    case measure=>simp [intOf];omega
  ·obtain rfl:k=ls.length:=by omega
   have HH:Hid (atV ls n=-1):=by
    have:=idx_miss hne
    unfold Hid atV;rw [this,if_neg (by omega)]
   clear hrow hlt
   go_wp2_with fail
   go_ret
   exact ⟨by rw [HH.out];rfl,rfl⟩
set_option maxHeartbeats 800000 in
theorem roomR_any {rcs:List (Nat × Nat)} {w:World} {R:Nat} {v:Value} {td:Nat} {rec:ByteArray} {fs:List Value} {ls:List L} {os:List O} {ro:Ro} (h:RV os rcs ro w R v td rec fs ls) (n:Nat) (hn:n≤2147483647) :
  Calls Tryz.prog 109 #[.pointer (some ⟨R,0,none⟩),.int .i64 (n:Int)] w fun e w'=>e=.returned (.int .i64 (roomC ls n:Int))∧w'=w:=by
 have H1:=hide (at_any h n hn)
 obtain ⟨a,cap,hv,_⟩:=h.shape
 have c1:=h.c1
 rw [hv] at c1
 have hroom:=h.room
 clear h hv
 by_cases hi:idx n ls<ls.length
 ·have HR:Hid (roomC ls n=5):=by unfold Hid roomC;rw [if_pos hi]
  have HF:Hid (atV ls n=(idx n ls:Int)):=by unfold Hid atV;rw [if_pos hi]
  rw [HF.out] at H1
  generalize idx n ls=k at *
  clear HF
  go_enter Tryz.func109,Tryz.ntmps109
  go_wp2_with (go_at_call 111;refine (H1.out).mono ?_;rintro e w1 ⟨rfl,rfl⟩)
  go_ret
  exact ⟨by rw [HR.out];rfl,rfl⟩
 ·have HF:Hid (atV ls n=-1):=by unfold Hid atV;rw [if_neg hi]
  rw [HF.out] at H1
  by_cases h30:30≤ls.length
  ·have HR:Hid (roomC ls n=6):=by unfold Hid roomC;rw [if_neg hi,if_pos h30]
   clear hi HF
   go_enter Tryz.func109,Tryz.ntmps109
   go_wp2_with (go_at_call 111;refine (H1.out).mono ?_;rintro e w1 ⟨rfl,rfl⟩)
   go_ret
   exact ⟨by rw [HR.out];rfl,rfl⟩
  ·have HR:Hid (roomC ls n=0):=by unfold Hid roomC;rw [if_neg hi,if_neg h30]
   clear hi HF
   go_enter Tryz.func109,Tryz.ntmps109
   go_wp2_with (go_at_call 111;refine (H1.out).mono ?_;rintro e w1 ⟨rfl,rfl⟩)
   go_ret
   exact ⟨by rw [HR.out];rfl,rfl⟩
end Go.Proofs.YtgcedalggnmooaaGreatDoor
namespace Go.Proofs.YtgcedalggnmooaaGreatDoor
open Go.RowKit
theorem I_snoc (l:List Nat) (n:Nat):I (l++[n])=I l++[.int .i64 (n:Int)]:=by simp [I]
theorem I_len (l:List Nat):(I l).length=l.length:=by simp [I]
theorem ownInts_cell {w:World} {base g cap:Nat} {ns:List Nat} (h:w.ownsRow base 3 1 (.slice (some ⟨g,0,none⟩) ns.length cap) ns.length (I ns)) (k:Nat) (hk:k<ns.length):w.cell? ⟨g,k,none⟩=some (.int .i64 ((ns.getD k 0:Nat):Int)):=by
 rw [h.cellAt k (by omega)]
 simp [I,List.getD_eq_getElem?_getD,hk]
theorem contains_hit {ns:List Nat} {k n:Nat} (hk:k<ns.length) (h:ns.getD k 0=n):ns.contains n=true:=by
 rw [List.contains_iff_mem,← h];simp [List.getD_eq_getElem?_getD,hk]
theorem contains_miss {ns:List Nat} {n:Nat} (h:∀ j,j<ns.length→ns.getD j 0≠n):ns.contains n=false:=by
 rw [Bool.eq_false_iff];intro hc
 rw [List.contains_iff_mem] at hc
 obtain ⟨j,hj,e⟩:=List.getElem_of_mem hc
 exact h j hj (by rw [List.getD_eq_getElem?_getD,List.getElem?_eq_getElem hj];simpa using e)
set_option maxHeartbeats 800000 in
theorem holds_any {w:World} {base:Nat} {v:Value} {ns:List Nat} (h:w.ownsRow base 3 1 v ns.length (I ns)) (hlen:ns.length≤1000) (n:Nat) :
  Calls Tryz.prog 161 #[v,.int .i64 (n:Int)] w fun e w'=>e=.returned (.bool (ns.contains n))∧w'=w:=by
 obtain ⟨a,cap,hv⟩:=own_shape h
 have hG:0<ns.length→∃ G,a=some ⟨G,0,none⟩:=fun hp=>by
  obtain ⟨g,c,hv',_,_⟩:=own_some h hp
  rw [hv] at hv';cases hv';exact ⟨g,rfl⟩
 rw [hv] at h
 rw [hv]
 have HO:=hide h
 obtain ⟨bb,HBB⟩:∃ bb,Hid (bb=ns.contains n):=⟨_,rfl⟩
 rw [← HBB.out]
 clear h hv
 go_enter Tryz.func161,Tryz.ntmps161
 go_wp2_with fail
 go_loop [5] (fun i=>∃ k:Nat,k≤ns.length∧i=.int .i64 k∧(∀ j,j<k→ns.getD j 0≠n)) (fun i=>ns.length - (intOf i).toNat)
 case atStart=>exact ⟨0,by omega,rfl,fun j h=>absurd h (by omega)⟩
 case round =>
  obtain ⟨k,hk,rfl,hne⟩:=hrel
  by_cases hlt:k<ns.length
  ·obtain ⟨G,hGe⟩:=hG (by omega)
   subst hGe
   have hck:=ownInts_cell HO.out k hlt
   obtain ⟨m,HM⟩:∃ m,Hid (m=ns.getD k 0):=⟨_,rfl⟩
   rw [← HM.out] at hck
   by_cases hm:m=n
   ·have hmb:=beqN_t hm
    have HH:Hid (ns.contains n=true):=contains_hit hlt (by rw [← HM.out];exact hm)
    clear hm hG
    go_wp2_with fail
    go_ret
    exact ⟨by rw [HBB.out,HH.out];rfl,rfl⟩
   ·have hmb:=beqN_f hm
    have HN:=hide hm
    clear hm hG
    go_wp2_with fail
    go_round
    case rel =>
     refine ⟨k+1,by omega,by go_num,?_⟩
     intro j hj
     by_cases hjk:j=k
     ·subst hjk;rw [← HM.out];exact HN.out
     ·exact hne j (by omega)
    case measure=>simp [intOf];omega
  ·obtain rfl:k=ns.length:=by omega
   have HH:Hid (ns.contains n=false):=contains_miss hne
   clear hG hlt
   go_wp2_with fail
   go_ret
   exact ⟨by rw [HBB.out,HH.out];rfl,rfl⟩
theorem comP_ge (ls:List L) (out:List Nat):∀ i,i≤ls.length→out.length≤(comP (ls.take i) out).length
 | 0,_=>by simp [comP]
 | i+1,hi=>by
  have:=comP_ge ls out i (by omega)
  rw [comP_take (by omega)]
  unfold comStep
  split
  ·simp;omega
  ·omega
def hitJ (out:List Nat) (ps:List (Nat × Nat)) (j:Nat):Bool:=(ps.take j).any (fun p=>out.contains p.1)
theorem hitJ_zero (out:List Nat) (ps:List (Nat × Nat)):hitJ out ps 0=false:=by simp [hitJ]
theorem hitJ_succ {out:List Nat} {ps:List (Nat × Nat)} {j:Nat} (hj:j<ps.length):hitJ out ps (j+1)=(hitJ out ps j || out.contains (ps.getD j (0,0)).1):=by
 unfold hitJ
 rw [List.take_succ_eq_append_getElem hj,List.any_append]
 simp [List.getD_eq_getElem?_getD,hj]
theorem hitJ_end (out:List Nat) (ps:List (Nat × Nat)):hitJ out (dpar ps) (dpar ps).length=ps.any (fun p=>out.contains p.1):=by
 unfold hitJ;rw [List.take_length,dpar_any]
def outJ (out:List Nat) (l:L) (h:Bool):List Nat:=if !(out.contains l.id) && h then out++[l.id] else out
theorem outJ_end (out:List Nat) (l:L):outJ out l (hitJ out (dpar l.par) (dpar l.par).length)=comStep out l:=by
 unfold outJ comStep;rw [hitJ_end]
theorem ag_step {ls:List L} {o:List Nat} {k:Nat} (hk:k<ls.length) (out:List Nat) (ho:out=comP (ls.take k) o) (l:L) (hl:l=ls.getD k L0) :
  (decide (out.length≠o.length) || (!(out.contains l.id) && l.par.any (fun p=>out.contains p.1)))=decide ((comP (ls.take (k+1)) o).length≠o.length):=by
 have hge:=comP_ge ls o k (by omega)
 rw [← ho] at hge
 rw [comP_take hk,← ho,← hl]
 unfold comStep
 cases hb:(!(out.contains l.id) && l.par.any (fun p=>out.contains p.1)) with
 | false=>simp
 | true =>
  simp only [Bool.or_true,if_true,List.length_append,List.length_singleton]
  symm
  simp only [decide_eq_true_eq]
  omega
structure ComJ (base:Nat) (w:World) (out:List Nat) (l:L) (ag:Bool) (j:Nat) (ov av iv:Value) (w2:World):Prop where
 own:w2.ownsRow base 3 1 ov (outJ out l (hitJ out (dpar l.par) j)).length (I (outJ out l (hitJ out (dpar l.par) j)))
 ag:av=.bool (ag || (!(out.contains l.id) && hitJ out (dpar l.par) j))
 inn:iv=.bool (out.contains l.id || hitJ out (dpar l.par) j)
 below:Below base w w2
theorem outJ_len (out:List Nat) (l:L) (h:Bool):(outJ out l h).length≤out.length+1:=by
 unfold outJ;split
 ·simp
 ·omega
theorem ComJ.same {base:Nat} {w:World} {out:List Nat} {l:L} {ag:Bool} {j:Nat} {ov av iv:Value} {w2:World} (h:ComJ base w out l ag j ov av iv w2) (hj:j<(dpar l.par).length) (hin:(out.contains l.id || hitJ out (dpar l.par) j)=true):ComJ base w out l ag (j+1) ov av iv w2:=by
 obtain ⟨h1,h2,h3,h4⟩:=h
 have hs:=hitJ_succ (out:=out) hj
 have key:∀ (i b c:Bool),(i || b)=true→(!i && (b || c))=(!i && b)∧(i || (b || c))=(i || b):=by decide
 obtain ⟨k1,k2⟩:=key _ _ (out.contains ((dpar l.par).getD j (0,0)).1) hin
 refine ⟨?_,?_,?_,h4⟩
 ·have e:outJ out l (hitJ out (dpar l.par) (j+1))=outJ out l (hitJ out (dpar l.par) j):=by
   unfold outJ;rw [hs,k1]
  rw [e];exact h1
 ·rw [hs,k1];exact h2
 ·rw [hs,k2];exact h3
theorem ComJ.miss {base:Nat} {w:World} {out:List Nat} {l:L} {ag:Bool} {j:Nat} {ov av iv:Value} {w2:World} (h:ComJ base w out l ag j ov av iv w2) (hj:j<(dpar l.par).length) (hp:out.contains ((dpar l.par).getD j (0,0)).1=false):ComJ base w out l ag (j+1) ov av iv w2:=by
 obtain ⟨h1,h2,h3,h4⟩:=h
 refine ⟨?_,?_,?_,h4⟩ <;> rw [hitJ_succ hj,hp,Bool.or_false] <;> assumption
def lenOf:Value→Nat
 | .slice _ n _=>n
 | _=>0
def comMes (ov av:Value):Nat:=match av with
 | .bool true=>if lenOf ov=1 then 2 else 1
 | _=>0
theorem ComJ.hit {base:Nat} {w:World} {out:List Nat} {l:L} {ag:Bool} {j:Nat} {ov:Value} {w2:World} (hj:j<(dpar l.par).length) (hc:out.contains l.id=false) (hp:out.contains ((dpar l.par).getD j (0,0)).1=true) (ho:w2.ownsRow base 3 1 ov (out++[l.id]).length (I (out++[l.id]))) (hb:Below base w w2):ComJ base w out l ag (j+1) ov (.bool true) (.bool true) w2:=by
 have hs:=hitJ_succ (out:=out) hj
 rw [hp,Bool.or_true] at hs
 refine ⟨?_,?_,?_,hb⟩
 ·have e:outJ out l (hitJ out (dpar l.par) (j+1))=out++[l.id]:=by unfold outJ;rw [hs,hc];rfl
  rw [e];exact ho
 ·rw [hs,hc];simp
 ·rw [hs];simp
theorem ComJ.fin {base:Nat} {w:World} {out:List Nat} {l:L} {ag:Bool} {ov av iv:Value} {w2:World} (h:ComJ base w out l ag (dpar l.par).length ov av iv w2):w2.ownsRow base 3 1 ov (comStep out l).length (I (comStep out l))∧av=.bool (ag || (!(out.contains l.id) && l.par.any (fun p=>out.contains p.1)))∧Below base w w2:=by
 obtain ⟨h1,h2,h3,h4⟩:=h
 rw [outJ_end] at h1
 rw [hitJ_end] at h2
 exact ⟨h1,h2,h4⟩
set_option maxHeartbeats 3200000 in
theorem comes_any {rcs:List (Nat × Nat)} {w:World} {R:Nat} {v:Value} {td:Nat} {rec:ByteArray} {fs:List Value} {ls:List L} {os:List O} {ro:Ro} (h:RV os rcs ro w R v td rec fs ls) (n:Nat) (hn:n≤2147483647) :
  Calls Tryz.prog 118 #[.pointer (some ⟨R,0,none⟩),.int .i64 (n:Int)] w fun e w'=>Below w.heap.size w w'∧∃ v',e=.returned v'∧w'.ownsRow w.heap.size 3 1 v' (comL ls n).length (I (comL ls n)):=by
 obtain ⟨i0,hi,hz0,hz1,hz2⟩:=info_parts info3
 obtain ⟨a,cap,hv,hrow⟩:=h.shape
 have c1:=h.c1
 rw [hv] at c1
 have hroom:=h.room
 have hRlt:=blk_lt h.store
 have HP:=hide h
 have HF:=hide h.fam
 have HINI:Hid ((w.alloc (.cells #[.int .i64 (n:Int)] 3)).ownsRow w.heap.size 3 1 (.slice (some ⟨w.heap.size,0,none⟩) 1 1) [n].length (I [n])):=World.ownsRow_lit w #[.int .i64 (n:Int)] 1 (Nat.le_refl _) (by unfold maxLen;omega) rfl
 clear h hv
 go_enter Tryz.func118,Tryz.ntmps118
 go_wp2_with fail
 go_loopw [5,6,7,8,9,10] (fun ov ag _ _ _ _ wr=>∃ (o:List Nat) (b:Bool),ag=.bool b∧wr.ownsRow w.heap.size 3 1 ov o.length (I o)∧Below w.heap.size w wr∧((o=[n]∧b=true)∨(o=comL ls n∧(b=true→(comL ls n).length≠1)))) (fun ov ag _ _ _ _ _=>comMes ov ag)
 case atStart=>exact ⟨[n],true,rfl,HINI.out,al1 w _,Or.inl ⟨rfl,rfl⟩⟩
 case round =>
  obtain ⟨o,b,rfl,hown,hb,hor⟩:=hrel
  cases b with
  | false =>
   have HOR:Hid (o=comL ls n):=by
    rcases hor with ⟨_,h⟩ | ⟨h,_⟩
    ·cases h
    ·exact h
   have HO:=hide hown
   obtain ⟨oa,oc,hov⟩:=own_shape hown
   subst hov
   clear hown hor hrow
   go_wp2_with fail
   go_ret
   exact ⟨hb,_,rfl,by rw [← HOR.out];exact HO.out⟩
  | true =>
   have HOL:Hid (o.length≤31):=by
    rcases hor with ⟨h,_⟩ | ⟨h,_⟩
    ·unfold Hid;rw [h];simp
    ·unfold Hid;rw [h]
     have:=comP_len ls [n] ls.length (Nat.le_refl _)
     rw [List.take_length] at this
     unfold comL;simp at this;omega
   have HO:=hide hown
   have HOR:=hide hor
   have HBk:=hide hb
   obtain ⟨oa0,oc0,hov0⟩:=own_shape hown
   subst hov0
   clear hown hor hb
   go_wp2_with fail
   obtain ⟨wo,rfl⟩:∃ wo,wo=wr:=⟨wr,rfl⟩
   go_loopw [5,6,7,8,9,10] (fun ov ag ii _ _ _ w2=>∃ k:Nat,k≤ls.length∧ii=.int .i64 k∧ag=.bool (decide ((comP (ls.take k) o).length≠o.length))∧w2.ownsRow w.heap.size 3 1 ov (comP (ls.take k) o).length (I (comP (ls.take k) o))∧Below w.heap.size w w2) (fun _ _ ii _ _ _ _=>ls.length - (intOf ii).toNat)
   case atStart=>exact ⟨0,by omega,rfl,by simp [comP],by simpa [comP] using HO.out,HBk.out⟩
   case round =>
    obtain ⟨k,hk,rfl,rfl,hown,hb⟩:=hrel
    by_cases hlt:k<ls.length
    ·obtain ⟨G,hG,hGlt,hcells⟩:=hrow (by omega)
     subst hG
     have hPr:=HP.out.below hb
     have cR:wr.cell? ⟨R,1,none⟩=some (.slice (some ⟨G,0,none⟩) ls.length cap):=(hb.cell (by exact hRlt)).trans c1
     have hl0:wr.cell? ⟨G,k * 11,none⟩=some (.int .i64 ((ls.getD k L0).id:Int)):=(hb.cell (by exact hGlt)).trans (hcells k hlt 0 (by omega))
     have hl10:wr.cell? ⟨G,k * 11+10,none⟩=some (fs.getD k default):=(hb.cell (by exact hGlt)).trans (hcells k hlt 10 (by omega))
     have hfrm:=HP.out.from hlt
     have hok:=hPr.ok _ (mem_getD hlt)
     have hplen:(ls.getD k L0).par.length≤2:=hok.par.1
     have hout30:=comP_len ls o k (by omega)
     have HOL2:=HOL.out
     obtain ⟨out,HOut⟩:∃ out,Hid (out=comP (ls.take k) o):=⟨_,rfl⟩
     obtain ⟨l,HL⟩:∃ l,Hid (l=ls.getD k L0):=⟨_,rfl⟩
     have HAG:=hide (ag_step (o:=o) hlt out HOut.out l HL.out)
     have HST:Hid (comP (ls.take (k+1)) o=comStep out l):=by unfold Hid;rw [comP_take hlt,← HOut.out,← HL.out]
     rw [← HL.out] at hl0 hfrm hplen
     rw [← HOut.out] at hown hout30
     rw [← HOut.out]
     have HHo:=hide (holds_any hown (by omega) l.id)
     obtain ⟨ag,HAg⟩:∃ ag,Hid (ag=decide (out.length≠o.length)):=⟨_,rfl⟩
     rw [← HAg.out]
     have HOE:=hide (outJ_end out l)
     have HHE:=hide (hitJ_end out l.par)
     obtain ⟨oa,oc,hov⟩:=own_shape hown
     subst hov
     have HC0:Hid (ComJ w.heap.size w out l ag 0 (.slice oa out.length oc) (.bool ag) (.bool (out.contains l.id)) wr):=by
      refine ⟨?_,?_,?_,hb⟩
      ·rw [hitJ_zero];have e:outJ out l false=out:=by unfold outJ;simp
       rw [e];exact hown
      ·rw [hitJ_zero];simp
      ·rw [hitJ_zero];simp
     have HDL:=hide (dpar_len l.par)
     by_cases h0:l.par.length=0
     ·have hpn:l.par=[]:=List.length_eq_zero_iff.1 h0
      have hdn:dpar l.par=[]:=by rw [hpn];rfl
      have hfv:fs.getD k default=.slice none 0 0∨∃ q c,fs.getD k default=.slice (some ⟨q,0,none⟩) 0 c:=by
       rcases hfrm with ⟨h1,_⟩ | ⟨q,c,cs,h1,_⟩
       ·exact Or.inl h1
       ·exact Or.inr ⟨q,c,by rw [h1,hdn];rfl⟩
      have hfin:ComJ w.heap.size w out l ag (dpar l.par).length (.slice oa out.length oc) (.bool ag) (.bool (out.contains l.id)) wr:=by rw [hdn];exact HC0.out
      obtain ⟨f1,f2,f3⟩:=hfin.fin
      rw [HAg.out,HAG.out] at f2
      rw [← HAg.out] at f2
      have HF1:=hide f1
      have HF2:=hide f2
      have HF3:=hide f3
      obtain ⟨ib,HIB⟩:∃ ib,Hid (ib=out.contains l.id):=⟨_,rfl⟩
      rw [← HIB.out] at HHo
      generalize fs.getD k default=fv at *
      clear hcells hPr hfrm hok hb hown hrow HOR HO HOL hfin f1 f2 f3 HC0
      rcases hfv with rfl | ⟨q,c,rfl⟩
      ·go_wp2_with (go_at_call 161;refine (HHo.out).mono ?_;rintro e w1 ⟨rfl,rfl⟩)
       refine wp_loop_rounds 1 ?_;rw [rounds_succ]
       go_wp2_with fail
       go_roundw
       case rel=>exact ⟨k+1,by omega,by go_num,HF2.out,by rw [HST.out];exact HF1.out,HF3.out⟩
       case measure=>simp [intOf];omega
      ·go_wp2_with (go_at_call 161;refine (HHo.out).mono ?_;rintro e w1 ⟨rfl,rfl⟩)
       refine wp_loop_rounds 1 ?_;rw [rounds_succ]
       go_wp2_with fail
       go_roundw
       case rel=>exact ⟨k+1,by omega,by go_num,HF2.out,by rw [HST.out];exact HF1.out,HF3.out⟩
       case measure=>simp [intOf];omega
     ·obtain ⟨q,qc,hfv,hqlt,hqc⟩:=Prs.cells hfrm (by rw [dpar_len];omega)
      have w0:w.cell? ⟨G,k * 11,none⟩=some (.int .i64 (l.id:Int)):=by rw [HL.out];exact hcells k hlt 0 (by omega)
      have w10:w.cell? ⟨G,k * 11+10,none⟩=some (fs.getD k default):=hcells k hlt 10 (by omega)
      rw [hfv] at hl10 w10
      obtain ⟨m,HMl⟩:∃ m,Hid (m=(dpar l.par).length):=⟨_,rfl⟩
      rw [← HMl.out] at hl10 hqc w10
      have HW0:=hide w0
      have HW10:=hide w10
      clear w0 w10
      have hm2:m≤2:=by rw [HMl.out,dpar_len];exact hplen
      have HQC:=hide hqc
      have HB:=hide hb
      obtain ⟨ib,HIB⟩:∃ ib,Hid (ib=out.contains l.id):=⟨_,rfl⟩
      rw [← HIB.out] at HHo HC0
      have hGl2:G<wr.heap.size:=Nat.lt_of_lt_of_le hGlt hb.size
      have hRl2:R<wr.heap.size:=Nat.lt_of_lt_of_le hRlt hb.size
      have hws:w.heap.size≤wr.heap.size:=hb.size
      clear hcells hPr hfrm hok hqc hb hown hfv hrow HOR HO HOL
      go_wp2_with (go_at_call 161;refine (HHo.out).mono ?_;rintro e w1 ⟨rfl,rfl⟩)
      clear HHo
      obtain ⟨wl,rfl⟩:∃ wl,wl=w1:=⟨w1,rfl⟩
      go_loopw [5,6,8,9,10] (fun ov av iv jj _ w2=>∃ j:Nat,j≤m∧jj=.int .i64 j∧ComJ w.heap.size w out l ag j ov av iv w2) (fun _ _ _ jj _ _=>m - (intOf jj).toNat)
      case atStart=>exact ⟨0,by omega,rfl,HC0.out⟩
      case round =>
       obtain ⟨j,hj,rfl,hcj⟩:=hrel
       obtain ⟨ja,jc,hjv⟩:=own_shape hcj.own
       subst hjv
       have hav:=hcj.ag
       have hiv:=hcj.inn
       have hbj:=hcj.below
       have cR2:wr.cell? ⟨R,1,none⟩=some (.slice (some ⟨G,0,none⟩) ls.length cap):=(hbj.cell (by exact hRlt)).trans c1
       have g0:wr.cell? ⟨G,k * 11,none⟩=some (.int .i64 (l.id:Int)):=(hbj.cell (by exact hGlt)).trans HW0.out
       have g10:wr.cell? ⟨G,k * 11+10,none⟩=some (.slice (some ⟨q,0,none⟩) m qc):=(hbj.cell (by exact hGlt)).trans HW10.out
       by_cases hjm:j<m
       ·have hjd:j<(dpar l.par).length:=by rw [← HMl.out];exact hjm
        have hq:wr.cell? ⟨q,j * 2,none⟩=some (.int .i64 (((dpar l.par).getD j (0,0)).1:Int)):=(hbj.cell (by exact hqlt)).trans (HQC.out j hjm).1
        have holen:=outJ_len out l (hitJ out (dpar l.par) j)
        have HHj:=hide (holds_any hcj.own (by omega) ((dpar l.par).getD j (0,0)).1)
        have HSame:=hide (fun h=>hcj.same hjd h)
        have HMiss:=hide (fun h=>hcj.miss hjd h)
        cases hin:(out.contains l.id || hitJ out (dpar l.par) j) with
        | true =>
         have HC1:=hide (HSame.out hin)
         rw [hin] at hiv
         subst hiv
         subst hav
         have hagv:∃ a',Value.bool (ag || (!(out.contains l.id) && hitJ out (dpar l.par) j))=.bool a':=⟨_,rfl⟩
         obtain ⟨a',ha'⟩:=hagv
         rw [ha'] at HC1
         rw [ha']
         generalize outJ out l (hitJ out (dpar l.par) j)=oj at *
         generalize ((dpar l.par).getD j (0,0)).1=x at *
         generalize oj.contains x=ob at *
         clear HSame HMiss hcj hin ha'
         cases ob
         ·go_wp2_with (go_at_call 161;refine (HHj.out).mono ?_;rintro e w5 ⟨rfl,rfl⟩)
          go_roundw
          case rel=>exact ⟨j+1,by omega,by go_num,HC1.out⟩
          case measure=>simp [intOf];omega
         ·go_wp2_with (go_at_call 161;refine (HHj.out).mono ?_;rintro e w5 ⟨rfl,rfl⟩)
          go_roundw
          case rel=>exact ⟨j+1,by omega,by go_num,HC1.out⟩
          case measure=>simp [intOf];omega
        | false =>
         have hcf:out.contains l.id=false:=by cases hx:out.contains l.id with | false=>rfl | true=>rw [hx] at hin;cases hin
         have hhf:hitJ out (dpar l.par) j=false:=by cases hx:hitJ out (dpar l.par) j with | false=>rfl | true=>rw [hx,hcf] at hin;cases hin
         rw [hin] at hiv
         rw [hhf,Bool.and_false,Bool.or_false] at hav
         subst hiv
         subst hav
         have eo:outJ out l (hitJ out (dpar l.par) j)=out:=by unfold outJ;rw [hhf];simp
         have hownj:=hcj.own
         rw [eo] at hownj HHj
         cases hpc:out.contains ((dpar l.par).getD j (0,0)).1 with
         | false =>
          have HC1:=hide (HMiss.out hpc)
          rw [hpc] at HHj
          rw [eo] at HC1
          rw [eo]
          generalize ((dpar l.par).getD j (0,0)).1=x at *
          clear HSame HMiss hcj hin hcf hhf eo hownj hpc
          go_wp2_with (go_at_call 161;refine (HHj.out).mono ?_;rintro e w5 ⟨rfl,rfl⟩)
          go_roundw
          case rel=>exact ⟨j+1,by omega,by go_num,HC1.out⟩
          case measure=>simp [intOf];omega
         | true =>
          have HHit:Hid (∀ (ov:Value) (w2:World),w2.ownsRow w.heap.size 3 1 ov (out++[l.id]).length (I (out++[l.id]))→Below w.heap.size w w2→ComJ w.heap.size w out l ag (j+1) ov (.bool true) (.bool true) w2):=fun ov w2 h1 h2=>ComJ.hit hjd hcf hpc h1 h2
          rw [hpc] at HHj
          rw [eo]
          have hwsj:w.heap.size≤wr.heap.size:=hbj.size
          have HBJ:=hide hbj
          generalize ((dpar l.par).getD j (0,0)).1=x at *
          clear HSame HMiss hcj hin hcf hhf eo hpc hbj
          go_wp2_with (first
           | (go_at_call 161;refine (HHj.out).mono ?_;rintro e w5 ⟨rfl,rfl⟩)
           | (at_builtin;refine wpList_append_own _ rfl _ _ 55 rfl (w.heap.size) 3 i0 (.int .i64 0) 1 8 tU48 hi hz0 hz1 hz2 rfl (by decide) _ _ _ rfl (hownj.alloc _) ⟨w5.heap.size,0,none⟩ 1 1 [.int .i64 (l.id:Int)] rfl rfl ?c1 ?c2 ?c3 ?c4 ?c5 ?_))
          case c1=>exact one_new _ _ _
          case c2=>intro u hu;simp at hu;subst hu;rfl
          case c3=>unfold maxLen;omega
          case c4=>omega
          case c5=>simp;omega
          intro v' w6 hown6 hgrow hnn
          have hbb:Below w.heap.size w w6:=(HBJ.out.alloc HBJ.out.size _).grown hgrow (by simp;omega) (fun k hk=>(hownj.lt k hk).1)
          have ho6:w6.ownsRow w.heap.size 3 1 v' (out++[l.id]).length (I (out++[l.id])):=by rw [I_snoc,List.length_append];exact hown6
          have HC1:=hide (HHit.out _ _ ho6 hbb)
          clear hown6 hgrow hnn ho6 hbb HHit
          go_wp2_with fail
          go_roundw
          case rel=>exact ⟨j+1,by omega,by go_num,HC1.out⟩
          case measure=>simp [intOf];omega
       ·obtain rfl:j=m:=by omega
        rw [HMl.out] at hcj
        obtain ⟨f1,f2,f3⟩:=hcj.fin
        rw [HAg.out,HAG.out] at f2
        subst f2
        have HF1:Hid (wr.ownsRow w.heap.size 3 1 (.slice ja (outJ out l (hitJ out (dpar l.par) j)).length jc) (comStep out l).length (I (comStep out l))):=by have h5:=f1;rw [← HMl.out] at h5;exact h5
        clear hcj hav hiv hjm f1
        go_wp2_with fail
        go_roundw
        case rel=>exact ⟨k+1,by omega,by go_num,rfl,by rw [HST.out];exact HF1.out,f3⟩
        case measure=>simp [intOf];omega
    ·obtain rfl:k=ls.length:=by omega
     rw [List.take_length] at hown
     rw [List.take_length]
     have cR:wr.cell? ⟨R,1,none⟩=some (.slice a ls.length cap):=(hb.cell (by exact hRlt)).trans c1
     obtain ⟨oa,oc,hov⟩:=own_shape hown
     subst hov
     have HRel:Hid (∃ (o':List Nat) (b:Bool),Value.bool (decide ((comP ls o).length≠o.length))=.bool b∧wr.ownsRow w.heap.size 3 1 (.slice oa (comP ls o).length oc) o'.length (I o')∧Below w.heap.size w wr∧((o'=[n]∧b=true)∨(o'=comL ls n∧(b=true→(comL ls n).length≠1)))):=by
      refine ⟨_,_,rfl,hown,hb,Or.inr ?_⟩
      rcases HOR.out with ⟨h1,_⟩ | ⟨h1,h2⟩
      ·subst h1
       exact ⟨rfl,fun h=>by simpa [comL] using h⟩
      ·have hst:=comL_still HF.out n (Nat.le_refl ls.length)
       rw [List.take_length] at hst
       rw [h1,hst]
       exact ⟨rfl,fun h=>by simp at h⟩
     have HMes:Hid (comMes (.slice oa (comP ls o).length oc) (.bool (decide ((comP ls o).length≠o.length)))<comMes (.slice oa0 o.length oc0) (.bool true)):=by
      rcases HOR.out with ⟨h1,_⟩ | ⟨h1,h2⟩
      ·subst h1
       unfold Hid comMes lenOf
       by_cases hc:(comP ls [n]).length=1
       ·simp [hc]
       ·simp [hc]
      ·have hst:=comL_still HF.out n (Nat.le_refl ls.length)
       rw [List.take_length] at hst
       subst h1
       rw [hst]
       unfold Hid comMes lenOf
       simp;split <;> omega
     clear hown hrow HOR HO hlt
     go_wp2_with fail
     go_roundw
     case rel=>exact HRel.out
     case measure=>exact HMes.out
end Go.Proofs.YtgcedalggnmooaaGreatDoor
namespace Go.Proofs.YtgcedalggnmooaaGreatDoor
open Go.RowKit
theorem lflat_cell {w:World} {base g cap:Nat}:∀ {ps:List (Nat × Nat)},w.ownsRow base 181 2 (.slice (some ⟨g,0,none⟩) ps.length cap) ps.length (lflat ps)→∀ k,k<ps.length→w.cell? ⟨g,k * 2,none⟩=some (.int .i64 ((ps.getD k (0,0)).1:Int))∧w.cell? ⟨g,k * 2+1,none⟩=some (.int .i64 ((ps.getD k (0,0)).2:Int)):=by
 intro ps h k hk
 have hf:∀ (ps:List (Nat × Nat)) (k:Nat),k<ps.length→(lflat ps)[k * 2]?=some (.int .i64 ((ps.getD k (0,0)).1:Int))∧(lflat ps)[k * 2+1]?=some (.int .i64 ((ps.getD k (0,0)).2:Int)):=by
  intro ps
  induction ps with
  | nil=>intro k hk;simp at hk
  | cons p ps ih =>
   intro k hk
   cases k with
   | zero=>exact ⟨rfl,rfl⟩
   | succ k =>
    obtain ⟨h1,h2⟩:=ih k (by simpa using hk)
    have e:(k+1) * 2=k * 2+2:=by omega
    rw [e]
    simpa [lflat] using ⟨h1,h2⟩
 obtain ⟨h1,h2⟩:=hf ps k hk
 rw [h.cellAt (k * 2) (by omega),h.cellAt (k * 2+1) (by omega)]
 exact ⟨h1,h2⟩
theorem RV.rshape {rcs:List (Nat × Nat)} {w:World} {R:Nat} {v:Value} {td:Nat} {rec:ByteArray} {fs:List Value} {ls:List L} {os:List O} {ro:Ro} (h:RV os rcs ro w R v td rec fs ls):∃ a cap,ro.rv=.slice a rcs.length cap∧(0<rcs.length→∃ G,a=some ⟨G,0,none⟩∧G<w.heap.size∧∀ k,k<rcs.length→w.cell? ⟨G,k * 2,none⟩=some (.int .i64 ((rcs.getD k (0,0)).1:Int))∧w.cell? ⟨G,k * 2+1,none⟩=some (.int .i64 ((rcs.getD k (0,0)).2:Int))):=by
 obtain ⟨a,cap,hv⟩:=own_shape' h.ord.fd.rrow
 refine ⟨a,cap,hv,fun hp=>?_⟩
 obtain ⟨g,cap',hv',_,hlt⟩:=own_some' h.ord.fd.rrow hp
 rw [hv] at hv'
 cases hv'
 have hr:=h.ord.fd.rrow
 rw [hv] at hr
 exact ⟨g,rfl,hlt,fun k hk=>lflat_cell hr k hk⟩
set_option maxHeartbeats 1600000 in
theorem recalledR_any {rcs:List (Nat × Nat)} {w:World} {R:Nat} {v:Value} {td:Nat} {rec:ByteArray} {fs:List Value} {ls:List L} {os:List O} {ro:Ro} (h:RV os rcs ro w R v td rec fs ls) (n:Nat) :
  Calls Tryz.prog 119 #[.pointer (some ⟨R,0,none⟩),.int .i64 (n:Int)] w fun e w'=>e=.returned (.bool (recB rcs ls n))∧Below w.heap.size w w':=by
 have c3:=h.c3
 obtain ⟨a,cap,hv,hrow⟩:=h.rshape
 rw [hv] at c3
 have hrl:=h.rc.len
 have hRlt:=blk_lt h.store
 have HP:=hide h
 have HRC:=hide h.rc
 have HR:Hid (recB rcs ls n=rcs.any (fun p=>comB ls p.1 n)):=recB_any ls n rcs
 obtain ⟨rb,HRB⟩:∃ rb,Hid (rb=recB rcs ls n):=⟨_,rfl⟩
 rw [← HRB.out]
 clear h hv
 go_enter Tryz.func119,Tryz.ntmps119
 go_wp2_with fail
 go_loopw [5,6,7] (fun ii _ _ wr=>∃ k:Nat,k≤rcs.length∧ii=.int .i64 k∧(rcs.take k).any (fun p=>comB ls p.1 n)=false∧Below w.heap.size w wr) (fun ii _ _ _=>rcs.length - (intOf ii).toNat)
 case atStart=>exact ⟨0,by omega,rfl,by simp,Below.refl _ _⟩
 case round =>
  obtain ⟨k,hk,rfl,hno,hb⟩:=hrel
  have cR:wr.cell? ⟨R,3,none⟩=some (.slice a rcs.length cap):=(hb.cell (by exact hRlt)).trans c3
  by_cases hlt:k<rcs.length
  ·obtain ⟨G,hG,hGlt,hcells⟩:=hrow (by omega)
   subst hG
   have hck:wr.cell? ⟨G,k * 2,none⟩=some (.int .i64 ((rcs.getD k (0,0)).1:Int)):=(hb.cell (by exact hGlt)).trans (hcells k hlt).1
   have hpm:rcs.getD k (0,0) ∈ rcs:=by rw [List.getD_eq_getElem?_getD,List.getElem?_eq_getElem hlt];simp
   have hp1:=(HRC.out.fits _ hpm).1
   have HCo:=hide (comes_any (HP.out.below hb) (rcs.getD k (0,0)).1 hp1)
   have hcl:(comL ls (rcs.getD k (0,0)).1).length≤31:=by
    have h1:=comP_len ls [(rcs.getD k (0,0)).1] ls.length (Nat.le_refl _)
    rw [List.take_length] at h1
    have h2:=HP.out.room
    unfold comL;simp only [List.length_cons,List.length_nil] at h1;omega
   have HTk:Hid ((rcs.take (k+1)).any (fun p=>comB ls p.1 n)=(comB ls (rcs.getD k (0,0)).1 n)):=by
    unfold Hid
    rw [List.take_succ_eq_append_getElem hlt,List.any_append,hno]
    simp [List.getD_eq_getElem?_getD,hlt]
   have HHas:=hide (comL_has ls (rcs.getD k (0,0)).1 n)
   have HMem:=hide hpm
   generalize hx:rcs.getD k (0,0)=p at *
   clear hcells hrow hpm
   go_wp2_with fail
   refine (HCo.out).mono ?_
   rintro e w1 ⟨hb1,v',rfl,hown⟩
   have HHo:=hide (holds_any hown (by omega) n)
   rw [HHas.out] at HHo
   have HBB:Hid (Below w.heap.size w w1):=hb.trans (hb1.mono hb.size)
   obtain ⟨va,vc,hv'⟩:=own_shape hown
   subst hv'
   clear hown hb1 HCo
   cases hc:comB ls p.1 n with
   | true =>
    have HT:Hid (recB rcs ls n=true):=by
     unfold Hid;rw [HR.out,List.any_eq_true];exact ⟨p,HMem.out,hc⟩
    rw [hc] at HHo
    clear hc
    go_wp2_with (go_at_call 161;refine (HHo.out).mono ?_;rintro e w2 ⟨rfl,rfl⟩)
    go_ret
    exact ⟨by rw [HRB.out,HT.out];rfl,HBB.out⟩
   | false =>
    rw [hc] at HHo HTk
    clear hc
    go_wp2_with (go_at_call 161;refine (HHo.out).mono ?_;rintro e w2 ⟨rfl,rfl⟩)
    go_roundw
    case rel=>exact ⟨k+1,by omega,by go_num,HTk.out,HBB.out⟩
    case measure=>simp [intOf];omega
  ·obtain rfl:k=rcs.length:=by omega
   have HT:Hid (recB rcs ls n=false):=by
    unfold Hid;rw [HR.out];rw [List.take_length] at hno;exact hno
   clear hrow hlt hno
   go_wp2_with fail
   go_ret
   exact ⟨by rw [HRB.out,HT.out];rfl,hb⟩
end Go.Proofs.YtgcedalggnmooaaGreatDoor
