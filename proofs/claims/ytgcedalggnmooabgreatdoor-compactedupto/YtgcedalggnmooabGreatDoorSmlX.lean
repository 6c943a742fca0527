import Derived.Test.YtgcedalggnmooabGreatDoorRp1X
import Derived.Test.YtgcedalggnmooabGreatDoorCm0X
import Derived.Test.YtgcedalggnmooabGreatDoorEn0X
import Derived.Test.YtgcedalggnmooabGreatDoorNb1X
import Derived.Test.YtgcedalggnmooabGreatDoorRepX
import Derived.Deep.AppendLies
set_option linter.unusedSimpArgs false
set_option linter.unusedVariables false
set_option maxRecDepth 100000
namespace Go.Proofs.YtgcedalggnmooabGreatDoor
def SmL (l:L):Prop:=1≤l.id∧∀ p ∈ l.par,p.2≤2147483647
structure Sml (os:List O) (ls:List L):Prop where
 lot:∀ l ∈ ls,SmL l
 ord:∀ o ∈ os,1≤o.id∧o.goods≤2147483647
theorem sml_nil:Sml [] []:=⟨fun l h=>absurd h (by simp),fun o h=>absurd h (by simp)⟩
theorem all_setf {P:L→Prop} {ls:List L} (h:∀ l ∈ ls,P l) (f:L→L) (hf:∀ l,P l→P (f l)) (i:Nat):∀ l ∈ ls.set i (f (ls.getD i L0)),P l:=by
 intro l hl
 rcases Nat.lt_or_ge i ls.length with hi | hi
 ·rcases List.mem_or_eq_of_mem_set hl with hl | rfl
  ·exact h l hl
  ·exact hf _ (h _ (mem_getD hi))
 ·rw [List.set_eq_of_length_le hi] at hl;exact h l hl
theorem all_snoc {P:L→Prop} {ls:List L} (h:∀ l ∈ ls,P l) {x:L} (hx:P x):∀ l ∈ ls++[x],P l:=by
 intro l hl
 rcases List.mem_append.1 hl with hl | hl
 ·exact h l hl
 ·simp at hl;subst hl;exact hx
theorem all_holdS {P:L→Prop} (hf:∀ l n,P l→P (holdL l n)):∀ (q:List (Nat × Nat)) (ls:List L),(∀ l ∈ ls,P l)→∀ l ∈ holdS ls q,P l
 | [],ls,h=>h
 | p :: q,ls,h=>all_holdS hf q _ (all_setf h (fun l=>holdL l p.2) (fun l hl=>hf l p.2 hl) p.1)
theorem sml_stepS {rcs:List (Nat × Nat)} {os:List O} {td:Nat} {ls:List L} (h:Sml os ls) {c:Pl.Cmd} (hm:∀ n ns,c=.ok (n,ns)→Pl.mays (Pl.kindsL n) ns=true):Sml os (stepS rcs td ls c).2.2:=by
 unfold stepS
 split
 ·exact h
 ·split <;> exact h
 ·rename_i a b c d
  have:=hm _ _ rfl
  simp [Pl.mays,Pl.kindsL,Pl.mayB] at this
  show Sml os (if roomC ls a=0 then ls++[newL ls a b c d] else ls)
  split
  ·exact ⟨all_snoc h.lot ⟨by show 1≤a;omega,fun p hp=>by simp [newL] at hp⟩,h.ord⟩
  ·exact h
 ·split <;> exact h
 ·exact h
 ·exact h
theorem sml_stepT {rcs:List (Nat × Nat)} {os:List O} {td:Nat} {ls:List L} (h:Sml os ls) (hok:∀ l ∈ ls,L.Ok l) {c:Pl.Cmd} (hm:∀ n ns,c=.ok (n,ns)→Pl.mays (Pl.kindsL n) ns=true):Sml os (stepT rcs td ls c).2.2:=by
 unfold stepT
 split
 ·rename_i a b c
  have:=hm _ _ rfl
  simp [Pl.mays,Pl.kindsL,Pl.mayB] at this
  show Sml os (splitS ls a b c)
  unfold splitS
  split
  ·refine ⟨all_snoc (all_setf h.lot (fun l=>gaveL l c) (fun l hl=>hl) _) ⟨by show 1≤b;omega,fun p hp=>?_⟩,h.ord⟩
   simp only [mkL,List.mem_singleton] at hp
   subst hp
   show c≤2147483647
   omega
  ·exact h
 ·rename_i a b c
  have:=hm _ _ rfl
  simp [Pl.mays,Pl.kindsL,Pl.mayB] at this
  show Sml os (mergeS ls a b c)
  unfold mergeS
  split
  ·rename_i hc
   have hi:idx a ls<ls.length∧idx b ls<ls.length:=by
    unfold mergeC at hc
    by_cases hi:idx a ls<ls.length∧idx b ls<ls.length
    ·exact hi
    ·rw [if_neg hi] at hc;omega
   have hne:idx b ls≠idx a ls:=by
    unfold mergeC at hc
    rw [if_pos hi] at hc
    intro e
    rw [if_pos (Or.inl e.symm)] at hc;omega
   have h1:=all_setf h.lot (fun l=>gaveL l (lotAt ls a).free) (fun l hl=>hl) (idx a ls)
   have h2:=all_setf h1 (fun l=>gaveL l (lotAt ls b).free) (fun l hl=>hl) (idx b ls)
   rw [gset_ne hne] at h2
   refine ⟨all_snoc h2 ⟨by show 1≤c;omega,fun p hp=>?_⟩,h.ord⟩
   have oa:=(hok _ (mem_getD hi.1)).sum
   have ob:=(hok _ (mem_getD hi.2)).sum
   simp only [mkL,List.mem_cons,List.not_mem_nil,or_false] at hp
   rcases hp with rfl | rfl
   ·show (ls.getD (idx a ls) L0).free≤2147483647;omega
   ·show (ls.getD (idx b ls) L0).free≤2147483647;omega
  ·exact h
 ·rename_i a b
  show Sml os (scrapS ls a b)
  unfold scrapS
  split
  ·exact ⟨all_setf h.lot (fun l=>scrapL l b) (fun l hl=>hl) _,h.ord⟩
  ·exact h
 ·exact sml_stepS h hm
theorem sml_fin {os:List O} {ls:List L} (h:Sml os ls) (g:L→Nat→L) (hg:∀ l n,(g l n).id=l.id∧(g l n).par=l.par) (a:Nat):Sml (os.filter (fun o=>o.id != a)) (ls.map (finL g os a)):=by
 refine ⟨fun l hl=>?_,fun o ho=>h.ord o (List.mem_filter.1 ho).1⟩
 obtain ⟨l',hl',rfl⟩:=List.mem_map.1 hl
 have:=h.lot l' hl'
 unfold finL
 split
 ·rename_i n _
  obtain ⟨q1,q2⟩:=hg { l' with held:=l'.held - n } n
  refine ⟨by rw [q1];exact this.1,?_⟩
  rw [q2];exact this.2
 ·exact this
theorem sml_stepO {rcs:List (Nat × Nat)} {os:List O} {td:Nat} {ls:List L} (h:Sml os ls) (hok:∀ l ∈ ls,L.Ok l) {c:Pl.Cmd} (hm:∀ n ns,c=.ok (n,ns)→Pl.mays (Pl.kindsL n) ns=true):Sml (stepO rcs td os ls c).2.2.1 (stepO rcs td os ls c).2.2.2:=by
 unfold stepO
 split
 ·rename_i a b c d f
  have:=hm _ _ rfl
  simp [Pl.mays,Pl.kindsL,Pl.mayB] at this
  show Sml (askO rcs os td ls a b c d f) (askL rcs os td ls a b c d f)
  unfold askO askL
  split
  ·refine ⟨all_holdS (fun l n hl=>hl) _ _ h.lot,fun o ho=>?_⟩
   rcases List.mem_append.1 ho with ho | ho
   ·exact h.ord o ho
   ·simp only [List.mem_singleton] at ho;subst ho
    exact ⟨by show 1≤a;omega,by show b≤2147483647;omega⟩
  ·exact h
 ·exact sml_fin h freeL (fun l n=>⟨rfl,rfl⟩) _
 ·exact sml_fin h shipL (fun l n=>⟨rfl,rfl⟩) _
 ·exact sml_stepT h hok hm
theorem cmd_mays (l:List UInt8):∀ n ns,Pl.cmd l=.ok (n,ns)→Pl.mays (Pl.kindsL n) ns=true:=by
 intro n ns h
 rw [cmd_form] at h
 split at h
 ·cases h
 ·split at h
  ·rename_i hm
   cases h;exact hm
  ·cases h
theorem sml_stepR {rcs:List (Nat × Nat)} {os:List O} {td:Nat} {ls:List L} (h:Sml os ls) (hok:∀ l ∈ ls,L.Ok l) (l:List UInt8):Sml (stepR rcs td os ls (Pl.cmd l)).2.2.1 (stepR rcs td os ls (Pl.cmd l)).2.2.2.2:=by
 have hm:=cmd_mays l
 generalize Pl.cmd l=c at hm
 unfold stepR
 split
 ·exact h
 ·exact h
 ·exact sml_stepO h hok hm
end Go.Proofs.YtgcedalggnmooabGreatDoor
namespace Go.Proofs.YtgcedalggnmooabGreatDoor
structure Tiny (td:Nat) (os:List O) (rcs:List (Nat × Nat)) (ls:List L):Prop where
 td:td≤2147483647
 ok:∀ l ∈ ls,L.Ok l
 room:ls.length≤30
 good:Good os ls
 sml:Sml os ls
 rc:Rc rcs
theorem Tiny.nlines {td:Nat} {os:List O} {rcs:List (Nat × Nat)} {ls:List L} (h:Tiny td os rcs ls) {o:O} (ho:o ∈ os):o.lines.length≤30:=by
 have:=len_of_sub (l:=o.lines.map Prod.fst) (m:=ls.map L.id) (h.good.keys o ho) (fun x hx=>by
  obtain ⟨p,hp,rfl⟩:=List.mem_map.1 hx
  obtain ⟨i,hi,e⟩:=h.good.mem o ho p hp
  rw [← e];exact List.mem_map_of_mem (mem_getD hi))
 rw [List.length_map,List.length_map] at this
 have:=h.room
 omega
theorem Tiny.line {td:Nat} {os:List O} {rcs:List (Nat × Nat)} {ls:List L} (h:Tiny td os rcs ls) {o:O} (ho:o ∈ os) {p:Nat × Nat} (hp:p ∈ o.lines):p.1≤2147483647∧p.2≤2147483647:=by
 obtain ⟨i,hi,e⟩:=h.good.mem o ho p hp
 have hok:=h.ok _ (mem_getD hi)
 refine ⟨by rw [← e];exact hok.id,?_⟩
 have hl:lineOf os o.id (ls.getD i L0).id=some p.2:=by rw [lineOf_self h.good.oids ho,e];exact lookup_of_mem (h.good.keys o ho) hp
 have h1:=line_le hl
 rw [← h.good.held i hi] at h1
 have:=hok.sum
 omega
theorem mem_flP {l:List (Nat × Nat)} {n:Nat} (h:n ∈ flP l):n=l.length∨∃ p ∈ l,n=p.1∨n=p.2:=by
 unfold flP at h
 rcases List.mem_cons.1 h with h | h
 ·exact Or.inl h
 ·obtain ⟨p,hp,hn⟩:=List.mem_flatMap.1 h
  simp at hn
  exact Or.inr ⟨p,hp,hn⟩
theorem Tiny.small {td:Nat} {os:List O} {rcs:List (Nat × Nat)} {ls:List L} (h:Tiny td os rcs ls):∀ n ∈ stN td os rcs ls,n≤2147483647:=by
 intro n hn
 have hroom:=h.room
 have htd:=h.td
 have holen:=h.good.olen
 simp only [stN,List.mem_append] at hn
 rcases hn with (((hn | hn) | hn) | hn) | hn
 ·simp at hn;omega
 ·obtain ⟨i,hi,hn⟩:=List.mem_flatMap.1 hn
  rw [← byN_enum h.good.ids (fun l hl=>(h.sml.lot l hl).1)] at hi
  have hi':=byN_mem.1 hi
  have hok:=h.ok _ (mem_getD hi')
  have hsm:=h.sml.lot _ (mem_getD hi')
  have h1:=hok.id
  have h2:=hok.goods
  have h3:=hok.expiry
  have h4:=hok.place
  have h5:=hok.sum
  have h6:=hok.got
  have h7:=hok.par
  unfold lotN at hn
  rcases List.mem_append.1 hn with hn | hn
  ·rcases List.mem_append.1 hn with hn | hn
   ·simp only [List.mem_cons,List.not_mem_nil,or_false] at hn;omega
   ·rcases mem_flP hn with e | ⟨p,hp,e⟩
    ·rw [dpar_len] at e;omega
    ·rw [dpar_mem] at hp
     have:=h7.2 p hp
     have:=hsm.2 p hp
     omega
  ·split at hn
   ·simp only [List.mem_cons,List.not_mem_nil,or_false] at hn;omega
   ·simp at hn
 ·simp at hn;omega
 ·obtain ⟨i,hi,hn⟩:=List.mem_flatMap.1 hn
  obtain ⟨_,q2⟩:=enum_facts (x:=fun i=>(os.getD i O0).id) (oid_inj h.good.oids) (os.length+1) 0 (by have:=cntA_le (fun i=>(os.getD i O0).id) 0 os.length;omega)
  have hi':=((q2 i).1 hi).1
  have ho:=getO hi'
  have h1:=h.good.oid _ ho
  have h2:=h.sml.ord _ ho
  have h3:=h.nlines ho
  unfold ordN at hn
  rcases List.mem_append.1 hn with hn | hn
  ·simp only [List.mem_cons,List.not_mem_nil,or_false] at hn;omega
  ·obtain ⟨_,r2⟩:=prtS_facts (nodup_keys (h.good.keys _ ho))
   rcases mem_flP hn with e | ⟨p,hp,e⟩
   ·rw [prtS_len] at e;omega
   ·rw [r2] at hp
    have:=h.line ho hp
    omega
 ·obtain ⟨_,r2⟩:=prtS_facts h.rc.nodup
  rcases mem_flP hn with e | ⟨p,hp,e⟩
  ·rw [prtS_len] at e;have:=h.rc.len;omega
  ·rw [r2] at hp
   have:=h.rc.fits p hp
   omega
theorem Tiny.len {td:Nat} {os:List O} {rcs:List (Nat × Nat)} {ls:List L} (h:Tiny td os rcs ls):(stN td os rcs ls).length≤1100:=by
 have hroom:=h.room
 have holen:=h.good.olen
 have h1:(stL ls).length≤ls.length * 14:=by
  unfold stL
  rw [← byN_enum h.good.ids (fun l hl=>(h.sml.lot l hl).1)]
  have:=flatMap_len_le (f:=fun i=>lotN (ls.getD i L0)) 14 (byN ls) (fun i hi=>lotN_len (h.ok _ (mem_getD (byN_mem.1 hi))))
  rw [byN_len] at this;exact this
 have h2:(stO os).length≤os.length * 63:=by
  unfold stO
  obtain ⟨q1,q2⟩:=enum_facts (x:=fun i=>(os.getD i O0).id) (oid_inj h.good.oids) (os.length+1) 0 (by have:=cntA_le (fun i=>(os.getD i O0).id) 0 os.length;omega)
  have h3:=flatMap_len_le (f:=fun i=>ordN (os.getD i O0)) 63 (enumI (fun i=>(os.getD i O0).id) os.length (os.length+1) 0) (fun i hi=>by
   have:=h.nlines (getO ((q2 i).1 hi).1)
   show (ordN (os.getD i O0)).length≤63
   rw [ordN_len];omega)
  have h4:=len_of_sub (l:=enumI (fun i=>(os.getD i O0).id) os.length (os.length+1) 0) (m:=List.range os.length) (q1.imp (fun hab e=>by rw [e] at hab;exact Nat.lt_irrefl _ hab)) (fun i hi=>by simp;exact ((q2 i).1 hi).1)
  rw [List.length_range] at h4
  exact Nat.le_trans h3 (Nat.mul_le_mul_right _ h4)
 have h3:(flP (prtS rcs)).length≤21:=by
  rw [← flK_all,flK_len (Nat.le_refl _),prtS_len];have:=h.rc.len;omega
 simp only [stN,List.length_append,List.length_cons,List.length_nil]
 omega
theorem Tiny.bytes {td:Nat} {os:List O} {rcs:List (Nat × Nat)} {ls:List L} (h:Tiny td os rcs ls):(stB td os rcs ls).length≤10000:=by
 have h1:=Pl.toldB_len (stN td os rcs ls) (fun n hn=>by have:=h.small n hn;omega)
 have h2:=h.len
 unfold stB
 rw [List.length_cons];omega
theorem Tiny.same {td:Nat} {os:List O} {rcs:List (Nat × Nat)} {ls:List L} (h:Tiny td os rcs ls):pN td os rcs ls=stN td os rcs ls :=
 pN_eq h.good (fun l hl=>(h.sml.lot l hl).1) (fun o ho=>(h.sml.ord o ho).1) (fun l hl=>(h.ok l hl).par.1) h.rc.nodup
end Go.Proofs.YtgcedalggnmooabGreatDoor
namespace Go.Proofs.YtgcedalggnmooabGreatDoor
open Go.RowKit
def Nr (B:Nat) (w:World) (g c:Nat) (T:List Nat):Prop:=w.ownsRow B 2 1 (.slice (some ⟨g,0,none⟩) T.length c) T.length (I T)
theorem Nr.below {B:Nat} {w w':World} {g c:Nat} {T:List Nat} (h:Nr B w g c T) (hb:Below w.heap.size w w'):Nr B w' g c T:=own_below h hb
theorem Nr.lt {B:Nat} {w:World} {g c:Nat} {T:List Nat} (h:Nr B w g c T):B≤g∧g<w.heap.size:=World.ownsRow.lt h g rfl
theorem app_keep {wr wa w':World} {G g g':Nat} (hb:Below wr.heap.size wr wa) (hg:wa.grownBy w' (some g)) (hG:G<wr.heap.size) (hne:G≠g) (hat:some g=some g'∨g'=wa.heap.size):w'.heap[G]?=wr.heap[G]?∧G≠g':=by
 refine ⟨(hg.block G (Nat.lt_of_lt_of_le hG hb.size) (fun e=>hne (Option.some.inj e))).trans (hb.block G hG),?_⟩
 rcases hat with h | h
 ·rw [← Option.some.inj h];exact hne
 ·have:=hb.size;omega
set_option maxHeartbeats 6400000 in
theorem nums_any {rcs:List (Nat × Nat)} {w:World} {S:Nat} {M:Mx} {v:Value} {td:Nat} {bs:List Nat} {pvs:List Value} {ls:List L} {os:List O} (h:PV os rcs w S M v td bs pvs ls) (hgo:Good os ls) (hsm:Sml os ls) :
  Calls Tryz.prog 42 #[.pointer (some ⟨S,0,none⟩)] w fun e w'=>Below w.heap.size w w'∧∃ g c,e=.returned (.slice (some ⟨g,0,none⟩) (pN td os rcs ls).length c)∧Nr w.heap.size w' g c (pN td os rcs ls):=by
 obtain ⟨i0,hi,hz0,hz1,hz2⟩:=info_parts info2
 obtain ⟨a,cap,hv,-⟩:=h.shape
 have c0:=h.c0
 have c1:=h.c1
 rw [hv] at c1
 have hS:=blk_lt h.store
 have hroom:=h.room
 have HPV:=hide h
 have HT:=hide (Tiny.mk h.today h.ok h.room hgo hsm h.maps.rc)
 have HGO:=hide hgo
 have HSM:=hide hsm
 obtain ⟨N,hN⟩:∃ N,N=ls.length:=⟨_,rfl⟩
 have HNE:=hide hN
 rw [← hN] at c1 hroom
 have HBN:=hide (fun (w1:World) (hb:Below w.heap.size w w1)=>byNumber_any (h.below hb) hgo.ids)
 rw [← hN] at HBN
 clear h hgo hsm hv hN
 go_enter Tryz.func42,Tryz.ntmps42
 go_wp2_with fail
 have HB1:Hid (Below w.heap.size w (w.alloc (.cells #[.int .i64 (td:Int),.int .i64 (N:Int),.int .i64 (N:Int)] 2))):=al1 w _
 have HN1:Hid (Nr w.heap.size (w.alloc (.cells #[.int .i64 (td:Int),.int .i64 (N:Int),.int .i64 (N:Int)] 2)) w.heap.size 3 [td,N,N]):=World.ownsRow_lit w #[.int .i64 (td:Int),.int .i64 (N:Int),.int .i64 (N:Int)] 3 (Nat.le_refl _) (by unfold maxLen;omega) rfl
 refine (HBN.out _ HB1.out).mono ?_
 rintro e w2 ⟨hb2,pa,pcap,rfl,hat⟩
 have HB2:Hid (Below w.heap.size w w2):=HB1.out.trans (hb2.mono HB1.out.size)
 have HN2:=hide (HN1.out.below hb2)
 have HAT:Hid (∀ k,k<N→∃ G,pa=some ⟨G,0,none⟩∧G≠w.heap.size∧G<w2.heap.size∧w2.cell? ⟨G,k,none⟩=some (.pointer (some ⟨bs.getD ((byN ls).getD k 0) 0,0,none⟩))):=fun k hk=>by
  obtain ⟨G,q1,q2,q3,q4⟩:=hat k (by rw [byN_len,← HNE.out];exact hk)
  exact ⟨G,q1,by simp at q2;omega,q3,q4⟩
 obtain ⟨F,HFE⟩:∃ F:Nat→List Nat,Hid (F=fun i=>lotP (ls.getD i L0)):=⟨_,rfl⟩
 obtain ⟨js,HJS⟩:∃ js,Hid (js=byN ls):=⟨_,rfl⟩
 rw [← HJS.out] at HAT
 clear hb2 hat HB1 HN1 HBN c0 c1
 go_wp2_with fail
 go_loopw [4,6,26] (fun nv _ ii wr=>∃ (k g c:Nat) (T:List Nat),ii=.int .i64 k∧k≤N∧T=[td,N,N]++(js.take k).flatMap F∧nv=.slice (some ⟨g,0,none⟩) T.length c∧Nr w.heap.size wr g c T∧T.length≤3+k * 14∧Below w.heap.size w wr∧w2.heap.size≤wr.heap.size∧(∀ G,pa=some ⟨G,0,none⟩→G<w2.heap.size→G≠w.heap.size→wr.heap[G]?=w2.heap[G]?∧G≠g)) (fun _ _ ii _=>N - (intOf ii).toNat)
 case atStart=>exact ⟨0,w.heap.size,3,_,rfl,by omega,rfl,rfl,HN2.out,by simp,HB2.out,Nat.le_refl _,fun G _ _ h=>⟨rfl,h⟩⟩
 case round =>
  clear HN2 HB2
  obtain ⟨k,g,c,T,rfl,hk,hT,rfl,hnr,hTl,hb,hsz,hkeep⟩:=hrel
  have hb3:Below w.heap.size w wr:=hb
  by_cases hlt:k<N
  ·obtain ⟨G,rfl,hG1,hG2,hck⟩:=HAT.out k hlt
   obtain ⟨hGb,hGg⟩:=hkeep G rfl hG2 hG1
   have hcx:wr.cell? ⟨G,k,none⟩=some (.pointer (some ⟨bs.getD (js.getD k 0) 0,0,none⟩)):=(World.cell?_of_block (a:=⟨G,k,none⟩) hGb).trans hck
   have hj:js.getD k 0<ls.length:=by rw [HJS.out];exact byN_get (by rw [← HNE.out];exact hlt)
   have hjt:js.take (k+1)=js.take k++[js.getD k 0]:=take_at (by rw [HJS.out,byN_len,← HNE.out];exact hlt)
   have hPr:=HPV.out.below hb
   have hok:=hPr.ok _ (mem_getD hj)
   have HLN:=hide (lotNums_any (hPr.lot _ hj) (hPr.par _ hj) hok)
   have hFl:(F (js.getD k 0)).length≤14:=by rw [HFE.out];show (lotP _).length≤14;rw [lotP_eq hok.par.1];exact lotN_len hok
   have hFp:0<(F (js.getD k 0)).length:=by rw [HFE.out];show 0<(lotP _).length;simp [lotP]
   have HFJ:Hid (F (js.getD k 0)=lotP (ls.getD (js.getD k 0) L0)):=by unfold Hid;rw [HFE.out]
   rw [← HFJ.out] at HLN
   have HT2:Hid (T++F (js.getD k 0)=[td,N,N]++(js.take (k+1)).flatMap F):=by unfold Hid;rw [hjt,List.flatMap_append,hT];simp
   have HNR:=hide hnr
   have HBR:=hide hb
   have HKP:=hide hkeep
   obtain ⟨m,hm⟩:∃ m,m=T.length:=⟨_,rfl⟩
   have HME:=hide hm
   rw [← hm] at hTl ⊢
   generalize F (js.getD k 0)=Fj at *
   generalize bs.getD (js.getD k 0) 0=bj at *
   obtain ⟨q,hq⟩:∃ q,q=Fj.length:=⟨_,rfl⟩
   have HQE:=hide hq
   rw [← hq] at HLN hFl hFp
   clear hnr hb hkeep hPr hok hck hj hjt hb3 hT hm hq HFJ
   go_wp2_with (first
    | (go_at_call 66;refine (HLN.out).mono ?_;rintro e w3 ⟨hb3,g3,c3,rfl,ho3⟩)
    | (at_builtin;refine wpList_append_lies _ rfl _ _ 54 rfl w.heap.size 2 i0 (.int .i64 0) 1 8 tUIs hi hz0 hz1 hz2 rfl (by decide) _ m (I T) rfl ?r1 ⟨g3,0,none⟩ q c3 (I Fj) rfl ?r2 ?r3 (I_one Fj) hFp ?r5 ?r6 ?r7 _ rfl ?_))
   case r1=>have:=HNR.out.below hb3;unfold Nr at this;rw [← HME.out] at this;exact this
   case r2=>rw [I_len,HQE.out];omega
   case r3=>exact fun j u hj=>ho3.cells (g:=g3) rfl j u hj
   case r5=>unfold maxLen;omega
   case r6=>omega
   case r7=>have h1:=HBR.out.size;have h2:=hb3.size;omega
   intro g4 c4 w4 ho4 hg4 hat4 hlt4
   have HN4:Hid (Nr w.heap.size w4 g4 c4 (T++Fj)):=by
    unfold Hid Nr
    rw [List.length_append,← HME.out,← HQE.out,show I (T++Fj)=I T++I Fj by simp [I]]
    exact ho4
   have HB4:Hid (Below w.heap.size w w4):=(HBR.out.trans (hb3.mono HBR.out.size)).grown hg4 (by have h1:=HBR.out.size;have h2:=hb3.size;omega) (fun z hz=>by cases hz;exact HNR.out.lt.1)
   have HK4:Hid (∀ G',some (⟨G,0,none⟩:Addr)=some ⟨G',0,none⟩→G'<w2.heap.size→G'≠w.heap.size→w4.heap[G']?=w2.heap[G']?∧G'≠g4):=fun G' e h1 h2=>by
    obtain ⟨q1,q2⟩:=HKP.out G' e h1 h2
    obtain ⟨q3,q4⟩:=app_keep hb3 hg4 (Nat.lt_of_lt_of_le h1 hsz) q2 hat4
    exact ⟨q3.trans q1,q4⟩
   have hs4:w2.heap.size≤w4.heap.size:=Nat.le_trans hsz (Nat.le_trans hb3.size hg4.size)
   have hTq:(T++Fj).length=m+q:=by rw [List.length_append,← HME.out,← HQE.out]
   clear ho3 hb3 ho4 hg4 hat4 hlt4 HNR HBR HKP HLN hcx
   go_wp2_with fail
   go_roundw
   case rel=>exact ⟨k+1,g4,c4,T++Fj,by go_num,by omega,HT2.out,by rw [hTq],HN4.out,by rw [hTq];omega,HB4.out,hs4,HK4.out⟩
   case measure=>simp [intOf];omega
  ·have hkN:k=N:=by omega
   subst hkN
   have hjs:js.take k=js:=List.take_of_length_le (by rw [HJS.out,byN_len,← HNE.out];exact Nat.le_refl _)
   rw [hjs] at hT
   have hPr:=HPV.out.below hb
   obtain ⟨Do,hDo,hOD⟩:=hPr.maps.o
   have hlen:=World.ownsMap.len hDo tUOm
   rw [hOD.size] at hlen
   have c2:=hPr.c2
   have HNR:=hide hnr
   have HBR:=hide hb
   have HTE:=hide hT
   have hol:=HGO.out.olen
   obtain ⟨m,hm⟩:∃ m,m=T.length:=⟨_,rfl⟩
   have HME:=hide hm
   rw [← hm] at hTl ⊢
   obtain ⟨no,hno⟩:∃ no,no=os.length:=⟨_,rfl⟩
   have HNO:=hide hno
   rw [← hno] at hlen hol
   clear hnr hb hkeep hPr hT hm hno hDo hOD hb3 hlt hjs
   go_wp2_with (at_builtin;refine wpList_append_lies _ rfl _ _ 54 rfl w.heap.size 2 i0 (.int .i64 0) 1 8 tUIs hi hz0 hz1 hz2 rfl (by decide) _ m (I T) rfl ?r1 ⟨wr.heap.size,0,none⟩ 1 1 [.int .i64 (no:Int)] rfl rfl ?r3 ?r4 (by decide) ?r5 ?r6 ?r7 _ rfl ?_)
   case r1=>have:=HNR.out.below (al1 wr (.cells #[.int .i64 (no:Int)] 2));unfold Nr at this;rw [← HME.out] at this;exact this
   case r3=>exact one_new _ _ _
   case r4=>intro u hu;simp at hu;subst hu;rfl
   case r5=>unfold maxLen;omega
   case r6=>omega
   case r7=>have h1:=HBR.out.size;simp;omega
   intro g5 c5 w5 ho5 hg5 hat5 hlt5
   obtain ⟨U,HUE⟩:∃ U:List Nat,Hid (U=T++[no]):=⟨_,rfl⟩
   have HUL:Hid (U.length=m+1):=by unfold Hid;rw [HUE.out,List.length_append,← HME.out];rfl
   have HN5:Hid (Nr w.heap.size w5 g5 c5 U):=by
    unfold Hid Nr
    rw [HUL.out,HUE.out,show I (T++[no])=I T++[.int .i64 (no:Int)] by simp [I]]
    exact ho5
   have HB5:Hid (Below w.heap.size w w5):=(HBR.out.alloc HBR.out.size _).grown hg5 (by have h1:=HBR.out.size;simp;omega) (fun z hz=>by cases hz;exact HNR.out.lt.1)
   have hP5:=HPV.out.below HB5.out
   have c25:=hP5.c2
   clear ho5 hg5 hat5 hlt5 HNR HBR hlen c2
   go_wp2_with (go_at_call 68;refine (keysO_any _ _).mono ?_;rintro e w' ⟨rfl,rfl⟩)
   have hab:=al1 w5 (.cells #[.map (some M.o)] 75)
   obtain ⟨Do,hDo,hOD⟩:=hP5.maps.o
   have hoid:∀ o ∈ os,1≤o.id∧o.id≤2147483647:=fun o ho=>⟨(HSM.out.ord o ho).1,HGO.out.oid o ho⟩
   refine (sortedO_any (w:=w5.alloc (.cells #[.map (some M.o)] 75)) (Bm:=w5.heap.size) (b:=M.o) HGO.out.oids hoid HGO.out.olen (by simp) (by rw [blk_cell (heap_alloc_new w5 _)];rfl) (owns_congr hDo (hab.block M.o (World.ownsMap.lt hDo))) hOD).mono ?_
   rintro e w6 ⟨hb6,sv,rfl,ho6⟩
   have hb56:=hab.trans (hb6.mono hab.size)
   have HB6:Hid (Below w.heap.size w w6):=HB5.out.trans (hb56.mono HB5.out.size)
   have HN6:=hide (HN5.out.below hb56)
   obtain ⟨ks,HKS⟩:∃ ks,Hid (ks=oks os):=⟨_,rfl⟩
   rw [← HKS.out] at ho6
   have HKM:Hid (∀ x ∈ ks,∃ o ∈ os,x=o.id):=fun x hx=>by
    rw [HKS.out] at hx
    obtain ⟨o,ho,e⟩:=List.mem_map.1 (((oks_facts HGO.out.oids (fun o ho=>(hoid o ho).1)).2 x).1 hx)
    exact ⟨o,ho,e.symm⟩
   have HKL:Hid (ks.length≤10):=by
    unfold Hid
    have h1:=len_of_sub (l:=ks) (m:=os.map O.id) (by rw [HKS.out];exact (oks_facts HGO.out.oids (fun o ho=>(hoid o ho).1)).1.imp (fun h e=>by omega)) (fun x hx=>by obtain ⟨o,ho,rfl⟩:=HKM.out x hx;exact List.mem_map_of_mem ho)
    rw [List.length_map] at h1
    exact Nat.le_trans h1 HGO.out.olen
   obtain ⟨sa,scap,hsv⟩:=own_shapeS ho6
   subst hsv
   have HSA:Hid (∀ i,i<ks.length→∃ G,sa=some ⟨G,0,none⟩∧w5.heap.size≤G∧G<w6.heap.size∧w6.cell? ⟨G,i,none⟩=some (.int .i64 ((ks.getD i 0:Nat):Int))):=fun i hi=>by
    obtain ⟨G,cap',hv',hG1,hG2⟩:=own_someS ho6 (by omega)
    cases hv'
    refine ⟨G,rfl,by simp at hG1;omega,hG2,?_⟩
    rw [ho6.cellAt i (by omega)]
    simp [I,List.getD_eq_getElem?_getD,hi]
   have HG5:Hid (g5<w5.heap.size):=HN5.out.lt.2
   obtain ⟨nk,hnk⟩:∃ nk,nk=ks.length:=⟨_,rfl⟩
   have HNK:=hide hnk
   rw [← hnk] at HKL HSA ⊢
   have hkl:=HKL.out
   have HP5:=hide hP5
   clear hab hDo hOD hb6 hb56 ho6 HB5 HN5 hP5 c25 hoid hnk HKL
   go_wp2_with fail
   go_loopw [4,8,50] (fun nv _ ii wr=>∃ (k2 g c:Nat) (T2:List Nat),ii=.int .i64 k2∧k2≤nk∧T2=U++(ks.take k2).flatMap (ordP os ls)∧nv=.slice (some ⟨g,0,none⟩) T2.length c∧Nr w.heap.size wr g c T2∧T2.length≤424+k2 * 63∧Below w.heap.size w wr∧w6.heap.size≤wr.heap.size∧(∀ G,sa=some ⟨G,0,none⟩→w5.heap.size≤G→G<w6.heap.size→wr.heap[G]?=w6.heap[G]?∧G≠g)) (fun _ _ ii _=>nk - (intOf ii).toNat)
   case atStart =>
    refine ⟨0,g5,c5,U,rfl,by omega,by simp,by rw [HUL.out],HN6.out,by rw [HUL.out];omega,HB6.out,Nat.le_refl _,fun G _ h _=>⟨rfl,?_⟩⟩
    have:=HG5.out;omega
   case round =>
    clear HN6 HB6
    obtain ⟨k2,g,c,T2,rfl,hk2,hT,rfl,hnr,hTl,hb,hsz,hkeep⟩:=hrel
    by_cases hlt:k2<nk
    ·obtain ⟨G,rfl,hG1,hG2,hck⟩:=HSA.out k2 hlt
     obtain ⟨hGb,hGg⟩:=hkeep G rfl hG1 hG2
     have hcx:wr.cell? ⟨G,k2,none⟩=some (.int .i64 ((ks.getD k2 0:Nat):Int)):=(World.cell?_of_block (a:=⟨G,k2,none⟩) hGb).trans hck
     have hkn:k2<ks.length:=by rw [← HNK.out];exact hlt
     obtain ⟨o,ho,hoe⟩:=HKM.out (ks.getD k2 0) (by simp [List.getD_eq_getElem?_getD,hkn])
     have hkt:ks.take (k2+1)=ks.take k2++[ks.getD k2 0]:=take_at hkn
     have hab:ks.getD k2 0≤2147483647:=by rw [hoe];exact HGO.out.oid o ho
     have hPr:=HPV.out.below hb
     have hgl:goodsOf os (ks.getD k2 0)≤2147483647:=by rw [hoe,goods_self HGO.out.oids ho];exact (HSM.out.ord o ho).2
     obtain ⟨Do,hDo,hOD⟩:=hPr.maps.o
     obtain ⟨gc,hlk,hgc,_⟩:=World.ownsMap.lookup_int hDo kInt tUOm tUI (zeroI wr) (key_o hab)
     rw [hOD.val _ hab] at hgc
     have hgc':gc=((goodsOf os (ks.getD k2 0):Nat):Int):=by simpa using hgc.symm
     subst hgc'
     have c2:=hPr.c2
     have HQ:Hid (∀ p ∈ endQ os (ks.getD k2 0) ls ls.length,p.2≤2147483647):=fun p hp=>by
      obtain ⟨q1,q2⟩:=endQ_mem hp
      have h1:=line_le q2
      rw [← HGO.out.held p.1 q1] at h1
      have:=(HPV.out.ok _ (mem_getD q1)).sum
      omega
     have hql:(endQ os (ks.getD k2 0) ls ls.length).length≤30:=Nat.le_trans (endQ_len _ _ _ _) HPV.out.room
     have HT2:Hid (T2++ordP os ls (ks.getD k2 0)=U++(ks.take (k2+1)).flatMap (ordP os ls)):=by unfold Hid;rw [hkt,List.flatMap_append,hT];simp
     have HOP:Hid (ordP os ls (ks.getD k2 0)=[ks.getD k2 0,goodsOf os (ks.getD k2 0)]++toldQ ls (endQ os (ks.getD k2 0) ls ls.length)):=rfl
     have HNR:=hide hnr
     have HBR:=hide hb
     have HKP:=hide hkeep
     obtain ⟨m2,hm⟩:∃ m2,m2=T2.length:=⟨_,rfl⟩
     have HM2:=hide hm
     rw [← hm] at hTl ⊢
     generalize goodsOf os (ks.getD k2 0)=gd at *
     generalize ks.getD k2 0=ao at *
     clear hnr hb hkeep hPr hck hkt hT hm hDo hOD hgc hoe ho hkn
     go_wp2_with (at_builtin;refine wpList_append_lies _ rfl _ _ 54 rfl w.heap.size 2 i0 (.int .i64 0) 1 8 tUIs hi hz0 hz1 hz2 rfl (by decide) _ m2 (I T2) rfl ?s1 ⟨wr.heap.size,0,none⟩ 2 2 [.int .i64 (ao:Int),.int .i64 (gd:Int)] rfl rfl ?s3 ?s4 (by decide) ?s5 ?s6 ?s7 _ rfl ?_)
     case s1=>have:=HNR.out.below (al1 wr (.cells #[.int .i64 (ao:Int),.int .i64 (gd:Int)] 2));unfold Nr at this;rw [← HM2.out] at this;exact this
     case s3=>exact news_lit _ _ _ _ rfl
     case s4=>intro u hu;simp at hu;rcases hu with rfl | rfl <;> rfl
     case s5=>unfold maxLen;omega
     case s6=>omega
     case s7=>have h1:=HBR.out.size;simp;omega
     intro g3 c3 w3 ho3 hg3 hat3 hlt3
     have HN3:Hid (Nr w.heap.size w3 g3 c3 (T2++[ao,gd])):=by
      unfold Hid Nr
      rw [List.length_append,← HM2.out,show I (T2++[ao,gd])=I T2++[.int .i64 (ao:Int),.int .i64 (gd:Int)] by simp [I]]
      exact ho3
     have ha3:=al1 wr (.cells #[.int .i64 (ao:Int),.int .i64 (gd:Int)] 2)
     have HB3:Hid (Below w.heap.size w w3):=(HBR.out.trans (ha3.mono HBR.out.size)).grown hg3 (by have h1:=HBR.out.size;simp;omega) (fun z hz=>by cases hz;exact HNR.out.lt.1)
     have hs3:w6.heap.size≤w3.heap.size:=Nat.le_trans hsz (Nat.le_trans ha3.size hg3.size)
     have HK3:Hid (∀ G',some (⟨G,0,none⟩:Addr)=some ⟨G',0,none⟩→w5.heap.size≤G'→G'<w6.heap.size→w3.heap[G']?=w6.heap[G']?∧G'≠g3):=fun G' e h1 h2=>by
      obtain ⟨q1,q2⟩:=HKP.out G' e h1 h2
      obtain ⟨q3,q4⟩:=app_keep ha3 hg3 (Nat.lt_of_lt_of_le h2 hsz) q2 (g':=g3) (hat3.elim (fun h=>Or.inl h) (fun h=>Or.inr (by rw [h];simp)))
      exact ⟨q3.trans q1,q4⟩
     have hP3:=HPV.out.below HB3.out
     have HLO:=hide (linesOf_any hP3 HGO.out.ids ao hab)
     obtain ⟨E,HEE⟩:∃ E,Hid (E=endQ os ao ls ls.length):=⟨_,rfl⟩
     have HEM:Hid (∀ p ∈ E,p.1<ls.length):=fun p hp=>by rw [HEE.out] at hp;exact (endQ_mem hp).1
     rw [← HEE.out] at HLO HQ hql HOP
     have HP3:=hide hP3
     clear ho3 hg3 hat3 hlt3 ha3 hP3 HNR HBR HKP hlk c2 hcx hsz
     go_wp2_with (go_at_call 70;refine (HLO.out).mono ?_;rintro e w4 ⟨hb4,lv,rfl,ho4⟩)
     obtain ⟨la,lcap,hlv⟩:=own_shapeS ho4
     subst hlv
     have hP4:=HP3.out.below hb4
     refine (told_each (own_lower ho4 (Nat.zero_le _)) hql HQ.out hP4.lots hP4.ok HEM.out).mono ?_
     rintro e w7 ⟨hb7,g7,c7,rfl,ho7⟩
     have hb47:=hb4.trans (hb7.mono hb4.size)
     obtain ⟨Q,HQE⟩:∃ Q,Hid (Q=toldQ ls E):=⟨_,rfl⟩
     rw [← HQE.out] at ho7 HOP
     have hQl:Q.length≤61:=by rw [HQE.out,toldQ,List.length_cons,toldL_len];omega
     have hQp:0<Q.length:=by rw [HQE.out,toldQ,List.length_cons];omega
     rw [show (Value.slice (some ⟨g7,0,none⟩) (toldQ ls E).length c7)=Value.slice (some ⟨g7,0,none⟩) Q.length c7 by rw [HQE.out]]
     have HNW:=hide (fun j u hj=>ho7.cells (g:=g7) rfl j u hj)
     have HN7:=hide (HN3.out.below hb47)
     have HB7:Hid (Below w.heap.size w w7):=HB3.out.trans (hb47.mono HB3.out.size)
     obtain ⟨q,hq⟩:∃ q,q=Q.length:=⟨_,rfl⟩
     have HQL:=hide hq
     rw [← hq] at hQl hQp ⊢
     have HB47:=hide hb47
     clear hb4 hb7 ho4 ho7 hP4 hq HLO HP3 hb47
     go_wp2_with (at_builtin;refine wpList_append_lies _ rfl _ _ 54 rfl w.heap.size 2 i0 (.int .i64 0) 1 8 tUIs hi hz0 hz1 hz2 rfl (by decide) _ (m2+2) (I (T2++[ao,gd])) rfl ?t1 ⟨g7,0,none⟩ q c7 (I Q) rfl ?t2 HNW.out (I_one Q) hQp ?t5 ?t6 ?t7 _ rfl ?_)
     case t1=>have:=HN7.out;unfold Nr at this;rw [List.length_append,← HM2.out] at this;exact this
     case t2=>rw [I_len,HQL.out];omega
     case t5=>unfold maxLen;omega
     case t6=>omega
     case t7=>exact HB7.out.size
     intro g8 c8 w8 ho8 hg8 hat8 hlt8
     have hl8:(T2++ordP os ls ao).length=m2+2+q:=by rw [HOP.out,List.length_append,List.length_append,← HM2.out,← HQL.out];simp;omega
     have HN8:Hid (Nr w.heap.size w8 g8 c8 (T2++ordP os ls ao)):=by
      unfold Hid Nr
      rw [hl8,HOP.out,show I (T2++([ao,gd]++Q))=I (T2++[ao,gd])++I Q by simp [I]]
      exact ho8
     have HB8:Hid (Below w.heap.size w w8):=HB7.out.grown hg8 HB7.out.size (fun z hz=>by cases hz;exact HN7.out.lt.1)
     have HK8:Hid (∀ G',some (⟨G,0,none⟩:Addr)=some ⟨G',0,none⟩→w5.heap.size≤G'→G'<w6.heap.size→w8.heap[G']?=w6.heap[G']?∧G'≠g8):=fun G' e h1 h2=>by
      obtain ⟨q1,q2⟩:=HK3.out G' e h1 h2
      obtain ⟨q3,q4⟩:=app_keep HB47.out hg8 (Nat.lt_of_lt_of_le h2 hs3) q2 hat8
      exact ⟨q3.trans q1,q4⟩
     have hs8:w6.heap.size≤w8.heap.size:=Nat.le_trans hs3 (Nat.le_trans HB47.out.size hg8.size)
     clear ho8 hg8 hat8 hlt8 HN7 HB7 HB47 HNW HN3 HB3 HK3
     go_wp2_with fail
     go_roundw
     case rel=>exact ⟨k2+1,g8,c8,T2++ordP os ls ao,by go_num,by omega,HT2.out,by rw [hl8],HN8.out,by rw [hl8];omega,HB8.out,hs8,HK8.out⟩
     case measure=>simp [intOf];omega
    ·have hkk:k2=nk:=by omega
     subst hkk
     have hks:ks.take k2=ks:=List.take_of_length_le (by rw [← HNK.out];exact Nat.le_refl _)
     rw [hks] at hT
     have hPr:=HPV.out.below hb
     obtain ⟨Dr,hDr,hRD⟩:=hPr.maps.r
     have hlen:=World.ownsMap.len hDr tU56
     rw [hRD.size] at hlen
     have c4:=hPr.c4
     have HNR:=hide hnr
     have HBR:=hide hb
     have HT3:=hide hT
     have hrl:=HPV.out.maps.rc.len
     obtain ⟨m3,hm⟩:∃ m3,m3=T2.length:=⟨_,rfl⟩
     have HM3:=hide hm
     rw [← hm] at hTl ⊢
     obtain ⟨nr,hnr'⟩:∃ nr,nr=rcs.length:=⟨_,rfl⟩
     have HNRE:=hide hnr'
     rw [← hnr'] at hlen hrl
     clear hnr hb hkeep hPr hT hm hnr' hDr hRD hlt hks
     go_wp2_with (at_builtin;refine wpList_append_lies _ rfl _ _ 54 rfl w.heap.size 2 i0 (.int .i64 0) 1 8 tUIs hi hz0 hz1 hz2 rfl (by decide) _ m3 (I T2) rfl ?u1 ⟨wr.heap.size,0,none⟩ 1 1 [.int .i64 (nr:Int)] rfl rfl ?u3 ?u4 (by decide) ?u5 ?u6 ?u7 _ rfl ?_)
     case u1=>have:=HNR.out.below (al1 wr (.cells #[.int .i64 (nr:Int)] 2));unfold Nr at this;rw [← HM3.out] at this;exact this
     case u3=>exact one_new _ _ _
     case u4=>intro u hu;simp at hu;subst hu;rfl
     case u5=>unfold maxLen;omega
     case u6=>omega
     case u7=>have h1:=HBR.out.size;simp;omega
     intro g9 c9 w9 ho9 hg9 hat9 hlt9
     obtain ⟨V,HVE⟩:∃ V:List Nat,Hid (V=T2++[nr]):=⟨_,rfl⟩
     have HVL:Hid (V.length=m3+1):=by unfold Hid;rw [HVE.out,List.length_append,← HM3.out];rfl
     have HN9:Hid (Nr w.heap.size w9 g9 c9 V):=by
      unfold Hid Nr
      rw [HVL.out,HVE.out,show I (T2++[nr])=I T2++[.int .i64 (nr:Int)] by simp [I]]
      exact ho9
     have HB9:Hid (Below w.heap.size w w9):=(HBR.out.alloc HBR.out.size _).grown hg9 (by have h1:=HBR.out.size;simp;omega) (fun z hz=>by cases hz;exact HNR.out.lt.1)
     have hP9:=HPV.out.below HB9.out
     have c49:=hP9.c4
     clear ho9 hg9 hat9 hlt9 HNR HBR hlen c4
     go_wp2_with (go_at_call 72;refine (keysR_any _ _).mono ?_;rintro e w' ⟨rfl,rfl⟩)
     have hab9:=al1 w9 (.cells #[.map (some M.r)] 77)
     obtain ⟨Dr,hDr,hRD⟩:=hP9.maps.r
     refine (sortedR_any (w:=w9.alloc (.cells #[.map (some M.r)] 77)) (Bm:=w9.heap.size) (b:=M.r) hP9.maps.rc hRD (by simp) (by rw [blk_cell (heap_alloc_new w9 _)];rfl) (owns_congr hDr (hab9.block M.r (World.ownsMap.lt hDr)))).mono ?_
     rintro e wA ⟨hbA,sv,rfl,hoA⟩
     have hb9A:=hab9.trans (hbA.mono hab9.size)
     have HBA:Hid (Below w.heap.size w wA):=HB9.out.trans (hb9A.mono HB9.out.size)
     have HNA:=hide (HN9.out.below hb9A)
     obtain ⟨R3,HR3⟩:∃ R3,Hid (R3=prtS rcs):=⟨_,rfl⟩
     have HRL:Hid (nr=R3.length):=by unfold Hid;rw [HR3.out,prtS_len];exact HNRE.out
     rw [← HR3.out,← HNRE.out] at hoA
     obtain ⟨ra,rcap,hrv⟩:=own_shapeS hoA
     subst hrv
     have HRA:=hide hoA
     clear hab9 hDr hRD hbA hb9A hoA HB9 HN9 hP9 c49
     go_wp2_with fail
     go_loopw [4,10,86] (fun nv _ ii wr=>∃ (k3 g c:Nat) (X:List Nat),ii=.int .i64 k3∧k3≤nr∧X=V++(R3.take k3).flatMap (fun p=>[p.1,p.2])∧nv=.slice (some ⟨g,0,none⟩) X.length c∧X.length≤1100+k3 * 2∧Nr w.heap.size wr g c X∧(∃ base,wr.ownsRow base 140 2 (.slice ra nr rcap) nr (lflat R3))∧Below w.heap.size w wr) (fun _ _ ii _=>nr - (intOf ii).toNat)
     case atStart=>exact ⟨0,g9,c9,V,rfl,by omega,by simp,by rw [HVL.out],by rw [HVL.out];omega,HNA.out,⟨_,HRA.out⟩,HBA.out⟩
     case round =>
      clear HNA HRA HBA
      obtain ⟨k3,g,c,X,rfl,hk,hX,rfl,hXl,hown,⟨base,hpo⟩,hb⟩:=hrel
      by_cases hlt:k3<nr
      ·obtain ⟨G,rfl,hGlt,g1,g2⟩:=pairs_cells_recall hpo k3 (by rw [← HRL.out];exact hlt) HRL.out
       have HX2:Hid (X++[(R3.getD k3 (0,0)).1,(R3.getD k3 (0,0)).2]=V++(R3.take (k3+1)).flatMap (fun p=>[p.1,p.2])):=by
        unfold Hid;rw [take_at (d:=(0,0)) (by rw [← HRL.out];exact hlt),List.flatMap_append,hX];simp
       generalize R3.getD k3 (0,0)=x at *
       obtain ⟨x1,x2⟩:=x
       simp only at g1 g2 HX2
       have hB:=al1 wr (.cells #[.int .i64 (x1:Int),.int .i64 (x2:Int)] 140)
       have HON:=hide (hown.below hB)
       have HPO:=hide (own_below hpo hB)
       have HBB:=hide (hb.trans (hB.mono hb.size))
       have hwz:=hb.size
       obtain ⟨mx,hmx⟩:∃ mx,mx=X.length:=⟨_,rfl⟩
       have HMX:=hide hmx
       rw [← hmx] at hXl ⊢
       clear hown hb hB hpo hX hmx
       go_wp2_with (at_builtin;refine wpList_append_lies _ rfl _ _ 54 rfl w.heap.size 2 i0 (.int .i64 0) 1 8 tUIs hi hz0 hz1 hz2 rfl (by decide) _ mx (I X) rfl ?v1 ⟨wr.heap.size+1,0,none⟩ 2 2 [.int .i64 (x1:Int),.int .i64 (x2:Int)] rfl rfl ?v3 ?v4 (by decide) ?v5 ?v6 ?v7 _ rfl ?_)
       case v1=>have:=HON.out.below (al1 _ (.cells #[.int .i64 (x1:Int),.int .i64 (x2:Int)] 2));unfold Nr at this;rw [← HMX.out] at this;exact this
       case v3=>exact news_lit _ _ _ _ (by simp)
       case v4=>intro u hu;simp at hu;rcases hu with rfl | rfl <;> rfl
       case v5=>unfold maxLen;omega
       case v6=>omega
       case v7=>simp;omega
       intro g5' c5' w5' ho5 hg5 hat5 hlt5
       have hl5:(X++[x1,x2]).length=mx+2:=by rw [List.length_append,← HMX.out];rfl
       have HO5:Hid (Nr w.heap.size w5' g5' c5' (X++[x1,x2])):=by
        unfold Hid Nr
        rw [hl5,show I (X++[x1,x2])=I X++[.int .i64 (x1:Int),.int .i64 (x2:Int)] by simp [I]]
        exact ho5
       have HB5:Hid (Below w.heap.size w w5'):=(HBB.out.alloc HBB.out.size _).grown hg5 (by have:=HBB.out.size;simp at *;omega) (fun q hq=>by cases hq;exact HON.out.lt.1)
       have HP5':Hid (w5'.ownsRow base 140 2 (.slice (some ⟨G,0,none⟩) nr rcap) nr (lflat R3)):=by
        refine own_congr (HPO.out.alloc (.cells #[.int .i64 (x1:Int),.int .i64 (x2:Int)] 2)) (fun q hq=>?_)
        obtain ⟨cs,hcs⟩:=own_ty (HPO.out.alloc (.cells #[.int .i64 (x1:Int),.int .i64 (x2:Int)] 2)) hq
        obtain ⟨ds,hds⟩:=own_ty (World.ownsRow.alloc HON.out (.cells #[.int .i64 (x1:Int),.int .i64 (x2:Int)] 2)) (g:=g) rfl
        exact hg5.block q (blk_lt hcs) (fun e=>ty_ne hcs hds (by decide) (Option.some.inj e))
       clear ho5 hg5 hat5 hlt5 HON HPO HBB g1 g2
       go_wp2_with fail
       go_roundw
       case rel=>exact ⟨k3+1,g5',c5',X++[x1,x2],by go_num,by omega,HX2.out,by rw [hl5],by rw [hl5];omega,HO5.out,⟨base,HP5'.out⟩,HB5.out⟩
       case measure=>simp [intOf];omega
      ·have hkr:k3=nr:=by omega
       subst hkr
       have HE:Hid (pN td os rcs ls=X):=by
        have e1:R3.take k3=R3:=List.take_of_length_le (by rw [HRL.out];exact Nat.le_refl _)
        unfold Hid pN
        rw [hX,e1,HVE.out,HT3.out,HUE.out,HTE.out,HR3.out,HNRE.out,HNO.out,HKS.out,HFE.out,HJS.out,HNE.out]
       have HO:=hide hown
       clear hlt hown hpo hX
       go_wp2_with fail
       go_ret
       refine ⟨hb,g,c,by rw [HE.out];rfl,?_⟩
       rw [HE.out];exact HO.out
end Go.Proofs.YtgcedalggnmooabGreatDoor
