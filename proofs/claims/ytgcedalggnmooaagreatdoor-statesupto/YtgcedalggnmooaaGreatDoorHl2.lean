import Derived.Test.YtgcedalggnmooaaGreatDoorHlX
import Derived.Test.YtgcedalggnmooaaGreatDoorR0X
set_option linter.unusedSimpArgs false
set_option linter.unusedVariables false
set_option maxRecDepth 100000
namespace Go.Proofs.YtgcedalggnmooaaGreatDoor
theorem famB_mem {f:Nat→Bool} {n:Nat}:∀ (ls:List L) (f:Nat→Bool),famB ls f n=true→f n=true∨∃ l ∈ ls,l.id=n
 | [],f,h=>Or.inl h
 | l :: ls,f,h=>by
  rw [famB_cons] at h
  rcases famB_mem (f:=f) ls (famStep f l) h with h1 | ⟨x,hx,e⟩
  ·simp only [famStep,Bool.or_eq_true,Bool.and_eq_true,beq_iff_eq] at h1
   rcases h1 with h1 | ⟨h1,_⟩
   ·exact Or.inl h1
   ·exact Or.inr ⟨l,by simp,h1.symm⟩
  ·exact Or.inr ⟨x,by simp [hx],e⟩
theorem idx_of_mem {ls:List L} {l:L} (h:l ∈ ls):idx l.id ls<ls.length:=by
 unfold idx
 rw [List.findIdx_lt_length]
 exact ⟨l,h,by simp⟩
theorem comL_idx {ls:List L} {a n:Nat} (ha:idx a ls<ls.length) (h:n ∈ comL ls a):idx n ls<ls.length∧(ls.getD (idx n ls) L0).id=n:=by
 have hc:comB ls a n=true:=by rw [← comL_has];exact List.contains_iff_mem.2 h
 have hi:idx n ls<ls.length:=by
  rcases famB_mem (f:=fun m=>m == a) ls _ hc with h1 | ⟨l,hl,e⟩
  ·have:n=a:=by simpa using h1
   rw [this];exact ha
  ·rw [← e];exact idx_of_mem hl
 exact ⟨hi,idx_id hi⟩
theorem comStep_nodup {out:List Nat} (h:out.Nodup) (l:L):(comStep out l).Nodup:=by
 unfold comStep
 split
 ·rename_i hc
  simp only [Bool.and_eq_true,Bool.not_eq_true'] at hc
  rw [List.nodup_append]
  refine ⟨h,by simp,fun x hx y hy e=>?_⟩
  simp at hy;subst hy;subst e
  have:out.contains l.id=true:=List.contains_iff_mem.2 hx
  rw [this] at hc;cases hc.1
 ·exact h
theorem comP_nodup:∀ (ls:List L) (out:List Nat),out.Nodup→(comP ls out).Nodup
 | [],_,h=>h
 | l :: ls,out,h=>comP_nodup ls _ (comStep_nodup h l)
theorem comL_nodup (ls:List L) (a:Nat):(comL ls a).Nodup:=comP_nodup ls [a] (by simp)
theorem comL_len (ls:List L) (a:Nat):(comL ls a).length≤ls.length+1:=by
 have h1:=comP_len ls [a] ls.length (Nat.le_refl _)
 rw [List.take_length] at h1
 simp only [List.length_cons,List.length_nil] at h1
 unfold comL;omega
def heldOfN (ls:List L) (n:Nat):Nat:=(ls.getD (idx n ls) L0).held
def hN (ls:List L) (ns:List Nat):List Nat:=ns.filter (fun n=>decide (0<heldOfN ls n))
def tN (ls:List L):List Nat→List Nat
 | n :: r=>n :: heldOfN ls n :: tN ls r
 | []=>[]
theorem tN_snoc (ls:List L) (n:Nat):∀ l,tN ls (l++[n])=tN ls l++[n,heldOfN ls n]
 | []=>rfl
 | q :: r=>by simp only [List.cons_append,tN,tN_snoc ls n r]
theorem tN_len (ls:List L):∀ l,(tN ls l).length=l.length * 2
 | []=>rfl
 | q :: r=>by simp only [tN,List.length_cons,tN_len ls r];omega
theorem hN_take {ls:List L} {ns:List Nat} {k:Nat} (hk:k<ns.length):hN ls (ns.take (k+1))=if 0<heldOfN ls (ns.getD k 0) then hN ls (ns.take k)++[ns.getD k 0] else hN ls (ns.take k):=by
 have e:ns.take (k+1)=ns.take k++[ns.getD k 0]:=by
  rw [List.take_succ_eq_append_getElem hk];simp [List.getD_eq_getElem?_getD,hk]
 rw [e,hN,List.filter_append]
 generalize ns.getD k 0=x
 by_cases h:0<heldOfN ls x
 ·rw [if_pos h];simp [List.filter_cons,h,hN]
 ·rw [if_neg h];simp [List.filter_cons,h,hN]
theorem hN_len (ls:List L) (ns:List Nat):(hN ls ns).length≤ns.length:=List.length_filter_le _ _
theorem tN_told {ls:List L}:∀ (ns:List Nat),(∀ n ∈ ns,(ls.getD (idx n ls) L0).id=n)→tN ls ns=toldL ls (withHeld ls (ns.map (fun n=>idx n ls)))
 | [],_=>rfl
 | n :: r,h=>by
  have ih:=tN_told r (fun m hm=>h m (by simp [hm]))
  simp only [tN,withHeld,List.map_cons,toldL] at ih ⊢
  rw [h n (by simp),← ih];rfl
theorem held_told {ls:List L} (hids:∀ i j,i<ls.length→j<ls.length→(ls.getD i L0).id=(ls.getD j L0).id→i=j) {a:Nat} (ha:idx a ls<ls.length) {s:List Nat} (hp:s.Perm (comL ls a)) (hs:s.Pairwise (·<·)):(hN ls s).length :: tN ls (hN ls s)=toldQ ls (heldQ ls a):=by
 have hmem:∀ n ∈ hN ls s,n ∈ comL ls a∧0<heldOfN ls n:=fun n hn=>by
  have:=List.mem_filter.1 hn
  exact ⟨hp.mem_iff.1 this.1,by simpa using this.2⟩
 have hid:∀ n ∈ hN ls s,(ls.getD (idx n ls) L0).id=n:=fun n hn=>(comL_idx ha (hmem n hn).1).2
 have hsub:(hN ls s).Pairwise (·<·):=hs.sublist List.filter_sublist
 have hnd:((hN ls s).map (fun n=>idx n ls)).Nodup:=by
  rw [List.nodup_iff_pairwise_ne,List.pairwise_map]
  refine List.Pairwise.imp_of_mem (fun {x y} hx hy hlt e=>?_) hsub
  have h1:=hid x hx
  have h2:=hid y hy
  rw [e,h2] at h1;omega
 have hperm:((hN ls s).map (fun n=>idx n ls)).Perm (heldK ls (comB ls a) ls.length):=by
  refine (List.perm_ext_iff_of_nodup hnd (heldK_nodup _ _ _)).2 (fun i=>?_)
  rw [heldK_mem]
  constructor
  ·intro h
   obtain ⟨n,hn,rfl⟩:=List.mem_map.1 h
   obtain ⟨h1,h2⟩:=hmem n hn
   obtain ⟨q1,q2⟩:=comL_idx ha h1
   refine ⟨q1,?_⟩
   unfold heldP
   rw [q2,← comL_has,List.contains_iff_mem.2 h1,Bool.and_true]
   exact decide_eq_true h2
  ·rintro ⟨hi,hh⟩
   unfold heldP at hh
   simp only [Bool.and_eq_true,decide_eq_true_eq] at hh
   have hc:(ls.getD i L0).id ∈ comL ls a:=by rw [← List.contains_iff_mem,comL_has];exact hh.2
   have hx:idx (ls.getD i L0).id ls=i:=by
    obtain ⟨q1,q2⟩:=comL_idx ha hc
    exact hids _ _ q1 hi q2
   refine List.mem_map.2 ⟨(ls.getD i L0).id,?_,hx⟩
   refine List.mem_filter.2 ⟨hp.mem_iff.2 hc,?_⟩
   unfold heldOfN
   rw [hx];exact decide_eq_true hh.1
 have hsrt:Srt (idLt ls) ((hN ls s).map (fun n=>idx n ls)):=by
  unfold Srt
  rw [List.pairwise_map]
  refine List.Pairwise.imp_of_mem (fun {x y} hx hy hlt=>?_) hsub
  unfold idLt
  rw [hid x hx,hid y hy]
  exact decide_eq_false (by omega)
 have e:=heldI_eq hids hperm hsrt
 rw [tN_told _ hid,e]
 show _=(heldQ ls a).length :: toldL ls (heldQ ls a)
 unfold heldQ
 rw [withHeld_len,← e,List.length_map]
end Go.Proofs.YtgcedalggnmooaaGreatDoor
