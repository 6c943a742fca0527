import Derived.Test.YtgcedalggnmooaaGreatDoorQ4X
import Derived.Test.YtgcedalggnmooaaGreatDoorAn1X
set_option linter.unusedSimpArgs false
set_option linter.unusedVariables false
set_option maxRecDepth 100000
namespace Go.Proofs.YtgcedalggnmooaaGreatDoor
open Go.RowKit
def gh (g:L→Nat→L) (l:L) (n:Nat):L:=g { l with held:=l.held - n } n
def lineI (ls:List L) (ln:List (Nat × Nat)):List (Nat × Nat):=ln.map fun p=>(idx p.1 ls,p.2)
theorem updS_id (g:L→Nat→L) (hg:∀ l n,(g l n).id=l.id):∀ (l:List (Nat × Nat)) (ls:List L) (i:Nat),((updS g ls l).getD i L0).id=(ls.getD i L0).id
 | [],ls,i=>rfl
 | p :: r,ls,i=>by
  simp only [updS]
  rw [updS_id g hg r]
  by_cases h:i=p.1
  ·subst h
   by_cases hl:p.1<ls.length
   ·rw [gset_eq hl];exact hg _ _
   ·simp [List.set_eq_of_length_le (show ls.length≤p.1 by omega)]
  ·rw [gset_ne h]
structure OrdL (os:List O) (ls:List L) (a:Nat) (o:O):Prop where
 find:os.find? (fun o=>o.id == a)=some o
 keys:(o.lines.map Prod.fst).Nodup
 mem:∀ p ∈ o.lines,idx p.1 ls<ls.length
theorem Good.ordL {os:List O} {ls:List L} (h:Good os ls) {a:Nat} (ha:oix a os<os.length):OrdL os ls a (os.getD (oix a os) O0):=by
 have hm:os.getD (oix a os) O0 ∈ os:=by simp [List.getD_eq_getElem?_getD,ha]
 have hid:=oix_id ha
 refine ⟨?_,h.keys _ hm,fun p hp=>?_⟩
 ·have:=find_self h.oids hm
  rw [hid] at this;exact this
 ·obtain ⟨i,hi,he⟩:=h.mem _ hm p hp
  apply Decidable.byContradiction
  intro hn
  exact idx_fresh hn i hi he
theorem lineI_fst {os:List O} {ls:List L} {a:Nat} {o:O} (h:OrdL os ls a o):((lineI ls o.lines).map Prod.fst).Nodup:=by
 have e:(lineI ls o.lines).map Prod.fst=(o.lines.map Prod.fst).map (fun b=>idx b ls):=by unfold lineI;rw [List.map_map,List.map_map];rfl
 rw [e]
 refine nodup_map_inj _ h.keys (fun x hx y hy he=>?_)
 obtain ⟨p,hp,rfl⟩:=List.mem_map.1 hx
 obtain ⟨r,hr,rfl⟩:=List.mem_map.1 hy
 have h1:=idx_id (h.mem p hp)
 have h2:=idx_id (h.mem r hr)
 rw [he] at h1
 exact h1.symm.trans h2
theorem upd_end {os:List O} {ls:List L} (hgo:Good os ls) {a:Nat} {o:O} (h:OrdL os ls a o) (g:L→Nat→L):updS (gh g) ls (lineI ls o.lines)=ls.map (finL g os a):=by
 have hlo:∀ b,lineOf os a b=o.lines.lookup b:=fun b=>by unfold lineOf;rw [h.find];rfl
 apply ext_getD
 ·rw [updS_len];simp
 ·intro i hi
  rw [updS_len] at hi
  rw [getD_map hi]
  cases hl:o.lines.lookup (ls.getD i L0).id with
  | some n =>
   have hm:(i,n) ∈ lineI ls o.lines:=by
    have:=lookup_some_mem hl
    refine List.mem_map.2 ⟨_,this,?_⟩
    rw [idx_uniq hgo.ids hi]
   rw [updS_in (gh g) _ _ (lineI_fst h) hm hi]
   unfold finL gh;rw [hlo,hl]
  | none =>
   rw [updS_out]
   ·unfold finL;rw [hlo,hl]
   ·intro hm
    obtain ⟨p,hp,he⟩:=List.mem_map.1 hm
    obtain ⟨r,hr,rfl⟩:=List.mem_map.1 hp
    have h1:=idx_id (h.mem r hr)
    simp only at he
    rw [he] at h1
    exact lookup_none_iff.1 hl (by rw [h1];exact List.mem_map_of_mem hr)
theorem erase_skip {α:Type} (l:List α) (o:Nat):(l.take (o+1)).eraseIdx o=(l.take o).eraseIdx o:=by
 rw [List.eraseIdx_of_length_le (show (l.take o).length≤o by simp;omega)]
 by_cases h:o<l.length
 ·rw [List.take_succ_eq_append_getElem h,List.eraseIdx_append_of_length_le (by simp;omega)]
  have:o - (l.take o).length=0:=by simp;omega
  rw [this];simp
 ·rw [List.take_of_length_le (by omega),List.take_of_length_le (by omega),List.eraseIdx_of_length_le (by omega)]
theorem erase_take {α:Type} (l:List α) (d:α) {o k:Nat} (hk:k<l.length) (hne:k≠o):(l.take (k+1)).eraseIdx o=(l.take k).eraseIdx o++[l.getD k d]:=by
 have e:l.take (k+1)=l.take k++[l.getD k d]:=by rw [List.take_succ_eq_append_getElem hk];simp [List.getD_eq_getElem?_getD,hk]
 rw [e]
 by_cases h:o<k
 ·rw [List.eraseIdx_append_of_lt_length (by simp;omega)]
 ·rw [List.eraseIdx_of_length_le (show (l.take k).length≤o by simp;omega),List.eraseIdx_of_length_le (by simp;omega)]
theorem erase_filter {a:Nat}:∀ (os:List O),(os.map O.id).Nodup→oix a os<os.length→os.eraseIdx (oix a os)=os.filter (fun o=>o.id != a)
 | [],_,h=>by simp at h
 | o :: os,hn,h=>by
  simp only [List.map_cons,List.nodup_cons] at hn
  by_cases ho:o.id=a
  ·have e:oix a (o :: os)=0:=by unfold oix;simp [List.findIdx_cons,ho]
   have hf:(o.id != a)=false:=by simp [ho]
   rw [e]
   simp only [List.eraseIdx_cons_zero,List.filter,hf]
   rw [eq_comm,List.filter_eq_self]
   intro x hx
   have:x.id≠a:=fun q=>hn.1 (by rw [ho,← q];exact List.mem_map_of_mem hx)
   simpa using this
  ·have hb:(o.id == a)=false:=by simpa using ho
   have e:oix a (o :: os)=oix a os+1:=by unfold oix;simp [List.findIdx_cons,hb]
   have hf:(o.id != a)=true:=by simp [ho]
   rw [e] at h ⊢
   simp only [List.eraseIdx_cons_succ,List.filter,hf]
   rw [erase_filter os hn.2 (by simpa using h)]
theorem erase_getD {α:Type} (l:List α) (d:α) (o i:Nat):(l.eraseIdx o).getD i d=l.getD (if i<o then i else i+1) d:=by
 rw [List.getD_eq_getElem?_getD,List.getElem?_eraseIdx,List.getD_eq_getElem?_getD]
 split <;> rfl
end Go.Proofs.YtgcedalggnmooaaGreatDoor
namespace Go.Proofs.YtgcedalggnmooaaGreatDoor
open Go.RowKit
theorem own_down {w:World} {base e size n:Nat} {v:Value} {xs:List Value} (h:w.ownsRow base e size v n xs):w.ownsRow 0 e size v n xs:=by
 refine ⟨h.1,?_⟩
 rcases h.2 with h | ⟨g,cap,cur,a,b,c⟩
 ·exact Or.inl h
 ·exact Or.inr ⟨g,cap,cur,a,Nat.zero_le _,c⟩
theorem cell_three_new (w:World) (x y z:Value) (t:TypeId):∀ (j:Nat) (u:Value),[x,y,z][j]?=some u→(w.alloc (.cells #[x,y,z] t)).cell? (Addr.add ⟨w.heap.size,0,none⟩ j)=some u:=fun j u hj =>
 World.news_of_block (w:=w.alloc (.cells #[x,y,z] t)) (heap_alloc_new w _) j u hj
theorem LB_erase {ro:Ro} {ov':Value} {ox b:Nat} (h:LB { ro with ov:=ov',lvs:=ro.lvs.eraseIdx ox } b):LB ro b:=by
 obtain ⟨i,hi,hb⟩:=h
 have hb':((ro.lvs.eraseIdx ox).getD i default).ownBlock=some b:=hb
 have hi':i<(ro.lvs.eraseIdx ox).length:=hi
 rw [erase_getD] at hb'
 refine ⟨_,?_,hb'⟩
 rw [List.length_eraseIdx] at hi'
 split at hi' <;> split <;> omega
theorem RV.removed {rcs:List (Nat × Nat)} {w w2:World} {R:Nat} {v:Value} {td:Nat} {rec:ByteArray} {fs:List Value} {ls:List L} {os:List O} {ro:Ro} (h:RV os rcs ro w R v td rec fs ls) {ox:Nat} {ov':Value} (hx:ox<os.length) (hb:Below w.heap.size w w2) (hown:w2.ownsRow w.heap.size 132 3 ov' (os.eraseIdx ox).length (oflat (os.eraseIdx ox) (ro.lvs.eraseIdx ox))) :
  RV (os.eraseIdx ox) rcs { ro with ov:=ov',lvs:=ro.lvs.eraseIdx ox } (w2.setCell ⟨R,2,none⟩ ov') R v td rec fs ls:=by
 have hR2:=(hb.block R (blk_lt h.store)).trans h.store
 have hall:∀ (b:Nat) (cs:Array Value) (t:TypeId),w.heap[b]?=some (.cells cs t (0,0))→t≠42→(w2.setCell ⟨R,2,none⟩ ov').heap[b]?=w.heap[b]?:=fun b cs t hb' ht2=>by
  rw [Below.heap_setCell _ _ _ _ (ty_ne hb' h.store ht2)];exact hb.block b (blk_lt hb')
 refine ⟨?_,own_congr h.row (fun g hg'=>by obtain ⟨cs,hcs⟩:=own_ty h.row hg';exact hall _ _ _ hcs (by decide)),h.flen,h.fro,⟨?_,?_,fun i hi=>?_,?_⟩,h.today,h.ok,h.room,h.fam,h.rc⟩
 ·have:=heap_setCell_same w2 R 2 _ 42 ov' hR2
  simpa using this
 ·exact own_down (hown.kept (grownBy_setCell w2 ⟨R,2,none⟩ ov') (Or.inr (fun e=>by
   obtain ⟨cs,hc⟩:=own_ty hown (g:=R) e
   exact ty_ne hR2 hc (by decide) rfl)))
 ·show (ro.lvs.eraseIdx ox).length=_
  rw [List.length_eraseIdx,List.length_eraseIdx,h.ord.llen]
 ·have hi2:(if i<ox then i else i+1)<os.length:=by
   rw [List.length_eraseIdx,if_pos hx] at hi
   split <;> omega
  show (w2.setCell ⟨R,2,none⟩ ov').ownsRow 0 181 2 ((ro.lvs.eraseIdx ox).getD i default) _ _
  rw [erase_getD,erase_getD]
  exact own_congr (h.ord.lines _ hi2) (fun g hg'=>by obtain ⟨cs,hcs⟩:=own_ty (h.ord.lines _ hi2) hg';exact hall _ _ _ hcs (by decide))
 ·have hf:=h.ord.fd.congr (w':=w2.setCell ⟨R,2,none⟩ ov') (fun g hg'=>by obtain ⟨cs,hcs⟩:=h.ord.fd.ty hg';exact hall _ _ _ hcs (by decide))
  refine ⟨hf.rrow,hf.flen,hf.frm,fun g hg'=>⟨fun hl=>(hf.apart g hg').1 (LB_erase hl),(hf.apart g hg').2⟩⟩
theorem OB_removed {ro:Ro} {ov':Value} {ox n:Nat} (hn:∀ b,ov'.ownBlock=some b→n≤b):∀ b,OB { ro with ov:=ov',lvs:=ro.lvs.eraseIdx ox } b→OB ro b∨n≤b:=by
 intro b hb
 rcases hb with hb | hb | hb
 ·exact Or.inr (hn b hb)
 ·exact Or.inl (Or.inr (Or.inl (LB_erase hb)))
 ·exact Or.inl (Or.inr (Or.inr hb))
end Go.Proofs.YtgcedalggnmooaaGreatDoor
