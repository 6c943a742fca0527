import Derived.Test.YtgcedalggnmooabGreatDoorR0X
import Derived.Test.YtgcedalggnmooabGreatDoorR1X
import Derived.Test.YtgcedalggnmooabGreatDoorSqX
import Derived.Deep.AppendLies
import Derived.Deep.RegionHeld3
set_option linter.unusedSimpArgs false
set_option linter.unusedVariables false
set_option maxRecDepth 100000
namespace Go.Proofs.YtgcedalggnmooabGreatDoor
open Go.RowKit
def nxA (x:Nat→Nat) (n:Nat):Nat→Option Nat
 | 0=>none
 | k+1=>if n<x k∧(∀ b,nxA x n k=some b→x k<x b) then some k else nxA x n k
def ixV (o:Option Nat):Int:=match o with | none=>-1 | some i=>(i:Int)
theorem nxA_lt {x:Nat→Nat} {n:Nat}:∀ {k i:Nat},nxA x n k=some i→i<k∧n<x i
 | 0,i,h=>by simp [nxA] at h
 | k+1,i,h=>by
  rw [nxA] at h
  split at h
  ·rename_i hc
   cases h;exact ⟨by omega,hc.1⟩
  ·have:=nxA_lt h;exact ⟨by omega,this.2⟩
end Go.Proofs.YtgcedalggnmooabGreatDoor
namespace Go.Proofs.YtgcedalggnmooabGreatDoor
open Go.RowKit
def insK (p:Nat × Nat) (out:List (Nat × Nat)):Nat→List (Nat × Nat) × Bool
 | 0=>([],false)
 | k+1=>if prtB p (out.getD k (0,0))=true∧(insK p out k).2=false then ((insK p out k).1++[p]++[out.getD k (0,0)],true) else ((insK p out k).1++[out.getD k (0,0)],(insK p out k).2)
def insP (p:Nat × Nat) (out:List (Nat × Nat)):List (Nat × Nat):=if (insK p out out.length).2=true then (insK p out out.length).1 else (insK p out out.length).1++[p]
def prtN (l:List (Nat × Nat)):Nat→List (Nat × Nat)
 | 0=>[]
 | k+1=>insP (l.getD k (0,0)) (prtN l k)
def prtS (l:List (Nat × Nat)):List (Nat × Nat):=prtN l l.length
theorem insK_len (p:Nat × Nat) (out:List (Nat × Nat)):∀ k,(insK p out k).1.length=k+(if (insK p out k).2=true then 1 else 0)
 | 0=>rfl
 | k+1=>by
  have ih:=insK_len p out k
  rw [insK]
  split
  ·rename_i h
   rw [h.2] at ih
   simp at ih ⊢;omega
  ·simp only [List.length_append,List.length_cons,List.length_nil]
   omega
theorem insP_len (p:Nat × Nat) (out:List (Nat × Nat)):(insP p out).length=out.length+1:=by
 have:=insK_len p out out.length
 unfold insP
 split
 ·rename_i h;rw [if_pos h] at this;exact this
 ·rename_i h;rw [if_neg h] at this;rw [List.length_append,this];simp
theorem prtN_len (l:List (Nat × Nat)):∀ k,(prtN l k).length=k
 | 0=>rfl
 | k+1=>by rw [prtN,insP_len,prtN_len l k]
theorem insK_mem {p q:Nat × Nat} {out:List (Nat × Nat)}:∀ {k},k≤out.length→q ∈ (insK p out k).1→q=p∨q ∈ out
 | 0,_,h=>by simp [insK] at h
 | k+1,hk,h=>by
  have hm:out.getD k (0,0) ∈ out:=by simp [List.getD_eq_getElem?_getD,show k<out.length by omega]
  rw [insK] at h
  split at h
  ·simp only [List.mem_append,List.mem_singleton] at h
   rcases h with (h | h) | h
   ·exact insK_mem (by omega) h
   ·exact Or.inl h
   ·exact Or.inr (h ▸ hm)
  ·simp only [List.mem_append,List.mem_singleton] at h
   rcases h with h | h
   ·exact insK_mem (by omega) h
   ·exact Or.inr (h ▸ hm)
end Go.Proofs.YtgcedalggnmooabGreatDoor
namespace Go.Proofs.YtgcedalggnmooabGreatDoor
open Go.RowKit
def flK (l:List (Nat × Nat)) (k:Nat):List Nat:=l.length :: (l.take k).flatMap (fun p=>[p.1,p.2])
def flP (l:List (Nat × Nat)):List Nat:=l.length :: l.flatMap (fun p=>[p.1,p.2])
theorem flK_succ {l:List (Nat × Nat)} {k:Nat} (hk:k<l.length):flK l (k+1)=flK l k++[(l.getD k (0,0)).1,(l.getD k (0,0)).2]:=by
 have e:l.getD k (0,0)=l[k]:=by simp [List.getD_eq_getElem?_getD,hk]
 unfold flK
 rw [List.take_succ_eq_append_getElem hk,List.flatMap_append,e];rfl
theorem flK_len {l:List (Nat × Nat)}:∀ {k:Nat},k≤l.length→(flK l k).length=1+2 * k
 | 0,_=>rfl
 | k+1,hk=>by rw [flK_succ (by omega),List.length_append,flK_len (show k≤l.length by omega)];simp;omega
theorem flK_all (l:List (Nat × Nat)):flK l l.length=flP l:=by unfold flK flP;rw [List.take_length]
end Go.Proofs.YtgcedalggnmooabGreatDoor
namespace Go.Proofs.YtgcedalggnmooabGreatDoor
open Go.RowKit
def lotN (l:L):List Nat:=[l.id,l.goods,l.expiry,l.place,l.free,l.held,l.shipped,l.scrapped]++flP (dpar l.par)++(if (dpar l.par).length=0 then [l.got] else [])
def ordN (o:O):List Nat:=[o.id,o.goods]++flP (prtS o.lines)
def enumI (x:Nat→Nat) (N:Nat):Nat→Nat→List Nat
 | 0,_=>[]
 | f+1,n=>match nxA x n N with
  | none=>[]
  | some i=>i :: enumI x N f (x i)
def cntA (x:Nat→Nat) (n:Nat):Nat→Nat
 | 0=>0
 | k+1=>cntA x n k+(if n<x k then 1 else 0)
theorem cntA_le (x:Nat→Nat) (n:Nat):∀ k,cntA x n k≤k
 | 0=>Nat.le_refl _
 | k+1=>by
  have:=cntA_le x n k
  rw [cntA];split <;> omega
theorem cntA_mono (x:Nat→Nat) {n m:Nat} (h:n≤m):∀ k,cntA x m k≤cntA x n k
 | 0=>Nat.le_refl _
 | k+1=>by
  have:=cntA_mono x h k
  rw [cntA,cntA]
  split
  ·rw [if_pos (by omega)];omega
  ·split <;> omega
theorem cntA_lt (x:Nat→Nat) {n i:Nat} (hx:n<x i):∀ k,i<k→cntA x (x i) k<cntA x n k
 | 0,h=>absurd h (by omega)
 | k+1,h=>by
  rw [cntA,cntA]
  by_cases hik:i=k
  ·subst hik
   have:=cntA_mono x (Nat.le_of_lt hx) i
   rw [if_neg (by omega),if_pos hx];omega
  ·have:=cntA_lt x hx k (by omega)
   split
   ·rw [if_pos (by omega)];omega
   ·split <;> omega
def stL (ls:List L):List Nat:=(enumI (fun i=>(ls.getD i L0).id) ls.length (ls.length+1) 0).flatMap (fun i=>lotN (ls.getD i L0))
def stO (os:List O):List Nat:=(enumI (fun i=>(os.getD i O0).id) os.length (os.length+1) 0).flatMap (fun i=>ordN (os.getD i O0))
def stN (td:Nat) (os:List O) (rcs:List (Nat × Nat)) (ls:List L):List Nat:=[td,ls.length,ls.length]++stL ls++[os.length]++stO os++flP (prtS rcs)
def stB (td:Nat) (os:List O) (rcs:List (Nat × Nat)) (ls:List L):List UInt8:=13 :: Pl.toldB (stN td os rcs ls)
theorem lotN_len {l:L} (h:L.Ok l):(lotN l).length≤14:=by
 have h1:=dpar_len l.par
 have h2:=h.par.1
 have h3:(flP (dpar l.par)).length=1+2 * (dpar l.par).length:=by rw [← flK_all,flK_len (Nat.le_refl _)]
 unfold lotN
 simp only [List.length_append,List.length_cons,List.length_nil]
 split
 ·simp;omega
 ·simp;omega
theorem flatMap_len_le {f:Nat→List Nat} (b:Nat):∀ l:List Nat,(∀ i ∈ l,(f i).length≤b)→(l.flatMap f).length≤l.length * b
 | [],_=>by simp
 | i :: l,h=>by
  have:=flatMap_len_le b l (fun j hj=>h j (by simp [hj]))
  have h1:=h i (by simp)
  rw [List.flatMap_cons,List.length_append,List.length_cons,Nat.succ_mul];omega
theorem prtS_len (l:List (Nat × Nat)):(prtS l).length=l.length:=prtN_len l l.length
theorem ordN_len (o:O):(ordN o).length=3+2 * o.lines.length:=by
 have h3:(flP (prtS o.lines)).length=1+2 * o.lines.length:=by rw [← flK_all,flK_len (Nat.le_refl _),prtS_len]
 unfold ordN
 simp only [List.length_append,List.length_cons,List.length_nil,h3];omega
theorem news_lit (w1:World) (cs:Array Value) (t:TypeId) (b:Nat) (hb:b=w1.heap.size):∀ (j:Nat) (u:Value),cs.toList[j]?=some u→(w1.alloc (.cells cs t)).cell? (Addr.add ⟨b,0,none⟩ j)=some u:=by
 subst hb;exact World.news_of_block (heap_alloc_new w1 _)
end Go.Proofs.YtgcedalggnmooabGreatDoor
