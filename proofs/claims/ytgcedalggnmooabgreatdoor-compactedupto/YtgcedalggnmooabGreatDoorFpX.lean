import Derived.Test.YtgcedalggnmooabGreatDoorFgX
import Derived.Test.YtgcedalggnmooabGreatDoorFhX
import Derived.Test.YtgcedalggnmooabGreatDoorWireAX
set_option linter.unusedSimpArgs false
set_option linter.unusedVariables false
set_option maxRecDepth 100000
namespace Go.Proofs.YtgcedalggnmooabGreatDoor
open Go.RowKit
theorem rdLot_cs {num com:Nat} {l r:List UInt8} {x:L} (h:rdLot num com l=some (x,r)):Cs x:=by
 unfold rdLot at h
 rcases h1:rdB 1 2147483647 l with _ | ⟨n1,r1⟩
 ·rw [h1] at h;cases h
 rcases h2:rdB 0 2147483647 r1 with _ | ⟨n2,r2⟩
 ·simp only [h1,h2,Option.bind_some,Option.bind_none] at h;cases h
 rcases h3:rdB 1 com r2 with _ | ⟨n3,r3⟩
 ·simp only [h1,h2,h3,Option.bind_some,Option.bind_none] at h;cases h
 rcases h4:rdB 0 2147483647 r3 with _ | ⟨n4,r4⟩
 ·simp only [h1,h2,h3,h4,Option.bind_some,Option.bind_none] at h;cases h
 rcases h5:rdB 0 2147483647 r4 with _ | ⟨n5,r5⟩
 ·simp only [h1,h2,h3,h4,h5,Option.bind_some,Option.bind_none] at h;cases h
 rcases h6:rdB 0 2147483647 r5 with _ | ⟨n6,r6⟩
 ·simp only [h1,h2,h3,h4,h5,h6,Option.bind_some,Option.bind_none] at h;cases h
 rcases h7:rdB 0 2147483647 r6 with _ | ⟨n7,r7⟩
 ·simp only [h1,h2,h3,h4,h5,h6,h7,Option.bind_some,Option.bind_none] at h;cases h
 rcases h8:rdPars r7 with _ | ⟨ps,r8⟩
 ·simp only [h1,h2,h3,h4,h5,h6,h7,h8,Option.bind_some,Option.bind_none] at h;cases h
 simp only [h1,h2,h3,h4,h5,h6,h7,h8,Option.bind_some] at h
 have b4:=(rdB_some h4).2.1
 have b5:=(rdB_some h5).2.1
 have b6:=(rdB_some h6).2.1
 have b7:=(rdB_some h7).2.1
 cases h9:(if ps.length=0 then rd1 r8 else some ((ps.map Prod.snd).sum,r8)) with
 | none=>rw [h9] at h;cases h
 | some gt =>
  rw [h9] at h
  simp only [Option.bind_some] at h
  split at h
  ·rename_i hc
   cases h
   exact ⟨hc.2,b4,b5,b6,b7⟩
  ·cases h
theorem rdLs_all {P:L→Prop} {c:Nat} (hP:∀ num l x r,rdLot num c l=some (x,r)→P x):∀ {k p:Nat} {sl sl':List (Option L)} {l r:List UInt8},rdLs c k p sl l=some (sl',r)→(∀ x,some x ∈ sl→P x)→(∀ x,some x ∈ sl'→P x)∧r.length≤l.length∧sl'.length=sl.length
 | 0,p,sl,sl',l,r,h,hs=>by simp only [rdLs,Option.some.injEq,Prod.mk.injEq] at h;obtain ⟨rfl,rfl⟩:=h;exact ⟨hs,Nat.le_refl _,rfl⟩
 | k+1,p,sl,sl',l,r,h,hs=>by
  rw [rdLs] at h
  cases h1:rdB (p+1) 2147483647 l with
  | none=>rw [h1] at h;cases h
  | some a =>
   obtain ⟨m,q⟩:=a
   rw [h1] at h
   simp only [Option.bind_some] at h
   cases h2:rdLot m c q with
   | none=>rw [h2] at h;cases h
   | some a2 =>
    obtain ⟨x,q2⟩:=a2
    rw [h2] at h
    simp only [Option.bind_some] at h
    split at h
    ·obtain ⟨z1,z2,z3⟩:=rdLs_all hP h (fun y hy=>by
      rcases List.mem_or_eq_of_mem_set hy with hy | hy
      ·exact hs y hy
      ·cases hy;exact hP _ _ _ _ h2)
     have:=(rdB_some h1).2.2
     have:=(rdLot_facts h2).2.2.2.2.2.2
     exact ⟨z1,by omega,by rw [z3,List.length_set]⟩
    ·cases h
theorem tfk_all {P:L→Prop} (hg:∀ x n,P x→P (gvL x n)) (l:L):∀ {ps:List (Nat × Nat)} {e e':Nat} {ls ls':List L},tfk l ps e ls=some (ls',e')→(∀ x ∈ ls,P x)→(∀ x ∈ ls',P x)∧ls'.length=ls.length
 | [],e,e',ls,ls',h,hs=>by simp only [tfk,Option.some.injEq,Prod.mk.injEq] at h;obtain ⟨rfl,rfl⟩:=h;exact ⟨hs,rfl⟩
 | p :: ps,e,e',ls,ls',h,hs=>by
  rw [tfk] at h
  split at h
  ·rename_i hc
   obtain ⟨z1,z2⟩:=tfk_all hg l h (fun x hx=>by
    rcases List.mem_or_eq_of_mem_set hx with hx | rfl
    ·exact hs x hx
    ·exact hg _ _ (hs _ (mem_getD hc.1)))
   exact ⟨z1,by rw [z2,List.length_set]⟩
  ·cases h
theorem tfp_all {P:L→Prop} (hg:∀ x n,P x→P (gvL x n)) {ls ls':List L} {i:Nat} (h:tfp ls i=some ls') (hs:∀ x ∈ ls,P x):(∀ x ∈ ls',P x)∧ls'.length=ls.length:=by
 unfold tfp at h
 split at h
 ·cases h;exact ⟨hs,rfl⟩
 ·cases h1:tfk (ls.getD i L0) (ls.getD i L0).par 2147483647 ls with
  | none=>rw [h1] at h;cases h
  | some a =>
   obtain ⟨l2,e2⟩:=a
   rw [h1] at h
   simp only [Option.bind_some] at h
   split at h
   ·cases h;exact tfk_all hg _ h1 hs
   ·cases h
theorem tfA_all {P:L→Prop} (hg:∀ x n,P x→P (gvL x n)):∀ {k i:Nat} {ls ls':List L},tfA k i ls=some ls'→(∀ x ∈ ls,P x)→(∀ x ∈ ls',P x)∧ls'.length=ls.length
 | 0,i,ls,ls',h,hs=>by simp only [tfA,Option.some.injEq] at h;subst h;exact ⟨hs,rfl⟩
 | k+1,i,ls,ls',h,hs=>by
  rw [tfA] at h
  cases h1:tfp ls i with
  | none=>rw [h1] at h;cases h
  | some l2 =>
   rw [h1] at h
   simp only [Option.bind_some] at h
   obtain ⟨a1,a2⟩:=tfp_all hg h1 hs
   obtain ⟨b1,b2⟩:=tfA_all hg h a1
   exact ⟨b1,by rw [b2,a2]⟩
theorem rdLots_cs {ls:List L} {l r:List UInt8} (h:rdLots l=some (ls,r)):(∀ x ∈ ls,Cs x)∧r.length≤l.length:=by
 unfold rdLots at h
 rcases h1:rdB 0 30 l with _ | ⟨c,r1⟩
 ·rw [h1] at h;cases h
 rcases h2:rd1 r1 with _ | ⟨d,r2⟩
 ·simp only [h1,h2,Option.bind_some,Option.bind_none] at h;cases h
 simp only [h1,h2,Option.bind_some] at h
 split at h
 ·rcases h3:rdLs c c 0 (List.replicate c none) r2 with _ | ⟨sl,r3⟩
  ·rw [h3] at h;cases h
  rw [h3] at h
  simp only [Option.bind_some] at h
  rcases h4:tfA c 0 (sl.map fun o=>o.getD L0) with _ | ls4
  ·rw [h4] at h;cases h
  rw [h4] at h
  simp only [Option.bind_some,Option.some.injEq,Prod.mk.injEq] at h
  obtain ⟨rfl,rfl⟩:=h
  obtain ⟨z1,z2,z3⟩:=rdLs_all (P:=Cs) (fun _ _ _ _ hh=>rdLot_cs hh) h3 (fun x hx=>by simp at hx)
  have:=(rdB_some h1).2.2
  have:=rd1_len h2
  refine ⟨(tfA_all (P:=Cs) (fun x n hx=>hx) h4 (fun x hx=>?_)).1,by omega⟩
  obtain ⟨o,ho,rfl⟩:=List.mem_map.1 hx
  cases o with
  | none=>exact ⟨by show 0≤_;omega,by show 0≤_;omega,by show 0≤_;omega,by show 0≤_;omega,by show 0≤_;omega⟩
  | some x=>exact z1 x ho
 ·cases h
theorem rdLn_cnt {ls:List L} {g:Nat}:∀ {k p:Nat} {acc ln:List (Nat × Nat)} {l r:List UInt8},rdLn ls g k p acc l=some (ln,r)→(∀ q ∈ acc,q.2≤2147483647)→∀ q ∈ ln,q.2≤2147483647
 | 0,p,acc,ln,l,r,h,ha=>by simp only [rdLn,Option.some.injEq,Prod.mk.injEq] at h;obtain ⟨rfl,rfl⟩:=h;exact ha
 | k+1,p,acc,ln,l,r,h,ha=>by
  rw [rdLn] at h
  cases h1:rdB (p+1) 2147483647 l with
  | none=>rw [h1] at h;cases h
  | some a =>
   obtain ⟨m,q⟩:=a
   rw [h1] at h
   simp only [Option.bind_some] at h
   split at h
   ·cases h2:rdB 1 2147483647 q with
    | none=>rw [h2] at h;cases h
    | some a2 =>
     obtain ⟨c,q2⟩:=a2
     rw [h2] at h
     simp only [Option.bind_some] at h
     exact rdLn_cnt h (fun x hx=>by
      rcases List.mem_append.1 hx with hx | hx
      ·exact ha x hx
      ·simp at hx;subst hx;exact (rdB_some h2).2.1)
   ·cases h
theorem rdOs_of {ls:List L}:∀ {k p:Nat} {acc os:List O} {l r:List UInt8},rdOs ls k p acc l=some (os,r)→((acc.map O.id).Nodup∧(∀ o ∈ acc,o.id≤p∧o.id≤2147483647)∧∀ o ∈ acc,∀ q ∈ o.lines,q.2≤2147483647)→((os.map O.id).Nodup∧(∀ o ∈ os,o.id≤2147483647)∧∀ o ∈ os,∀ q ∈ o.lines,q.2≤2147483647)∧os.length=acc.length+k∧r.length≤l.length
 | 0,p,acc,os,l,r,h,ha=>by simp only [rdOs,Option.some.injEq,Prod.mk.injEq] at h;obtain ⟨rfl,rfl⟩:=h;exact ⟨⟨ha.1,fun o ho=>(ha.2.1 o ho).2,ha.2.2⟩,rfl,Nat.le_refl _⟩
 | k+1,p,acc,os,l,r,h,ha=>by
  rw [rdOs] at h
  rcases h1:rdB (p+1) 2147483647 l with _ | ⟨m,q1⟩
  ·rw [h1] at h;cases h
  rcases h2:rdB 1 2147483647 q1 with _ | ⟨g,q2⟩
  ·simp only [h1,h2,Option.bind_some,Option.bind_none] at h;cases h
  rcases h3:rdLines ls g q2 with _ | ⟨ln,q3⟩
  ·simp only [h1,h2,h3,Option.bind_some,Option.bind_none] at h;cases h
  simp only [h1,h2,h3,Option.bind_some] at h
  obtain ⟨x1,x2,x3⟩:=rdB_some h1
  have y3:=(rdB_some h2).2.2
  have z3:=(rdLines_facts h3).2
  have hcn:∀ q ∈ ln,q.2≤2147483647:=by
   unfold rdLines at h3
   rcases h4:rdB 1 30 q2 with _ | ⟨k4,q4⟩
   ·rw [h4] at h3;cases h3
   ·rw [h4] at h3
    exact rdLn_cnt h3 (fun q hq=>by simp at hq)
  obtain ⟨w1,w2,w3⟩:=rdOs_of h ⟨by
   rw [List.map_append,List.nodup_append]
   refine ⟨ha.1,by simp,fun a ha' b hb e=>?_⟩
   simp at hb
   obtain ⟨o,ho,rfl⟩:=List.mem_map.1 ha'
   have:=(ha.2.1 o ho).1
   omega,fun o ho=>by
   rcases List.mem_append.1 ho with ho | ho
   ·have:=ha.2.1 o ho;omega
   ·simp at ho;subst ho;exact ⟨Nat.le_refl _,x2⟩,fun o ho=>by
   rcases List.mem_append.1 ho with ho | ho
   ·exact ha.2.2 o ho
   ·simp at ho;subst ho;exact hcn⟩
  exact ⟨w1,by rw [w2,List.length_append,List.length_singleton];omega,by omega⟩
theorem rdOrders_of {ls:List L} {os:List O} {l r:List UInt8} (h:rdOrders ls l=some (os,r)):OF os∧r.length≤l.length:=by
 unfold rdOrders at h
 rcases h1:rdB 0 10 l with _ | ⟨k,q⟩
 ·rw [h1] at h;cases h
 rw [h1] at h
 simp only [Option.bind_some] at h
 obtain ⟨_,x1,x2⟩:=rdB_some h1
 obtain ⟨⟨a,b,c⟩,d,e⟩:=rdOs_of h ⟨by simp,fun o ho=>by simp at ho,fun o ho=>by simp at ho⟩
 exact ⟨⟨a,by rw [d];simp;omega,b,c⟩,by omega⟩
def rdState:List UInt8→Option (Nat × List L × List O × List (Nat × Nat))
 | []=>none
 | c :: r=>if c=13 then (rdB 0 2147483647 r).bind fun d=>(rdLots d.2).bind fun x=>(rdOrders x.1 x.2).bind fun y=>(rdRecs x.1 y.2).bind fun z=>if z.2=[]∧x.1.all (adB y.1)=true then some (d.1,x.1,y.1,z.1) else none else none
end Go.Proofs.YtgcedalggnmooabGreatDoor
namespace Go.Proofs.YtgcedalggnmooabGreatDoor
open Go.RowKit
theorem bst_of (s:ByteArray):bst s.data.toList=s:=by cases s;simp [bst]
def newSW (w:World):World:=(((w.alloc (.map #[] 0)).alloc (.map #[] 0)).alloc (.map #[] 0)).alloc (.cells #[.int .i64 0,.slice none 0 0,.map (some w.heap.size),.map (some (w.heap.size+1)),.map (some (w.heap.size+1+1))] 80)
theorem alloc_at {w:World} {k:Nat} {o o':Obj} (h:w.heap[k]?=some o):(w.alloc o').heap[k]?=some o:=((al1 w o').block k (blk_lt h)).trans h
theorem alloc_is (w:World) (o:Obj) {k:Nat} (hk:k=w.heap.size):(w.alloc o).heap[k]?=some o:=by subst hk;exact heap_alloc_new w o
theorem newS_facts (w:World):Sb (newSW w) (w.heap.size+3) 0 (.slice none 0 0) ⟨w.heap.size+1+1,w.heap.size,w.heap.size+1⟩∧Mp [] [] (newSW w) ⟨w.heap.size+1+1,w.heap.size,w.heap.size+1⟩∧Below w.heap.size w (newSW w):=by
 have b0:(newSW w).heap[w.heap.size]?=some (.map #[] 0):=alloc_at (alloc_at (alloc_at (alloc_is _ _ rfl)))
 have b1:(newSW w).heap[w.heap.size+1]?=some (.map #[] 0):=alloc_at (alloc_at (alloc_is _ _ (by first | (simp;done) | (simp;omega))))
 have b2:(newSW w).heap[w.heap.size+1+1]?=some (.map #[] 0):=alloc_at (alloc_is _ _ (by first | (simp;done) | (simp;omega)))
 have b3:(newSW w).heap[w.heap.size+3]?=some (.cells #[.int .i64 0,.slice none 0 0,.map (some w.heap.size),.map (some (w.heap.size+1)),.map (some (w.heap.size+1+1))] 80):=alloc_is _ _ (by first | (simp;done) | (simp;omega))
 refine ⟨b3,⟨⟨.map [],owns_nil b2,⟨rfl,fun a b _ _=>rfl,fun kl h=>by cases h⟩⟩,⟨by simp,by simp,by simp⟩,⟨.map [],owns_nil b0,⟨rfl,fun n _=>rfl,fun n _=>rfl,fun kl h=>by cases h⟩⟩,⟨.map [],owns_nil b1,⟨rfl,fun a b _ _=>rfl,fun a b _ _=>rfl⟩⟩,by show w.heap.size+1+1≠w.heap.size;omega,by show w.heap.size+1+1≠w.heap.size+1;omega,by show w.heap.size≠w.heap.size+1;omega⟩,?_⟩
 exact ((((Below.refl _ _).alloc (Nat.le_refl _) _).alloc (by simp) _).alloc (by first | (simp;done) | (simp;omega)) _).alloc (by first | (simp;done) | (simp;omega)) _
set_option maxHeartbeats 800000 in
theorem newS_any (w:World):Calls Tryz.prog 29 #[] w fun e w'=>∃ S M,e=.returned (.pointer (some ⟨S,0,none⟩))∧Sb w' S 0 (.slice none 0 0) M∧Mp [] [] w' M∧Below w.heap.size w w'∧w.heap.size≤S∧w.heap.size≤M.r∧w.heap.size≤M.o∧w.heap.size≤M.h:=by
 have hmm:=@run_makeMap Tryz.prog
 go_enter Tryz.func29,Tryz.ntmps29
 go_wp2_with fail
 go_ret
 obtain ⟨h1,h2,h3⟩:=newS_facts w
 exact ⟨w.heap.size+3,_,rfl,h1,h2,h3,by omega,by show _≤w.heap.size+1+1;omega,by show _≤w.heap.size;omega,by show _≤w.heap.size+1;omega⟩
set_option maxHeartbeats 800000 in
theorem nrd_any (s:ByteArray) (w:World) :
  Calls Tryz.prog 44 #[.string s] w fun e w'=>e=.returned (.pointer (some ⟨w.heap.size,0,none⟩))∧w'=w.alloc (.cells #[.string s] 147):=by
 go_enter Tryz.func44,Tryz.ntmps44
 go_wp2_with fail
 go_ret
 exact ⟨rfl,rfl⟩
def StP (w:World) (X:Option (Nat × List L × List O × List (Nat × Nat))) (e:Ending) (w':World):Prop:=match X with
 | some (td,ls,os,rcs)=>∃ S,e=.returned (.pointer (some ⟨S,0,none⟩))∧PI os rcs (fun k=>w.heap.size≤k) w' S td ls∧Below w.heap.size w w'
 | none=>(∃ t v,e=.panicked [{ v:=.iface t v,recovered:=false }])∧Below w.heap.size w w'
set_option maxHeartbeats 6400000 in
theorem fromState_any (s:ByteArray) (hs:s.size≤1000000000) (w:World) (hg:Gl w) (hu:Gu w) :
  Calls Tryz.prog 60 #[.string s] w (StP w (rdState s.data.toList)):=by
 obtain ⟨l,HL⟩:∃ l,Hid (l=s.data.toList):=⟨_,rfl⟩
 have hsl:s=bst l:=by rw [HL.out,bst_of]
 have hll:l.length≤1000000000:=by
  have:l.length=s.size:=by rw [HL.out];simp
  omega
 rw [← HL.out]
 subst hsl
 obtain ⟨X,HX⟩:∃ X,Hid (X=rdState l):=⟨_,rfl⟩
 rw [← HX.out]
 have hNU:NU≤w.heap.size:=by
  obtain ⟨t,v,hc⟩:=hu
  have h1:=cell_lt hc
  have h2:=hg.2.2
  have h3:4<w.heap.size:=h1
  unfold NU;omega
 have ha:=al1 w (.cells #[.string (bst l)] 147)
 have hbx:=heap_alloc_new w (.cells #[.string (bst l)] 147)
 have hg1:=hg.below ha
 have hu1:Gu (w.alloc (.cells #[.string (bst l)] 147)):=by
  obtain ⟨t,v,hc⟩:=hu
  exact ⟨t,v,(ha.cell (cell_lt hc)).trans hc⟩
 obtain ⟨b,hbb⟩:∃ b,b=w.heap.size:=⟨_,rfl⟩
 have HBB:=hide hbb
 go_enter Tryz.func60,Tryz.ntmps60
 go_wp2_with (go_at_call 44;refine (nrd_any _ _).mono ?_;rintro _ w0 ⟨rfl,rfl⟩)
 rw [← HBB.out]
 rw [← hbb] at hbx
 have hwb:w.heap.size≤b:=by omega
 have hb:NU≤b:=by omega
 have k1:Kz (fun k=>w.heap.size≤k) b w (w.alloc (.cells #[.string (bst l)] 147)) l:=⟨kpB ha,hbx⟩
 have hZ:Zo (fun k=>w.heap.size≤k) b:=⟨fun k hk=>Nat.le_trans hNU hk,hwb⟩
 have HBE:Hid (∀ {w':World},Kp (fun k=>w.heap.size≤k) w w'→Below w.heap.size w w'):=fun {w'} k=>⟨k.os,k.tape,k.output,k.size,fun j hj=>k.block j hj (by show ¬ w.heap.size≤j;omega)⟩
 clear hbb ha hg1 hu1
 cases l with
 | nil =>
  have HXN:Hid (X=none):=by rw [Hid,HX.out];rfl
  refine (byte_break b (by unfold NU at hb;omega) (bst []) (by rw [bst_size];rfl) _ _ (k1.gl hZ hg) k1.rd).mono ?_
  intro e w1 hm
  obtain ⟨t,v,rfl⟩:=hm.1
  refine ⟨rfl,?_⟩
  show StP w X _ _
  rw [HXN.out]
  exact ⟨⟨t,v,rfl⟩,HBE.out (k1.broke hZ hm).2⟩
 | cons c r =>
  refine (byte_get b (bst (c :: r)) (by rw [bst_size];simp) _ _ k1.rd).mono ?_
  rintro _ w1 ⟨rfl,hd1⟩
  rw [bst_cut] at hd1
  have k2:=k1.step hZ (r:=r) hd1
  have hcv:(bst (c :: r))[0]'(by rw [bst_size];simp)=c:=rfl
  rw [hcv]
  have hc256:=c.toNat_lt
  clear hd1 hcv
  by_cases hc:c=13
  ·have hcb:((c.toNat:Int) == 13)=true:=by rw [hc];rfl
   have HXE:Hid (X=(rdB 0 2147483647 r).bind fun d=>(rdLots d.2).bind fun x=>(rdOrders x.1 x.2).bind fun y=>(rdRecs x.1 y.2).bind fun z=>if z.2=[]∧x.1.all (adB y.1)=true then some (d.1,x.1,y.1,z.1) else none):=by
    rw [Hid,HX.out,rdState,if_pos hc]
   have HK2:=hide k2
   have hrl:r.length≤1000000000:=by simp at hll;omega
   clear hc k1 k2 hbx HX
   generalize c.toNat=cn at *
   go_wp2_with fail
   refine (must_any true w1 (HK2.out.gu hZ hu)).mono ?_
   rintro _ w2 ⟨rfl,hm⟩
   rw [if_pos rfl] at hm
   subst hm
   go_wp2_with fail
   refine (newS_any w2).mono ?_
   rintro _ w3 ⟨S,M,rfl,hsb,hmp,hb3,hS,hMr,hMo,hMh⟩
   have k3:=HK2.out.after hb3
   have HK3:=hide k3
   have HSB:=hide hsb
   have HMP:=hide hmp
   have HBT:=hide (btw_any b hb r hrl 0 2147483647 (by omega) (by omega) w3 (k3.gl hZ hg) (k3.gu hZ hu) k3.rd)
   have hw2:=HK2.out.kp.size
   have hSw:w.heap.size≤S:=by omega
   have hRw:w.heap.size≤M.r:=by omega
   have hOw:w.heap.size≤M.o:=by omega
   have hHw:w.heap.size≤M.h:=by omega
   clear hb3 hsb hmp k3 HK2 hS hMr hMo hMh hw2
   go_wp2_with fail
   refine (HBT.out).mono ?_
   intro e w4 hm
   rcases h4:rdB 0 2147483647 r with _ | ⟨td,r4⟩
   ·rw [h4] at hm
    obtain ⟨t,v,rfl⟩:=hm.1
    refine ⟨rfl,?_⟩
    show StP w X _ _
    rw [show X=none by rw [HXE.out,h4];rfl]
    exact ⟨⟨t,v,rfl⟩,HBE.out (HK3.out.broke hZ hm).2⟩
   rw [h4] at hm
   obtain ⟨rfl,hd4⟩:=hm
   obtain ⟨_,htd,hl4⟩:=rdB_some h4
   have HXF:Hid (X=(rdLots r4).bind fun x=>(rdOrders x.1 x.2).bind fun y=>(rdRecs x.1 y.2).bind fun z=>if z.2=[]∧x.1.all (adB y.1)=true then some (td,x.1,y.1,z.1) else none):=by rw [Hid,HXE.out,h4];rfl
   have k4:=HK3.out.step hZ (r:=r4) hd4
   have hSb:S≠b:=ty_ne HSB.out HK3.out.here (by decide)
   have hs4:Sb w4 S 0 (.slice none 0 0) M:=(hd4.block S hSb).trans HSB.out
   have hm4:Mp [] [] w4 M:=HMP.out.congr (fun z es c hz=>hd4.block z (map_ne HK3.out.here hz).symm)
   have c0:w4.cell? ⟨S,0,none⟩=some (.int .i64 0):=by rw [blk_cell hs4];rfl
   have f0:=blk_free hs4 0
   have hs5:=heap_setCell_same w4 S 0 _ 80 (.int .i64 (td:Int)) hs4
   have hs5':Sb (w4.setCell ⟨S,0,none⟩ (.int .i64 (td:Int))) S td (.slice none 0 0) M:=hs5
   have HM5:Hid (Mp [] [] (w4.setCell ⟨S,0,none⟩ (.int .i64 (td:Int))) M):=hm4.congr (fun z es c hz=>Below.heap_setCell _ _ _ _ (map_ne hs4 hz).symm)
   have k5:Kz (fun k=>w.heap.size≤k) b w (w4.setCell ⟨S,0,none⟩ (.int .i64 (td:Int))) r4:=⟨k4.kp.setCell (p:=⟨S,0,none⟩) (Or.inl hSw) _,(Below.heap_setCell _ _ _ _ (Ne.symm hSb)).trans k4.here⟩
   have HSNM:Hid (∀ (es:Array MapEntry) (c:Nat),(w4.setCell ⟨S,0,none⟩ (.int .i64 (td:Int))).heap[S]?=some (.map es c)→False):=fun es c hz=>map_ne hs5 hz rfl
   have HLT:=hide (readLots_any b S hb (Nat.le_trans hNU hSw) r4 (by omega) _ (k5.gl hZ hg) (k5.gu hZ hu) k5.here td _ M hs5')
   have HK5:=hide k5
   clear hd4 h4 HXE HK3 HSB HMP HBT k4 hs4 hm4 hs5 hs5' k5
   go_wp2_with fail
   refine (HLT.out).mono ?_
   intro e w6 hm
   rcases h6:rdLots r4 with _ | ⟨ls,r6⟩
   ·rw [h6] at hm
    obtain ⟨⟨t,v,rfl⟩,hkp⟩:=hm
    refine ⟨rfl,?_⟩
    show StP w X _ _
    rw [show X=none by rw [HXF.out,h6];rfl]
    exact ⟨⟨t,v,rfl⟩,HBE.out (HK5.out.kp.trans (hkp.mono (fun z hz=>Or.inl (by rcases hz with rfl | rfl <;> assumption))))⟩
   rw [h6] at hm
   obtain ⟨rfl,⟨v6,bs,pvs,hpw,hsb,hlb,hlp,hlv⟩,hkt⟩:=hm
   have HXG:Hid (X=(rdOrders ls r6).bind fun y=>(rdRecs ls y.2).bind fun z=>if z.2=[]∧ls.all (adB y.1)=true then some (td,ls,y.1,z.1) else none):=by rw [Hid,HXF.out,h6];rfl
   obtain ⟨hCs,hl6⟩:=rdLots_cs h6
   have k6:Kz (fun k=>w.heap.size≤k) b w w6 r6:=⟨HK5.out.kp.trans (hkt.kp.mono (fun z hz=>Or.inl (by rcases hz with rfl | rfl <;> assumption))),hkt.here⟩
   have hm6:Mp [] [] w6 M:=HM5.out.congr (fun z es c hz=>hkt.kp.block z (blk_lt hz) (by
    rintro (rfl | rfl)
    ·exact map_ne HK5.out.here hz rfl
    ·have hss:(w4.setCell ⟨z,0,none⟩ (.int .i64 (td:Int))).heap[z]?=some (.map es c):=hz
     exact HSNM.out es c hss))
   have hp6:PR 128849018820 [] [] w6 S M v6 td bs pvs ls:=⟨hpw,hsb,hm6⟩
   have hw5:=HK5.out.kp.size
   have HIN:Hid (PIn (fun k=>w.heap.size≤k) S M v6 bs pvs):=⟨hSw,hRw,hOw,hHw,fun g hg=>Nat.le_trans hw5 (hlv g hg),fun k hk=>Nat.le_trans hw5 (hlb k hk),fun pv hpv q hq=>Nat.le_trans hw5 (hlp pv hpv q hq)⟩
   have HOR:=hide (readOrders_any hZ hHw hOw r6 (by omega) (k6.gl hZ hg) (k6.gu hZ hu) k6.here hp6)
   have HK6:=hide k6
   have HCS:=hide hCs
   clear hpw hsb hlb hlp hlv hkt h6 HXF HLT HM5 HK5 k6 hm6 hp6 hCs HSNM c0 f0 hw5
   go_wp2_with fail
   refine (HOR.out).mono ?_
   intro e w7 hm
   rcases h7:rdOrders ls r6 with _ | ⟨os,r7⟩
   ·rw [h7] at hm
    have hm':Bz (fun k=>w.heap.size≤k) w6 e w7:=hm
    obtain ⟨t,v,rfl⟩:=hm'.1
    refine ⟨rfl,?_⟩
    show StP w X _ _
    rw [show X=none by rw [HXG.out,h7];rfl]
    exact ⟨⟨t,v,rfl⟩,HBE.out (HK6.out.bz hm').2⟩
   rw [h7] at hm
   obtain ⟨rfl,hp7,hk7⟩:=hm
   have k7:=HK6.out.trans hk7
   obtain ⟨hOF,hl7⟩:=rdOrders_of h7
   have HXH:Hid (X=(rdRecs ls r7).bind fun z=>if z.2=[]∧ls.all (adB os)=true then some (td,ls,os,z.1) else none):=by rw [Hid,HXG.out,h7];rfl
   have HRC:=hide (readRecs_any hZ hRw r7 (by omega) (k7.gl hZ hg) (k7.gu hZ hu) k7.here hp7)
   have HK7:=hide k7
   have HOF:=hide hOF
   clear hp7 hk7 h7 HXG HOR HK6 k7 hOF
   go_wp2_with fail
   refine (HRC.out).mono ?_
   intro e w8 hm
   rcases h8:rdRecs ls r7 with _ | ⟨rcs,r8⟩
   ·rw [h8] at hm
    have hm':Bz (fun k=>w.heap.size≤k) w7 e w8:=hm
    obtain ⟨t,v,rfl⟩:=hm'.1
    refine ⟨rfl,?_⟩
    show StP w X _ _
    rw [show X=none by rw [HXH.out,h8];rfl]
    exact ⟨⟨t,v,rfl⟩,HBE.out (HK7.out.bz hm').2⟩
   rw [h8] at hm
   obtain ⟨rfl,hp8,hk8⟩:=hm
   have k8:=HK7.out.trans hk8
   have HXI:Hid (X=if r8=[]∧ls.all (adB os)=true then some (td,ls,os,rcs) else none):=by rw [Hid,HXH.out,h8];rfl
   have HK8:=hide k8
   have HP8:=hide hp8
   have cb:w8.cell? ⟨b,0,none⟩=some (.string (bst r8)):=by rw [blk_cell k8.here];rfl
   have hgl8:=k8.gl hZ hg
   clear h8 HXH HRC HK7 k8 hp8 hk8
   by_cases hr8:r8=[]
   ·subst hr8
    have HEN:=hide (end_ok b w8 cb)
    have HAD:=hide (addUp_any HP8.out (by omega) HOF.out HCS.out (HK8.out.gu hZ hu))
    clear cb hgl8
    go_wp2_with fail
    refine (HEN.out).mono ?_
    rintro _ w9 ⟨rfl,rfl⟩
    go_wp2_with fail
    refine (HAD.out).mono ?_
    intro e w10 hm
    cases hall:ls.all (adB os) with
    | true =>
     rw [hall] at hm
     obtain ⟨rfl,hb10⟩:=hm
     have HXS:Hid (X=some (td,ls,os,rcs)):=by rw [Hid,HXI.out,hall];simp
     have HP10:=hide (HP8.out.below hb10)
     have HB10:=hide (HBE.out (HK8.out.kp.after hb10))
     have HALL:=hide hall
     clear hb10 HEN HAD HK8 HP8 HXI hall
     go_wp2_with fail
     go_ret
     show StP w X _ _
     rw [HXS.out]
     refine ⟨S,rfl,⟨M,v6,bs,pvs,?_,HIN.out⟩,HB10.out⟩
     have p:=HP10.out
     refine ⟨p.sb,p.mp,p.pw.row,p.pw.len,p.pw.plen,p.pw.lot,p.pw.par,p.pw.nodup,htd,fun x hx=>?_,p.pw.room⟩
     have h1:=p.pw.ids x hx
     have h2:=p.pw.pars x hx
     have h3:=HCS.out x hx
     have h4:=List.all_eq_true.1 HALL.out x hx
     simp only [adB,Bool.and_eq_true,decide_eq_true_eq] at h4
     obtain ⟨h31,_⟩:=h3
     exact ⟨h1.1,h1.2.1,h1.2.2.2,h1.2.2.1,by omega,h31,h2.1,fun q hq=>(h2.2 q hq).1⟩
    | false =>
     rw [hall] at hm
     obtain ⟨⟨t,v,rfl⟩,hb10⟩:=hm
     refine ⟨rfl,?_⟩
     show StP w X _ _
     rw [show X=none by rw [HXI.out,if_neg (fun hc=>by rw [hall] at hc;cases hc.2)]]
     exact ⟨⟨t,v,rfl⟩,HBE.out (HK8.out.kp.after hb10)⟩
   ·obtain ⟨t,v,hc1⟩:=hgl8.2.1
    have hne:(bst r8).toList.isEmpty=false:=by
     rw [ByteArray.toList_eq,bst_list]
     cases r8 with
     | nil=>exact absurd rfl hr8
     | cons a b=>rfl
    have HEN:=hide (end_no b (bst r8) hne w8 cb t v hc1)
    have HXN:Hid (X=none):=by rw [Hid,HXI.out,if_neg (fun hc=>hr8 hc.1)]
    clear cb hgl8 hc1 hne hr8
    go_wp2_with fail
    refine (HEN.out).mono ?_
    rintro _ w9 ⟨rfl,rfl⟩
    refine ⟨rfl,?_⟩
    show StP w X _ _
    rw [HXN.out]
    exact ⟨⟨t,v,rfl⟩,HBE.out HK8.out.kp⟩
  ·have hcb:((c.toNat:Int) == 13)=false:=by
    rw [beq_eq_false_iff_ne]
    intro e
    exact hc (UInt8.toNat_inj.1 (by show c.toNat=13;omega))
   have HXN:Hid (X=none):=by rw [Hid,HX.out,rdState,if_neg hc]
   have HK2:=hide k2
   clear hc k1 k2 hbx
   generalize c.toNat=cn at *
   go_wp2_with fail
   refine (must_any false w1 (HK2.out.gu hZ hu)).mono ?_
   rintro _ w2 ⟨rfl,hm⟩
   rw [if_neg (by simp)] at hm
   obtain ⟨t,v,rfl⟩:=hm
   refine ⟨rfl,?_⟩
   show StP w X _ _
   rw [HXN.out]
   exact ⟨⟨t,v,rfl⟩,HBE.out HK2.out.kp⟩
end Go.Proofs.YtgcedalggnmooabGreatDoor
