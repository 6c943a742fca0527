import Derived.Test.YtgcedalggnmooabGreatDoorKFX
import Derived.Test.YtgcedalggnmooabGreatDoorKSX
import Derived.Test.YtgcedalggnmooabGreatDoorHnX
set_option linter.unusedSimpArgs false
set_option linter.unusedVariables false
set_option maxRecDepth 100000
namespace Go.Proofs.YtgcedalggnmooabGreatDoor
structure Gr (ls ls':List L):Prop where
 len:ls.length≤ls'.length
 old:∀ i,i<ls.length→(ls'.getD i L0).id=(ls.getD i L0).id∧(ls'.getD i L0).goods=(ls.getD i L0).goods
 new:∀ i,ls.length≤i→i<ls'.length→1≤(ls'.getD i L0).id∧(ls'.getD i L0).id≤12
theorem Gr.refl (ls:List L):Gr ls ls:=⟨Nat.le_refl _,fun _ _=>⟨rfl,rfl⟩,fun i h1 h2=>by omega⟩
theorem Gr.same {ls ls':List L} (hl:ls'.length=ls.length) (h:∀ i,i<ls.length→(ls'.getD i L0).id=(ls.getD i L0).id∧(ls'.getD i L0).goods=(ls.getD i L0).goods):Gr ls ls':=⟨by omega,h,fun i h1 h2=>by omega⟩
theorem Gr.set (ls:List L) (j:Nat) (l:L) (h:j<ls.length→l.id=(ls.getD j L0).id∧l.goods=(ls.getD j L0).goods):Gr ls (ls.set j l) :=
 Gr.same (List.length_set ..) (fun i hi=>by
  by_cases hij:i=j
  ·subst hij;rw [gset_eq hi];exact h hi
  ·rw [gset_ne hij];exact ⟨rfl,rfl⟩)
theorem Gr.snoc {ls ls':List L} (h:Gr ls ls') {l:L} (h1:1≤l.id) (h2:l.id≤12):Gr ls (ls'++[l]):=by
 have hlt:∀ i,i<ls'.length→(ls'++[l]).getD i L0=ls'.getD i L0:=fun i hi=>by simp [List.getD_eq_getElem?_getD,List.getElem?_append_left hi]
 have heq:(ls'++[l]).getD ls'.length L0=l:=by simp [List.getD_eq_getElem?_getD]
 refine ⟨by rw [List.length_append];have:=h.len;omega,fun i hi=>?_,fun i hi hi2=>?_⟩
 ·rw [hlt i (Nat.lt_of_lt_of_le hi h.len)];exact h.old i hi
 ·rw [List.length_append,List.length_singleton] at hi2
  by_cases hb:i<ls'.length
  ·rw [hlt i hb];exact h.new i hi hb
  ·obtain rfl:i=ls'.length:=by omega
   rw [heq];exact ⟨h1,h2⟩
theorem Gr.trans2 {ls ls' ls'':List L} (h:Gr ls ls') (k:Gr ls' ls'') (hl:ls'.length=ls.length):Gr ls ls'' :=
 ⟨Nat.le_trans h.len k.len,fun i hi=>⟨(k.old i (by omega)).1.trans (h.old i hi).1,(k.old i (by omega)).2.trans (h.old i hi).2⟩,fun i h1 h2=>k.new i (by omega) h2⟩
theorem holdS_goods (ls:List L) (l:List (Nat × Nat)):∀ i,((holdS ls l).getD i L0).goods=(ls.getD i L0).goods:=by
 induction l generalizing ls with
 | nil=>intro i;rfl
 | cons p r ih =>
  intro i
  simp only [holdS]
  rw [ih]
  by_cases h:i=p.1
  ·subst h
   by_cases hl:p.1<ls.length
   ·rw [gset_eq hl];rfl
   ·simp [List.set_eq_of_length_le (show ls.length≤p.1 by omega)]
  ·rw [gset_ne h]
theorem gr_fin (g:L→Nat→L) (hg:∀ l n,(g l n).id=l.id∧(g l n).goods=l.goods) (os:List O) (a:Nat) (ls:List L):Gr ls (ls.map (finL g os a)) :=
 Gr.same (List.length_map ..) (fun i hi=>by
  rw [map_getD hi];unfold finL;split
  ·exact ⟨(hg _ _).1,(hg _ _).2⟩
  ·exact ⟨rfl,rfl⟩)
theorem gr_step (s:Sv) (k a b c d:Int):Gr s.ls (stepV s (.ok (sp k a b c d))).ls:=by
 have h2:=pk_lt a (n:=12) (by omega)
 have h6:=pk_lt b (n:=12) (by omega)
 have h7:=pk_lt c (n:=12) (by omega)
 unfold sp
 split
 ·show Gr s.ls (stepS s.rcs s.td s.ls (.ok (1,[pk a 40]))).2.2
  have e:(stepS s.rcs s.td s.ls (.ok (1,[pk a 40]))).2.2=s.ls:=by simp only [stepS];split <;> rfl
  rw [e];exact Gr.refl _
 ·show Gr s.ls (if roomC s.ls (1+pk a 12)=0 then s.ls++[newL s.ls (1+pk a 12) (1+pk b 3) (1+pk c 400) (pk d 40)] else s.ls)
  split
  ·exact (Gr.refl _).snoc (by show 1≤1+pk a 12;omega) (by show 1+pk a 12≤12;omega)
  ·exact Gr.refl _
 ·show Gr s.ls (splitS s.ls (1+pk a 12) (1+pk b 12) (1+pk c 400))
  unfold splitS
  split
  ·refine Gr.snoc ?_ ?_ ?_
   ·exact Gr.set _ _ _ (fun _=>⟨rfl,rfl⟩)
   ·show 1≤1+pk b 12;omega
   ·show 1+pk b 12≤12;omega
  ·exact Gr.refl _
 ·show Gr s.ls (mergeS s.ls (1+pk a 12) (1+pk b 12) (1+pk c 12))
  unfold mergeS
  split
  ·rename_i h0
   obtain ⟨q1,q2,q3,_,_⟩:=mergeC_zero h0
   refine Gr.snoc ?_ ?_ ?_
   ·refine Gr.trans2 (ls':=s.ls.set (idx (1+pk a 12) s.ls) (gaveL (lotAt s.ls (1+pk a 12)) (lotAt s.ls (1+pk a 12)).free)) ?_ ?_ (List.length_set ..)
    ·exact Gr.set _ _ _ (fun _=>⟨rfl,rfl⟩)
    ·refine Gr.set _ _ _ (fun _=>?_)
     rw [gset_ne (Ne.symm q3)];exact ⟨rfl,rfl⟩
   ·show 1≤1+pk c 12;omega
   ·show 1+pk c 12≤12;omega
  ·exact Gr.refl _
 ·show Gr s.ls (askL s.rcs s.os s.td s.ls (1+pk a 4) (1+pk b 3) (1+pk c 400) (pk d 10) (pk (d.tdiv 16) 4))
  unfold askL
  split
  ·exact Gr.same (holdS_len _ _) (fun i _=>⟨holdS_id _ _ i,holdS_goods _ _ i⟩)
  ·exact Gr.refl _
 ·exact gr_fin freeL (fun _ _=>⟨rfl,rfl⟩) _ _ _
 ·exact gr_fin shipL (fun _ _=>⟨rfl,rfl⟩) _ _ _
 ·exact Gr.refl _
 ·exact Gr.refl _
 ·show Gr s.ls (scrapS s.ls (1+pk a 12) (1+pk c 400))
  unfold scrapS
  split
  ·exact Gr.set _ _ _ (fun _=>⟨rfl,rfl⟩)
  ·exact Gr.refl _
 ·show Gr s.ls (stepS s.rcs s.td s.ls (.ok (11,[1+pk a 12]))).2.2
  have e:(stepS s.rcs s.td s.ls (.ok (11,[1+pk a 12]))).2.2=s.ls:=by simp only [stepS];split <;> rfl
  rw [e];exact Gr.refl _
 ·exact Gr.refl _
theorem os_step (s:Sv) (h:∀ o ∈ s.os,o.id≤4) (k a b c d:Int):∀ o ∈ (stepV s (.ok (sp k a b c d))).os,o.id≤4:=by
 have h2:=pk_lt a (n:=4) (by omega)
 have hf:∀ n:Nat,∀ o ∈ s.os.filter (fun o=>o.id != n),o.id≤4:=fun n o ho=>h o (List.mem_filter.1 ho).1
 unfold sp
 split
 ·exact h
 ·exact h
 ·exact h
 ·exact h
 ·show ∀ o ∈ askO s.rcs s.os s.td s.ls (1+pk a 4) (1+pk b 3) (1+pk c 400) (pk d 10) (pk (d.tdiv 16) 4),o.id≤4
  unfold askO
  split
  ·intro o ho
   rcases List.mem_append.1 ho with ho | ho
   ·exact h o ho
   ·simp at ho;subst ho;show 1+pk a 4≤4;omega
  ·exact h
 ·exact hf _
 ·exact hf _
 ·exact h
 ·exact h
 ·exact h
 ·exact h
 ·exact h
structure Sc (s:Sv):Prop where
 lots:∀ i,i<s.ls.length→(1≤(s.ls.getD i L0).id∧(s.ls.getD i L0).id≤12)∨(s.ls.getD i L0).goods=9
 os:∀ o ∈ s.os,o.id≤4
theorem Sc.step {s:Sv} (h:Sc s) (k a b c d:Int):Sc (stepV s (.ok (sp k a b c d))):=by
 refine ⟨fun i hi=>?_,os_step s h.os k a b c d⟩
 have hg:=gr_step s k a b c d
 by_cases hl:i<s.ls.length
 ·obtain ⟨e1,e2⟩:=hg.old i hl
  rw [e1,e2];exact h.lots i hl
 ·exact Or.inl (hg.new i (by omega) hi)
theorem sc_s2:Sc s2:=⟨fun i hi=>by
 rcases (show i=0∨i=1 by have:i<2:=hi;omega) with rfl | rfl <;> exact Or.inr rfl,fun o ho=>by cases ho⟩
end Go.Proofs.YtgcedalggnmooabGreatDoor
namespace Go.Proofs.YtgcedalggnmooabGreatDoor
open Go.RowKit
set_option maxHeartbeats 1600000 in
theorem played_any (a0:Option Addr) (len cap:Nat) (hlen:len≤2097152) (X:Nat→Nat→Int) (w:World) (hg:Gl w) (hx:0<len→∃ b off,a0=some ⟨b,off,none⟩∧Scr w b off len X) :
  Calls Tryz.prog 7 #[.slice a0 len cap] w fun e w'=>∃ Lb Z s,e=.returned (.tuple #[.pointer (some ⟨Lb,0,none⟩),.bool true])∧Kv w.heap.size w w' Z Lb s∧Sc s∧s.lg.length≤200+64 * len:=by
 have HOP:=hide (opened_any w hg)
 have HX0:=hide hx
 clear hg hx
 go_enter Tryz.func7,Tryz.ntmps7
 go_wp2_with (go_at_call 11;refine (HOP.out).mono ?_;rintro e w1 ⟨Lb,Z,rfl,hkv⟩)
 have HINI:=hide hkv
 clear hkv HOP
 go_loopw [6] (fun ii wr=>∃ (k:Nat) (Z':Nat→Prop) (s:Sv),ii=.int .i64 k∧k≤len∧Kv w.heap.size w wr Z' Lb s∧Sc s∧s.lg.length≤200+64 * k) (fun ii _=>len - (intOf ii).toNat)
 case atStart=>exact ⟨0,Z,s2,rfl,by omega,HINI.out,sc_s2,s2_lg⟩
 case round =>
  clear HINI
  obtain ⟨k,Z1,s,rfl,hk,hkv,hsc,hslg⟩:=hrel
  by_cases hlt:k<len
  ·obtain ⟨b,off,ha0,hxs⟩:=HX0.out (by omega)
   subst ha0
   have hblt:=hxs.lt
   have HX:=hide hxs
   clear hxs
   have c0:wr.cell? ⟨b,off+k * 5,none⟩=some (.int .i64 (X k 0)):=(hkv.old.cell (p:=⟨b,off+k * 5+0,none⟩) hblt).trans (HX.out.cell k hlt 0 (by omega))
   have c1:=(hkv.old.cell (p:=⟨b,off+k * 5+1,none⟩) hblt).trans (HX.out.cell k hlt 1 (by omega))
   have c2:=(hkv.old.cell (p:=⟨b,off+k * 5+2,none⟩) hblt).trans (HX.out.cell k hlt 2 (by omega))
   have c3:=(hkv.old.cell (p:=⟨b,off+k * 5+3,none⟩) hblt).trans (HX.out.cell k hlt 3 (by omega))
   have c4:=(hkv.old.cell (p:=⟨b,off+k * 5+4,none⟩) hblt).trans (HX.out.cell k hlt 4 (by omega))
   have HSP:=hide (spelt_x HX.out k hlt)
   have HHD:Hid (∀ w2,Below wr.heap.size wr w2→Calls Tryz.prog 10 #[.pointer (some ⟨Lb,0,none⟩),.string (cmdX X k)] w2 fun e w'=>∃ r,e=.returned (.string r)∧∃ Z',Kv w.heap.size w w' Z' Lb (stepV s (.ok (spX X k)))):=fun w2 hb2=>(handle_x (hkv.below hb2) (by omega) X k).mono (fun e w' h=>⟨_,h.1,h.2.imp (fun Z' h'=>h'.1)⟩)
   have HLN:Hid ((stepV s (.ok (spX X k))).lg.length≤200+64 * (k+1)):=by have:=spX_lg X k s;unfold Hid;omega
   have HSC:Hid (Sc (stepV s (.ok (spX X k)))):=hsc.step _ _ _ _ _
   generalize cmdX X k=t at *
   generalize X k 0=x0 at *
   generalize X k 1=x1 at *
   generalize X k 2=x2 at *
   generalize X k 3=x3 at *
   generalize X k 4=x4 at *
   clear hkv hsc
   go_wp2_with (go_at_call 13;refine (HSP.out _).mono ?_;rintro e w2 ⟨rfl,hb2⟩;have HH2:=hide (HHD.out w2 hb2))
   refine (HH2.out).mono ?_
   rintro e w3 ⟨r,rfl,Z3,hkv3⟩
   have HK3:=hide hkv3
   clear hkv3 HH2 HHD
   go_wp2_with fail
   go_roundw
   case rel=>exact ⟨k+1,Z3,_,by go_num,by omega,HK3.out,HSC.out,HLN.out⟩
   case measure=>simp [intOf];omega
  ·obtain rfl:k=len:=by omega
   have HKV:=hide hkv
   have HSC:=hide hsc
   clear hkv hsc hlt
   go_wp2_with fail
   go_ret2
   exact ⟨Lb,Z1,s,rfl,HKV.out,HSC.out,hslg⟩
def lkB (s:Sv):Nat→List UInt8
 | 0=>[]
 | k+1=>lkB s k++repV s (.ok (11,[k+1]))++[47]
def spB (s:Sv):Nat→List UInt8
 | 0=>lkB s 14
 | k+1=>spB s k++repV s (.ok (12,[k+1,0]))++[47]
theorem srv_small {B:Nat} {w0 w:World} {Z:Nat→Prop} {Lb:Nat} {s:Sv} (h:Kv B w0 w Z Lb s) (a b:Nat):∀ n ∈ supL s.rcs s.td a b s.ls,n<9223372036854775808:=by
 have hl:(srvI s.rcs s.td a b s.ls s.ls.length).length≤30:=Nat.le_trans (srvI_len _ _ _ _ _) h.room
 intro n hn
 simp only [supL,List.mem_cons,List.not_mem_nil,or_false] at hn
 rcases hn with rfl | rfl
 ·omega
 ·have:=freeOf_le s.ls h.ok (srvI s.rcs s.td a b s.ls s.ls.length) (fun i hi=>by simp [srvI] at hi;exact hi.1)
  omega
theorem rep_look_len {B:Nat} {w0 w:World} {Z:Nat→Prop} {Lb:Nat} {s:Sv} (h:Kv B w0 w Z Lb s) (i:Nat):(repV s (.ok (11,[i]))).length≤100:=by
 rw [(lookV s i).1,List.length_cons]
 obtain ⟨h1,h2⟩:=lookN_small h i
 have:=Pl.toldB_len _ h1
 omega
theorem rep_sup_len {B:Nat} {w0 w:World} {Z:Nat→Prop} {Lb:Nat} {s:Sv} (h:Kv B w0 w Z Lb s) (a b:Nat):(repV s (.ok (12,[a,b]))).length≤100:=by
 rw [(supV s a b).1,List.length_cons]
 have:=Pl.toldB_len _ (srv_small h a b)
 simp only [supL,List.length_cons,List.length_nil] at this ⊢
 omega
theorem lkB_len {B:Nat} {w0 w:World} {Z:Nat→Prop} {Lb:Nat} {s:Sv} (h:Kv B w0 w Z Lb s):∀ k,(lkB s k).length≤101 * k
 | 0=>by simp [lkB]
 | k+1=>by
  have:=lkB_len h k
  have:=rep_look_len h (k+1)
  simp only [lkB,List.length_append,List.length_cons,List.length_nil]
  omega
theorem spB_len {B:Nat} {w0 w:World} {Z:Nat→Prop} {Lb:Nat} {s:Sv} (h:Kv B w0 w Z Lb s):∀ k,(spB s k).length≤1414+101 * k
 | 0=>lkB_len h 14
 | k+1=>by
  have:=spB_len h k
  have:=rep_sup_len h (k+1) 0
  simp only [spB,List.length_append,List.length_cons,List.length_nil]
  omega
theorem lit_cmd (c:Nat) (h1:1≤c) (h2:c≤12) (ns:List Nat) (hl:ns.length=(Pl.kindsL c).length) (hn:∀ n ∈ ns,n<9223372036854775808) (hm:Pl.mays (Pl.kindsL c) ns=true) {B:Nat} {w0 w:World} {Z:Nat→Prop} {Lb:Nat} {s:Sv} (h:Kv B w0 w Z Lb s) (hlg:c≤10→s.lg.length≤35184372088832) :
  Calls Tryz.prog 10 #[.pointer (some ⟨Lb,0,none⟩),.string ⟨(Pl.cmdB c ns).toArray⟩] w fun e w'=>e=.returned (.string ⟨(repV s (.ok (c,ns))).toArray⟩)∧∃ Z',Kv B w0 w' Z' Lb (stepV s (.ok (c,ns)))∧Kn Z w Z' w':=by
 have hk:=kinds_len h1 h2
 have hbl:(Pl.cmdB c ns).length≤100:=by
  have:=Pl.toldB_len ns hn
  unfold Pl.cmdB;rw [List.length_cons];omega
 exact handle_kv h c ns h2 (cmd_cmdB h1 h2 hl hn hm) (by omega) hlg
set_option maxHeartbeats 1600000 in
theorem looked_any {B:Nat} {w0 w:World} {Z:Nat→Prop} {Lb:Nat} {s:Sv} (h:Kv B w0 w Z Lb s) :
  Calls Tryz.prog 8 #[.pointer (some ⟨Lb,0,none⟩)] w fun e w'=>e=.returned (.string ⟨(spB s 9).toArray⟩)∧∃ Z',Kv B w0 w' Z' Lb s∧Kn Z w Z' w':=by
 have HC:=hide (fun (i:Nat) (hi:i≤14) (w1:World)=>kcommand_lit 11 (by omega) [i] (by simp) (by intro n hn;simp at hn;omega) w1)
 have HC':Hid (∀ (i:Nat) (hi:i≤14) (w1:World),Calls Tryz.prog 22 #[.int .i64 11,.slice (some ⟨w1.heap.size,0,none⟩) 1 1] (w1.alloc (.cells #[.int .i64 (i:Int)] 3)) fun e w'=>e=.returned (.string ⟨(Pl.cmdB 11 [i]).toArray⟩)∧Below w1.heap.size w1 w'):=fun i hi w1=>HC.out i hi w1
 have HD:=hide (fun (i:Nat) (hi:i≤14) (w1:World)=>kcommand_lit 12 (by omega) [i,0] (by simp) (by intro n hn;simp at hn;omega) w1)
 have HD':Hid (∀ (i:Nat) (hi:i≤14) (w1:World),Calls Tryz.prog 22 #[.int .i64 12,.slice (some ⟨w1.heap.size,0,none⟩) 2 2] (w1.alloc (.cells #[.int .i64 (i:Int),.int .i64 0] 3)) fun e w'=>e=.returned (.string ⟨(Pl.cmdB 12 [i,0]).toArray⟩)∧Below w1.heap.size w1 w'):=fun i hi w1=>HD.out i hi w1
 have HL:Hid (∀ (i:Nat),1≤i→i≤14→∀ (w1:World) (Z1:Nat→Prop),Kv B w0 w1 Z1 Lb s→Calls Tryz.prog 10 #[.pointer (some ⟨Lb,0,none⟩),.string ⟨(Pl.cmdB 11 [i]).toArray⟩] w1 fun e w'=>e=.returned (.string ⟨(repV s (.ok (11,[i]))).toArray⟩)∧∃ Z',Kv B w0 w' Z' Lb s∧Kn Z1 w1 Z' w'):=fun i h1 h2 w1 Z1 hk=>by
  have:=lit_cmd 11 (by omega) (by omega) [i] rfl (by intro n hn;simp at hn;omega) (by simp [Pl.mays,Pl.kindsL,Pl.mayB];omega) hk (fun q=>absurd q (by omega))
  rw [(lookV s i).2] at this
  exact this
 have HS:Hid (∀ (i:Nat),1≤i→i≤14→∀ (w1:World) (Z1:Nat→Prop),Kv B w0 w1 Z1 Lb s→Calls Tryz.prog 10 #[.pointer (some ⟨Lb,0,none⟩),.string ⟨(Pl.cmdB 12 [i,0]).toArray⟩] w1 fun e w'=>e=.returned (.string ⟨(repV s (.ok (12,[i,0]))).toArray⟩)∧∃ Z',Kv B w0 w' Z' Lb s∧Kn Z1 w1 Z' w'):=fun i h1 h2 w1 Z1 hk=>by
  have:=lit_cmd 12 (by omega) (by omega) [i,0] rfl (by intro n hn;simp at hn;omega) (by simp [Pl.mays,Pl.kindsL,Pl.mayB];omega) hk (fun q=>absurd q (by omega))
  rw [(supV s i 0).2] at this
  exact this
 have HINI:=hide h
 clear h HC HD
 go_enter Tryz.func8,Tryz.ntmps8
 go_wp2_with fail
 go_loopw [3,4,5] (fun sv ii _ wr=>∃ (k:Nat) (Z':Nat→Prop),sv=.string ⟨(lkB s k).toArray⟩∧ii=.int .i64 ((k+1:Nat):Int)∧k≤14∧Kv B w0 wr Z' Lb s∧Kn Z w Z' wr) (fun _ ii _ _=>15 - (intOf ii).toNat)
 case atStart=>exact ⟨0,Z,rfl,rfl,by omega,HINI.out,Kn.refl _ _⟩
 case round =>
  obtain ⟨k,Z1,rfl,rfl,hk,hkv,hkn⟩:=hrel
  have hsl:=lkB_len hkv k
  by_cases hlt:k<14
  ·have HC1:=hide (HC'.out (k+1) (by omega) wr)
   have HL1:Hid (∀ w1,Below wr.heap.size wr w1→Calls Tryz.prog 10 #[.pointer (some ⟨Lb,0,none⟩),.string ⟨(Pl.cmdB 11 [k+1]).toArray⟩] w1 fun e w'=>e=.returned (.string ⟨(repV s (.ok (11,[k+1]))).toArray⟩)∧∃ Z',Kv B w0 w' Z' Lb s∧Kn Z w Z' w'):=fun w1 hb=>(HL.out (k+1) (by omega) (by omega) w1 Z1 (hkv.below hb)).mono (fun e w' hh=>⟨hh.1,by obtain ⟨Z',q1,q2⟩:=hh.2;exact ⟨Z',q1,(hkn.trans (Kn.below hb)).trans q2⟩⟩)
   have hrl:=rep_look_len hkv (k+1)
   have HST:Hid (lkB s (k+1)=lkB s k++repV s (.ok (11,[k+1]))++[47]):=rfl
   generalize Pl.cmdB 11 [k+1]=cb at *
   generalize repV s (.ok (11,[k+1]))=rb at *
   generalize lkB s k=pb at *
   clear hkv hkn
   go_wp2_with (go_at_call 22;refine (HC1.out).mono ?_;rintro e w2 ⟨rfl,hb2⟩;have HH2:=hide (HL1.out w2 hb2);clear hb2)
   refine (HH2.out).mono ?_
   rintro e w3 ⟨rfl,Z3,hkv3,hkn3⟩
   have HK3:=hide hkv3
   have HN3:=hide hkn3
   clear hkv3 hkn3 HH2
   go_wp2_with fail
   go_roundw
   case rel=>exact ⟨k+1,Z3,by rw [HST.out];rfl,by go_num,by omega,HK3.out,HN3.out⟩
   case measure=>simp [intOf];omega
  ·obtain rfl:k=14:=by omega
   rw [show ((14+1:Nat):Int)=15 from rfl]
   have HKV:=hide hkv
   have HKN:=hide hkn
   clear hkv hkn hlt HL
   go_wp2_with fail
   go_loopw [3,6,7] (fun sv ii _ wr=>∃ (k:Nat) (Z':Nat→Prop),sv=.string ⟨(spB s k).toArray⟩∧ii=.int .i64 ((k+1:Nat):Int)∧k≤9∧Kv B w0 wr Z' Lb s∧Kn Z w Z' wr) (fun _ ii _ _=>10 - (intOf ii).toNat)
   case atStart=>exact ⟨0,Z1,rfl,rfl,by omega,HKV.out,HKN.out⟩
   case round =>
    clear HKV HKN hsl
    obtain ⟨k,Z2,rfl,rfl,hk,hkv,hkn⟩:=hrel
    have hsl:=spB_len hkv k
    by_cases hlt:k<9
    ·have HC1:=hide (HD'.out (k+1) (by omega) wr)
     have HL1:Hid (∀ w1,Below wr.heap.size wr w1→Calls Tryz.prog 10 #[.pointer (some ⟨Lb,0,none⟩),.string ⟨(Pl.cmdB 12 [k+1,0]).toArray⟩] w1 fun e w'=>e=.returned (.string ⟨(repV s (.ok (12,[k+1,0]))).toArray⟩)∧∃ Z',Kv B w0 w' Z' Lb s∧Kn Z w Z' w'):=fun w1 hb=>(HS.out (k+1) (by omega) (by omega) w1 Z2 (hkv.below hb)).mono (fun e w' hh=>⟨hh.1,by obtain ⟨Z',q1,q2⟩:=hh.2;exact ⟨Z',q1,(hkn.trans (Kn.below hb)).trans q2⟩⟩)
     have hrl:=rep_sup_len hkv (k+1) 0
     have HST:Hid (spB s (k+1)=spB s k++repV s (.ok (12,[k+1,0]))++[47]):=rfl
     generalize Pl.cmdB 12 [k+1,0]=cb at *
     generalize repV s (.ok (12,[k+1,0]))=rb at *
     generalize spB s k=pb at *
     clear hkv hkn
     go_wp2_with (go_at_call 22;refine (HC1.out).mono ?_;rintro e w2 ⟨rfl,hb2⟩;have HH2:=hide (HL1.out w2 hb2);clear hb2)
     refine (HH2.out).mono ?_
     rintro e w3 ⟨rfl,Z3,hkv3,hkn3⟩
     have HK3:=hide hkv3
     have HN3:=hide hkn3
     clear hkv3 hkn3 HH2
     go_wp2_with fail
     go_roundw
     case rel=>exact ⟨k+1,Z3,by rw [HST.out];rfl,by go_num,by omega,HK3.out,HN3.out⟩
     case measure=>simp [intOf];omega
    ·obtain rfl:k=9:=by omega
     have HKV:=hide hkv
     have HKN:=hide hkn
     clear hkv hkn hlt
     go_wp2_with fail
     go_ret
     exact ⟨rfl,Z2,HKV.out,HKN.out⟩
end Go.Proofs.YtgcedalggnmooabGreatDoor
namespace Go.Proofs.YtgcedalggnmooabGreatDoor
open Go.RowKit
def stepB (s:Sv) (t:ByteArray):Sv:=⟨(stepR s.rcs s.td s.os s.ls (Pl.cmd t.data.toList)).2.1,(stepR s.rcs s.td s.os s.ls (Pl.cmd t.data.toList)).2.2.1,(stepR s.rcs s.td s.os s.ls (Pl.cmd t.data.toList)).2.2.2.1,(stepR s.rcs s.td s.os s.ls (Pl.cmd t.data.toList)).2.2.2.2,lgX s.lg t (stepR s.rcs s.td s.os s.ls (Pl.cmd t.data.toList)).1⟩
theorem stepB_lg (s:Sv) (t:ByteArray) (ht:t.size≤2097152):(stepB s t).lg.length≤s.lg.length+2097200:=by
 have hl:t.data.toList.length=t.size:=by rw [Array.length_toList];rfl
 have h3:=frmB_len t.data.toList (by omega)
 show (lgX _ _ _).length≤_
 unfold lgX
 split
 ·rw [List.length_append];omega
 ·omega
theorem log_kv {B:Nat} {w0 w:World} {Z:Nat→Prop} {Lb:Nat} {s:Sv} (h:Kv B w0 w Z Lb s) :
  Calls Tryz.prog 9 #[.pointer (some ⟨Lb,0,none⟩)] w fun e w'=>e=.returned (.string ⟨s.lg.toArray⟩)∧w'=w:=log_any h.pl
end Go.Proofs.YtgcedalggnmooabGreatDoor
namespace Go.Proofs.YtgcedalggnmooabGreatDoor
open Go.RowKit
set_option maxHeartbeats 800000 in
theorem take_ok (b:Nat) (s:ByteArray) (hs:s.size≤70368744177664) (w:World) (hc:w.cell? ⟨b,0,none⟩=some (.string s)) (hf:w.frozen? ⟨b,0,none⟩=false) (c:Nat) (hcs:c≤s.size) :
  Calls Tryz.prog 61 #[.pointer (some ⟨b,0,none⟩),.int .i64 (c:Int)] w fun e w'=>e=.returned (.string (s.extract 0 c))∧w'=w.setCell ⟨b,0,none⟩ (.string (s.extract c s.size)):=by
 have hd:decide ((s.size:Int)<(c:Int))=false:=by simp;omega
 go_enter Tryz.func61,Tryz.ntmps61
 go_wp2_with (go_at_call 63;go_in)
 go_ret
 exact ⟨rfl,rfl⟩
set_option maxHeartbeats 800000 in
theorem take_no (b:Nat) (s:ByteArray) (hs:s.size≤70368744177664) (w:World) (hc:w.cell? ⟨b,0,none⟩=some (.string s)) (c:Nat) (hcs:s.size<c) (t:TypeId) (v:Value) (hg:w.cell? ⟨3,0,none⟩=some (.iface t v)) :
  Calls Tryz.prog 61 #[.pointer (some ⟨b,0,none⟩),.int .i64 (c:Int)] w fun e w'=>e=.panicked [{ v:=.iface t v,recovered:=false }]∧w'=w:=by
 have hd:decide ((s.size:Int)<(c:Int))=true:=by simp;omega
 go_enter Tryz.func61,Tryz.ntmps61
 go_wp2_with (go_at_call 63;go_in)
 exact ⟨rfl,rfl,rfl⟩
theorem take_get (b:Nat) (hb:4≤b) (s:ByteArray) (hs:s.size≤70368744177664) (w w0:World) (hg:Gl w) (hr0:Rd b w w0 s) (c:Nat) :
  Calls Tryz.prog 61 #[.pointer (some ⟨b,0,none⟩),.int .i64 (c:Int)] w0 fun e w'=>(c≤s.size∧e=.returned (.string (s.extract 0 c))∧Rd b w w' (s.extract c s.size))∨(s.size<c∧Broke b w e w'):=by
 have hc0:w0.cell? ⟨b,0,none⟩=some (.string s):=by rw [blk_cell hr0.here];rfl
 by_cases hcs:c≤s.size
 ·refine (take_ok b s hs w0 hc0 (blk_free hr0.here 0) c hcs).mono ?_
  rintro e w' ⟨rfl,rfl⟩
  exact Or.inl ⟨hcs,rfl,hr0.set _⟩
 ·obtain ⟨t1,v1,h1⟩:=(hg.rd hr0 hb).2.1
  refine (take_no b s hs w0 hc0 c (by omega) t1 v1 h1).mono ?_
  rintro e w' ⟨rfl,rfl⟩
  exact Or.inr ⟨by omega,⟨t1,v1,rfl⟩,s,hr0⟩
def frP (l:List UInt8):Option (List UInt8 × Nat) :=
 if Pl.snd l=0 then none
 else if (l.drop (Pl.snd l)).length<Pl.fst l then none
 else if (l.drop (Pl.snd l+Pl.fst l)).length<4 then none
 else if (l.drop (Pl.snd l+Pl.fst l)).take 4=chkB (l.take (Pl.snd l+Pl.fst l)) then some ((l.drop (Pl.snd l)).take (Pl.fst l),Pl.snd l+Pl.fst l+4) else none
set_option maxHeartbeats 800000 in
theorem newReader_any (s:ByteArray) (w:World) :
  Calls Tryz.prog 44 #[.string s] w fun e w'=>e=.returned (.pointer (some ⟨w.heap.size,0,none⟩))∧w'=w.alloc (.cells #[.string s] 147):=by
 go_enter Tryz.func44,Tryz.ntmps44
 go_wp2_with fail
 go_ret
 exact ⟨rfl,rfl⟩
def FirstP (w:World) (l:List UInt8) (e:Ending) (w':World):Prop:=Below w.heap.size w w' ∧
 match frP l with
 | some (c,_)=>e=.returned (.string ⟨c.toArray⟩)
 | none=>∃ t v,e=.panicked [{ v:=.iface t v,recovered:=false }]
theorem ba_eta (s:ByteArray):s=⟨s.data.toList.toArray⟩:=by simp
theorem ex_list (s:ByteArray) (a b:Nat):(s.extract a b).data.toList=(s.data.toList.take b).drop a:=by
 rw [ByteArray.data_extract,Array.toList_extract,List.extract_eq_take_drop,List.drop_take]
set_option maxHeartbeats 3200000 in
theorem ffirst_any (s:ByteArray) (hs:s.size≤70368744177664) (w:World) (hg:Gl w) (hgc:∃ t v,w.cell? ⟨1,0,none⟩=some (.iface t v)) (hng:1<w.heap.size) :
  Calls Tryz.prog 40 #[.string s] w (FirstP w s.data.toList):=by
 have hb0:4≤w.heap.size:=hg.2.2
 have ha:=al1 w (.cells #[.string s] 147)
 have hr0:Rd w.heap.size (w.alloc (.cells #[.string s] 147)) (w.alloc (.cells #[.string s] 147)) s:=Rd.refl (heap_alloc_new w _)
 have hg1:=hg.below ha
 have HNR:=hide (newReader_any s w)
 have HNU:=hide (number_get w.heap.size hb0 s hs _ _ hg1 hr0)
 obtain ⟨l,HL⟩:∃ l,Hid (l=s.data.toList):=⟨_,rfl⟩
 have hll:l.length=s.size:=by rw [HL.out,Array.length_toList];rfl
 rw [← HL.out] at HNU ⊢
 have hn:=Pl.snd_le l
 have bel:∀ {w':World} {s':ByteArray},Rd w.heap.size (w.alloc (.cells #[.string s] 147)) w' s'→Below w.heap.size w w':=fun h=>ha.trans (h.below (Nat.le_refl _))
 have hsz1:(s.extract (Pl.snd l) s.size).size=s.size - Pl.snd l:=by rw [ByteArray.size_extract];omega
 obtain ⟨n,HN⟩:∃ n,Hid (n=Pl.snd l):=⟨_,rfl⟩
 obtain ⟨c,HC⟩:∃ c,Hid (c=Pl.fst l):=⟨_,rfl⟩
 rw [← HN.out] at hn hsz1
 rw [← HN.out,← HC.out] at HNU
 go_enter Tryz.func40,Tryz.ntmps40
 go_wp2_with (go_at_call 44;refine (HNR.out).mono ?_;rintro e w1 ⟨rfl,rfl⟩)
 refine (HNU.out).mono ?_
 clear HNR HNU
 rintro e w2 (⟨hn0,rfl,hr2⟩ | ⟨hn0,⟨t2,v2,rfl⟩,s2,hr2⟩)
 ·have HTK:=hide (take_get w.heap.size hb0 (s.extract n s.size) (by omega) _ w2 hg1 hr2 c)
  go_wp2_with fail
  refine (HTK.out).mono ?_
  clear HTK
  rintro e w3 (⟨hc,rfl,hr3⟩ | ⟨hc,⟨t3,v3,rfl⟩,s3,hr3⟩)
  ·have hc3:w3.cell? ⟨w.heap.size,0,none⟩=some (.string ((s.extract n s.size).extract c (s.extract n s.size).size)):=hr3.cell
   have hsz2:((s.extract n s.size).extract c (s.extract n s.size).size).size=s.size - n - c:=by rw [ByteArray.size_extract];omega
   go_wp2_with (go_at_call 63;go_in)
   obtain ⟨s2,HS2⟩:∃ s2,Hid (s2=(s.extract n s.size).extract c (s.extract n s.size).size):=⟨_,rfl⟩
   rw [← HS2.out] at hsz2 hr3
   clear hc3
   have HT4:=hide (take_get w.heap.size hb0 s2 (by omega) _ w3 hg1 hr3 4)
   refine (HT4.out).mono ?_
   clear HT4
   rintro e w4 (⟨h4,rfl,hr4⟩ | ⟨h4,⟨t4,v4,rfl⟩,s4,hr4⟩)
   ·have hct:(s.size:Int) - ((s.extract n s.size).extract c (s.extract n s.size).size).size=((n+c:Nat):Int):=by rw [← HS2.out];omega
    go_wp2_with fail
    have hk:s.size - (s.size - n - c)=n+c:=by omega
    have HCK:=hide (fcheck_any (s.extract 0 (s.size - (s.size - n - c))) (by rw [ByteArray.size_extract];omega) w4)
    refine (HCK.out).mono ?_
    clear HCK
    rintro e w5 ⟨rfl,hb5⟩
    have hbel:Below w.heap.size w w5:=(bel hr4).trans (hb5.mono (by rw [hr4.size];exact ha.size))
    obtain ⟨t0,v0,h0⟩:=hgc
    have h5:w5.cell? ⟨1,0,none⟩=some (.iface t0 v0):=by rw [hbel.cell hng];exact h0
    have hsl:s.data.toList=l:=HL.out.symm
    have e1:(s.extract 0 (s.size - (s.size - n - c))).data.toList=l.take (n+c):=by rw [hk,← hsl];simp
    have e2:(s2.extract 0 4).data.toList=(l.drop (n+c)).take 4:=by
     rw [ex_list,HS2.out,ex_list,ex_list,hsl,List.take_of_length_le (l:=l) (by omega),List.take_of_length_le (l:=l.drop n) (by rw [List.length_drop];omega),List.drop_drop,List.drop_zero]
    have e3:((s.extract n s.size).extract 0 c).data.toList=(l.drop n).take c:=by
     rw [ex_list,ex_list,hsl,List.take_of_length_le (l:=l) (by omega),List.drop_zero]
    rw [e1]
    go_wp2_with fail
    ·have hz:(!(s2.extract 0 4).toList == chkB (l.take (n+c)))=true:=by assumption
     rw [ByteArray.toList_eq,e2,Bool.not_eq_true',beq_eq_false_iff_ne] at hz
     have hne:¬ (l.drop (n+c)).take 4=chkB (l.take (n+c)):=hz
     refine ⟨rfl,hbel,?_⟩
     have hq:frP l=none:=by
      unfold frP;rw [← HN.out,← HC.out,if_neg hn0,if_neg (by rw [List.length_drop];omega),if_neg (by rw [List.length_drop];omega),if_neg hne]
     rw [hq]
     exact ⟨t0,v0,rfl⟩
    ·rename_i hne
     rw [ByteArray.toList_eq,e2] at hne
     have hne:(l.drop (n+c)).take 4=chkB (l.take (n+c)):=by simpa using hne
     go_ret
     refine ⟨hbel,?_⟩
     have hq:frP l=some ((l.drop n).take c,n+c+4):=by
      unfold frP;rw [← HN.out,← HC.out,if_neg hn0,if_neg (by rw [List.length_drop];omega),if_neg (by rw [List.length_drop];omega),if_pos hne]
     rw [hq,← e3]
     exact congrArg (fun x=>Ending.returned (Value.string x)) (ba_eta _)
   ·go_wp2_with fail
    refine ⟨rfl,bel hr4,?_⟩
    have hq:frP l=none:=by
     unfold frP;rw [← HN.out,← HC.out,if_neg hn0,if_neg (by rw [List.length_drop];omega),if_pos (by rw [List.length_drop];omega)]
    rw [hq]
    exact ⟨t4,v4,rfl⟩
  ·go_wp2_with fail
   refine ⟨rfl,bel hr3,?_⟩
   have hq:frP l=none:=by
    unfold frP;rw [← HN.out,← HC.out,if_neg hn0,if_pos (by rw [List.length_drop];omega)]
   rw [hq]
   exact ⟨t3,v3,rfl⟩
 ·go_wp2_with fail
  refine ⟨rfl,bel hr2,?_⟩
  have hq:frP l=none:=by unfold frP;rw [← HN.out,if_pos hn0]
  rw [hq]
  exact ⟨t2,v2,rfl⟩
end Go.Proofs.YtgcedalggnmooabGreatDoor
