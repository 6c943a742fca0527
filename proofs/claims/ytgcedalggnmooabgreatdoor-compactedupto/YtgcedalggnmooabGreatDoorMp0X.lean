import Derived.Test.YtgcedalggnmooabGreatDoorRefAX
import Derived.KernelRfl
import Derived.Maps.OwnSet
import Derived.DeepKeys4
import Derived.Deep.QuietTactic
import Derived.BigQuiet
import Derived.Maps.AppendAt
import Derived.Maps.RangeWalk
set_option linter.unusedSimpArgs false
set_option linter.unusedVariables false
set_option maxRecDepth 100000
namespace Go.Proofs.YtgcedalggnmooabGreatDoor
open Go.RowKit
structure O where
 id:Nat
 goods:Nat
 lines:List (Nat × Nat)
structure Mx where
 r:Nat
 o:Nat
 h:Nat
def lineOf (os:List O) (a b:Nat):Option Nat:=(os.find? (fun o=>o.id == a)).bind fun o=>o.lines.lookup b
def okey (n:Nat):Lit:=.int .i64 (n:Int)
def hkey (a b:Nat):Lit:=.string (keyBytes [.int .i64 (a:Int),.int .i64 (b:Int)])
theorem tUI:Tryz.prog.underlying 2=some (.int .i64):=by kernel_rfl
theorem tUH : (Tryz.prog.underlying 183).map (fun d => match d with | .struct fs => some (fs.toList.map (fun f => (f.name, f.type, f.offset))) | _ => none) = some (some [("order", 2, 0), ("lot", 2, 1)]) := by kernel_rfl
theorem cellsH:Tryz.prog.cellsOf 183=2:=by kernel_rfl
theorem cellsI:Tryz.prog.cellsOf 2=1:=by kernel_rfl
theorem keyTH:Tryz.prog.keyType 183=true:=by kernel_rfl
theorem tUR : (Tryz.prog.underlying 140).map (fun d => match d with | .struct fs => some (fs.toList.map (fun f => (f.name, f.type, f.offset))) | _ => none) = some (some [("lot", 2, 0), ("mark", 2, 1)]) := by kernel_rfl
theorem cellsR:Tryz.prog.cellsOf 140=2:=by kernel_rfl
theorem keyTR:Tryz.prog.keyType 140=true:=by kernel_rfl
theorem lidAll:laidOutB Tryz.prog=true:=by kernel_rfl
theorem kInt:Maps.Keyed Tryz.prog 2:=Maps.int_keyed tUI
theorem kHold:Maps.Keyed Tryz.prog 183:=Maps.Keyed.of_law (deep_law_laid lidAll (m:=5) (by decide) (of_decide_eq_true (by kernel_rfl)) (by kernel_rfl) (by kernel_rfl))
theorem kRec:Maps.Keyed Tryz.prog 140:=Maps.Keyed.of_law (deep_law_laid lidAll (m:=5) (by decide) (of_decide_eq_true (by kernel_rfl)) (by kernel_rfl) (by kernel_rfl))
theorem tySize:∃ n,Tryz.prog.types.size=n+2:=⟨278,by kernel_rfl⟩
theorem wf64 {n:Nat} (h:n≤2147483647):(Lit.int .i64 (n:Int)).wf=true:=by
 have h1:IntKind.min .i64≤(n:Int):=by show (-9223372036854775808:Int)≤n;omega
 have h2:(n:Int)≤IntKind.max .i64:=by show (n:Int)≤9223372036854775807;omega
 show (decide (IntKind.min .i64≤(n:Int)) && decide ((n:Int)≤IntKind.max .i64))=true
 rw [decide_eq_true h1,decide_eq_true h2];rfl
theorem key_o {n:Nat} (h:n≤2147483647):keyOf Tryz.prog 2 (.int .i64 (n:Int))=some (okey n):=Maps.keyOf_int_mk tUI (wf64 h)
theorem key_two {T : TypeId} {s0 s1 : String} (h0 : (s0 != "_") = true) (h1' : (s1 != "_") = true) (hu : (Tryz.prog.underlying T).map (fun d => match d with | .struct fs => some (fs.toList.map (fun f => (f.name, f.type, f.offset))) | _ => none) = some (some [(s0, 2, 0), (s1, 2, 1)])) (hcells : Tryz.prog.cellsOf T = 2) (hkT : Tryz.prog.keyType T = true) {a b : Nat} (ha : a ≤ 2147483647) (hb : b ≤ 2147483647) : keyOf Tryz.prog T (.agg #[.int .i64 (a : Int), .int .i64 (b : Int)]) = some (hkey a b) := by
 obtain ⟨n,hn⟩:=tySize
 cases hd:Tryz.prog.underlying T with
 | none=>rw [hd] at hu;cases hu
 | some d =>
  rw [hd] at hu
  cases d
  case struct fs =>
   simp only [Option.map_some,Option.some.injEq] at hu
   have h1:∀ (x:Nat),x≤2147483647→Tryz.prog.keyLits (n+2) 2 [.int .i64 (x:Int)]=some [.int .i64 (x:Int)]:=fun x hx=>by
    unfold Program.keyLits;rw [tUI];simp [wf64 hx]
   obtain ⟨f0,f1,hl,⟨n0,t0,o0⟩,n1,t1,o1⟩:∃ f0 f1,fs.toList=[f0,f1]∧(f0.name=s0∧f0.type=2∧f0.offset=0)∧f1.name=s1∧f1.type=2∧f1.offset=1:=by
    cases hl:fs.toList with
    | nil=>rw [hl] at hu;simp at hu
    | cons f0 r =>
     cases r with
     | nil=>rw [hl] at hu;simp at hu
     | cons f1 r =>
      cases r with
      | nil=>rw [hl] at hu;simp at hu;exact ⟨f0,f1,rfl,hu.1,hu.2⟩
      | cons f2 r=>rw [hl] at hu;simp at hu
   have hall : fs.all (·.name != "_") = true := by
    rw [← Array.all_toList,hl];simp only [List.all_cons,List.all_nil,n0,n1,h0,h1',Bool.and_self]
   have hm:(fs.toList.mapM fun f=>Tryz.prog.keyLits (n+2) f.type (([.int .i64 (a:Int),.int .i64 (b:Int)]:List Value).drop f.offset |>.take (Tryz.prog.cellsOf f.type)))=some [[.int .i64 (a:Int)],[.int .i64 (b:Int)]]:=by
    rw [hl]
    simp [List.mapM_cons,t0,t1,o0,o1,cellsI,h1 a ha,h1 b hb]
   have hk:Tryz.prog.keyLits (Tryz.prog.types.size+1) T [.int .i64 (a:Int),.int .i64 (b:Int)]=some [.int .i64 (a:Int),.int .i64 (b:Int)]:=by
    rw [hn]
    unfold Program.keyLits
    rw [hd]
    simp only [hcells,hall]
    rw [if_pos ⟨rfl,trivial⟩,hm]
    rfl
   unfold keyOf
   rw [hd]
   simp only [hkT,Value.formed,hd,hcells,Value.cells,hk]
   rfl
  all_goals (simp at hu)
theorem key_h {a b:Nat} (ha:a≤2147483647) (hb:b≤2147483647):keyOf Tryz.prog 183 (.agg #[.int .i64 (a:Int),.int .i64 (b:Int)])=some (hkey a b):=key_two (by decide) (by decide) tUH cellsH keyTH ha hb
theorem key_r {a b:Nat} (ha:a≤2147483647) (hb:b≤2147483647):keyOf Tryz.prog 140 (.agg #[.int .i64 (a:Int),.int .i64 (b:Int)])=some (hkey a b):=key_two (by decide) (by decide) tUR cellsR keyTR ha hb
theorem hkey_inj {a b c d:Nat} (ha:a≤2147483647) (hb:b≤2147483647) (hc:c≤2147483647) (hd:d≤2147483647) (h:hkey a b=hkey c d):a=c∧b=d:=by
 have h1:=key_h ha hb
 have h2:=key_h hc hd
 rw [h] at h1
 have:=kHold.inj h1 h2
 simp at this
 omega
theorem okey_inj {a b:Nat} (h:okey a=okey b):a=b:=by simp [okey] at h;omega
def nLines (os:List O):Nat:=(os.map fun o=>o.lines.length).sum
def goodsOf (os:List O) (n:Nat):Nat:=((os.find? (fun o=>o.id == n)).map O.goods).getD 0
structure OD (os:List O) (D:DataW Unit):Prop where
 size:Maps.size D=os.length
 has:∀ n:Nat,n≤2147483647→Maps.has D (okey n)=os.any (fun o=>o.id == n)
 val:∀ n:Nat,n≤2147483647→D.atKey (okey n) (.lit (.int .i64 0))=.lit (.int .i64 ((goodsOf os n:Nat):Int))
 keys:∀ kl,Maps.has D kl=true→∃ o ∈ os,kl=okey o.id
structure HD (os:List O) (D:DataW Unit):Prop where
 size:Maps.size D=nLines os
 has:∀ a b:Nat,a≤2147483647→b≤2147483647→Maps.has D (hkey a b)=(lineOf os a b).isSome
 val:∀ a b:Nat,a≤2147483647→b≤2147483647→D.atKey (hkey a b) (.lit (.int .i64 0))=.lit (.int .i64 (((lineOf os a b).getD 0:Nat):Int))
structure RD (rcs:List (Nat × Nat)) (D:DataW Unit):Prop where
 size:Maps.size D=rcs.length
 has:∀ a b:Nat,a≤2147483647→b≤2147483647→Maps.has D (hkey a b)=rcs.contains (a,b)
 keys:∀ kl,Maps.has D kl=true→∃ p ∈ rcs,kl=hkey p.1 p.2
structure Rc (rcs:List (Nat × Nat)):Prop where
 nodup:rcs.Nodup
 len:rcs.length≤10
 fits:∀ p ∈ rcs,p.1≤2147483647∧p.2≤2147483647
def OwnsR (w:World) (b n:Nat) (D:DataW Unit):Prop:=w.ownsMap Tryz.prog 140 (unitElem (H:=Unit)) b n D
def OwnsO (w:World) (b n:Nat) (D:DataW Unit):Prop:=w.ownsMap Tryz.prog 2 (plainElem Tryz.prog 2) b n D
def OwnsH (w:World) (b n:Nat) (D:DataW Unit):Prop:=w.ownsMap Tryz.prog 183 (plainElem Tryz.prog 2) b n D
theorem owns_congr {k:TypeId} {R:Value→Option (DataW Unit × List MemPlace)} {w w':World} {b n:Nat} {D:DataW Unit} (h:w.ownsMap Tryz.prog k R b n D) (hq:w'.heap[b]?=w.heap[b]?):w'.ownsMap Tryz.prog k R b n D:=by
 obtain ⟨es,clock,hb,F,hs,hD⟩:=h
 exact ⟨es,clock,by rw [hq];exact hb,F,hs,hD⟩
theorem owns_map {k:TypeId} {R:Value→Option (DataW Unit × List MemPlace)} {w:World} {b n:Nat} {D:DataW Unit} (h:w.ownsMap Tryz.prog k R b n D):∃ es c,w.heap[b]?=some (.map es c):=by
 obtain ⟨es,clock,hb,_⟩:=h
 exact ⟨es,clock,hb⟩
theorem owns_exact {k:TypeId} {R:Value→Option (DataW Unit × List MemPlace)} {w:World} {b n:Nat} {D:DataW Unit} (h:w.ownsMap Tryz.prog k R b n D):w.ownsMap Tryz.prog k R b (Maps.size D) D:=by
 obtain ⟨es,clock,hb,F,hs,hD⟩:=h
 exact ⟨es,clock,hb,F,by rw [hD];simp [Maps.size,length_sorted],hD⟩
theorem owns_nil {k:TypeId} {R:Value→Option (DataW Unit × List MemPlace)} {w:World} {b:Nat} (h:w.heap[b]?=some (.map #[] 0)):w.ownsMap Tryz.prog k R b (Maps.size (DataW.map []:DataW Unit)) (DataW.map []) :=
 ⟨#[],0,h,⟨by simp,MapKept.stamped_empty 0,by simp⟩,Nat.le_refl _,rfl⟩
structure Mp (os:List O) (rcs:List (Nat × Nat)) (w:World) (M:Mx):Prop where
 r:∃ D,OwnsR w M.r (Maps.size D) D∧RD rcs D
 rc:Rc rcs
 o:∃ D,OwnsO w M.o (Maps.size D) D∧OD os D
 h:∃ D,OwnsH w M.h (Maps.size D) D∧HD os D
 ro:M.r≠M.o
 rh:M.r≠M.h
 oh:M.o≠M.h
theorem Mp.congr3 {rcs:List (Nat × Nat)} {os:List O} {w w':World} {M:Mx} (h:Mp os rcs w M) (h1:w'.heap[M.r]?=w.heap[M.r]?) (h2:w'.heap[M.o]?=w.heap[M.o]?) (h3:w'.heap[M.h]?=w.heap[M.h]?):Mp os rcs w' M := {
 r:=by obtain ⟨D,k1,k2⟩:=h.r;exact ⟨D,owns_congr k1 h1,k2⟩
 rc:=h.rc
 o:=by obtain ⟨D,k1,k2⟩:=h.o;exact ⟨D,owns_congr k1 h2,k2⟩
 h:=by obtain ⟨D,k1,k2⟩:=h.h;exact ⟨D,owns_congr k1 h3,k2⟩
 ro:=h.ro
 rh:=h.rh
 oh:=h.oh }
theorem Mp.mr {rcs:List (Nat × Nat)} {os:List O} {w:World} {M:Mx} (h:Mp os rcs w M):∃ es c,w.heap[M.r]?=some (.map es c):=by obtain ⟨D,k1,_⟩:=h.r;exact owns_map k1
theorem Mp.mo {rcs:List (Nat × Nat)} {os:List O} {w:World} {M:Mx} (h:Mp os rcs w M):∃ es c,w.heap[M.o]?=some (.map es c):=by obtain ⟨D,k1,_⟩:=h.o;exact owns_map k1
theorem Mp.mh {rcs:List (Nat × Nat)} {os:List O} {w:World} {M:Mx} (h:Mp os rcs w M):∃ es c,w.heap[M.h]?=some (.map es c):=by obtain ⟨D,k1,_⟩:=h.h;exact owns_map k1
theorem Mp.congr {rcs:List (Nat × Nat)} {os:List O} {w w':World} {M:Mx} (h:Mp os rcs w M) (hq:∀ (k:Nat) (es:Array MapEntry) (c:Nat),w.heap[k]?=some (.map es c)→w'.heap[k]?=w.heap[k]?):Mp os rcs w' M:=by
 obtain ⟨_,_,h1⟩:=h.mr
 obtain ⟨_,_,h2⟩:=h.mo
 obtain ⟨_,_,h3⟩:=h.mh
 exact h.congr3 (hq _ _ _ h1) (hq _ _ _ h2) (hq _ _ _ h3)
end Go.Proofs.YtgcedalggnmooabGreatDoor
namespace Go.Proofs.YtgcedalggnmooabGreatDoor
open Go.RowKit
structure L where
 id:Nat
 goods:Nat
 expiry:Nat
 place:Nat
 got:Nat
 free:Nat
 held:Nat
 shipped:Nat
 scrapped:Nat
 given:Nat
 par:List (Nat × Nat):=[]
def L0:L:=⟨0,0,0,0,0,0,0,0,0,0,[]⟩
def lotCells (l:L) (pv:Value):Array Value :=
 #[.int .i64 (l.id:Int),.int .i64 (l.goods:Int),.int .i64 (l.expiry:Int),.int .i64 (l.place:Int),pv,.int .i64 (l.got:Int),.int .i64 (l.free:Int),.int .i64 (l.held:Int),.int .i64 (l.shipped:Int),.int .i64 (l.scrapped:Int),.int .i64 (l.given:Int)]
def ptrs (bs:List Nat):List Value:=bs.map fun b=>Value.pointer (some ⟨b,0,none⟩)
structure L.Ok (l:L):Prop where
 id:l.id≤2147483647
 goods:l.goods≤2147483647
 expiry:l.expiry≤2147483647
 place:l.place≤30
 sum:l.free+l.held+l.shipped+l.scrapped+l.given≤2147483647
 got:l.got≤2147483647
 par:l.par.length≤2∧∀ p ∈ l.par,p.1≤2147483647
def Prs (t:TypeId) (w:World) (pv:Value) (ps:List (Nat × Nat)):Prop :=
 (pv=.slice none 0 0∧ps=[])∨∃ q cap cs,pv=.slice (some ⟨q,0,none⟩) ps.length cap∧w.heap[q]?=some (.cells cs t (0,0))∧∀ j,j<ps.length→cs[2 * j]?=some (.int .i64 ((ps.getD j (0,0)).1:Int))∧cs[2 * j+1]?=some (.int .i64 ((ps.getD j (0,0)).2:Int))
def Par (w:World) (pv:Value) (ps:List (Nat × Nat)):Prop:=Prs 156 w pv ps
structure PV (os:List O) (rcs:List (Nat × Nat)) (w:World) (S:Nat) (M:Mx) (v:Value) (td:Nat) (bs:List Nat) (pvs:List Value) (ls:List L):Prop where
 store:w.heap[S]?=some (.cells #[.int .i64 (td:Int),v,.map (some M.o),.map (some M.h),.map (some M.r)] 80 (0,0))
 maps:Mp os rcs w M
 row:w.ownsRow 0 129 1 v bs.length (ptrs bs)
 len:bs.length=ls.length
 plen:pvs.length=ls.length
 lot:∀ i,i<ls.length→w.heap[bs.getD i 0]?=some (.cells (lotCells (ls.getD i L0) (pvs.getD i default)) 153 (0,0))
 par:∀ i,i<ls.length→Par w (pvs.getD i default) (ls.getD i L0).par
 nodup:bs.Nodup
 today:td≤2147483647
 ok:∀ l ∈ ls,L.Ok l
 room:ls.length≤30
theorem blk_cell {w:World} {b:Nat} {cs:Array Value} {t:TypeId} (h:w.heap[b]?=some (.cells cs t (0,0))) (j:Nat):w.cell? ⟨b,j,none⟩=cs[j]?:=by
 unfold World.cell?;rw [h];rfl
theorem blk_free {w:World} {b:Nat} {cs:Array Value} {t:TypeId} (h:w.heap[b]?=some (.cells cs t (0,0))) (j:Nat):w.frozen? ⟨b,j,none⟩=false:=by
 unfold World.frozen?;rw [h];simp
theorem blk_lt {w:World} {b:Nat} {o:Obj} (h:w.heap[b]?=some o):b<w.heap.size:=(Array.getElem?_eq_some_iff.1 h).1
theorem PV.c0 {rcs:List (Nat × Nat)} {w:World} {S:Nat} {M:Mx} {v:Value} {td:Nat} {bs:List Nat} {pvs:List Value} {ls:List L} {os:List O} (h:PV os rcs w S M v td bs pvs ls):w.cell? ⟨S,0,none⟩=some (.int .i64 (td:Int)):=by rw [blk_cell h.store];rfl
theorem PV.c1 {rcs:List (Nat × Nat)} {w:World} {S:Nat} {M:Mx} {v:Value} {td:Nat} {bs:List Nat} {pvs:List Value} {ls:List L} {os:List O} (h:PV os rcs w S M v td bs pvs ls):w.cell? ⟨S,1,none⟩=some v:=by rw [blk_cell h.store];rfl
theorem PV.c2 {rcs:List (Nat × Nat)} {w:World} {S:Nat} {M:Mx} {v:Value} {td:Nat} {bs:List Nat} {pvs:List Value} {ls:List L} {os:List O} (h:PV os rcs w S M v td bs pvs ls):w.cell? ⟨S,2,none⟩=some (.map (some M.o)):=by rw [blk_cell h.store];rfl
theorem PV.c3 {rcs:List (Nat × Nat)} {w:World} {S:Nat} {M:Mx} {v:Value} {td:Nat} {bs:List Nat} {pvs:List Value} {ls:List L} {os:List O} (h:PV os rcs w S M v td bs pvs ls):w.cell? ⟨S,3,none⟩=some (.map (some M.h)):=by rw [blk_cell h.store];rfl
theorem PV.c4 {rcs:List (Nat × Nat)} {w:World} {S:Nat} {M:Mx} {v:Value} {td:Nat} {bs:List Nat} {pvs:List Value} {ls:List L} {os:List O} (h:PV os rcs w S M v td bs pvs ls):w.cell? ⟨S,4,none⟩=some (.map (some M.r)):=by rw [blk_cell h.store];rfl
theorem PV.cl {rcs:List (Nat × Nat)} {w:World} {S:Nat} {M:Mx} {v:Value} {td:Nat} {bs:List Nat} {pvs:List Value} {ls:List L} {os:List O} (h:PV os rcs w S M v td bs pvs ls) (i:Nat) (hi:i<ls.length) (j:Nat):w.cell? ⟨bs.getD i 0,j,none⟩=(lotCells (ls.getD i L0) (pvs.getD i default))[j]?:=blk_cell (h.lot i hi) j
theorem PV.shape {rcs:List (Nat × Nat)} {w:World} {S:Nat} {M:Mx} {v:Value} {td:Nat} {bs:List Nat} {pvs:List Value} {ls:List L} {os:List O} (h:PV os rcs w S M v td bs pvs ls):∃ a cap,v=.slice a ls.length cap∧(0<ls.length→∃ G,a=some ⟨G,0,none⟩∧∀ i,i<ls.length→w.cell? ⟨G,i,none⟩=some (.pointer (some ⟨bs.getD i 0,0,none⟩))):=by
 obtain ⟨a,cap,hv⟩:=own_shape h.row
 refine ⟨a,cap,by rw [← h.len];exact hv,fun hp=>?_⟩
 obtain ⟨g,cap',hv',_,_⟩:=own_some h.row (by rw [h.len];exact hp)
 rw [hv] at hv'
 cases hv'
 refine ⟨g,rfl,fun i hi=>?_⟩
 have hr:=h.row
 rw [hv] at hr
 rw [hr.cellAt i (by rw [h.len];omega)]
 have hib:i<bs.length:=by rw [h.len];exact hi
 simp [ptrs,List.getD_eq_getElem?_getD,hib]
def idx (n:Nat) (ls:List L):Nat:=ls.findIdx (fun l=>l.id == n)
theorem idx_hit {n:Nat} {ls:List L} {k:Nat} (hk:k<ls.length) (hb:∀ j,j<k→(ls.getD j L0).id≠n) (hh:(ls.getD k L0).id=n):idx n ls=k:=by
 unfold idx
 rw [List.findIdx_eq hk]
 simp only [List.getD_eq_getElem?_getD,List.getElem?_eq_getElem hk,Option.getD_some] at hh
 refine ⟨by simpa using hh,fun j hj=>?_⟩
 have:=hb j hj
 simp only [List.getD_eq_getElem?_getD,List.getElem?_eq_getElem (show j<ls.length by omega),Option.getD_some] at this
 simpa using this
theorem idx_miss {n:Nat} {ls:List L} (hb:∀ j,j<ls.length→(ls.getD j L0).id≠n):idx n ls=ls.length:=by
 unfold idx
 rw [List.findIdx_eq_length]
 intro x hx
 obtain ⟨j,hj,rfl⟩:=List.getElem_of_mem hx
 have:=hb j hj
 simp only [List.getD_eq_getElem?_getD,List.getElem?_eq_getElem hj,Option.getD_some] at this
 simpa using this
theorem mem_getD {ls:List L} {k:Nat} (hk:k<ls.length):ls.getD k L0 ∈ ls:=by
 simp [List.getD_eq_getElem?_getD,hk]
theorem beqN_t {a b:Nat} (h:a=b):((a:Int) == (b:Int))=true:=by rw [beq_iff_eq];omega
theorem beqN_f {a b:Nat} (h:¬ a=b):((a:Int) == (b:Int))=false:=by rw [beq_eq_false_iff_ne];omega
def findV (bs:List Nat) (ls:List L) (n:Nat):Value:=if idx n ls<ls.length then .pointer (some ⟨bs.getD (idx n ls) 0,0,none⟩) else .pointer none
set_option maxHeartbeats 800000 in
theorem find_any {rcs:List (Nat × Nat)} {w:World} {S:Nat} {M:Mx} {v:Value} {td:Nat} {bs:List Nat} {pvs:List Value} {ls:List L} {os:List O} (h:PV os rcs w S M v td bs pvs ls) (n:Nat) (hn:n≤2147483647) :
  Calls Tryz.prog 77 #[.pointer (some ⟨S,0,none⟩),.int .i64 (n:Int)] w fun e w'=>e=.returned (findV bs ls n)∧w'=w:=by
 obtain ⟨a,cap,hv,hrow⟩:=h.shape
 have c1:=h.c1
 rw [hv] at c1
 have hroom:=h.room
 have HP:=hide h
 clear h hv
 go_enter Tryz.func77,Tryz.ntmps77
 go_wp2_with fail
 go_loop [6,12] (fun _ i=>∃ k:Nat,k≤ls.length∧i=.int .i64 k∧(∀ j,j<k→(ls.getD j L0).id≠n)) (fun _ i=>ls.length - (intOf i).toNat)
 case atStart=>exact ⟨0,by omega,rfl,fun j h=>absurd h (by omega)⟩
 case round =>
  obtain ⟨k,hk,rfl,hne⟩:=hrel
  by_cases hlt:k<ls.length
  ·obtain ⟨G,hG,hcells⟩:=hrow (by omega)
   rw [hG]
   have hck:=hcells k hlt
   have hcl:w.cell? ⟨bs.getD k 0,0,none⟩=some (.int .i64 ((ls.getD k L0).id:Int)):=by rw [HP.out.cl k hlt 0];rfl
   have hid:(ls.getD k L0).id≤2147483647:=(HP.out.ok _ (mem_getD hlt)).id
   obtain ⟨m,HM⟩:∃ m,Hid (m=(ls.getD k L0).id):=⟨_,rfl⟩
   obtain ⟨b,HB⟩:∃ b,Hid (b=bs.getD k 0):=⟨_,rfl⟩
   rw [← HM.out] at hcl hid
   rw [← HB.out] at hcl hck
   clear hcells hG hrow
   by_cases hm:m=n
   ·have hmb:((m:Int) == (n:Int))=true:=beqN_t hm
    have HH:Hid (findV bs ls n=.pointer (some ⟨b,0,none⟩)):=by
     have:=idx_hit hlt hne (by rw [← HM.out];exact hm)
     unfold Hid findV;rw [this,if_pos hlt,← HB.out]
    clear hm
    go_wp2_with fail
    go_ret
    exact ⟨by rw [HH.out];rfl,rfl⟩
   ·have hmb:((m:Int) == (n:Int))=false:=beqN_f hm
    have HN:=hide hm
    clear hm
    go_wp2_with fail
    go_round
    case rel =>
     refine ⟨k+1,by omega,by go_num,?_⟩
     intro j hj
     by_cases hjk:j=k
     ·subst hjk;rw [← HM.out];exact HN.out
     ·exact hne j (by omega)
    case measure=>simp [intOf];omega
  ·obtain rfl:k=ls.length:=by omega
   have HH:Hid (findV bs ls n=.pointer none):=by
    have:=idx_miss hne
    unfold Hid findV;rw [this,if_neg (by omega)]
   clear hrow hlt
   go_wp2_with fail
   go_ret
   exact ⟨by rw [HH.out];rfl,rfl⟩
end Go.Proofs.YtgcedalggnmooabGreatDoor
namespace Go.Proofs.YtgcedalggnmooabGreatDoor
open Go.RowKit
structure Kp (Z:Nat→Prop) (w w':World):Prop where
 os:w'.os=w.os
 tape:w'.tape=w.tape
 output:w'.output=w.output
 size:w.heap.size≤w'.heap.size
 block:∀ k,k<w.heap.size→¬ Z k→w'.heap[k]?=w.heap[k]?
theorem Kp.refl (Z:Nat→Prop) (w:World):Kp Z w w:=⟨rfl,rfl,rfl,Nat.le_refl _,fun _ _ _=>rfl⟩
theorem Kp.trans {Z:Nat→Prop} {a b c:World} (h:Kp Z a b) (k:Kp (fun k=>Z k∨a.heap.size≤k) b c):Kp Z a c :=
 ⟨k.os.trans h.os,k.tape.trans h.tape,k.output.trans h.output,Nat.le_trans h.size k.size,fun i hi hz =>
  (k.block i (Nat.lt_of_lt_of_le hi h.size) (fun hq=>hq.elim hz (fun hq=>absurd hi (by omega)))).trans (h.block i hi hz)⟩
theorem Kp.mono {Z Z':Nat→Prop} {a b:World} (h:Kp Z a b) (hz:∀ k,Z k→Z' k):Kp Z' a b :=
 ⟨h.os,h.tape,h.output,h.size,fun i hi hn=>h.block i hi (fun hq=>hn (hz i hq))⟩
theorem kpB {Z:Nat→Prop} {a b:World} (h:Below a.heap.size a b):Kp Z a b:=⟨h.os,h.tape,h.output,h.size,fun i hi _=>h.block i hi⟩
theorem Kp.after {Z:Nat→Prop} {a b c:World} (h:Kp Z a b) (k:Below b.heap.size b c):Kp Z a c:=h.trans (kpB k)
theorem Kp.before {Z:Nat→Prop} {a b c:World} (h:Below a.heap.size a b) (k:Kp (fun k=>Z k∨a.heap.size≤k) b c):Kp Z a c:=(kpB (Z:=Z) h).trans k
theorem Kp.setCell {Z:Nat→Prop} {a w:World} (h:Kp Z a w) {p:Addr} (hp:Z p.block∨a.heap.size≤p.block) (u:Value):Kp Z a (w.setCell p u) :=
 h.trans ⟨rfl,rfl,rfl,by simp [World.setCell],fun k _ hz=>Below.heap_setCell _ _ _ _ (fun e=>hz (by rw [e];exact hp))⟩
theorem Kp.grown {Z:Nat→Prop} {a w w':World} {row:Option Nat} (h:Kp Z a w) (hg:w.grownBy w' row) (hr:∀ k,row=some k→Z k∨a.heap.size≤k):Kp Z a w' :=
 h.trans ⟨hg.os,hg.tape,hg.output,hg.size,fun k hk hz=>hg.block k hk (fun e=>hz (hr k e.symm))⟩
theorem grownBy_setCell (w:World) (a:Addr) (u:Value):w.grownBy (w.setCell a u) (some a.block) :=
 ⟨rfl,rfl,rfl,by simp [World.setCell],fun k _ hk=>Below.heap_setCell _ _ _ _ (fun e=>hk (by rw [e]))⟩
structure PIn (Z:Nat→Prop) (S:Nat) (M:Mx) (v:Value) (bs:List Nat) (pvs:List Value):Prop where
 s:Z S
 m:Z M.r
 mo:Z M.o
 mh:Z M.h
 v:∀ g,v.ownBlock=some g→Z g
 b:∀ k ∈ bs,Z k
 p:∀ pv ∈ pvs,∀ q,pv.ownBlock=some q→Z q
theorem PIn.mono {Z Z':Nat→Prop} {S:Nat} {M:Mx} {v:Value} {bs:List Nat} {pvs:List Value} (h:PIn Z S M v bs pvs) (hz:∀ k,Z k→Z' k):PIn Z' S M v bs pvs :=
 ⟨hz _ h.s,hz _ h.m,hz _ h.mo,hz _ h.mh,fun g hg=>hz _ (h.v g hg),fun k hk=>hz _ (h.b k hk),fun pv hp q hq=>hz _ (h.p pv hp q hq)⟩
theorem Prs.congr {t:TypeId} {w w':World} {pv:Value} {ps:List (Nat × Nat)} (h:Prs t w pv ps) (hq:∀ q,pv.ownBlock=some q→w'.heap[q]?=w.heap[q]?):Prs t w' pv ps:=by
 rcases h with h | ⟨q,cap,cs,h1,h3,h4⟩
 ·exact Or.inl h
 ·exact Or.inr ⟨q,cap,cs,h1,by rw [hq q (by rw [h1];rfl)];exact h3,h4⟩
theorem Par.congr {w w':World} {pv:Value} {ps:List (Nat × Nat)} (h:Par w pv ps) (hq:∀ q,pv.ownBlock=some q→w'.heap[q]?=w.heap[q]?):Par w' pv ps:=Prs.congr h hq
theorem Prs.blk {t:TypeId} {w:World} {pv:Value} {ps:List (Nat × Nat)} (h:Prs t w pv ps) {q:Nat} (hq:pv.ownBlock=some q):∃ cs,w.heap[q]?=some (.cells cs t (0,0)):=by
 rcases h with ⟨h1,_⟩ | ⟨q',cap,cs,h1,h3,h4⟩
 ·rw [h1] at hq;cases hq
 ·rw [h1] at hq;cases hq;exact ⟨cs,h3⟩
theorem Par.blk {w:World} {pv:Value} {ps:List (Nat × Nat)} (h:Par w pv ps) {q:Nat} (hq:pv.ownBlock=some q):∃ cs,w.heap[q]?=some (.cells cs 156 (0,0)):=Prs.blk h hq
theorem Prs.isSl {t:TypeId} {w:World} {pv:Value} {ps:List (Nat × Nat)} (h:Prs t w pv ps):∃ a c,pv=.slice a ps.length c:=by
 rcases h with ⟨h1,h2⟩ | ⟨q',cap,cs,h1,h3,h4⟩
 ·exact ⟨none,0,by rw [h1,h2];rfl⟩
 ·exact ⟨_,_,h1⟩
theorem own_congr {w w':World} {base e size n:Nat} {v:Value} {xs:List Value} (h:w.ownsRow base e size v n xs) (hq:∀ g,v.ownBlock=some g→w'.heap[g]?=w.heap[g]?):w'.ownsRow base e size v n xs:=by
 refine ⟨h.1,?_⟩
 rcases h.2 with h2 | ⟨g,cap,cur,h1,h2,h3,h4⟩
 ·exact Or.inl h2
 ·exact Or.inr ⟨g,cap,cur,h1,h2,by rw [hq g (by rw [h1];rfl)];exact h3,h4⟩
theorem getD_mem_nat {l:List Nat} {i:Nat} (h:i<l.length):l.getD i 0 ∈ l:=by simp [List.getD_eq_getElem?_getD,h]
theorem getD_mem_val {l:List Value} {i:Nat} (h:i<l.length):l.getD i default ∈ l:=by simp [List.getD_eq_getElem?_getD,h]
theorem PV.congr {rcs:List (Nat × Nat)} {Z:Nat→Prop} {w w':World} {S:Nat} {M:Mx} {v:Value} {td:Nat} {bs:List Nat} {pvs:List Value} {ls:List L} {os:List O} (h:PV os rcs w S M v td bs pvs ls) (hi:PIn Z S M v bs pvs) (hq:∀ k,Z k→w'.heap[k]?=w.heap[k]?):PV os rcs w' S M v td bs pvs ls := {
 store:=by rw [hq S hi.s];exact h.store
 maps:=h.maps.congr3 (hq _ hi.m) (hq _ hi.mo) (hq _ hi.mh)
 row:=own_congr h.row (fun g hg=>hq g (hi.v g hg))
 len:=h.len
 plen:=h.plen
 lot:=fun i hl=>by rw [hq _ (hi.b _ (getD_mem_nat (by rw [h.len];exact hl)))];exact h.lot i hl
 par:=fun i hl=>(h.par i hl).congr (fun q hq'=>hq q (hi.p _ (getD_mem_val (by rw [h.plen];exact hl)) q hq'))
 nodup:=h.nodup
 today:=h.today
 ok:=h.ok
 room:=h.room }
theorem PV.below {rcs:List (Nat × Nat)} {w w':World} {S:Nat} {M:Mx} {v:Value} {td:Nat} {bs:List Nat} {pvs:List Value} {ls:List L} {os:List O} (h:PV os rcs w S M v td bs pvs ls) (hb:Below w.heap.size w w'):PV os rcs w' S M v td bs pvs ls := {
 store:=by rw [hb.block S (blk_lt h.store)];exact h.store
 maps:=h.maps.congr (fun k es c hk=>hb.block k (blk_lt hk))
 row:=own_below h.row hb
 len:=h.len
 plen:=h.plen
 lot:=fun i hl=>by rw [hb.block _ (blk_lt (h.lot i hl))];exact h.lot i hl
 par:=fun i hl=>(h.par i hl).congr (fun q hq'=>by
  obtain ⟨cs,h3⟩:=(h.par i hl).blk hq'
  exact hb.block _ (blk_lt h3))
 nodup:=h.nodup
 today:=h.today
 ok:=h.ok
 room:=h.room }
def roomC (ls:List L) (n:Nat):Nat:=if idx n ls<ls.length then 5 else if 30≤ls.length then 6 else 0
set_option maxHeartbeats 800000 in
theorem room_any {rcs:List (Nat × Nat)} {w:World} {S:Nat} {M:Mx} {v:Value} {td:Nat} {bs:List Nat} {pvs:List Value} {ls:List L} {os:List O} (h:PV os rcs w S M v td bs pvs ls) (n:Nat) (hn:n≤2147483647) :
  Calls Tryz.prog 75 #[.pointer (some ⟨S,0,none⟩),.int .i64 (n:Int)] w fun e w'=>e=.returned (.int .i64 (roomC ls n:Int))∧w'=w:=by
 have H1:=hide (find_any h n hn)
 obtain ⟨a,cap,hv,_⟩:=h.shape
 have c1:=h.c1
 rw [hv] at c1
 have hroom:=h.room
 clear h hv
 by_cases hi:idx n ls<ls.length
 ·have HR:Hid (roomC ls n=5):=by unfold Hid roomC;rw [if_pos hi]
  have HF:Hid (findV bs ls n=.pointer (some ⟨bs.getD (idx n ls) 0,0,none⟩)):=by unfold Hid findV;rw [if_pos hi]
  rw [HF.out] at H1
  generalize bs.getD (idx n ls) 0=b at H1
  clear hi HF
  go_enter Tryz.func75,Tryz.ntmps75
  go_wp2_with (go_at_call 77;refine (H1.out).mono ?_;rintro e w1 ⟨rfl,rfl⟩)
  go_ret
  exact ⟨by rw [HR.out];rfl,rfl⟩
 ·have HF:Hid (findV bs ls n=.pointer none):=by unfold Hid findV;rw [if_neg hi]
  rw [HF.out] at H1
  by_cases h30:30≤ls.length
  ·have HR:Hid (roomC ls n=6):=by unfold Hid roomC;rw [if_neg hi,if_pos h30]
   clear hi HF
   go_enter Tryz.func75,Tryz.ntmps75
   go_wp2_with (go_at_call 77;refine (H1.out).mono ?_;rintro e w1 ⟨rfl,rfl⟩)
   go_ret
   exact ⟨by rw [HR.out];rfl,rfl⟩
  ·have HR:Hid (roomC ls n=0):=by unfold Hid roomC;rw [if_neg hi,if_neg h30]
   clear hi HF
   go_enter Tryz.func75,Tryz.ntmps75
   go_wp2_with (go_at_call 77;refine (H1.out).mono ?_;rintro e w1 ⟨rfl,rfl⟩)
   go_ret
   exact ⟨by rw [HR.out];rfl,rfl⟩
theorem ty_ne {w:World} {a b:Nat} {cs ds:Array Value} {t u:TypeId} {f g:Nat × Nat} (h:w.heap[a]?=some (.cells cs t f)) (k:w.heap[b]?=some (.cells ds u g)) (hne:t≠u):a≠b:=by
 rintro rfl;rw [h] at k;cases k;exact hne rfl
theorem map_ne {w:World} {a b:Nat} {cs:Array Value} {t:TypeId} {f:Nat × Nat} {es:Array MapEntry} {c:Nat} (h:w.heap[a]?=some (.cells cs t f)) (k:w.heap[b]?=some (.map es c)):a≠b:=by
 rintro rfl;rw [h] at k;cases k
theorem own_ty {w:World} {base e size n:Nat} {v:Value} {xs:List Value} (h:w.ownsRow base e size v n xs) {g:Nat} (hg:v.ownBlock=some g):∃ cs,w.heap[g]?=some (.cells cs e (0,0)):=by
 rcases h.2 with ⟨h2,_⟩ | ⟨g',cap,cur,h1,h2,h3,h4⟩
 ·rw [h2] at hg;cases hg
 ·rw [h1] at hg;cases hg;exact ⟨cur,h3⟩
theorem getD_snoc_lt {α:Type} (l:List α) (x d:α) (i:Nat) (h:i<l.length):(l++[x]).getD i d=l.getD i d:=by
 simp [List.getD_eq_getElem?_getD,List.getElem?_append_left h]
theorem getD_snoc_eq {α:Type} (l:List α) (x d:α) (i:Nat) (h:i=l.length):(l++[x]).getD i d=x:=by
 subst h;simp [List.getD_eq_getElem?_getD]
theorem PV.added {rcs:List (Nat × Nat)} {w W1 W2:World} {S:Nat} {M:Mx} {v v':Value} {td:Nat} {bs:List Nat} {pvs:List Value} {ls:List L} {os:List O} (h:PV os rcs w S M v td bs pvs ls) {pv:Value} {l:L}
  (hW1:∀ k,k<w.heap.size→W1.heap[k]?=w.heap[k]?) (hb:W1.heap[w.heap.size]?=some (.cells (lotCells l pv) 153 (0,0)))
  (hown:W2.ownsRow 0 129 1 v' (bs.length+1) (ptrs bs++[.pointer (some ⟨w.heap.size,0,none⟩)])) (hg:W1.grownBy W2 v.ownBlock) (hl:L.Ok l) (hpar:Par w pv l.par) (hlen:ls.length<30) (hgrow':w.heap.size<W1.heap.size) :
  PV os rcs (W2.setCell ⟨S,1,none⟩ v') S M v' td (bs++[w.heap.size]) (pvs++[pv]) (ls++[l]):=by
 have hS:=blk_lt h.store
 have hrowS:v.ownBlock≠some S:=fun e=>by
  obtain ⟨cs,hc⟩:=own_ty h.row e
  exact ty_ne h.store hc (by decide) rfl
 have hrowM:∀ (k:Nat) (es:Array MapEntry) (c:Nat),w.heap[k]?=some (.map es c)→v.ownBlock≠some k:=fun k es c hM e=>by
  obtain ⟨cs,hc⟩:=own_ty h.row e
  exact map_ne hc hM rfl
 have old:∀ k,k<w.heap.size→v.ownBlock≠some k→W2.heap[k]?=w.heap[k]?:=fun k hk hn=>(hg.block k (by omega) (fun e=>hn e.symm)).trans (hW1 k hk)
 have oldS:∀ k,k<w.heap.size→v.ownBlock≠some k→k≠S→(W2.setCell ⟨S,1,none⟩ v').heap[k]?=w.heap[k]?:=fun k hk hn hs=>(Below.heap_setCell _ _ _ _ hs).trans (old k hk hn)
 have hS2:W2.heap[S]?=some (.cells #[.int .i64 (td:Int),v,.map (some M.o),.map (some M.h),.map (some M.r)] 80 (0,0)):=(old S hS hrowS).trans h.store
 have hrowb:v.ownBlock≠some w.heap.size:=fun e=>by
  obtain ⟨cs,hc⟩:=own_ty h.row e
  have:=blk_lt hc
  omega
 have hb2:W2.heap[w.heap.size]?=some (.cells (lotCells l pv) 153 (0,0)):=(hg.block _ hgrow' (fun e=>hrowb e.symm)).trans hb
 have hlotne:∀ i,i<ls.length→bs.getD i 0≠S∧v.ownBlock≠some (bs.getD i 0):=fun i hi=>⟨(ty_ne h.store (h.lot i hi) (by decide)).symm,fun e=>by
  obtain ⟨cs,hc⟩:=own_ty h.row e
  exact ty_ne (h.lot i hi) hc (by decide) rfl⟩
 have hparold:∀ pv' ps,Par w pv' ps→Par (W2.setCell ⟨S,1,none⟩ v') pv' ps:=fun pv' ps hp=>hp.congr (fun q hq=>by
   obtain ⟨cs,h3⟩:=hp.blk hq
   exact oldS _ (blk_lt h3) (fun e=>by
    obtain ⟨cs',hc⟩:=own_ty h.row e
    exact ty_ne h3 hc (by decide) rfl) (ty_ne h.store h3 (by decide)).symm)
 refine ⟨?_,?_,?_,by simp [h.len],by simp [h.plen],?_,?_,?_,h.today,?_,by simp;omega⟩
 ·have:=heap_setCell_same W2 S 1 _ 80 v' hS2
  simpa using this
 ·exact h.maps.congr (fun k es c hk=>oldS k (blk_lt hk) (hrowM k es c hk) (map_ne h.store hk).symm)
 ·have hk:=hown.kept (grownBy_setCell W2 ⟨S,1,none⟩ v') (Or.inr (fun e=>by
   obtain ⟨cs,hc⟩:=own_ty hown (g:=S) e
   exact ty_ne hS2 hc (by decide) rfl))
  have e:ptrs (bs++[w.heap.size])=ptrs bs++[.pointer (some ⟨w.heap.size,0,none⟩)]:=by simp [ptrs]
  rw [e,List.length_append];exact hk
 ·intro i hi
  rw [List.length_append,List.length_singleton] at hi
  by_cases hlt:i<ls.length
  ·rw [getD_snoc_lt bs _ _ _ (by rw [h.len];exact hlt),getD_snoc_lt ls _ _ _ hlt,getD_snoc_lt pvs _ _ _ (by rw [h.plen];exact hlt),oldS _ (blk_lt (h.lot i hlt)) (hlotne i hlt).2 (hlotne i hlt).1]
   exact h.lot i hlt
  ·have hi':i=ls.length:=by omega
   rw [getD_snoc_eq bs _ _ _ (by rw [h.len];exact hi'),getD_snoc_eq ls _ _ _ hi',getD_snoc_eq pvs _ _ _ (by rw [h.plen];exact hi'),Below.heap_setCell _ _ _ _ (show w.heap.size≠S by omega)]
   exact hb2
 ·intro i hi
  rw [List.length_append,List.length_singleton] at hi
  by_cases hlt:i<ls.length
  ·rw [getD_snoc_lt pvs _ _ _ (by rw [h.plen];exact hlt),getD_snoc_lt ls _ _ _ hlt]
   exact hparold _ _ (h.par i hlt)
  ·rw [getD_snoc_eq pvs _ _ _ (by rw [h.plen];omega),getD_snoc_eq ls _ _ _ (by omega)]
   exact hparold _ _ hpar
 ·rw [List.nodup_append]
  refine ⟨h.nodup,by simp,?_⟩
  intro a ha b hb'
  simp at hb'
  subst hb'
  obtain ⟨i,hi,rfl⟩:=List.getElem_of_mem ha
  have:=blk_lt (h.lot i (by rw [← h.len];exact hi))
  rw [List.getD_eq_getElem?_getD,List.getElem?_eq_getElem hi] at this
  simp at this
  omega
 ·intro x hx
  rcases List.mem_append.1 hx with hx | hx
  ·exact h.ok x hx
  ·simp at hx;subst hx;exact hl
end Go.Proofs.YtgcedalggnmooabGreatDoor
namespace Go.Proofs.YtgcedalggnmooabGreatDoor
open Go.RowKit
theorem tU57:Tryz.prog.underlying 78=some (.slice 129):=by kernel_rfl
theorem info149:(Tryz.prog.info? 129).map (fun i=>(i.zero,i.size,i.bytes))=some (some (.pointer none),1,8):=by kernel_rfl
theorem one_new' (w1:World) (x:Value) (t:TypeId) (b:Nat) (hb:b=w1.heap.size):∀ (j:Nat) (u:Value),[x][j]?=some u→(w1.alloc (.cells #[x] t)).cell? (Addr.add ⟨b,0,none⟩ j)=some u:=by
 subst hb;exact one_new w1 x t
set_option maxHeartbeats 800000 in
theorem add_any {rcs:List (Nat × Nat)} {w:World} {S:Nat} {M:Mx} {v:Value} {td:Nat} {bs:List Nat} {pvs:List Value} {ls:List L} {os:List O} (h:PV os rcs w S M v td bs pvs ls) (id goods expiry got:Nat) (pv:Value) (ps:List (Nat × Nat)) (hpar:Par w pv ps) (hps:ps.length≤2∧∀ p ∈ ps,p.1≤2147483647) (hlen:ls.length<30)
  (h1:id≤2147483647) (h2:goods≤2147483647) (h3:expiry≤2147483647) (h4:got≤2147483647) :
  Calls Tryz.prog 76 #[.pointer (some ⟨S,0,none⟩),.agg #[.int .i64 (id:Int),.int .i64 (goods:Int),.int .i64 (expiry:Int),.int .i64 0,pv,.int .i64 (got:Int),.int .i64 0,.int .i64 0,.int .i64 0,.int .i64 0,.int .i64 0]] w
   fun e w'=>e=.returned (.tuple #[])∧Kp (fun k=>k=S∨v.ownBlock=some k) w w'∧∃ v',PV os rcs w' S M v' td (bs++[w.heap.size]) (pvs++[pv]) (ls++[{ id:=id,goods:=goods,expiry:=expiry,place:=ls.length+1,got:=got,free:=got,held:=0,shipped:=0,scrapped:=0,given:=0,par:=ps }]) ∧
    (∀ g,v'.ownBlock=some g→v.ownBlock=some g∨w.heap.size≤g):=by
 obtain ⟨i0,hi,hz0,hz1,hz2⟩:=info_parts info149
 obtain ⟨a,cap,hv,_⟩:=h.shape
 have hS:=blk_lt h.store
 have hSs:S<w.heap.size:=hS
 have c1:=h.c1
 have f1:=blk_free h.store 1
 have hrow:=h.row
 rw [h.len] at hrow
 rw [hv] at c1 hrow
 have HP:=hide h
 obtain ⟨n,HN⟩:∃ n,Hid (n=ls.length):=⟨_,rfl⟩
 rw [← HN.out] at c1 hrow hlen
 have hpvs:∃ pa pl pc,pv=.slice pa pl pc:=by
  obtain ⟨a,c,h⟩:=Prs.isSl hpar
  exact ⟨_,_,_,h⟩
 obtain ⟨pa,pl,pc,hpv⟩:=hpvs
 have HPV:=hide hpv
 have HV:=hide hv
 rw [hpv]
 clear h hv hpv
 go_enter Tryz.func76,Tryz.ntmps76
 go_wp2_with (at_builtin;refine wpList_append_own_at _ rfl _ _ 78 rfl 0 129 i0 (.pointer none) 1 8 tU57 hi hz0 hz1 hz2 rfl (by decide) _ n (ptrs bs) rfl ?ho ⟨w.heap.size+1,0,none⟩ 1 1 [.pointer (some ⟨w.heap.size,0,none⟩)] rfl rfl ?c1 ?c2 ?c3 ?c4 ?c5 ?_)
 case ho=>exact (hrow.alloc _).alloc _
 case c1=>exact one_new' _ _ _ _ (by simp)
 case c2=>intro u hu;simp at hu;subst hu;rfl
 case c3=>unfold maxLen;omega
 case c4=>omega
 case c5=>exact Nat.zero_le _
 intro v' w2 hown2 hgrow hnn hat
 have hP:=HP.out
 have hlots:(lotCells { id:=id,goods:=goods,expiry:=expiry,place:=ls.length+1,got:=got,free:=got,held:=0,shipped:=0,scrapped:=0,given:=0,par:=ps } pv)=#[.int .i64 (id:Int),.int .i64 (goods:Int),.int .i64 (expiry:Int),.int .i64 ((n:Int)+1),.slice pa pl pc,.int .i64 (got:Int),.int .i64 (got:Int),.int .i64 0,.int .i64 0,.int .i64 0,.int .i64 0]:=by
  rw [HPV.out,HN.out];rfl
 have hvb:v.ownBlock=(Value.slice a n cap).ownBlock:=by rw [HV.out,HN.out]
 have hgrow':((w.alloc (.cells #[.int .i64 (id:Int),.int .i64 (goods:Int),.int .i64 (expiry:Int),.int .i64 ((n:Int)+1),.slice pa pl pc,.int .i64 (got:Int),.int .i64 (got:Int),.int .i64 0,.int .i64 0,.int .i64 0,.int .i64 0] 153)).alloc (.cells #[.pointer (some ⟨w.heap.size,0,none⟩)] 129)).grownBy w2 v.ownBlock:=by rw [hvb];exact hgrow
 have hW1:∀ k,k<w.heap.size→((w.alloc (.cells #[.int .i64 (id:Int),.int .i64 (goods:Int),.int .i64 (expiry:Int),.int .i64 ((n:Int)+1),.slice pa pl pc,.int .i64 (got:Int),.int .i64 (got:Int),.int .i64 0,.int .i64 0,.int .i64 0,.int .i64 0] 153)).alloc (.cells #[.pointer (some ⟨w.heap.size,0,none⟩)] 129)).heap[k]?=w.heap[k]?:=fun k hk=>by
  rw [Below.heap_alloc _ _ _ (by simp;omega),Below.heap_alloc _ _ _ hk]
 have hb:((w.alloc (.cells #[.int .i64 (id:Int),.int .i64 (goods:Int),.int .i64 (expiry:Int),.int .i64 ((n:Int)+1),.slice pa pl pc,.int .i64 (got:Int),.int .i64 (got:Int),.int .i64 0,.int .i64 0,.int .i64 0,.int .i64 0] 153)).alloc (.cells #[.pointer (some ⟨w.heap.size,0,none⟩)] 129)).heap[w.heap.size]?=some (.cells (lotCells { id:=id,goods:=goods,expiry:=expiry,place:=ls.length+1,got:=got,free:=got,held:=0,shipped:=0,scrapped:=0,given:=0,par:=ps } pv) 153 (0,0)):=by
  rw [Below.heap_alloc _ _ _ (by simp),hlots];exact heap_alloc_new w _
 have hnew:=hP.added hW1 hb (by rw [hP.len,← HN.out];exact hown2) hgrow' ⟨h1,h2,h3,(by show ls.length+1≤30;have:=HN.out;omega),(by simp;omega),h4,hps⟩ hpar (by have:=HN.out;omega) (by simp;omega)
 have hrowS:v.ownBlock≠some S:=fun e=>by
  obtain ⟨cs,hc⟩:=own_ty hP.row e
  exact ty_ne hP.store hc (by decide) rfl
 have hS2:w2.heap[S]?=some (.cells #[.int .i64 (td:Int),v,.map (some M.o),.map (some M.h),.map (some M.r)] 80 (0,0)):=((hgrow'.block S (by simp;omega) (fun e=>hrowS e.symm)).trans (hW1 S hS)).trans hP.store
 have hc2:w2.cell? ⟨S,1,none⟩=some v:=by rw [blk_cell hS2];rfl
 have hf2:=blk_free hS2 1
 have hkp:Kp (fun k=>k=S∨v.ownBlock=some k) w (w2.setCell ⟨S,1,none⟩ v'):=by
  refine Kp.setCell ?_ (Or.inl (Or.inl rfl)) _
  refine Kp.grown (kpB ?_) hgrow' (fun k hk=>Or.inl (Or.inr hk))
  exact ((Below.refl _ _).alloc (Nat.le_refl _) _).alloc (by simp) _
 have hat':∀ g,v'.ownBlock=some g→v.ownBlock=some g∨w.heap.size≤g:=fun g hg=>by
  rcases hat with h | h
  ·left;rw [hvb];exact h.symm.trans hg
  ·right;rw [h] at hg;simp at hg;omega
 obtain ⟨g,cap',hv',_,_⟩:=own_some hown2 (by omega)
 have HNew:=hide hnew
 have HK:=hide hkp
 have HA:=hide hat'
 rw [hv'] at HNew HK HA
 rw [hv']
 clear hown2 hgrow hgrow' hW1 hb hnew hkp hat' hat hnn hv' hlots hvb hS2 hrow c1 f1 hP
 go_wp2_with fail
 go_end0
 have HN2:=HNew.out
 rw [HPV.out] at HN2
 exact ⟨rfl,HK.out,_,HN2,HA.out⟩
end Go.Proofs.YtgcedalggnmooabGreatDoor
namespace Go.Proofs.YtgcedalggnmooabGreatDoor
open Go.RowKit
def Zn (Z:Nat→Prop) (w:World) (k:Nat):Prop:=Z k∨w.heap.size≤k
def PI (os:List O) (rcs:List (Nat × Nat)) (Z:Nat→Prop) (w:World) (S td:Nat) (ls:List L):Prop:=∃ M v bs pvs,PV os rcs w S M v td bs pvs ls∧PIn Z S M v bs pvs
theorem PI.mono {rcs:List (Nat × Nat)} {Z Z':Nat→Prop} {w:World} {S td:Nat} {ls:List L} {os:List O} (h:PI os rcs Z w S td ls) (hz:∀ k,Z k→Z' k):PI os rcs Z' w S td ls:=by
 obtain ⟨M,v,bs,pvs,h1,h2⟩:=h
 exact ⟨M,v,bs,pvs,h1,h2.mono hz⟩
theorem al1 (w:World) (o:Obj):Below w.heap.size w (w.alloc o):=(Below.refl _ _).alloc (Nat.le_refl _) _
theorem PV.store_set {rcs:List (Nat × Nat)} {w w':World} {S:Nat} {M:Mx} {v:Value} {td td':Nat} {bs:List Nat} {pvs:List Value} {ls:List L} {os:List O} (h:PV os rcs w S M v td bs pvs ls) (hS:w'.heap[S]?=some (.cells #[.int .i64 (td':Int),v,.map (some M.o),.map (some M.h),.map (some M.r)] 80 (0,0))) (hq:∀ k,k≠S→w'.heap[k]?=w.heap[k]?) (ht:td'≤2147483647):PV os rcs w' S M v td' bs pvs ls := {
 store:=hS
 maps:=h.maps.congr (fun k es c hk=>hq k (map_ne h.store hk).symm)
 row:=own_congr h.row (fun g hg=>hq g (by
  obtain ⟨cs,hc⟩:=own_ty h.row hg
  exact (ty_ne h.store hc (by decide)).symm))
 len:=h.len
 plen:=h.plen
 lot:=fun i hl=>by rw [hq _ (ty_ne h.store (h.lot i hl) (by decide)).symm];exact h.lot i hl
 par:=fun i hl=>(h.par i hl).congr (fun q hq'=>by
  obtain ⟨cs,h3⟩:=(h.par i hl).blk hq'
  exact hq _ (ty_ne h.store h3 (by decide)).symm)
 nodup:=h.nodup
 today:=ht
 ok:=h.ok
 room:=h.room }
theorem PV.days {rcs:List (Nat × Nat)} {w:World} {S:Nat} {M:Mx} {v:Value} {td:Nat} {bs:List Nat} {pvs:List Value} {ls:List L} {os:List O} (h:PV os rcs w S M v td bs pvs ls) (d:Nat) (hd:d≤2147483647):PV os rcs (w.setCell ⟨S,0,none⟩ (.int .i64 (d:Int))) S M v d bs pvs ls:=by
 refine h.store_set ?_ (fun k hk=>Below.heap_setCell _ _ _ _ hk) hd
 have:=heap_setCell_same w S 0 _ 80 (.int .i64 (d:Int)) h.store
 simpa using this
set_option maxHeartbeats 800000 in
theorem day_any {rcs:List (Nat × Nat)} {Z:Nat→Prop} {w:World} {S td:Nat} {ls:List L} {os:List O} (h:PI os rcs Z w S td ls) (d:Nat) (hd:d≤2147483647) :
  Calls Tryz.prog 47 #[.pointer (some ⟨S,0,none⟩),.agg #[.int .i64 (d:Int)]] w fun e w'=>Kp Z w w' ∧
   ((d<td∧e=.returned (.int .i64 3)∧PI os rcs (Zn Z w) w' S td ls)∨(td≤d∧e=.returned (.int .i64 0)∧PI os rcs (Zn Z w) w' S d ls)):=by
 obtain ⟨M,v,bs,pvs,h1,hin⟩:=h
 have hS:=blk_lt h1.store
 have c0:=h1.c0
 have htd:=h1.today
 have f0:=blk_free h1.store 0
 have HP:=hide h1
 clear h1
 by_cases hlt:d<td
 ·go_enter Tryz.func47,Tryz.ntmps47
  go_wp2_with fail
  go_region
  go_wp2_with fail
  go_ret
  refine ⟨?_,Or.inl ⟨hlt,rfl,M,v,bs,pvs,?_,hin.mono (fun k hk=>Or.inl hk)⟩⟩
  ·exact kpB (al1 w _).drew
  ·exact HP.out.below (al1 w _).drew
 ·have hge:td≤d:=by omega
  go_enter Tryz.func47,Tryz.ntmps47
  go_wp2_with fail
  go_region
  go_wp2_with fail
  go_ret
  refine ⟨?_,Or.inr ⟨hge,rfl,M,v,bs,pvs,?_,hin.mono (fun k hk=>Or.inl hk)⟩⟩
  ·exact (((Kp.refl Z w).setCell (Or.inl hin.s) _).after (al1 _ _)).after (Below.refl _ _).drew
  ·exact ((HP.out.days d hd).below (al1 _ _)).below (Below.refl _ _).drew
set_option maxHeartbeats 800000 in
theorem receive_any {rcs:List (Nat × Nat)} {Z:Nat→Prop} {w:World} {S td:Nat} {ls:List L} {os:List O} (h:PI os rcs Z w S td ls) (lot goods count expiry:Nat) (h1:lot≤2147483647) (h2:goods≤2147483647) (h3:count≤2147483647) (h4:expiry≤2147483647) :
  Calls Tryz.prog 48 #[.pointer (some ⟨S,0,none⟩),.agg #[.int .i64 (lot:Int),.int .i64 (goods:Int),.int .i64 (count:Int),.int .i64 (expiry:Int)]] w fun e w'=>Kp Z w w'∧e=.returned (.int .i64 (roomC ls lot:Int)) ∧
   PI os rcs (Zn Z w) w' S td (if roomC ls lot=0 then ls++[{ id:=lot,goods:=goods,expiry:=expiry,place:=ls.length+1,got:=count,free:=count,held:=0,shipped:=0,scrapped:=0,given:=0 }] else ls):=by
 obtain ⟨M,v,bs,pvs,hP,hin⟩:=h
 obtain ⟨o,HO⟩:∃ o,Hid (o=Obj.cells #[.int .i64 (lot:Int),.int .i64 (goods:Int),.int .i64 (count:Int),.int .i64 (expiry:Int)] 89):=⟨_,rfl⟩
 have hP1:=hP.below (al1 w (Obj.cells #[.int .i64 (lot:Int),.int .i64 (goods:Int),.int .i64 (count:Int),.int .i64 (expiry:Int)] 89))
 have HR:=hide (room_any hP1 lot h1)
 have hrle:roomC ls lot≤6:=by unfold roomC;split <;> (try split) <;> omega
 by_cases hr:roomC ls lot=0
 ·have hl30:ls.length<30:=by
   unfold roomC at hr
   by_cases hq:30≤ls.length
   ·split at hr
    ·omega
    ·omega
   ·omega
  have HA:=hide (add_any hP1 lot goods expiry count (.slice none 0 0) [] (Or.inl ⟨rfl,rfl⟩) ⟨by simp,by simp⟩ hl30 h1 h2 h4 h3)
  rw [hr] at HR ⊢
  rw [if_pos rfl]
  have HP:=hide hP
  clear hP hP1 hr
  go_enter Tryz.func48,Tryz.ntmps48
  go_wp2_with (first
   | (go_at_call 75;refine (HR.out).mono ?_;rintro e w1 ⟨rfl,rfl⟩)
   | (go_at_call 76;refine (HA.out).mono ?_;rintro e w2 ⟨rfl,hk,v',hPV,hat⟩))
  go_ret
  refine ⟨?_,rfl,M,v',_,_,hPV,?_⟩
  ·exact Kp.before (al1 w _) (hk.mono (fun k hq=>Or.inl (hq.elim (fun e=>e ▸ hin.s) (fun e=>hin.v k e))))
  ·refine ⟨Or.inl hin.s,Or.inl hin.m,Or.inl hin.mo,Or.inl hin.mh,fun g hg=>?_,fun k hk=>?_,fun pv hp q hq=>?_⟩
   ·rcases hat g hg with h | h
    ·exact Or.inl (hin.v g h)
    ·right;simp at h;omega
   ·rcases List.mem_append.1 hk with h | h
    ·exact Or.inl (hin.b k h)
    ·right;simp at h;omega
   ·rcases List.mem_append.1 hp with h | h
    ·exact Or.inl (hin.p pv h q hq)
    ·simp at h;subst h;cases hq
 ·rw [if_neg hr]
  have hrb:((roomC ls lot:Int) != 0)=true:=by rw [bne_iff_ne];omega
  generalize roomC ls lot=rc at *
  go_enter Tryz.func48,Tryz.ntmps48
  go_wp2_with (go_at_call 75;refine (HR.out).mono ?_;rintro e w1 ⟨rfl,rfl⟩)
  go_ret
  exact ⟨kpB (al1 w _),rfl,M,v,bs,pvs,hP1,hin.mono (fun k hk=>Or.inl hk)⟩
end Go.Proofs.YtgcedalggnmooabGreatDoor
namespace Go.Proofs.YtgcedalggnmooabGreatDoor
def heldBy (o:O) (n:Nat):Nat:=(o.lines.lookup n).getD 0
def heldSum (os:List O) (n:Nat):Nat:=(os.map fun o=>heldBy o n).sum
structure Good (os:List O) (ls:List L):Prop where
 ids:∀ i j,i<ls.length→j<ls.length→(ls.getD i L0).id=(ls.getD j L0).id→i=j
 place:∀ i,i<ls.length→(ls.getD i L0).place=i+1
 oids:(os.map O.id).Nodup
 oid:∀ o ∈ os,o.id≤2147483647
 olen:os.length≤10
 keys:∀ o ∈ os,(o.lines.map Prod.fst).Nodup
 mem:∀ o ∈ os,∀ p ∈ o.lines,∃ i,i<ls.length∧(ls.getD i L0).id=p.1
 held:∀ i,i<ls.length→(ls.getD i L0).held=heldSum os (ls.getD i L0).id
theorem good_nil:Good [] []:=⟨fun i j h=>absurd h (by simp),fun i h=>absurd h (by simp),by simp,fun o h=>absurd h (by simp),by simp,fun o h=>absurd h (by simp),fun o h=>absurd h (by simp),fun i h=>absurd h (by simp)⟩
theorem gset_eq {ls:List L} {i:Nat} (hi:i<ls.length) (l:L):(ls.set i l).getD i L0=l:=by simp [List.getD_eq_getElem?_getD,List.getElem?_set,hi]
theorem gset_ne {ls:List L} {i j:Nat} (hij:j≠i) (l:L):(ls.set i l).getD j L0=ls.getD j L0:=by simp [List.getD_eq_getElem?_getD,List.getElem?_set,Ne.symm hij]
theorem Good.set {os:List O} {ls:List L} (h:Good os ls) {i:Nat} (hi:i<ls.length) {l:L} (h1:l.id=(ls.getD i L0).id) (h2:l.place=(ls.getD i L0).place) (h3:l.held=(ls.getD i L0).held):Good os (ls.set i l):=by
 have hid:∀ j,((ls.set i l).getD j L0).id=(ls.getD j L0).id:=fun j=>by
  by_cases hj:j=i
  ·subst hj;rw [gset_eq hi];exact h1
  ·rw [gset_ne hj]
 have hpl:∀ j,((ls.set i l).getD j L0).place=(ls.getD j L0).place:=fun j=>by
  by_cases hj:j=i
  ·subst hj;rw [gset_eq hi];exact h2
  ·rw [gset_ne hj]
 have hhe:∀ j,((ls.set i l).getD j L0).held=(ls.getD j L0).held:=fun j=>by
  by_cases hj:j=i
  ·subst hj;rw [gset_eq hi];exact h3
  ·rw [gset_ne hj]
 refine ⟨fun a b ha hb he=>?_,fun a ha=>?_,h.oids,h.oid,h.olen,h.keys,fun o ho p hp=>?_,fun a ha=>?_⟩
 ·rw [List.length_set] at ha hb;rw [hid,hid] at he;exact h.ids a b ha hb he
 ·rw [List.length_set] at ha;rw [hpl];exact h.place a ha
 ·obtain ⟨a,ha,he⟩:=h.mem o ho p hp
  exact ⟨a,by rw [List.length_set];exact ha,by rw [hid];exact he⟩
 ·rw [List.length_set] at ha;rw [hhe,hid];exact h.held a ha
theorem lookup_none {n:Nat}:∀ {l:List (Nat × Nat)},(∀ p ∈ l,p.1≠n)→l.lookup n=none
 | [],_=>rfl
 | (a,b) :: l,h=>by
  have h1:(n == a)=false:=by rw [beq_eq_false_iff_ne];exact (h (a,b) (by simp)).symm
  simp only [List.lookup,h1]
  exact lookup_none (fun p hp=>h p (by simp [hp]))
theorem heldSum_zero {os:List O} {n:Nat} (h:∀ o ∈ os,∀ p ∈ o.lines,p.1≠n):heldSum os n=0:=by
 induction os with
 | nil=>rfl
 | cons o os ih =>
  have:=ih (fun o' ho'=>h o' (by simp [ho']))
  simp only [heldSum,List.map_cons,List.sum_cons] at this ⊢
  rw [this]
  simp [heldBy,lookup_none (h o (by simp))]
theorem Good.snoc {os:List O} {ls:List L} (h:Good os ls) {l:L} (h1:∀ i,i<ls.length→(ls.getD i L0).id≠l.id) (h2:l.place=ls.length+1) (h3:l.held=0):Good os (ls++[l]):=by
 have hlt:∀ i,i<ls.length→(ls++[l]).getD i L0=ls.getD i L0:=fun i hi=>by simp [List.getD_eq_getElem?_getD,List.getElem?_append_left hi]
 have heq:(ls++[l]).getD ls.length L0=l:=by simp [List.getD_eq_getElem?_getD]
 have hlen:(ls++[l]).length=ls.length+1:=by simp
 refine ⟨fun a b ha hb he=>?_,fun a ha=>?_,h.oids,h.oid,h.olen,h.keys,fun o ho p hp=>?_,fun a ha=>?_⟩
 ·rw [hlen] at ha hb
  by_cases hal:a<ls.length
  ·by_cases hbl:b<ls.length
   ·rw [hlt a hal,hlt b hbl] at he;exact h.ids a b hal hbl he
   ·obtain rfl:b=ls.length:=by omega
    rw [hlt a hal,heq] at he;exact absurd he (h1 a hal)
  ·obtain rfl:a=ls.length:=by omega
   by_cases hbl:b<ls.length
   ·rw [hlt b hbl,heq] at he;exact absurd he.symm (h1 b hbl)
   ·omega
 ·rw [hlen] at ha
  by_cases hal:a<ls.length
  ·rw [hlt a hal];exact h.place a hal
  ·obtain rfl:a=ls.length:=by omega
   rw [heq];exact h2
 ·obtain ⟨a,ha,he⟩:=h.mem o ho p hp
  exact ⟨a,by rw [hlen];omega,by rw [hlt a ha];exact he⟩
 ·rw [hlen] at ha
  by_cases hal:a<ls.length
  ·rw [hlt a hal];exact h.held a hal
  ·obtain rfl:a=ls.length:=by omega
   rw [heq,h3,heldSum_zero]
   intro o ho p hp
   obtain ⟨i,hi,he⟩:=h.mem o ho p hp
   rw [← he];exact h1 i hi
theorem idx_fresh {ls:List L} {n:Nat} (h:¬ idx n ls<ls.length):∀ i,i<ls.length→(ls.getD i L0).id≠n:=by
 intro i hi he
 have:idx n ls≤i:=by
  unfold idx
  apply Nat.le_of_not_lt
  intro hlt
  have:=List.not_of_lt_findIdx hlt
  simp only [List.getD_eq_getElem?_getD,List.getElem?_eq_getElem hi,Option.getD_some] at he
  simp [he] at this
 omega
theorem idx_id {ls:List L} {n:Nat} (h:idx n ls<ls.length):(ls.getD (idx n ls) L0).id=n:=by
 have h2:(ls[idx n ls]'h).id=n:=beq_iff_eq.1 (List.findIdx_getElem (xs:=ls) (p:=fun l:L=>l.id == n) (w:=h))
 simp only [List.getD_eq_getElem?_getD,List.getElem?_eq_getElem h,Option.getD_some]
 exact h2
theorem room_fresh {ls:List L} {n:Nat} (h:(if idx n ls<ls.length then 5 else if 30≤ls.length then 6 else 0)=0):∀ i,i<ls.length→(ls.getD i L0).id≠n:=by
 apply idx_fresh
 intro hi
 rw [if_pos hi] at h
 omega
end Go.Proofs.YtgcedalggnmooabGreatDoor
namespace Go.Proofs.YtgcedalggnmooabGreatDoor
def famStep (f:Nat→Bool) (l:L):Nat→Bool:=fun n=>f n || (n == l.id && l.par.any (fun p=>f p.1))
def famB (ls:List L) (f:Nat→Bool):Nat→Bool:=ls.foldl famStep f
def rcl0 (rcs:List (Nat × Nat)):Nat→Bool:=fun n=>rcs.any (fun p=>n == p.1)
def recB (rcs:List (Nat × Nat)) (ls:List L):Nat→Bool:=famB ls (rcl0 rcs)
def comB (ls:List L) (n:Nat):Nat→Bool:=famB ls (fun m=>m == n)
theorem famB_snoc (ls:List L) (l:L) (f:Nat→Bool):famB (ls++[l]) f=famStep (famB ls f) l:=by simp [famB]
theorem fam_take {ls:List L} {f:Nat→Bool} {i:Nat} (hi:i<ls.length):famB (ls.take (i+1)) f=famStep (famB (ls.take i) f) (ls.getD i L0):=by
 rw [List.take_succ_eq_append_getElem hi,famB_snoc]
 simp [List.getD_eq_getElem?_getD,hi]
theorem par_set {ls:List L} {i:Nat} {l':L} (hpr:l'.par=(ls.getD i L0).par) (j:Nat):((ls.set i l').getD j L0).par=(ls.getD j L0).par:=by
 by_cases hij:j=i
 ·subst hij
  by_cases hj:j<ls.length
  ·rw [← hpr];simp [List.getD_eq_getElem?_getD,List.getElem?_set,hj]
  ·rw [List.set_eq_of_length_le (by omega)]
 ·simp [List.getD_eq_getElem?_getD,List.getElem?_set,Ne.symm hij]
end Go.Proofs.YtgcedalggnmooabGreatDoor
namespace Go.Proofs.YtgcedalggnmooabGreatDoor
open Go.RowKit
theorem tU155:Tryz.prog.underlying 166=some (.map 2 144):=by kernel_rfl
theorem zero163:(Tryz.prog.info? 144).map (fun i=>i.zero)=some (some (.agg #[])):=by kernel_rfl
theorem run_zero163 (w:World):(zeroValue 144).run Tryz.prog w=.ok (.agg #[]) w:=by
 have h:=zero163
 cases hi:Tryz.prog.info? 144 with
 | none=>rw [hi] at h;cases h
 | some i =>
  rw [hi] at h
  simp at h
  simp [zeroValue,typeInfo,hi,h]
def OwnsF (w:World) (b n:Nat) (D:DataW Unit):Prop:=w.ownsMap Tryz.prog 2 (unitElem (H:=Unit)) b n D
def FD (f:Nat→Bool) (D:DataW Unit):Prop:=∀ n:Nat,n≤2147483647→Maps.has D (okey n)=f n
theorem okey_lit (n:Nat):WideAt.IsKeyLit (okey n):=trivial
theorem FD.put {f:Nat→Bool} {D:DataW Unit} (h:FD f D) (hm:Maps.IsMap D) (n:Nat) (d:DataW Unit):FD (fun x=>f x || x == n) (D.put (okey n) d):=fun m hm'=>by
 by_cases he:m=n
 ·subst he;rw [Maps.has_put_same hm (okey_lit _)];simp
 ·rw [Maps.has_put_other (fun e=>he (okey_inj e)),h m hm']
  have:(m == n)=false:=by simpa using he
  show f m=(f m || m == n)
  rw [this,Bool.or_false]
theorem look_fam {w:World} {Mf N n:Nat} {D:DataW Unit} (h:OwnsF w Mf N D) (hn:n≤2147483647) :
  (Instr.lookup 166 (.map (some Mf)) (.int .i64 (n:Int)) true).run Tryz.prog w=.ok (.tuple #[.agg #[],.bool (Maps.has D (okey n))]) w:=by
 obtain ⟨v,ps,hr,hv⟩:=World.ownsMap.look_ok h kInt tU155 (run_zero163 w) unitElem_mk (key_o hn)
 obtain ⟨rfl,_⟩:=unitElem_inv hv
 exact hr
set_option maxHeartbeats 800000 in
theorem has_any {Mf N b n:Nat} {D:DataW Unit} {w:World} (hm:OwnsF w Mf N D) (hn:n≤2147483647) (hb:w.cell? ⟨b,0,none⟩=some (.int .i64 (n:Int))) :
  Calls Tryz.prog 87 #[.map (some Mf),.pointer (some ⟨b,0,none⟩)] w fun e w'=>e=.returned (.bool (Maps.has D (okey n)))∧Below w.heap.size w w':=by
 have hlk:=look_fam hm hn
 generalize Maps.has D (okey n)=bb at *
 go_enter Tryz.func87,Tryz.ntmps87
 go_wp2_with fail
 go_ret
 exact ⟨rfl,al1 w _⟩
def gj (F:Nat→Bool) (l:L) (j:Nat):Nat→Bool:=fun x=>F x || (x == l.id && (l.par.take j).any (fun p=>F p.1))
theorem gj_zero (F:Nat→Bool) (l:L):gj F l 0=F:=by funext x;simp [gj]
theorem gj_end (F:Nat→Bool) (l:L):gj F l l.par.length=famStep F l:=by funext x;simp [gj,famStep]
theorem any_take {F:Nat→Bool} {ps:List (Nat × Nat)} {j:Nat} (hj:j<ps.length):(ps.take (j+1)).any (fun p=>F p.1)=((ps.take j).any (fun p=>F p.1) || F (ps.getD j (0,0)).1):=by
 rw [List.take_succ_eq_append_getElem hj,List.any_append]
 simp [List.getD_eq_getElem?_getD,hj]
theorem gj_hit {F:Nat→Bool} {l:L} {j:Nat} (hj:j<l.par.length) (h:gj F l j (l.par.getD j (0,0)).1=true):gj F l (j+1)=fun x=>gj F l j x || x == l.id:=by
 funext x
 simp only [gj,any_take hj] at h ⊢
 cases hF:F (l.par.getD j (0,0)).1 with
 | true=>cases F x <;> cases (x == l.id) <;> cases ((l.par.take j).any (fun p=>F p.1)) <;> simp
 | false =>
  rw [hF] at h
  simp only [Bool.false_or,Bool.and_eq_true] at h
  rw [h.2]
  cases F x <;> cases (x == l.id) <;> simp
theorem gj_miss {F:Nat→Bool} {l:L} {j:Nat} (hj:j<l.par.length) (h:gj F l j (l.par.getD j (0,0)).1=false):gj F l (j+1)=gj F l j:=by
 funext x
 simp only [gj,any_take hj] at h ⊢
 simp only [Bool.or_eq_false_iff] at h
 rw [h.1,Bool.or_false]
theorem Prs.cells {t:TypeId} {w:World} {pv:Value} {ps:List (Nat × Nat)} (h:Prs t w pv ps) (hp:0<ps.length):∃ q cap,pv=.slice (some ⟨q,0,none⟩) ps.length cap∧q<w.heap.size∧∀ j,j<ps.length→w.cell? ⟨q,j * 2,none⟩=some (.int .i64 ((ps.getD j (0,0)).1:Int))∧w.cell? ⟨q,j * 2+1,none⟩=some (.int .i64 ((ps.getD j (0,0)).2:Int)):=by
 rcases h with ⟨_,h⟩ | ⟨q,cap,cs,h1,h2,h3⟩
 ·rw [h] at hp;simp at hp
 ·refine ⟨q,cap,h1,blk_lt h2,fun j hj=>?_⟩
  obtain ⟨h4,h5⟩:=h3 j hj
  rw [blk_cell h2,blk_cell h2,Nat.mul_comm];exact ⟨h4,h5⟩
theorem PV.fam {rcs:List (Nat × Nat)} {w w':World} {S:Nat} {M:Mx} {v:Value} {td:Nat} {bs:List Nat} {pvs:List Value} {ls:List L} {os:List O} (h:PV os rcs w S M v td bs pvs ls) {Mf:Nat} (hm:∃ es c,w.heap[Mf]?=some (.map es c)) (hne:Mf≠M.r∧Mf≠M.o∧Mf≠M.h) (hg:w.grownBy w' (some Mf)):PV os rcs w' S M v td bs pvs ls:=by
 obtain ⟨es0,cl0,hm0⟩:=hm
 have hc:∀ (k:Nat) (cs:Array Value) (t:TypeId),w.heap[k]?=some (.cells cs t (0,0))→w'.heap[k]?=w.heap[k]?:=fun k cs t hk=>hg.block k (blk_lt hk) (fun e=>map_ne hk hm0 (Option.some.inj e))
 obtain ⟨_,_,h1⟩:=h.maps.mr
 obtain ⟨_,_,h2⟩:=h.maps.mo
 obtain ⟨_,_,h3⟩:=h.maps.mh
 exact {
  store:=(hc _ _ _ h.store).trans h.store
  maps:=h.maps.congr3 (hg.block _ (blk_lt h1) (fun e=>hne.1 (Option.some.inj e).symm)) (hg.block _ (blk_lt h2) (fun e=>hne.2.1 (Option.some.inj e).symm)) (hg.block _ (blk_lt h3) (fun e=>hne.2.2 (Option.some.inj e).symm))
  row:=own_congr h.row (fun g hg'=>by obtain ⟨cs,hcs⟩:=own_ty h.row hg';exact hc _ _ _ hcs)
  len:=h.len
  plen:=h.plen
  lot:=fun i hi=>(hc _ _ _ (h.lot i hi)).trans (h.lot i hi)
  par:=fun i hi=>(h.par i hi).congr (fun q hq=>by obtain ⟨cs,hcs⟩:=(h.par i hi).blk hq;exact hc _ _ _ hcs)
  nodup:=h.nodup
  today:=h.today
  ok:=h.ok
  room:=h.room }
theorem gr_al {a b:World} {row:Option Nat} (h:a.grownBy b row) (o:Obj):a.grownBy (b.alloc o) row:=h.andThen (World.grownBy_alloc b o none) (fun j h=>by cases h)
set_option maxHeartbeats 1600000 in
theorem grow_any {rcs:List (Nat × Nat)} {w:World} {S:Nat} {M:Mx} {v:Value} {td:Nat} {bs:List Nat} {pvs:List Value} {ls:List L} {os:List O} (h:PV os rcs w S M v td bs pvs ls) {Mf N:Nat} {D:DataW Unit} {f:Nat→Bool} (hm:OwnsF w Mf N D) (hf:FD f D) (hN:N≤1000) (hne:Mf≠M.r∧Mf≠M.o∧Mf≠M.h) :
  Calls Tryz.prog 110 #[.pointer (some ⟨S,0,none⟩),.map (some Mf)] w fun e w'=>e=.returned (.tuple #[])∧w.grownBy w' (some Mf)∧∃ N' D',OwnsF w' Mf N' D'∧FD (famB ls f) D':=by
 obtain ⟨a,cap,hv,_⟩:=h.shape
 have c1:=h.c1
 rw [hv] at c1
 have hroom:=h.room
 have HV:=hide hv
 have HP:=hide h
 have HM:=hide hm
 have HF:=hide hf
 have HE:=hide hne
 clear h hv hm hf hne
 go_enter Tryz.func110,Tryz.ntmps110
 go_wp2_with fail
 go_loopw [15] (fun i wr=>∃ (k n:Nat) (Dk:DataW Unit),k≤ls.length∧i=.int .i64 k∧n≤N+2 * k∧OwnsF wr Mf n Dk∧FD (famB (ls.take k) f) Dk∧w.grownBy wr (some Mf)) (fun i _=>ls.length - (intOf i).toNat)
 case atStart=>exact ⟨0,N,D,by omega,rfl,by omega,HM.out,HF.out,⟨rfl,rfl,rfl,Nat.le_refl _,fun _ _ _=>rfl⟩⟩
 case round =>
  obtain ⟨k,n,Dk,hk,rfl,hn,hown,hfd,hgr⟩:=hrel
  by_cases hlt:k<ls.length
  ·have hPr:=HP.out.fam (owns_map HM.out) HE.out hgr
   obtain ⟨a2,cap2,hv2,hrow⟩:=hPr.shape
   rw [HV.out] at hv2
   obtain ⟨ha2,-,hcap2⟩:=Value.slice.inj hv2
   subst ha2 hcap2
   obtain ⟨G,hG,hcells⟩:=hrow (by omega)
   rw [hG]
   have hck:=hcells k hlt
   have hl0:wr.cell? ⟨bs.getD k 0,0,none⟩=some (.int .i64 ((ls.getD k L0).id:Int)):=by rw [hPr.cl k hlt 0];rfl
   have hcl:wr.cell? ⟨bs.getD k 0,4,none⟩=some (pvs.getD k default):=by rw [hPr.cl k hlt 4];rfl
   have hpar:=hPr.par k hlt
   have hok:=hPr.ok _ (mem_getD hlt)
   have HTK:=hide (fam_take (f:=f) hlt)
   obtain ⟨l,HL⟩:∃ l,Hid (l=ls.getD k L0):=⟨_,rfl⟩
   rw [← HL.out] at hpar hok HTK hl0
   have hid:=hok.id
   have hp2:=hok.par.1
   have HPO:=hide hok.par.2
   obtain ⟨b,HB⟩:∃ b,Hid (b=bs.getD k 0):=⟨_,rfl⟩
   rw [← HB.out] at hcl hck hl0
   obtain ⟨csb,hcsb⟩:∃ cs,wr.heap[b]?=some (.cells cs 153 (0,0)):=⟨_,by rw [HB.out];exact hPr.lot k hlt⟩
   have HCB:=hide hcsb
   obtain ⟨F,HFam⟩:∃ F,Hid (F=famB (ls.take k) f):=⟨_,rfl⟩
   rw [← HFam.out] at hfd HTK
   by_cases h0:l.par.length=0
   ·have hpn:l.par=[]:=List.length_eq_zero_iff.1 h0
    have hpv:pvs.getD k default=.slice none 0 0∨∃ q c,pvs.getD k default=.slice (some ⟨q,0,none⟩) 0 c:=by
     rcases hpar with ⟨h1,_⟩ | ⟨q,c,cs,h1,_⟩
     ·exact Or.inl h1
     ·exact Or.inr ⟨q,c,by rw [h1,h0]⟩
    have HFS:Hid (famStep F l=F):=by unfold Hid;rw [← gj_end,hpn];exact gj_zero F l
    generalize pvs.getD k default=pv at *
    have HO:=hide hown
    have HD:=hide hfd
    clear hcells hG hrow hPr hpar hown hfd hok hcsb
    rcases hpv with rfl | ⟨q,c,rfl⟩
    ·go_wp2_with fail
     refine wp_loop_rounds 1 ?_;rw [rounds_succ]
     go_wp2_with fail
     go_roundw
     case rel=>exact ⟨k+1,n,Dk,by omega,by go_num,by omega,HO.out,by rw [HTK.out,HFS.out];exact HD.out,hgr⟩
     case measure=>simp [intOf];omega
    ·go_wp2_with fail
     refine wp_loop_rounds 1 ?_;rw [rounds_succ]
     go_wp2_with fail
     go_roundw
     case rel=>exact ⟨k+1,n,Dk,by omega,by go_num,by omega,HO.out,by rw [HTK.out,HFS.out];exact HD.out,hgr⟩
     case measure=>simp [intOf];omega
   ·obtain ⟨q,qc,hpv,hqlt,hqc⟩:=Prs.cells hpar (by omega)
    obtain ⟨csq,hcsq⟩:=hpar.blk (q:=q) (by rw [hpv];rfl)
    rw [hpv] at hcl
    have HO:=hide hown
    have HD:=hide hfd
    have HQ:=hide hcsq
    have HQC:=hide hqc
    have HGE:=hide (gj_end F l)
    obtain ⟨m,HMl⟩:∃ m,Hid (m=l.par.length):=⟨_,rfl⟩
    rw [← HMl.out] at hcl hp2 h0
    clear hcells hG hrow hPr hpar hown hfd hok hcsb hcsq hqc hpv
    go_wp2_with fail
    obtain ⟨wk,rfl⟩:∃ wk,wk=wr:=⟨wr,rfl⟩
    go_loopw [24] (fun i w3=>∃ (j n3:Nat) (D3:DataW Unit),j≤m∧i=.int .i64 j∧n3≤n+j∧OwnsF w3 Mf n3 D3∧FD (gj F l j) D3∧wk.grownBy w3 (some Mf)) (fun i _=>m - (intOf i).toNat)
    case atStart=>exact ⟨0,n,Dk,by omega,rfl,by omega,HO.out,by rw [gj_zero];exact HD.out,⟨rfl,rfl,rfl,Nat.le_refl _,fun _ _ _=>rfl⟩⟩
    case round =>
     obtain ⟨j,n3,D3,hj,rfl,hn3,hown3,hfd3,hgr3⟩:=hrel
     have hkeep:∀ (b':Nat) (cs:Array Value) (t:TypeId),wk.heap[b']?=some (.cells cs t (0,0))→wr.heap[b']?=wk.heap[b']?:=fun b' cs t hb'=>hgr3.block b' (blk_lt hb') (fun e=>by
      obtain ⟨es,c,hmm⟩:=owns_map HO.out
      exact map_ne hb' hmm (Option.some.inj e))
     by_cases hjm:j<m
     ·have hq3:=hkeep _ _ _ HQ.out
      have hx3:wr.cell? ⟨q,j * 2,none⟩=some (.int .i64 ((l.par.getD j (0,0)).1:Int)):=(World.cell?_of_block (a:=⟨q,j * 2,none⟩) hq3).trans (HQC.out j (by rw [← HMl.out];exact hjm)).1
      have hy3:wr.cell? ⟨q,j * 2+1,none⟩=some (.int .i64 ((l.par.getD j (0,0)).2:Int)):=(World.cell?_of_block (a:=⟨q,j * 2+1,none⟩) hq3).trans (HQC.out j (by rw [← HMl.out];exact hjm)).2
      have hb3:=hkeep _ _ _ HCB.out
      have hlb3:wr.cell? ⟨b,0,none⟩=some (.int .i64 (l.id:Int)):=(World.cell?_of_block (a:=⟨b,0,none⟩) hb3).trans hl0
      have hblt3:=blk_lt (hb3.trans HCB.out)
      have hpx:(l.par.getD j (0,0)).1≤2147483647:=HPO.out _ (by rw [List.getD_eq_getElem?_getD,List.getElem?_eq_getElem (by rw [← HMl.out];exact hjm)];simp)
      have hjl:j<l.par.length:=by rw [← HMl.out];exact hjm
      have HJ:Hid (FD (gj F l j) D3):=hfd3
      have hfx:=hfd3 _ hpx
      have HOW:=hide hown3
      have HHit:=hide (gj_hit (F:=F) hjl)
      have HMiss:=hide (gj_miss (F:=F) hjl)
      have hlk:=fun o=>look_fam (World.ownsMap.alloc hown3 o) hpx
      have HKeep:=hide hkeep
      cases hc:gj F l j (l.par.getD j (0,0)).1 with
      | false =>
       rw [hc] at hfx
       rw [hfx] at hlk
       have HE2:=hide (HMiss.out hc)
       generalize (l.par.getD j (0,0)).1=x at *
       generalize (l.par.getD j (0,0)).2=y at *
       clear HHit HMiss hfd3 hown3 hkeep hc hfx hq3 hb3
       go_wp2_with fail
       go_roundw
       case rel=>exact ⟨j+1,n3,D3,by omega,by go_num,by omega,(HOW.out.alloc _).alloc _,by rw [HE2.out];exact HJ.out,gr_al (gr_al hgr3 _) _⟩
       case measure=>simp [intOf];omega
      | true =>
       rw [hc] at hfx
       rw [hfx] at hlk
       have HE2:=hide (HHit.out hc)
       generalize (l.par.getD j (0,0)).1=x at *
       generalize (l.par.getD j (0,0)).2=y at *
       clear HHit HMiss hfd3 hown3 hkeep hc hfx hq3 hb3
       go_wp2_with (at_mapUpdate;refine wpList_mapUpdate_own _ rfl _ _ _ 166 rfl 2 144 kInt tU155 (unitElem (H:=Unit)) Mf n3 D3 rfl ((HOW.out.alloc _).alloc _) (by unfold maxLen;omega) _ _ _ rfl rfl (key_o hid) _ [] unitElem_mk ?_;intro w4 hown4 hgr4)
       have HO4:=hide hown4
       have HG4:=hide ((gr_al (gr_al hgr3 _) _).andThen hgr4 (fun q hq=>Or.inr hq))
       have HF4:Hid (FD (gj F l (j+1)) (D3.put (okey l.id) (.agg []))):=by
        unfold Hid;rw [HE2.out];exact HJ.out.put (World.ownsMap.isMap HOW.out) _ _
       clear hown4 hgr4 hlk
       go_wp2_with fail
       go_roundw
       case rel=>exact ⟨j+1,n3+1,_,by omega,by go_num,by omega,HO4.out,HF4.out,HG4.out⟩
       case measure=>simp [intOf];omega
     ·obtain rfl:j=m:=by omega
      have HJ:Hid (FD (famStep F l) D3):=by unfold Hid;rw [← HGE.out,← HMl.out];exact hfd3
      have HOW:=hide hown3
      clear hjm hfd3 hown3 hkeep
      go_wp2_with fail
      go_roundw
      case rel=>exact ⟨k+1,n3,D3,by omega,by go_num,by omega,HOW.out,by rw [HTK.out];exact HJ.out,hgr.andThen hgr3 (fun q hq=>Or.inr hq)⟩
      case measure=>simp [intOf];omega
  ·obtain rfl:k=ls.length:=by omega
   rw [List.take_length] at hfd
   have HO:=hide hown
   have HD:=hide hfd
   clear hlt hown hfd
   go_wp2_with fail
   go_end0
   exact ⟨rfl,hgr,n,Dk,HO.out,HD.out⟩
end Go.Proofs.YtgcedalggnmooabGreatDoor
namespace Go.Proofs.YtgcedalggnmooabGreatDoor
open Go.RowKit
theorem tU56:Tryz.prog.underlying 77=some (.map 140 144):=by kernel_rfl
def doneB (rcs:List (Nat × Nat)) (left:Lit→Bool):Nat→Bool:=fun n=>rcs.any (fun p=>n == p.1 && !(left (hkey p.1 p.2)))
theorem doneB_end {rcs:List (Nat × Nat)} {left:Lit→Bool} (h:∀ kl,left kl=false):doneB rcs left=rcl0 rcs:=by
 funext n;simp [doneB,rcl0,h]
theorem doneB_start {rcs:List (Nat × Nat)} {D:DataW Unit} (hD:RD rcs D) (hR:Rc rcs):doneB rcs (Maps.has D)=fun _=>false:=by
 funext n
 rw [doneB,List.any_eq_false]
 intro p hp
 obtain ⟨h1,h2⟩:=hR.fits p hp
 rw [hD.has p.1 p.2 h1 h2]
 have:rcs.contains (p.1,p.2)=true:=by rw [List.contains_iff_mem];exact hp
 rw [this];simp
theorem doneB_step {rcs:List (Nat × Nat)} (hR:Rc rcs) {left:Lit→Bool} {p:Nat × Nat} (hp:p ∈ rcs) (hl:left (hkey p.1 p.2)=true):doneB rcs (fun z=>left z && !z.sameKey (hkey p.1 p.2))=fun n=>doneB rcs left n || n == p.1:=by
 funext n
 have hsame:(hkey p.1 p.2).sameKey (hkey p.1 p.2)=true:=by simp [hkey,Lit.sameKey]
 have hoth:∀ q ∈ rcs,q≠p→(hkey q.1 q.2).sameKey (hkey p.1 p.2)=false:=fun q hq hne=>Maps.sameKey_ne (fun e=>hne (by
  obtain ⟨a1,a2⟩:=hR.fits q hq
  obtain ⟨b1,b2⟩:=hR.fits p hp
  obtain ⟨e1,e2⟩:=hkey_inj a1 a2 b1 b2 e
  exact Prod.ext e1 e2))
 rw [Bool.eq_iff_iff]
 simp only [doneB,List.any_eq_true,Bool.or_eq_true,Bool.and_eq_true,beq_iff_eq,Bool.not_eq_true',Bool.and_eq_false_iff]
 constructor
 ·rintro ⟨q,hq,rfl,h⟩
  by_cases hqp:q=p
  ·right;rw [hqp]
  ·left
   refine ⟨q,hq,rfl,?_⟩
   rcases h with h | h
   ·exact h
   ·rw [hoth q hq hqp] at h;cases h
 ·rintro (⟨q,hq,rfl,h⟩ | rfl)
  ·exact ⟨q,hq,rfl,Or.inl h⟩
  ·exact ⟨p,hp,rfl,Or.inr (by rw [hsame];rfl)⟩
theorem key_r_inv {key:Value} {kl:Lit} (h:keyOf Tryz.prog 140 key=some kl) {a b:Nat} (ha:a≤2147483647) (hb:b≤2147483647) (hk:kl=hkey a b):key=.agg #[.int .i64 (a:Int),.int .i64 (b:Int)]:=by
 subst hk
 exact kRec.inj h (key_r ha hb)
theorem next_recall {w:World} {ops:Array Oper} {rest:List Oper} {o:Oper} {a:Act} {Q:Exit→Act→World→Prop} {rcs:List (Nat × Nat)} (hR:Rc rcs) {D:DataW Unit} (hD:RD rcs D) (hg:o.guard=none) (it:Operand) (hop:o.op=Op.next it false) (b r n:Nat) (left:Lit→Bool) (cnt:Nat)
  (hit:a.eval it=.pointer (some ⟨r,0,none⟩)) (hsub:∀ kl,left kl=true→Maps.has D kl=true) (h:w.ranges Tryz.prog 140 (unitElem (H:=Unit)) b r n D left cnt)
  (hDone:cnt=0→(∀ kl,left kl=false)→wpList Tryz.prog ops Q rest (a.put o.dst (.tuple #[.bool false])) w)
  (hMore:∀ (x y:Nat) (w':World) (cnt':Nat),(x,y) ∈ rcs→left (hkey x y)=true→w'.ranges Tryz.prog 140 (unitElem (H:=Unit)) b r n D (fun z=>left z && !z.sameKey (hkey x y)) cnt'→cnt'<cnt→w.grownBy w' (some r)→w'.heap.size=w.heap.size →
   (Instr.entry (.pointer (some ⟨r,0,none⟩))).run Tryz.prog w'=.ok (.tuple #[.agg #[.int .i64 (x:Int),.int .i64 (y:Int)],.agg #[]]) w'→wpList Tryz.prog ops Q rest (a.put o.dst (.tuple #[.bool true,.agg #[.int .i64 (x:Int),.int .i64 (y:Int)],.agg #[]])) w') :
  wpList Tryz.prog ops Q (o :: rest) a w:=by
 refine wpList_plain hg fun K' hK'=>?_
 unfold Oper.wp
 rcases h.next kRec o.type with ⟨h0,hl,hrun⟩ | ⟨key,v,kl,y,w',cnt',hkey,hlk,hv,hat,hrun,hrg,hlt,hgr,hsz,hen⟩
 ·simp [execOp,hop,hit,hrun,Result.andThen]
  exact hK' _ _ (hDone h0 hl)
 ·obtain ⟨p,hp,rfl⟩:=hD.keys kl (hsub kl hlk)
  obtain ⟨hp1,hp2⟩:=hR.fits p hp
  have hkk:=key_r_inv hkey hp1 hp2 rfl
  subst hkk
  obtain ⟨rfl,_⟩:=unitElem_inv hv
  simp [execOp,hop,hit,hrun,Result.andThen]
  exact hK' _ _ (hMore p.1 p.2 w' cnt' hp hlk hrg hlt hgr hsz hen)
set_option maxHeartbeats 800000 in
theorem recalled_any {rcs:List (Nat × Nat)} {w:World} {S:Nat} {M:Mx} {v:Value} {td:Nat} {bs:List Nat} {pvs:List Value} {ls:List L} {os:List O} (h:PV os rcs w S M v td bs pvs ls) :
  Calls Tryz.prog 86 #[.pointer (some ⟨S,0,none⟩)] w fun e w'=>Below w.heap.size w w'∧∃ Mf N D,e=.returned (.map (some Mf))∧OwnsF w' Mf N D∧FD (recB rcs ls) D∧w.heap.size≤Mf:=by
 have hmm:=@run_makeMap Tryz.prog
 obtain ⟨D,hD,hRD⟩:=h.maps.r
 have hrc:=h.maps.rc
 have hb0:=al1 w (Obj.map #[] 0)
 have hS:=blk_lt h.store
 have c4:(w.alloc (.map #[] 0)).cell? ⟨S,4,none⟩=some (.map (some M.r)):=(hb0.cell (by exact hS)).trans h.c4
 have hD0:OwnsR (w.alloc (.map #[] 0)) M.r (Maps.size D) D:=owns_congr hD (hb0.block M.r (World.ownsMap.lt hD))
 have hMr:=World.ownsMap.lt hD
 have hMo:M.o<w.heap.size:=by obtain ⟨_,_,q⟩:=h.maps.mo;exact blk_lt q
 have hMh:M.h<w.heap.size:=by obtain ⟨_,_,q⟩:=h.maps.mh;exact blk_lt q
 have hF0:OwnsF (w.alloc (.map #[] 0)) w.heap.size 0 (.map []):=World.ownsMap_made _ _ _ _
 have hsD:Maps.size D≤10:=by rw [hRD.size];exact hrc.len
 have HP:=hide h
 have HRD:=hide hRD
 have HRC:=hide hrc
 have HD0:=hide hD0
 have HF0:=hide hF0
 clear h hD hD0 hRD hrc hF0
 go_enter Tryz.func86,Tryz.ntmps86
 go_wp2_with (at_range;refine wpList_range_own _ rfl _ 77 rfl 140 144 kRec tU56 _ M.r (Maps.size D) D rfl HD0.out ?_;intro w0 hrg0 hg0 hs0)
 go_frame
 have hsz0:(w.alloc (.map #[] 0)).heap.size=w.heap.size+1:=by simp
 generalize hr:(w.alloc (Obj.map #[] 0)).heap.size=r at *
 have HRG0:=hide hrg0
 have HG0:Hid (Below w.heap.size w w0∧OwnsF w0 w.heap.size 0 (.map [])):=by
  refine ⟨⟨hg0.os,hg0.tape,hg0.output,by omega,fun k hk=>?_⟩,owns_congr HF0.out (hg0.block _ (by rw [hr];omega) (by simp))⟩
  rw [hg0.block k (by rw [hr];omega) (by simp)];exact hb0.block k hk
 have HR1:=hide hsz0
 clear hrg0 hg0 hs0 hb0 HD0 c4 hr hsz0
 go_loopw [4] (fun _ wr=>∃ (left:Lit→Bool) (cnt n:Nat) (Df:DataW Unit),wr.ranges Tryz.prog 140 (unitElem (H:=Unit)) M.r r (Maps.size D) D left cnt∧(∀ kl,left kl=true→Maps.has D kl=true)∧n+cnt≤Maps.size D∧OwnsF wr w.heap.size n Df∧FD (doneB rcs left) Df∧Below w.heap.size w wr) (fun _ wr=>wr.rangeLeft M.r r)
 case atStart=>exact ⟨_,_,0,.map [],HRG0.out,fun kl h=>h,by omega,HG0.out.2,(by rw [doneB_start HRD.out HRC.out];intro n _;rfl),HG0.out.1⟩
 case round =>
  obtain ⟨left,cnt,n,Df,hrg,hsub,hn,hown,hfd,hb⟩:=hrel
  have HO:=hide hown
  have HFD:=hide hfd
  have HB:=hide hb
  have HRG:=hide hrg
  have HSUB:=hide hsub
  clear hown hfd hb hrg hsub HRG0 HG0 HF0
  go_wp2_with (at_next;refine next_recall HRC.out HRD.out rfl _ rfl M.r r (Maps.size D) left cnt rfl HSUB.out HRG.out ?_ ?_)
  ·intro _ hl0
   have HE:Hid (FD (rcl0 rcs) Df):=by unfold Hid;rw [← doneB_end hl0];exact HFD.out
   have hb2:=HB.out
   have HG:=hide (grow_any (HP.out.below hb2) HO.out HE.out (by omega) ⟨by omega,by omega,by omega⟩)
   clear hb2
   go_wp2_with fail
   refine (HG.out).mono ?_
   rintro e w1 ⟨rfl,hg1,N',D',ho1,hf1⟩
   have HO1:=hide ho1
   have HF1:=hide hf1
   have HB1:Hid (Below w.heap.size w w1):=HB.out.grown hg1 HB.out.size (fun k hk=>by cases hk;exact Nat.le_refl _)
   clear hg1 ho1 hf1
   go_wp2_with fail
   go_ret
   exact ⟨HB1.out,w.heap.size,N',D',rfl,HO1.out,HF1.out,Nat.le_refl _⟩
  ·intro x y w1 cnt1 hxy hlx hrg1 hlt hg1 hs1 hen
   obtain ⟨hx,hy⟩:=HRC.out.fits _ hxy
   have HRG1:=hide hrg1
   have hr1:=HRG.out.lt
   have HB1:Hid (Below w.heap.size w w1):=HB.out.grown hg1 HB.out.size (fun k hk=>by cases hk;have:=HR1.out;omega)
   have HO1:Hid (OwnsF w1 w.heap.size n Df):=owns_congr HO.out (hg1.block _ (World.ownsMap.lt HO.out) (by have:=HR1.out;simp;omega))
   have HF1:=hide (doneB_step HRC.out hxy hlx)
   have HS1:=hide hs1
   have HLT:=hide hlt
   clear hrg1 hg1 hs1 hlt
   go_wp2_with (at_mapUpdate;refine wpList_mapUpdate_own _ rfl _ _ _ 166 rfl 2 144 kInt tU155 (unitElem (H:=Unit)) w.heap.size n Df rfl (HO1.out.alloc _) (by unfold maxLen;omega) _ _ _ rfl rfl (key_o hx) _ [] unitElem_mk ?_;intro w4 hown4 hgr4)
   have HO4:=hide hown4
   have HG4:=hide hgr4
   clear hown4 hgr4
   go_wp2_with fail
   go_roundw
   case rel =>
    refine ⟨_,cnt1,(HRG1.out.alloc _).kept HG4.out (by simp;omega) (by simp;have:=HR1.out;omega),fun kl hkl=>?_,n+1,by have:=HLT.out;omega,_,HO4.out,?_,?_⟩
    ·simp only [Bool.and_eq_true] at hkl;exact HSUB.out kl hkl.1
    ·rw [HF1.out];exact HFD.out.put (World.ownsMap.isMap HO.out) _ _
    ·exact (HB1.out.alloc HB1.out.size _).grown HG4.out (by have:=HB1.out.size;simp;omega) (fun k hk=>by cases hk;exact Nat.le_refl _)
   case measure =>
    rw [((HRG1.out.alloc _).kept HG4.out (by simp;omega) (by simp;have:=HR1.out;omega)).left_eq,HRG.out.left_eq];exact HLT.out
end Go.Proofs.YtgcedalggnmooabGreatDoor
