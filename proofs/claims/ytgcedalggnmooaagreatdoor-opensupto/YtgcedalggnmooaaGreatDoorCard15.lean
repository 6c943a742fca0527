import Derived.Test.YtgcedalggnmooaaGreatDoorTie
import Derived.Test.YtgcedalggnmooaaGreatDoorBulkX
import Derived.Test.YtgcedalggnmooaaGreatDoorLwAX
import Derived.LaidMore
import Derived.Deep.DeepWitnessRowRef
set_option linter.all false
namespace Go.Proofs.YtgcedalggnmooaaGreatDoor
open Go.ChangeShapes Go.WideShapes Go.ChangeAt Go.RowKit
theorem Tp:ownKnob Tryz.prog.godebug=none:=by kernel_rfl
theorem Ej:laidOutB Tryz.prog=true:=Ei
theorem Rk: Tryz.prog.globalNamed "larder/command.errCode" = some 2 := by kernel_rfl
theorem Il: Tryz.prog.globalNamed "larder/wire.errBroken" = some 3 := by kernel_rfl
theorem Rl:(Tryz.prog.globals[2]?).map (·.type)=some 212:=by kernel_rfl
theorem LV:(Tryz.prog.globals[3]?).map (·.type)=some 212:=by kernel_rfl
theorem NO: Tryz.prog.globalNamed "larder/frame.errCheck" = some 1 := by kernel_rfl
theorem Pc:(Tryz.prog.globals[1]?).map (·.type)=some 212:=by kernel_rfl
theorem DV: Tryz.prog.globalNamed "larder/store.errUnsound" = some 4 := by kernel_rfl
theorem Im:(Tryz.prog.globals[4]?).map (·.type)=some 212:=by kernel_rfl
theorem Rm: Tryz.prog.globalNamed "larder/larder.errNoGo" = some 0 := by kernel_rfl
theorem Rn:(Tryz.prog.globals[0]?).map (·.type)=some 212:=by kernel_rfl
theorem OK:Tryz.prog.cellsOf 9=1:=by kernel_rfl
def wO: List (String × DataW Unit) := [("larder/wire.errBroken", Rows.laid_larder_wire_errBroken), ("larder/command.errCode", Rows.laid_larder_command_errCode), ("larder/frame.errCheck", Rows.laid_larder_frame_errCheck), ("larder/store.errUnsound", Rows.laid_larder_store_errUnsound), ("larder/larder.errNoGo", Rows.laid_larder_larder_errNoGo)]
theorem iP{w:World}{b j:Nat}{x:Value}(h:w.cell? ⟨b,j,none⟩=some x):b<w.heap.size:=by
 rcases YD b w.heap.size with a|a
 ·exact a
 simp[World.cell?,YW a]at h
theorem gF{W:World}(h:laidMetH Tryz.prog wO W):Gl W/\GmU W.heap.size W:=by
 have P:laidMet Tryz.prog wO W:=h;obtain⟨ps,⟨g0,t0,a,f0,p0,q0,l,s,x,f,⟨g1,t1,b,f1,p1,q1,m,t,y,g,⟨g2,t2,c,f2,p2,q2,n,u,z,i,⟨g3,t3,d,f3,p3,q3,p,v,A,j,⟨g4,t4,e,f4,p4,q4,q,w,B,k,R,e4⟩,Z⟩,X⟩,T⟩,S⟩,Q,r⟩:=P;obtain rfl:=xr (Il.symm.trans l);obtain rfl:=xr (Rk.symm.trans m);obtain rfl:=xr (NO.symm.trans n);obtain rfl:=xr (DV.symm.trans p);obtain rfl:=xr (Rm.symm.trans q);obtain rfl:=xr (LV.symm.trans s);obtain rfl:=xr (Rl.symm.trans t);obtain rfl:=xr (Pc.symm.trans u);obtain rfl:=xr (Im.symm.trans v);obtain rfl:=xr (Rn.symm.trans w);obtain⟨l0⟩:=a;obtain⟨l1⟩:=b;obtain⟨l2⟩:=c;obtain⟨l3⟩:=d;obtain⟨l4⟩:=e;obtain⟨_,C,H,rfl,_,_⟩:=xaQ Tryz.underlying212 f;obtain⟨_,D,J,rfl,_,_⟩:=xaQ Tryz.underlying212 g;obtain⟨_,E,K,rfl,_,_⟩:=xaQ Tryz.underlying212 i;obtain⟨_,F,M,rfl,_,_⟩:=xaQ Tryz.underlying212 j;obtain⟨_,G,N,rfl,_,_⟩:=xaQ Tryz.underlying212 k;have c0:W.cell? ⟨3,0,none⟩=some (.iface C H):=by simpa using xar Il x 0
 have c1:W.cell? ⟨2,0,none⟩=some (.iface D J):=by simpa using xar Rk y 0
 have c2:W.cell? ⟨1,0,none⟩=some (.iface E K):=by simpa using xar NO z 0
 have c3:W.cell? ⟨4,0,none⟩=some (.iface F M):=by simpa using xar DV A 0
 have c4:W.cell? ⟨0,0,none⟩=some (.iface G N):=by simpa using xar Rm B 0
 exact⟨⟨⟨D,J,c1⟩,⟨C,H,c0⟩,iP c0⟩,⟨⟨⟨G,N,c4⟩,⟨E,K,c2⟩,iP c4,iP c2⟩,⟨F,M,c3⟩,iP c3⟩⟩
theorem Jo{H:Type}{enc:TypeId×Value->H}{W:World}{k:Option Addr}{len cap fuel:Nat}{x:DataW H×List MemPlace}
  (q:DataW.trod enc Tryz.prog W 0 (λ_=>true) true fuel 22 [.slice k len cap]=some x) :
  len=0\/∃(b f:Nat) (g sp:List ByteArray),g.length=len/\k=some ⟨b,f,none⟩/\b<W.heap.size/\(∀j,j<len->W.cell? ⟨b,f+j,none⟩=some (.string (g.getD j ByteArray.empty))) /\
   x.1=.slice (strs g) (strs sp):=by
 rcases open_strings Tryz.underlying22 Tryz.underlying9 OK q with ⟨d,n⟩|⟨a,p,l,g,d,_,t,u,s,n,c,_⟩
 ·simp at d;exact Or.inl d.2.1
 simp at d;obtain⟨rfl,rfl,rfl⟩:=d;subst n;simp only[YC]at s;rcases Nat.eq_zero_or_pos len with m|m
 ·exact Or.inl m
 right
 obtain⟨b,f,i⟩:=a;have h:i=none:=by simpa [Addr.add] using World.cell?_spot (c 0 (by omega))
 subst h;refine⟨b,f,g.take len,g.drop len,by simp;omega,rfl,iP (c 0 (by omega)),λj r=>?_,rfl⟩;have e:(g.take len).getD j ByteArray.empty=g.getD j ByteArray.empty:=by simp[List.getD,List.getElem?_take_of_lt r]
 rw[e,<-add_plain];exact c j (by omega)
set_option maxRecDepth 100000 in
theorem sU(H:Type)(enc:TypeId×Value->H)(W:World)(k:Nat)(args:Array Value)(w P:List (DataW H))(before:List MemPlace)
  (a:∀(j:Nat) t v,Tryz.f9.params[j]?=some t->args[j]?=some v->Value.okWide Tryz.prog W .any k t v)
  (S:DataW.Whole enc Tryz.prog Tryz.f9.params.toList Rows.opensSpec.vars false W args.toList w P before) (s:laidMetH Tryz.prog wO W)
  (D:Rows.uptoSmall H (w++P)=true) :
  Calls Tryz.prog 9 args W λe M=>∃v,e=.returned v/\Rows.opensSpec.post enc Tryz.prog Tryz.f9 false true false false W args v M:=by
 have c:=S;obtain⟨p,q,l,hV,rfl,a3,a4⟩:=S;have R:DataW.TrodAll enc Tryz.prog W 0 (λ_=>true) true Tryz.f9.params.toList args.toList w p:=l;rw[Tryz.params9]at R a;obtain⟨Z,a5,r,a1,T,q0,f,rfl,rfl,Q,r0⟩:=trodAll_cons R;obtain⟨v1,a6,u,a2,X,q1,rfl,rfl,rfl,A,r1⟩:=trodAll_cons r0;obtain⟨rfl,rfl,rfl⟩:=trodAll_nil r1;obtain rfl:args=#[Z,v1]:=xbs.1 f;obtain⟨rfl,rfl⟩:=trodVars_none hV;obtain⟨g,rfl⟩:=okWide_string Tryz.underlying9 (a 0 9 Z rfl rfl);obtain⟨N,len,cap,rfl⟩:=okWide_slice Tryz.underlying22 (a 1 22 v1 rfl rfl);obtain⟨s0,G,C,_,_⟩:=Go.ChangeMaps.open_string Tryz.underlying9 (a 0 9 (.string g) rfl rfl) Q;obtain rfl:=Value.string.inj G;have z:=Q;have B:=A;obtain⟨fuel,hf⟩:=A;clear l;simp only[XR]at c D;have F:∀x∈T,x.block<W.heap.size:=λx i=>by simpa using c.lt x (by simp[i])
 have m:∀x∈X,x.block<W.heap.size:=λx i=>by simpa using c.lt x (by simp[i])
 have d:g.size<=4194295:=by
  have h:Rows.uptoBulkAll [r,u]<=1048576:=of_decide_eq_true D;rw[C]at h;simp only[Rows.uptoBulkAll,Rows.uptoBulk,Array.length_toList]at h;have:g.size=g.data.size:=rfl;omega
 have n:Calls Tryz.prog 9 #[.string g,.slice N len cap] W λe w'=>e=.returned (.bool true)/\Below W.heap.size W w':=by
  rcases Jo hf with rfl|⟨b,J,K,sp,hl,rfl,hb,hc,i⟩
  ·exact Ge g d N cap W (gF s).1 (gF s).2
  simp only at i;subst i;have E:Rows.uptoSmall H [.slice (strs K) (strs sp)]=true:=by
   have h:Rows.uptoBulkAll [r,DataW.slice (H:=H) (strs K) (strs sp)]<=1048576:=of_decide_eq_true D;refine xy ?_
   simp only[Rows.uptoBulkAll]at h ⊢;omega
  obtain⟨A,h2⟩:=bulks.strings E;exact Jp g d b J len cap K (by omega) (by omega) (λj hj=>xj (h2 j (by omega)) (by omega)) W (gF s).1 (gF s).2 hb hc
 refine n.mono λe M ⟨he,bel⟩=>?_
 subst he;have y:Rows.opensSpec.fn H ([r,u]++[])={ results:=[.lit (.bool true)],args:=[r,u] }:=rfl;refine⟨_,rfl,_,_,_,[],T++X,[],c,?_,?_,?_,bel.frame _,λh=>?_⟩
 ·rw[y];exact trodAll_mk1 (shut_bool Tryz.underlying4 _)
 ·rw[y];exact trodAll_cons_mk (Below.trod Ej (by kernel_rfl) (of_decide_eq_true (by kernel_rfl)) z bel F) (trodAll_mk1 (Below.trod Ej (by kernel_rfl) (of_decide_eq_true (by kernel_rfl)) B bel m))
 ·rw[y];rfl
 cases h
theorem IS(os:Os):laidMet Tryz.prog wO ((World.doorLaid Tryz.prog 104 os).forCall (λ_ _=>0) ⟨#[],#[.string ⟨#[]⟩,.slice none 0 0],[]⟩).memory :=
 laidMet_of_run' 8 (by kernel_rfl) (by kernel_rfl)
theorem RS(os:Os){H:Type}(enc:TypeId×Value->H):∃a,DataW.whole enc Tryz.prog ((World.doorLaid Tryz.prog 104 os).forCall (λ_ _=>0) ⟨#[],#[.string ⟨#[]⟩,.slice none 0 0],[]⟩).memory Tryz.f9.params.toList Rows.opensSpec.vars false #[Value.string ⟨#[]⟩,.slice none 0 0].toList 8=some ([.lit (.string []),.nil],[],a) :=
 ⟨[],by kernel_rfl⟩
set_option maxRecDepth 100000 in
theorem AO(os:Os)(a:os.Started)(H:Type)(enc:TypeId×Value->H)(F:Stop.Interp):ReturnsInHanded {} Tryz.checked os 9 .any ((Rows.OpenSpec.upto Rows.opensSpec).preRow enc Tryz.prog Tryz.f9 Rows.opensUptoRow.domain false Rows.opensUptoRow.laid) (((Rows.OpenSpec.upto Rows.opensSpec).at F).post enc Tryz.prog Tryz.f9 false true false false):=by
 obtain⟨e,l⟩:=RS os enc;refine returnsInHanded_of_row (C:=Tryz.checked) (s:=Rows.OpenSpec.upto Rows.opensSpec) Tp a (by kernel_rfl) Tryz.func9
  (witness_row_atRef (enc:=enc) (C:=Tryz.checked) false (World.doorLaid Tryz.prog 104 os) #[.string ⟨#[]⟩,.slice none 0 0] rfl (by kernel_rfl) (by kernel_rfl) (by kernel_rfl)
   (OpenSpec.preRow_of_cond 8 l (by kernel_rfl) (λk j=>by cases j;kernel_rfl) (by kernel_rfl) (IS os))) ?_
 intro W c args f g before d i _ b _ h _ _;exact sU H enc W c args f g before d i h (b _ rfl)
theorem MF:(Rows.opensUptoRow.inPlace==Tryz.prog.inPlace 9)=true:=by kernel_rfl
theorem MG:(Rows.opensUptoRow.unfollowed==Tryz.prog.unfollowed 9)=true:=by kernel_rfl
theorem MH:(Rows.opensUptoRow.recurses==Tryz.prog.recurses 9)=true:=by kernel_rfl
theorem MI:(Rows.opensUptoRow.named==Tryz.prog.varsNamed 9)=true:=by kernel_rfl
theorem AN:joinedFacts Tryz.pinned.checked.prog 9 Tryz.f9 (Rows.OpenSpec.upto Rows.opensSpec).bare Rows.opensUptoRow=true:=by
 show joinedFacts Tryz.prog 9 Tryz.f9 (Rows.OpenSpec.upto Rows.opensSpec).bare Rows.opensUptoRow=true;have a:(Rows.opensUptoRow.lifted==Tryz.prog.liftsFinal)=true:=RE;have b:(Tryz.prog.make==some Rows.opensUptoRow.make)=true:=SM;unfold joinedFacts;rw[Ei,FN,Tm,Rs,a,b,MF,MG,MH,MI];show(_:Bool)=true;kernel_rfl
theorem Gd:Rows.OpensUptoSaid :=
 OpenClaim.holds_of_cond 9 Tryz.f9 rfl rfl rfl rfl rfl rfl rfl ⟨rfl,rfl,rfl,rfl,rfl⟩ rfl rfl rfl rfl rfl (by kernel_rfl) Tryz.func9 AN
  (of_decide_eq_true (by kernel_rfl)) (by unfold Func.isWrapper;first|(rw[xe (by decide +kernel)];kernel_rfl)|(rw[xg (by decide +kernel)];exact⟨rfl,rfl⟩))
  (λos a H enc _ F=>by rw[OpenClaim.pre_eq_preRow];exact AO os a H enc F)
theorem CO(f : FuncId)(a : Func)(d : Tryz.pinned.checked.prog.funcNamed "larder/larderlaw.Opens" = some f)(b : Tryz.pinned.checked.prog.funcs[f]? = some a):true=Tryz.pinned.checked.prog.looks []/\∀(j:Nat) t,a.params[j]?=some t->Tryz.pinned.checked.prog.wantsStandIn t=false:=by
 obtain rfl : f = 9 := xr ((show Tryz.prog.funcNamed "larder/larderlaw.Opens" = some 9 by kernel_rfl).symm.trans d) |>.symm
 obtain rfl:a=Tryz.f9:=(xr (Tryz.func9.symm.trans b)).symm;refine⟨by kernel_rfl,λj t c=>?_⟩;rw[Tryz.params9]at c;have e:t=9\/t=22:=by simpa using Array.mem_of_getElem? c
 rcases e with rfl|rfl
 ·exact(show Tryz.prog.wantsStandIn 9=false by kernel_rfl)
 exact(show Tryz.prog.wantsStandIn 22=false by kernel_rfl)
theorem opens_card:Rows.OpensUptoCardSaid :=
 Claim7.holds_tied_plain_at .later [] _ _ _ _ Gd (λ_ h=>by cases h) (by kernel_rfl) (λ_ h=>by cases h) opensUpto_row_tie rfl ⟨rfl,rfl⟩ (by kernel_rfl) rfl CO (by kernel_rfl)
