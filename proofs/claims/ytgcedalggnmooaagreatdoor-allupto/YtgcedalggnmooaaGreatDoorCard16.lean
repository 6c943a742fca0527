import Derived.Test.YtgcedalggnmooaaGreatDoorTie
import Derived.Test.YtgcedalggnmooaaGreatDoorBulk2X
import Derived.Test.YtgcedalggnmooaaGreatDoorOppX
import Derived.LaidMore
import Derived.Deep.DeepWitnessRowRef
set_option linter.all false
namespace Go.Proofs.YtgcedalggnmooaaGreatDoor
open Go.ChangeShapes Go.WideShapes Go.ChangeAt Go.RowKit
def UR:ownKnob Tryz.prog.godebug=none:=by kernel_rfl
def NA:laidOutB Tryz.prog=true:=EQ
def SK: Tryz.prog.globalNamed "larder/command.errCode" = some 2 := by kernel_rfl
def Ji: Tryz.prog.globalNamed "larder/wire.errBroken" = some 3 := by kernel_rfl
def SL:(Tryz.prog.globals[2]?).map (·.type)=some 212:=by kernel_rfl
def Nc:(Tryz.prog.globals[3]?).map (·.type)=some 212:=by kernel_rfl
def Pe: Tryz.prog.globalNamed "larder/frame.errCheck" = some 1 := by kernel_rfl
def Qt:(Tryz.prog.globals[1]?).map (·.type)=some 212:=by kernel_rfl
def EF: Tryz.prog.globalNamed "larder/store.errUnsound" = some 4 := by kernel_rfl
def Jj:(Tryz.prog.globals[4]?).map (·.type)=some 212:=by kernel_rfl
def SM: Tryz.prog.globalNamed "larder/larder.errNoGo" = some 0 := by kernel_rfl
def SN:(Tryz.prog.globals[0]?).map (·.type)=some 212:=by kernel_rfl
def UU:Tryz.prog.underlying 3=some (.int .i64):=by kernel_rfl
def Qb:Tryz.prog.cellsOf 9=1:=by kernel_rfl
def xD: List (String × DataW Unit) := [("larder/wire.errBroken", Rows.laid_larder_wire_errBroken), ("larder/command.errCode", Rows.laid_larder_command_errCode), ("larder/frame.errCheck", Rows.laid_larder_frame_errCheck), ("larder/store.errUnsound", Rows.laid_larder_store_errUnsound), ("larder/larder.errNoGo", Rows.laid_larder_larder_errNoGo)]
def iZ{w:World}{b j:Nat}{x:Value}(h:w.cell? ⟨b,j,none⟩=some x):b<w.heap.size:=by
 rcases xai b w.heap.size with a|a
 ·exact a
 simp[World.cell?,xaB a]at h
variable {W:World}
def uC(h:laidMetH Tryz.prog xD W):Gl W/\GmU W.heap.size W:=by
 have P:laidMet Tryz.prog xD W:=h;obtain⟨ps,⟨g0,t0,a,f0,p0,q0,l,s,x,f,⟨g1,t1,b,f1,p1,q1,m,t,y,g,⟨g2,t2,c,f2,p2,q2,n,u,z,i,⟨g3,t3,d,f3,p3,q3,p,v,A,j,⟨g4,t4,e,f4,p4,q4,q,w,B,k,R,e4⟩,Z⟩,X⟩,T⟩,S⟩,Q,r⟩:=P;obtain rfl:=xt (Ji.symm.trans l);obtain rfl:=xt (SK.symm.trans m);obtain rfl:=xt (Pe.symm.trans n);obtain rfl:=xt (EF.symm.trans p);obtain rfl:=xt (SM.symm.trans q);obtain rfl:=xt (Nc.symm.trans s);obtain rfl:=xt (SL.symm.trans t);obtain rfl:=xt (Qt.symm.trans u);obtain rfl:=xt (Jj.symm.trans v);obtain rfl:=xt (SN.symm.trans w);obtain⟨l0⟩:=a;obtain⟨l1⟩:=b;obtain⟨l2⟩:=c;obtain⟨l3⟩:=d;obtain⟨l4⟩:=e;obtain⟨_,C,H,rfl,_,_⟩:=xby Tryz.underlying212 f;obtain⟨_,D,J,rfl,_,_⟩:=xby Tryz.underlying212 g;obtain⟨_,E,K,rfl,_,_⟩:=xby Tryz.underlying212 i;obtain⟨_,F,M,rfl,_,_⟩:=xby Tryz.underlying212 j;obtain⟨_,G,N,rfl,_,_⟩:=xby Tryz.underlying212 k;have c0:W.cell? ⟨3,0,none⟩=some (.iface C H):=by simpa using xaW Ji x 0
 have c1:W.cell? ⟨2,0,none⟩=some (.iface D J):=by simpa using xaW SK y 0
 have c2:W.cell? ⟨1,0,none⟩=some (.iface E K):=by simpa using xaW Pe z 0
 have c3:W.cell? ⟨4,0,none⟩=some (.iface F M):=by simpa using xaW EF A 0
 have c4:W.cell? ⟨0,0,none⟩=some (.iface G N):=by simpa using xaW SM B 0
 exact⟨⟨⟨D,J,c1⟩,⟨C,H,c0⟩,iZ c0⟩,⟨⟨⟨G,N,c4⟩,⟨E,K,c2⟩,iZ c4,iZ c2⟩,⟨F,M,c3⟩,iZ c3⟩⟩
def Uz:(Tryz.prog.underlying 29).map (λd=>match d with|.struct fs=>some (fs.toList.map (λf=>(f.type,f.offset)))|_=>none)=some (some [(3,0),(3,1),(3,2),(9,3)]):=by kernel_rfl
def MF:Tryz.prog.cellsOf 29=4:=by kernel_rfl
def Qa:Tryz.prog.cellsOf 3=1:=by kernel_rfl
def Kk:∃a:Array Field,Tryz.prog.underlying 29=some (.struct a)/\a.size=4/\∀i,i<4->∃f,a[i]?=some f/\f.type=(if i<3 then 3 else 9)/\f.offset=i:=by
 have h:=Uz
 cases j:Tryz.prog.underlying 29 with
 |none=>rw[j]at h;simp at h
 |some d=>
  rw[j]at h;simp only[xag,XC]at h;split at h
  ·rename_i a;have e:a.toList.map (λf=>(f.type,f.offset))=[(3,0),(3,1),(3,2),(9,3)]:=by simpa using h
   have c:a.size=4:=by have:=YK List.length e;simpa using this
   refine⟨a,rfl,c,λi g=>⟨a[i],by simp[c,g],?_⟩⟩;have b:(a.toList.map (λf=>(f.type,f.offset)))[i]?=some (a[i].type,a[i].offset):=by simp[c,g]
   rw[e]at b;rcases(show i=0\/i=1\/i=2\/i=3 by omega) with rfl|rfl|rfl|rfl<;>(simp at b;exact⟨b.1.symm,b.2.symm⟩)
  simp at h
variable {H:Type}
def Kl{enc:TypeId×Value->H}{n:Nat}{a:Addr}{g:List Value}{x:DataW H×List MemPlace}(M:W.cells? 0 a 4=some g)(N:DataW.trod enc Tryz.prog W 0 (λ_=>true) true n 29 g=some x):∃(v:Nat->Int) (s:ByteArray),(∀f,f<3->Vi (v f)/\W.cell? (a.add f)=some (.int .i64 (v f)))/\W.cell? (a.add 3)=some (.string s)/\Rows.uptoBulk x.1=s.size+5:=by
 obtain⟨fs,P,t,C⟩:=Kk;obtain⟨_,D,c⟩:=World.cells?_some M
 obtain⟨xs,k,hk,rfl,_,b,e⟩:=DataW.trod_struct P N;rw[t]at b;have one:∀f (l:f<g.length),(g.drop f).take 1=[g[f]]:=λf l=>by rw[YW l];rfl
 have each:∀f y,f<3->xs[f]?=some y->∃v:Int,Vi v/\W.cell? (a.add f)=some (.int .i64 v)/\y.1=.lit (.int .i64 v):=λf y j A=>by
  obtain⟨fd,h,u,q⟩:=C f (by omega);have p:=e f fd h;rw[u,xh j,q,Qa,A]at p;obtain⟨m,i,z,w⟩:=DataW.trod_int UU p;have d:f<g.length:=by omega
  rw[one f d]at i;simp at i;have E:(decide (IntKind.min .i64<=m)&&decide (m<=IntKind.max .i64))=true:=w;rw[XK,XI,XI]at E;exact⟨m,E,by rw[c f (by omega),xi d,i],by rw[z]⟩
 have B:∀y,xs[3]?=some y->∃s:ByteArray,W.cell? (a.add 3)=some (.string s)/\y.1=.lit (.string s.data.toList):=λy A=>by
  obtain⟨fd,h,u,q⟩:=C 3 (by omega);have p:=e 3 fd h;rw[u,xg (by omega),q,Qb,A]at p;obtain⟨s,i,z,_⟩:=DataW.trod_string Tryz.underlying9 p;have d:3<g.length:=by omega
  rw[one 3 d]at i;simp at i;exact⟨s,by rw[c 3 (by omega),xi d,i],by rw[z]⟩
 rcases xs with _|⟨x0,_|⟨x1,_|⟨x2,_|⟨x3,_|⟨x4,r⟩⟩⟩⟩⟩
 ·simp at b
 ·simp at b
 ·simp at b
 ·simp at b
 ·obtain⟨T,Q,c0,F⟩:=each 0 x0 (by omega) rfl;obtain⟨X,R,c1,G⟩:=each 1 x1 (by omega) rfl;obtain⟨Z,S,c2,J⟩:=each 2 x2 (by omega) rfl;obtain⟨s,c3,K⟩:=B x3 rfl;refine⟨λf=>if f=0 then T else if f=1 then X else Z,s,λf j=>?_,c3,?_⟩
  ·rcases(show f=0\/f=1\/f=2 by omega) with rfl|rfl|rfl
   ·exact⟨Q,c0⟩
   ·exact⟨R,c1⟩
   exact⟨S,c2⟩
  simp only[Xv,xbd,F,G,J,K,Rows.uptoBulk,Rows.uptoBulkAll,yq];show _=s.data.size+5;omega
 simp at b
def gZ{H:Type}:∀l r:List (DataW H),Rows.uptoBulkAll (l++r)=Rows.uptoBulkAll l+Rows.uptoBulkAll r
 |[],r=>by simp[Rows.uptoBulkAll]
 |d::l,r=>by
  have:=gZ l r
  simp only[XS,Rows.uptoBulkAll];omega
def FF{H:Type}(D:Nat->DataW H)(S:Nat->ByteArray):∀n,(∀i,i<n->Rows.uptoBulk (D i)=(S i).size+5)->Xo S n<=100000+3*Rows.uptoBulkAll ((List.range n).map D)
 |0,_=>by simp[Xo]
 |n+1,h=>by
  have:=FF D S n (λi a=>h i (by omega))
  have:=h n (by omega)
  rw[YU,Yq,gZ];simp only[Xv,xbd,Rows.uptoBulkAll,Xo];omega
def NO{enc:TypeId×Value->H}{z:Option Addr}{len cap fuel:Nat}{x:DataW H×List MemPlace}
  (C:DataW.trod enc Tryz.prog W 0 (λ_=>true) true fuel 35 [.slice z len cap]=some x) :
  ∃(X:Nat->Nat->Int) (S:Nat->ByteArray),len<=Rows.uptoBulk x.1/\(∀j,j<len->∀f,f<3->Vi (X j f))/\Xo S len<=100000+3*Rows.uptoBulk x.1 /\
   (0<len->∃b c,z=some ⟨b,c,none⟩/\b<W.heap.size/\∀j,j<len->(∀f,f<3->W.cell? ⟨b,c+j*4+f,none⟩=some (.int .i64 (X j f)))/\W.cell? ⟨b,c+j*4+3,none⟩=some (.string (S j))):=by
 have t:=bulks.slice_len Tryz.underlying35 C;rcases Go.Deep.open_slice Tryz.underlying35 C with ⟨e,F⟩|⟨a,G,A,m,n,D,P,e,_,Q,R,u,F,k⟩
 ·simp at e;obtain⟨rfl,rfl,rfl⟩:=e;exact⟨λ_ _=>0,λ_=>⟨#[]⟩,t,λj h=>absurd h (by omega),by simp[Xo],λh=>absurd h (by omega)⟩
 simp at e;obtain⟨rfl,rfl,rfl⟩:=e;simp only[Yo]at u;subst u;have each:∀i,∃(v:Nat->Int) (s:ByteArray),i<m->(∀f,f<3->Vi (v f)/\W.cell? ((a.add (i*4)).add f)=some (.int .i64 (v f)))/\W.cell? ((a.add (i*4)).add 3)=some (.string s)/\Rows.uptoBulk (D i)=s.size+5:=λi=>by
  by_cases y:i<m
  ·obtain⟨J,B,K⟩:=k i y;rw[MF]at B;obtain⟨v,s,q⟩:=Kl B K;exact⟨v,s,λ_=>q⟩
  exact⟨λ_=>0,⟨#[]⟩,λh=>absurd h y⟩
 obtain⟨X,M⟩:=xca each;obtain⟨S,r⟩:=xca M;refine⟨X,S,t,λj N f l=>((r j (by omega)).1 f l).1,?_,λE=>?_⟩
 ·have:=FF D S len (λi y=>(r i (by omega)).2.2)
  rw[F];simp only[Rows.uptoBulk];omega
 obtain⟨b,c,w⟩:=a;have g:=((r 0 (by omega)).1 0 (by omega)).2;have p:w=none:=by simpa [Addr.add] using World.cell?_spot g
 subst p;have d:∀i f,Addr.add (Addr.add ⟨b,c,none⟩ (i*4)) f=⟨b,c+i*4+f,none⟩:=λi f=>by rw[add_plain,add_plain]
 rw[d]at g;refine⟨b,c,rfl,iZ g,λj N=>⟨λf l=>?_,?_⟩⟩
 ·rw[<-d];exact((r j (by omega)).1 f l).2
 rw[<-d];exact(r j (by omega)).2.1
set_option maxRecDepth 100000 in
def yW(H:Type)(enc:TypeId×Value->H)(W:World)(d:Nat)(args:Array Value)(n B:List (DataW H))(before:List MemPlace)
  (a:∀(j:Nat) t v,Tryz.f10.params[j]?=some t->args[j]?=some v->Value.okWide Tryz.prog W .any d t v)
  (F:DataW.Whole enc Tryz.prog Tryz.f10.params.toList Rows.allSpec.vars false W args.toList n B before) (E:laidMetH Tryz.prog xD W)
  (G:Rows.uptoSmall H (n++B)=true) :
  Calls Tryz.prog 10 args W λe z=>∃v,e=.returned v/\Rows.allSpec.post enc Tryz.prog Tryz.f10 false true false false W args v z:=by
 have b:=F;obtain⟨p,q,f,N,rfl,R,T⟩:=F;have D:DataW.TrodAll enc Tryz.prog W 0 (λ_=>true) true Tryz.f10.params.toList args.toList n p:=f;rw[Tryz.params10]at D a;obtain⟨K,a1,m,M,J,q0,c,rfl,rfl,C,r0⟩:=trodAll_cons D;obtain⟨rfl,rfl,rfl⟩:=trodAll_nil r0;obtain rfl:args=#[K]:=xcb.1 c;obtain⟨rfl,rfl⟩:=trodVars_none N;obtain⟨A,len,cap,rfl⟩:=okWide_slice Tryz.underlying35 (a 0 35 K rfl rfl);have s:=C;obtain⟨fuel,Q⟩:=C;clear f;simp only[yo]at b G;have w:∀x∈J,x.block<W.heap.size:=λx hx=>by simpa using b.lt x hx
 have l:Calls Tryz.prog 10 #[.slice A len cap] W λe w'=>e=.returned (.bool true)/\Below W.heap.size W w':=by
  obtain⟨X,S,g,i,k,Z⟩:=NO Q;have P:=bulks.first G
  have u:len<=Rows.uptoBulk m:=g;have y:Xo S len<=100000+3*Rows.uptoBulk m:=k;exact PH A len cap X S i (by omega) (by omega) W (uC E).1 (uC E).2 Z
 refine l.mono λe z ⟨he,bel⟩=>?_
 subst he;have r:Rows.allSpec.fn H ([m]++[])={ results:=[.lit (.bool true)],args:=[m] }:=rfl;refine⟨_,rfl,_,_,_,[],J,[],b,?_,?_,?_,bel.frame _,λh=>?_⟩
 ·rw[r];exact trodAll_mk1 (shut_bool Tryz.underlying4 _)
 ·rw[r];exact trodAll_mk1 (Below.trod NA (by kernel_rfl) (of_decide_eq_true (by kernel_rfl)) s bel w)
 ·rw[r];rfl
 cases h
def JP(os:Os):laidMet Tryz.prog xD ((World.doorLaid Tryz.prog 104 os).forCall (λ_ _=>0) ⟨#[],#[.slice none 0 0],[]⟩).memory :=
 laidMet_of_run' 8 (by kernel_rfl) (by kernel_rfl)
def Ts(os:Os){H:Type}(enc:TypeId×Value->H):∃a,DataW.whole enc Tryz.prog ((World.doorLaid Tryz.prog 104 os).forCall (λ_ _=>0) ⟨#[],#[.slice none 0 0],[]⟩).memory Tryz.f10.params.toList Rows.allSpec.vars false #[Value.slice none 0 0].toList 8=some ([.nil],[],a) :=
 ⟨[],by kernel_rfl⟩
set_option maxRecDepth 100000 in
def FJ(os:Os)(a:os.Started)(H:Type)(enc:TypeId×Value->H)(F:Stop.Interp):ReturnsInHanded {} Tryz.checked os 10 .any ((Rows.OpenSpec.upto Rows.allSpec).preRow enc Tryz.prog Tryz.f10 Rows.allUptoRow.domain false Rows.allUptoRow.laid) (((Rows.OpenSpec.upto Rows.allSpec).at F).post enc Tryz.prog Tryz.f10 false true false false):=by
 obtain⟨e,l⟩:=Ts os enc;refine returnsInHanded_of_row (C:=Tryz.checked) (s:=Rows.OpenSpec.upto Rows.allSpec) UR a (by kernel_rfl) Tryz.func10
  (witness_row_atRef (enc:=enc) (C:=Tryz.checked) false (World.doorLaid Tryz.prog 104 os) #[.slice none 0 0] rfl (by kernel_rfl) (by kernel_rfl) (by kernel_rfl)
   (OpenSpec.preRow_of_cond 8 l (by kernel_rfl) (λk j=>by cases j;kernel_rfl) (by kernel_rfl) (JP os))) ?_
 intro W c args f g before d i _ b _ h _ _;exact yW H enc W c args f g before d i h (b _ rfl)
def Sk:(Rows.allUptoRow.inPlace==Tryz.prog.inPlace 10)=true:=by kernel_rfl
def Sm:(Rows.allUptoRow.unfollowed==Tryz.prog.unfollowed 10)=true:=by kernel_rfl
def Sn:(Rows.allUptoRow.recurses==Tryz.prog.recurses 10)=true:=by kernel_rfl
def So:(Rows.allUptoRow.named==Tryz.prog.varsNamed 10)=true:=by kernel_rfl
def FI:joinedFacts Tryz.pinned.checked.prog 10 Tryz.f10 (Rows.OpenSpec.upto Rows.allSpec).bare Rows.allUptoRow=true:=by
 show joinedFacts Tryz.prog 10 Tryz.f10 (Rows.OpenSpec.upto Rows.allSpec).bare Rows.allUptoRow=true;have a:(Rows.allUptoRow.lifted==Tryz.prog.liftsFinal)=true:=Te;have b:(Tryz.prog.make==some Rows.allUptoRow.make)=true:=Uo;unfold joinedFacts;rw[EQ,GB,UP,SR,a,b,Sk,Sm,Sn,So];show(_:Bool)=true;kernel_rfl
def Mw:Rows.AllUptoSaid :=
 OpenClaim.holds_of_cond 10 Tryz.f10 rfl rfl rfl rfl rfl rfl rfl ⟨rfl,rfl,rfl,rfl,rfl⟩ rfl rfl rfl rfl rfl (by kernel_rfl) Tryz.func10 FI
  (of_decide_eq_true (by kernel_rfl)) (by unfold Func.isWrapper;first|(rw[xh (by decide +kernel)];kernel_rfl)|(rw[xg (by decide +kernel)];exact⟨rfl,rfl⟩))
  (λos a H enc _ F=>by rw[OpenClaim.pre_eq_preRow];exact FJ os a H enc F)
def It(f : FuncId)(a : Func)(d : Tryz.pinned.checked.prog.funcNamed "larder/larderlaw.All" = some f)(b : Tryz.pinned.checked.prog.funcs[f]? = some a):true=Tryz.pinned.checked.prog.looks []/\∀(j:Nat) t,a.params[j]?=some t->Tryz.pinned.checked.prog.wantsStandIn t=false:=by
 obtain rfl : f = 10 := xt ((show Tryz.prog.funcNamed "larder/larderlaw.All" = some 10 by kernel_rfl).symm.trans d) |>.symm
 obtain rfl:a=Tryz.f10:=(xt (Tryz.func10.symm.trans b)).symm;refine⟨by kernel_rfl,λj t c=>?_⟩;rw[Tryz.params10]at c;obtain rfl:t=35:=by simpa using Array.mem_of_getElem? c
 exact(show Tryz.prog.wantsStandIn 35=false by kernel_rfl)
theorem all_card:Rows.AllUptoCardSaid :=
 Claim7.holds_tied_plain_at .later [] _ _ _ _ Mw (λ_ h=>by cases h) (by kernel_rfl) (λ_ h=>by cases h) allUpto_row_tie rfl ⟨rfl,rfl⟩ (by kernel_rfl) rfl It (by kernel_rfl)
