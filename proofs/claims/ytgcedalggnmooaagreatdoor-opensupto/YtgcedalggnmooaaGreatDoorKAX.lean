import Derived.Deep.CutRange
import Derived.Test.YtgcedalggnmooaaGreatDoorHnX
set_option linter.all false
set_option maxRecDepth 100000
set_option maxHeartbeats 800000
namespace Go.Proofs.YtgcedalggnmooaaGreatDoor
open Tryz
namespace Pl
theorem Ew:∀(k n:Nat),n<=k->∃p b,num n=p++[b]/\(∀c∈p,128<=c.toNat)/\b.toNat<128/\val (num n)=n
 |0,n,h=>⟨[],UInt8.ofNat n,by rw[num_lt (by omega)];rfl,by simp,by rw[XS];omega,by rw[num_lt (by omega)];simp only[val,XS];omega⟩
 |k+1,n,h=>by
  by_cases a:n<128
  ·exact⟨[],UInt8.ofNat n,by rw[num_lt a];rfl,by simp,by rw[XS];omega,by rw[num_lt a];simp only[val,XS];omega⟩
  obtain⟨p,b,e,g,f,i⟩:=Ew k (n / 128) (by omega);refine⟨UInt8.ofNat (n%128+128)::p,b,by rw[num_ge a,e];rfl,λc d=>?_,f,?_⟩
  ·rcases xx.1 d with rfl|d
   ·rw[XS];omega
   exact g c d
  rw[num_ge a];simp only[val,i,XS];omega
theorem read_num(n:Nat)(h:n<9223372036854775808)(a:List UInt8):fst (num n++a)=n/\snd (num n++a)=(num n).length:=by
 obtain⟨p,b,e,l,i,g⟩:=Ew n n (xc _);have r:=num_len n h;have c:(num n).length=p.length+1:=by rw[e];simp
 have d:(num n++a).take (p.length+1)=num n:=by
  rw[<-c,List.take_left'];rfl
 have k:∀j,j<p.length->128<=((num n++a).getD j 0).toNat:=λj f=>by
  rw[e,XL,Uv,Xk f,xi f];exact l _ (yb _)
 have m:((num n++a).getD p.length 0).toNat<128:=by
  rw[e,XL,Uv,ya (xc _)];simpa using i
 have q:=(first_stop (num n++a) p.length (by omega) (by rw[xb];omega) k m).1 (by rw[d,g]);rw[d,g]at q;exact⟨q.1,by rw[q.2,c]⟩
theorem nums_told:∀(b:List Nat),(∀n∈b,n<9223372036854775808)->nums (toldB b)=some b
 |[],_=>rfl
 |n::r,h=>by
  have e:toldB (n::r)=num n++toldB r:=by simp[toldB]
  obtain⟨f,c⟩:=read_num n (h n (by simp)) (toldB r);have d:=num_len_pos n;have a:num n++toldB r≠[]:=λq=>by
   rw[(List.append_eq_nil_iff.1 q).1]at d;simp at d
  rw[e,nums_cons a (by rw[c];omega),f,c,List.drop_left' rfl,nums_told r (λx g=>h x (by simp[g]))];rfl
def cmdB(c:Nat)(ns:List Nat):List UInt8:=UInt8.ofNat c::toldB ns
def dst(s:List Nat×Nat×Nat)(b:UInt8):List Nat×Nat×Nat :=
 if b.toNat<128 then (s.1++[if s.2.2<9 then s.2.1+b.toNat%128*128^s.2.2 else s.2.1],0,0) else (s.1,(if s.2.2<9 then s.2.1+b.toNat%128*128^s.2.2 else s.2.1),s.2.2+1)
end Pl
open Go.RowKit
def pk(c:Int)(n:Nat):Nat:=((if c<0 then -(c+1) else c)%(n:Int)).toNat
theorem CU(c:Int){n:Nat}(d:0<n):pk c n<n:=by
 unfold pk;have a:=Int.emod_nonneg (if c<0 then -(c+1) else c) (show(n:Int)≠0 by omega);have b:=Int.emod_lt_of_pos (if c<0 then -(c+1) else c) (show(0:Int)<n by omega);omega
def Cl(w:World)(g:Nat)(ns:List Nat):Prop:=g<w.heap.size/\∀j,j<ns.length->w.cell? ⟨g,j,none⟩=some (.int .i64 ((ns.getD j 0:Nat):Int))
variable {w w' w0:World}
theorem Cl.below{g:Nat}{b:List Nat}(h:Cl w g b)(a:Below w.heap.size w w'):Cl w' g b:=⟨xn h.1 a.size,λj c=>(a.cell (p:=⟨g,j,none⟩) h.1).trans (h.2 j c)⟩
def sp(k a b c d:Int):Nat×List Nat :=
 match pk k 12 with
 |0=>(1,[pk a 40])
 |1=>(2,[1+pk a 12,1+pk b 3,1+pk c 400,pk d 40])
 |2=>(3,[1+pk a 12,1+pk b 12,1+pk c 400])
 |3=>(4,[1+pk a 12,1+pk b 12,1+pk c 12])
 |4=>(5,[1+pk a 4,1+pk b 3,1+pk c 400,pk d 10,pk (d.tdiv 16) 4])
 |5=>(6,[1+pk a 4])
 |6=>(7,[1+pk a 4])
 |7=>(8,[1+pk a 12,1+pk b 2])
 |8=>(9,[1+pk a 12,1+pk b 2])
 |9=>(10,[1+pk a 12,1+pk c 400])
 |10=>(11,[1+pk a 12])
 |_=>(12,[1+pk a 3,pk d 10])
structure Sv where
 td:Nat
 os:List O
 rj:List (Nat×Nat)
 ls:List L
 lg:List UInt8
def UE(lg:List UInt8)(c:Pl.Cmd)(rep:List UInt8):List UInt8:=match c with
 | .ok (n,ns)=>if rep.getD 0 1=0/\n<=10 then lg++cF (Pl.cmdB n ns) else lg
 | .error _=>lg
def Gz(s:Sv)(c:Pl.Cmd):Sv:=⟨(zO s.rj s.td s.os s.ls c).2.1,(zO s.rj s.td s.os s.ls c).2.2.1,(zO s.rj s.td s.os s.ls c).2.2.2.1,(zO s.rj s.td s.os s.ls c).2.2.2.2,UE s.lg c (zO s.rj s.td s.os s.ls c).1⟩
def Tr(s:Sv)(c:Pl.Cmd):List UInt8:=(zO s.rj s.td s.os s.ls c).1
def SV(s:Sv)(c:Pl.Cmd):Sv:={ Gz s c with lg:=s.lg }
structure Kv(B:Nat)(w0 w:World)(Z:Nat->Prop)(Lb:Nat)(s:Sv):Prop where
 old:Below B w0 w
 size:B<=w.heap.size
 two:4<=B
 gl:Gl w
 pl:PL s.lg s.os s.rj Z w Lb s.td s.ls
 zin:∀k,Z k->B<=k/\k<w.heap.size
 good:Good s.os s.ls
theorem Kv.below{B:Nat}{d w w':World}{Z:Nat->Prop}{b:Nat}{s:Sv}(h:Kv B d w Z b s)(a:Below w.heap.size w w'):Kv B d w' Z b s :=
 ⟨h.old.trans (a.mono h.size),xj h.size a.size,h.two,h.gl.below a,h.pl.below a,λk c=>⟨(h.zin k c).1,xn (h.zin k c).2 a.size⟩,h.good⟩
theorem Kv.room{B:Nat}{d w:World}{Z:Nat->Prop}{a:Nat}{s:Sv}(h:Kv B d w Z a s):s.ls.length<=30:=by
 obtain⟨S,e,lv,_,_,_,_,⟨M,v,f,c,b,_⟩,_⟩:=h.pl;exact b.room
theorem Kv.ok{B:Nat}{d w:World}{Z:Nat->Prop}{a:Nat}{s:Sv}(h:Kv B d w Z a s):∀l∈s.ls,L.Ok l:=by
 obtain⟨S,e,lv,_,_,_,_,⟨M,v,f,c,b,_⟩,_⟩:=h.pl;exact b.ok
structure Kn(Z:Nat->Prop)(w:World)(Z':Nat->Prop)(w':World):Prop where
 size:w.heap.size<=w'.heap.size
 keep:∀k,k<w.heap.size->¬Z k->w'.heap[k]?=w.heap[k]?/\¬Z' k
theorem Kn.refl(Z:Nat->Prop)(w:World):Kn Z w Z w:=⟨xc _,λk _ a=>⟨rfl,a⟩⟩
theorem Kn.trans{Z Z' a:Nat->Prop}{w w' b:World}(h:Kn Z w Z' w')(k:Kn Z' w' a b):Kn Z w a b :=
 ⟨xj h.size k.size,λi c f=>by
  obtain⟨d,e⟩:=h.keep i c f;obtain⟨g,j⟩:=k.keep i (xn c h.size) e;exact⟨g.trans d,j⟩⟩
variable {Z Z':Nat->Prop}
theorem Kn.below(a:Below w.heap.size w w'):Kn Z w Z w':=⟨a.size,λk b c=>⟨a.block k b,c⟩⟩
theorem Kn.cl(h:Kn Z w Z' w'){g:Nat}{d:List Nat}(b:Cl w g d)(c:¬Z g):Cl w' g d/\¬Z' g :=
 ⟨⟨xn b.1 h.size,λj e=>(xm (a:=⟨g,j,none⟩) (h.keep g b.1 c).1).trans (b.2 j e)⟩,(h.keep g b.1 c).2⟩
theorem Kn.own(h:Kn Z w Z' w'){a e size n:Nat}{v:Value}{xs:List Value}(c:w.ownsRow a e size v n xs)(d:∀g,v.ownBlock=some g->¬Z g):w'.ownsRow a e size v n xs/\∀g,v.ownBlock=some g->¬Z' g :=
 ⟨ze c (λg b=>(h.keep g (c.lt g b).2 (d g b)).1),λg b=>(h.keep g (c.lt g b).2 (d g b)).2⟩
theorem Pv(lg b:List UInt8)(c:Nat)(a:List Nat)(h:a.length<=5)(d:∀n∈a,n<9223372036854775808):(UE lg (.ok (c,a)) b).length<=lg.length+64:=by
 have e:=Pl.toldB_len a d;have f:(Pl.cmdB c a).length<=46:=by unfold Pl.cmdB;rw[List.length_cons];omega
 have g:=vP (Pl.cmdB c a) (by omega);unfold UE;simp only[];split
 ·rw[xb];omega
 omega
def Kx(j:Nat)(B:Nat)(w0 w:World)(Z:Nat->Prop)(Lb:Nat)(s:Sv):Prop:=∃lg,lg.length<=200000000+64*j/\Kv B w0 w Z Lb { s with lg:=lg }
variable {B Lb R j:Nat}{s:Sv}
theorem Kx.of(h:Kv B w0 w Z Lb s)(a:s.lg.length<=200000000+64*j):Kx j B w0 w Z Lb s:=⟨s.lg,a,h⟩
theorem Kx.below{j B:Nat}{b w w':World}{Z:Nat->Prop}{a:Nat}{s:Sv}(h:Kx j B b w Z a s)(e:Below w.heap.size w w'):Kx j B b w' Z a s:=by
 obtain⟨lg,c,d⟩:=h;exact⟨lg,c,d.below e⟩
theorem Kx.old{j B:Nat}{a w:World}{Z:Nat->Prop}{b:Nat}{s:Sv}(h:Kx j B a w Z b s):Below B a w:=h.choose_spec.2.old
theorem Kx.size{j B:Nat}{b w:World}{Z:Nat->Prop}{a:Nat}{s:Sv}(h:Kx j B b w Z a s):B<=w.heap.size:=h.choose_spec.2.size
theorem Kx.zin{j B:Nat}{b w:World}{Z:Nat->Prop}{a:Nat}{s:Sv}(h:Kx j B b w Z a s):∀k,Z k->B<=k/\k<w.heap.size:=h.choose_spec.2.zin
theorem Kx.good{j B:Nat}{b w:World}{Z:Nat->Prop}{a:Nat}{s:Sv}(h:Kx j B b w Z a s):Good s.os s.ls:=h.choose_spec.2.good
theorem Kx.room{j B:Nat}{b w:World}{Z:Nat->Prop}{a:Nat}{s:Sv}(h:Kx j B b w Z a s):s.ls.length<=30:=h.choose_spec.2.room
theorem Kx.ok{j B:Nat}{b w:World}{Z:Nat->Prop}{a:Nat}{s:Sv}(h:Kx j B b w Z a s):∀l∈s.ls,L.Ok l:=h.choose_spec.2.ok
theorem Kx.up{a:Nat}(h:Kx j B w0 w Z Lb s)(d:j<=a):Kx a B w0 w Z Lb s:=by
 obtain⟨lg,c,b⟩:=h;exact⟨lg,by omega,b⟩
theorem Kx.step{lg:List UInt8}(d:lg.length<=200000000+64*j){c:Nat}{a:List Nat}(b:a.length<=5)(e:∀n∈a,n<9223372036854775808)(h:Kv B w0 w Z Lb (Gz { s with lg:=lg } (.ok (c,a)))):Kx (j+1) B w0 w Z Lb (SV s (.ok (c,a))) :=
 ⟨_,by have:=Pv lg (Tr s (.ok (c,a))) c a b e;exact xj this (by omega),h⟩
def s1:Sv:=⟨0,[],[],[⟨13,9,100,1,5,5,0,0,0,0,[]⟩],cF (Pl.cmdB 2 [13,9,5,100])⟩
def s2:Sv:=⟨0,[],[],[⟨13,9,100,1,5,3,0,0,0,2,[]⟩,⟨14,9,100,2,2,2,0,0,0,0,[(13,2)]⟩],cF (Pl.cmdB 2 [13,9,5,100])++cF (Pl.cmdB 3 [13,14,2])⟩
def Ld:Sv:=⟨0,[],[],[],[]⟩
theorem aV(w:World)(o:Obj)(k:Nat)(h:k=w.heap.size):(w.alloc o).heap[k]?=some o:=by
 subst h;exact xo w o
def BK(w:World):World :=
 (((((w.alloc (.map #[] 0)).alloc (.map #[] 0)).alloc (.map #[] 0)).alloc (.cells #[.int .i64 0,.slice none 0 0,.map (some w.heap.size),.map (some (w.heap.size+1)),.map (some (w.heap.size+1+1))] 117)).alloc (.cells #[.pointer (some ⟨w.heap.size+1+1+1,0,none⟩),.slice none 0 0] 91))
theorem RL(w:World)(d:Gl w):Kv w.heap.size w (BK w) (λk=>w.heap.size<=k/\k<=w.heap.size+4) (w.heap.size+1+1+1+1) Ld:=by
 have c:Below w.heap.size w (BK w):=by
  unfold BK;exact(((((xh _ _).alloc (xc _) _).alloc (by simp) _).alloc (by first|(simp;done)|(simp;omega)) _).alloc (by first|(simp;done)|(simp;omega)) _).alloc (by first|(simp;done)|(simp;omega)) _
 have r:(BK w).heap.size=w.heap.size+5:=by unfold BK;simp
 have e:(BK w).heap[w.heap.size]?=some (.map #[] 0):=by
  unfold BK;exact aE (aE (aE (aE (xo w _) (by first|(simp;done)|(simp;omega))) (by first|(simp;done)|(simp;omega))) (by first|(simp;done)|(simp;omega))) (by first|(simp;done)|(simp;omega))
 have f:(BK w).heap[w.heap.size+1]?=some (.map #[] 0):=by
  unfold BK;exact aE (aE (aE (aV _ _ _ (by first|(simp;done)|(simp;omega))) (by first|(simp;done)|(simp;omega))) (by first|(simp;done)|(simp;omega))) (by first|(simp;done)|(simp;omega))
 have j:(BK w).heap[w.heap.size+2]?=some (.map #[] 0):=by
  unfold BK;exact aE (aE (aV _ _ _ (by first|(simp;done)|(simp;omega))) (by first|(simp;done)|(simp;omega))) (by first|(simp;done)|(simp;omega))
 have m:(BK w).heap[w.heap.size+3]?=some (.cells #[.int .i64 0,.slice none 0 0,.map (some w.heap.size),.map (some (w.heap.size+1)),.map (some (w.heap.size+1+1))] 117):=by
  unfold BK;exact aE (aV _ _ _ (by first|(simp;done)|(simp;omega))) (by first|(simp;done)|(simp;omega))
 have p:(BK w).heap[w.heap.size+4]?=some (.cells #[.pointer (some ⟨w.heap.size+1+1+1,0,none⟩),.slice none 0 0] 91):=by
  unfold BK;exact aV _ _ _ (by simp)
 generalize BK w=W at *;have q:PV [] [] W (w.heap.size+1+1+1) ⟨w.heap.size+1+1,w.heap.size,w.heap.size+1⟩ (.slice none 0 0) 0 [] [] []:=⟨m,⟨⟨.map [],gI j,⟨rfl,λa b _ _=>rfl,λs h=>by cases h⟩⟩,⟨by simp,by simp,by simp⟩,⟨.map [],gI e,⟨rfl,λn _=>rfl,λn _=>rfl,λs h=>by cases h⟩⟩,⟨.map [],gI f,⟨rfl,λa b _ _=>rfl,λa b _ _=>rfl⟩⟩,(by show w.heap.size+1+1≠w.heap.size;omega),(by show w.heap.size+1+1≠w.heap.size+1;omega),(by show w.heap.size≠w.heap.size+1;omega)⟩,Xi _ _ _ _,rfl,rfl,λi h=>absurd h (by simp),λi h=>absurd h (by simp),by simp,by omega,λl h=>absurd h (by simp),by simp⟩
 refine⟨c,by omega,d.2.2,d.below c,?_,λk h=>by omega,DY⟩;exact⟨w.heap.size+1+1+1,λk=>w.heap.size<=k/\k<=w.heap.size+3,.slice none 0 0,p,by omega,λh=>by omega,λk h=>by omega,⟨_,_,_,_,q,⟨by omega,by show _/\_;simp only[];omega,by show _/\_;simp only[];omega,by show _/\_;simp only[];omega,(λg h=>by cases h),(λk h=>absurd h (by simp)),(λk h=>absurd h (by simp))⟩⟩,⟨Xi _ _ _ _,λ_=>rfl⟩,λk h=>by cases h⟩
theorem PC(w:World)(b:Gl w):Calls prog 36 #[] w λe w'=>∃a Z,e=.returned (.pointer (some ⟨a,0,none⟩))/\Kv w.heap.size w w' Z a Ld:=by
 have c:=@run_makeMap prog;go_enter func36,ntmps36;go_wp2_with (go_at_call 49;go_in);go_ret;exact⟨_,_,rfl,RL w b⟩
def Bv(f:L->Nat)(ls:List L):Nat:=(ls.map f).sum
theorem EQ(f:L->Nat)(a:List L)(l:L):Bv f (a++[l])=Bv f a+f l:=by simp[Bv]
theorem eR(f:L->Nat):∀(ls:List L) (i:Nat) (l:L),i<ls.length->Bv f (ls.set i l)+f (ls.getD i L0)=Bv f ls+f l
 |[],i,l,h=>by simp at h
 |x::r,0,l,_=>by simp[Bv];omega
 |x::r,i+1,l,h=>by
  have:=eR f r i l (by simpa using h)
  simp only[Bv,xbi,List.map_cons,List.sum_cons,List.getD_cons_succ]at this ⊢;omega
theorem Ki(f:L->Nat){a b:List L}(e:a.length=b.length)(h:∀i,i<a.length->f (a.getD i L0)=f (b.getD i L0)):Bv f a=Bv f b:=by
 unfold Bv;congr 1;apply yn (by simp[e]);intro i c d;have:=h i (by simpa using c);simpa [Uv,show i<a.length by simpa using c,show i<b.length by simpa using d] using this
def Lw(l:L):Prop:=1<=l.got/\l.got=l.free+l.hd+l.sh+l.sc+l.gv/\1<=l.id/\l.id<=14
def Lk(l l':L):Prop:=l'.id=l.id/\l'.got=l.got/\l'.gv=l.gv/\l'.free+l'.hd+l'.sh+l'.sc=l.free+l.hd+l.sh+l.sc
theorem Lk.refl(l:L):Lk l l:=⟨rfl,rfl,rfl,rfl⟩
variable {l:L}
theorem Lk.lw{l':L}(h:Lk l l')(a:Lw l):Lw l':=by
 obtain⟨b,c,d,e⟩:=h;obtain⟨f,g,i,j⟩:=a;unfold Lw;omega
structure Cn(ls:List L)(R:Nat):Prop where
 each:∀i,i<ls.length->Lw (ls.getD i L0)
 sum:Bv L.got ls=Bv L.gv ls+R
variable {ls ls':List L}
theorem Cn.keep(h:Cn ls R)(c:ls'.length=ls.length)(a:∀i,i<ls.length->Lk (ls.getD i L0) (ls'.getD i L0)):Cn ls' R:=by
 refine⟨λi b=>(a i (by omega)).lw (h.each i (by omega)),?_⟩;rw[Ki L.got c (λi b=>(a i (by omega)).2.1),Ki L.gv c (λi b=>(a i (by omega)).2.2.1)];exact h.sum
theorem Cn.app{n:Nat}(h:∀i,i<ls.length->Lw (ls.getD i L0))(d:Lw l)(b:l.gv=0)(f:Bv L.got ls+l.got=Bv L.gv ls+R):Cn (ls++[l]) R:=by
 refine⟨λi c=>?_,by rw[EQ,EQ,b];omega⟩;rw[xb,Xc]at c;by_cases a:i<ls.length
 ·have e:(ls++[l]).getD i L0=ls.getD i L0:=by simp[Uv,Xk a]
  rw[e];exact h i a
 have:i=ls.length:=by omega
 subst this;have e:(ls++[l]).getD ls.length L0=l:=by simp[Uv]
 rw[e];exact d
theorem vS(h:Lw l){n:Nat}(d:n<=l.free):Lw (zF l n):=by
 obtain⟨a,e,b,c⟩:=h;refine⟨a,?_,b,c⟩;show l.got=l.free-n+l.hd+l.sh+l.sc+(l.gv+n);omega
theorem JS(h:∀i,i<ls.length->Lw (ls.getD i L0)){j:Nat}(c:j<ls.length){l:L}(d:Lw l):∀i,i<(ls.set j l).length->Lw ((ls.set j l).getD i L0):=λi b=>by
 rw[xd]at b;by_cases a:i=j
 ·subst a;rw[Za c];exact d
 rw[zQ a];exact h i b
theorem Cn.split(h:Cn ls R){a b c:Nat}(g:1<=b/\b<=14)(k:1<=c):Cn (aA ls a b c) R:=by
 unfold aA;by_cases d:zU ls a b c=0
 ·rw[xe d];unfold zU at d;by_cases e:UB a ls<ls.length
  ·rw[xe e]at d;by_cases f:zx ls b=0
   ·rw[xe f]at d;by_cases l:(ls.getD (UB a ls) L0).free<c
    ·rw[xe l]at d;omega
    have m:=h.each _ e;refine Cn.app (n:=0) (JS h.each e (vS m (by omega))) ⟨k,by show c=c+0+0+0+0;omega,g.1,g.2⟩ rfl ?_
    have s1:=eR L.got ls (UB a ls) (zF (ls.getD (UB a ls) L0) c) e;have s2:=eR L.gv ls (UB a ls) (zF (ls.getD (UB a ls) L0) c) e;have p:=h.sum;have i:(zF (ls.getD (UB a ls) L0) c).got=(ls.getD (UB a ls) L0).got:=rfl;have j:(zF (ls.getD (UB a ls) L0) c).gv=(ls.getD (UB a ls) L0).gv+c:=rfl;rw[i]at s1;rw[j]at s2;show Bv L.got (ls.set (UB a ls) (zF (ls.getD (UB a ls) L0) c))+c=_;omega
   rw[xg f]at d;exact absurd d f
  rw[xg e]at d;omega
 rw[xg d];exact h
theorem qH{a b m:Nat}(h:zS ls a b m=0):UB a ls<ls.length/\UB b ls<ls.length/\UB a ls≠UB b ls/\zx ls m=0/\(zd ls a).free+(zd ls b).free≠0:=by
 unfold zS at h;by_cases d:UB a ls<ls.length/\UB b ls<ls.length
 ·rw[xe d]at h;by_cases f:UB a ls=UB b ls\/(zd ls a).gd≠(zd ls b).gd
  ·rw[xe f]at h;omega
  rw[xg f]at h;by_cases c:zx ls m=0
  ·rw[xe c]at h;by_cases g:(zd ls a).free+(zd ls b).free=0
   ·rw[xe g]at h;omega
   exact⟨d.1,d.2,λe=>f (Or.inl e),c,g⟩
  rw[xg c]at h;exact absurd h c
 rw[xg d]at h;omega
theorem Cn.merge(h:Cn ls R){a b m:Nat}(g:1<=m/\m<=14):Cn (ZI ls a b m) R:=by
 unfold ZI;by_cases e:zS ls a b m=0
 ·rw[xe e];obtain⟨d,f,r,s,t⟩:=qH e;have w1:=h.each _ d;have w2:=h.each _ f;have c:UB b ls<(ls.set (UB a ls) (zF (zd ls a) (zd ls a).free)).length:=by rw[xd];exact f
  refine Cn.app (n:=0) (JS (JS h.each d (vS w1 (xc _))) c (vS w2 (xc _))) ⟨by show 1<=(zd ls a).free+(zd ls b).free;omega,by show(zd ls a).free+(zd ls b).free=(zd ls a).free+(zd ls b).free+0+0+0+0;omega,g.1,g.2⟩ rfl ?_
  have s1:=eR L.got ls (UB a ls) (zF (zd ls a) (zd ls a).free) d;have s2:=eR L.gv ls (UB a ls) (zF (zd ls a) (zd ls a).free) d;have i:=eR L.got _ (UB b ls) (zF (zd ls b) (zd ls b).free) c;have j:=eR L.gv _ (UB b ls) (zF (zd ls b) (zd ls b).free) c;rw[zQ (XZ r)]at i j;have u:=h.sum;have k:(zF (zd ls a) (zd ls a).free).got=(ls.getD (UB a ls) L0).got:=rfl;have l:(zF (zd ls a) (zd ls a).free).gv=(ls.getD (UB a ls) L0).gv+(zd ls a).free:=rfl;have p:(zF (zd ls b) (zd ls b).free).got=(ls.getD (UB b ls) L0).got:=rfl;have q:(zF (zd ls b) (zd ls b).free).gv=(ls.getD (UB b ls) L0).gv+(zd ls b).free:=rfl;rw[k]at s1;rw[l]at s2;rw[p]at i;rw[q]at j;show Bv L.got ((ls.set (UB a ls) (zF (zd ls a) (zd ls a).free)).set (UB b ls) (zF (zd ls b) (zd ls b).free))+((zd ls a).free+(zd ls b).free)=_;omega
 rw[xg e];exact h
theorem Cn.scrap(h:Cn ls R)(a c:Nat):Cn (Zw ls a c) R:=by
 unfold Zw;by_cases b:Zv ls a c=0
 ·rw[xe b];unfold Zv at b;by_cases e:UB a ls<ls.length
  ·rw[xe e]at b;by_cases f:(ls.getD (UB a ls) L0).free<c
   ·rw[xe f]at b;omega
   refine h.keep (xd ..) (λi g=>?_);by_cases d:i=UB a ls
   ·subst d;rw[Za e];refine⟨rfl,rfl,rfl,?_⟩;show(ls.getD (UB a ls) L0).free-c+(ls.getD (UB a ls) L0).hd+(ls.getD (UB a ls) L0).sh+((ls.getD (UB a ls) L0).sc+c)=_;omega
   rw[zQ d];exact Lk.refl _
  rw[xg e]at b;omega
 rw[xg b];exact h
theorem Me{q:List (Nat×Nat)}(g:(q.map Prod.fst).Nodup)(f:∀p∈q,p.1<ls.length)(a:∀p∈q,p.2<=(ls.getD p.1 L0).free):∀i,i<ls.length->Lk (ls.getD i L0) ((Zm ls q).getD i L0):=λi e=>by
 by_cases c:i∈q.map Prod.fst
 ·obtain⟨p,d,b⟩:=Xg.1 c;obtain⟨j,n⟩:=p;simp only at b;subst b;rw[vZ q ls g d e];have:=a _ d;simp only at this;refine⟨rfl,rfl,rfl,?_⟩;show(ls.getD j L0).free-n+((ls.getD j L0).hd+n)+(ls.getD j L0).sh+(ls.getD j L0).sc=_;omega
 rw[dU q ls c];exact Lk.refl _
theorem Eo{f:L->L}{i:Nat}(a:i<ls.length):(ls.map f).getD i L0=f (ls.getD i L0):=by simp[Uv,a]
theorem NL{os:List O}(b:Good os ls)(g:L->Nat->L)(d:∀l n,(g l n).id=l.id/\(g l n).got=l.got/\(g l n).gv=l.gv/\(g l n).free+(g l n).hd+(g l n).sh+(g l n).sc=l.free+l.hd+l.sh+l.sc+n)(a:Nat):∀i,i<ls.length->Lk (ls.getD i L0) ((ls.map (dH g os a)).getD i L0):=λi c=>by
 rw[Eo c];unfold dH
 cases e:zr os a (ls.getD i L0).id with
 |none=>exact Lk.refl _
 |some n=>
  have f:n<=(ls.getD i L0).hd:=by rw[b.hd i c];exact kW e
  obtain⟨h,j,k,m⟩:=d { ls.getD i L0 with hd:=(ls.getD i L0).hd-n } n;refine⟨h,j,k,?_⟩;rw[m];show(ls.getD i L0).free+((ls.getD i L0).hd-n)+(ls.getD i L0).sh+(ls.getD i L0).sc+n=_;omega
def QR(s:Sv):Nat×List Nat->Nat
 |(2,[a,b,c,d])=>if zx s.ls a=0 then c else 0
 |_=>0
theorem Cn.step(h:Cn s.ls R)(g:Good s.os s.ls)(f:s.ls.length<=30)(k a b c d:Int):Cn (Gz s (.ok (sp k a b c d))).ls (R+QR s (sp k a b c d)):=by
 have m:=CU a (n:=12) (by omega);have p:=CU b (n:=12) (by omega);have q:=CU c (n:=12) (by omega);unfold sp;split
 ·show Cn (Zi s.rj s.td s.ls (.ok (1,[pk a 40]))).2.2 _;have e:(Zi s.rj s.td s.ls (.ok (1,[pk a 40]))).2.2=s.ls:=by simp only[Zi];split<;>rfl
  rw[e];exact h
 ·show Cn (if zx s.ls (1+pk a 12)=0 then s.ls++[Et s.ls (1+pk a 12) (1+pk b 3) (1+pk c 400) (pk d 40)] else s.ls) (R+if zx s.ls (1+pk a 12)=0 then 1+pk c 400 else 0);by_cases i:zx s.ls (1+pk a 12)=0
  ·rw[xe i,xe i];refine Cn.app (n:=0) h.each ⟨by show 1<=1+_;omega,by show 1+pk c 400=1+pk c 400+0+0+0+0;omega,by show 1<=1+pk a 12;omega,by show 1+pk a 12<=14;omega⟩ rfl ?_
   have:=h.sum
   show Bv L.got s.ls+(1+pk c 400)=_;omega
  rw[xg i,xg i];exact h
 ·exact h.split ⟨by omega,by omega⟩ (by omega)
 ·exact h.merge ⟨by omega,by omega⟩
 ·show Cn (sZ s.rj s.os s.td s.ls (1+pk a 4) (1+pk b 3) (1+pk c 400) (pk d 10) (pk (d.tdiv 16) 4)) R;unfold sZ;split
  ·have j:=ZX (rj:=s.rj) s.td (1+pk b 3) (1+pk c 400) (pk d 10) (pk (d.tdiv 16) 4) s.ls f;exact h.keep (bR _ _) (Me j.2.1 j.2.2.1 j.2.2.2.1)
  exact h
 ·exact h.keep (Xl ..) (NL g Zj (λl n=>⟨rfl,rfl,rfl,by show l.free+n+l.hd+l.sh+l.sc=_;omega⟩) _)
 ·exact h.keep (Xl ..) (NL g Zt (λl n=>⟨rfl,rfl,rfl,by show l.free+l.hd+(l.sh+n)+l.sc=_;omega⟩) _)
 ·exact h
 ·exact h
 ·exact h.scrap _ _
 ·show Cn (Zi s.rj s.td s.ls (.ok (11,[1+pk a 12]))).2.2 _;have e:(Zi s.rj s.td s.ls (.ok (11,[1+pk a 12]))).2.2=s.ls:=by simp only[Zi];split<;>rfl
  rw[e];exact h
 exact h
theorem Good.nodup{os:List O}(h:Good os ls):(ls.map L.id).Nodup:=by
 rw[yc,yi,Xz];intro i j a b c e;have:=h.ids i j a b (by simpa [Uv,a,b] using e);omega
structure Gr(ls ls':List L):Prop where
 len:ls.length<=ls'.length
 old:∀i,i<ls.length->(ls'.getD i L0).id=(ls.getD i L0).id/\(ls'.getD i L0).gd=(ls.getD i L0).gd
 new:∀i,ls.length<=i->i<ls'.length->1<=(ls'.getD i L0).id/\(ls'.getD i L0).id<=12
theorem Gr.refl(ls:List L):Gr ls ls:=⟨xc _,λ_ _=>⟨rfl,rfl⟩,λi a b=>by omega⟩
theorem Gr.same(c:ls'.length=ls.length)(h:∀i,i<ls.length->(ls'.getD i L0).id=(ls.getD i L0).id/\(ls'.getD i L0).gd=(ls.getD i L0).gd):Gr ls ls':=⟨by omega,h,λi a b=>by omega⟩
theorem Gr.set(ls:List L)(j:Nat)(l:L)(h:j<ls.length->l.id=(ls.getD j L0).id/\l.gd=(ls.getD j L0).gd):Gr ls (ls.set j l) :=
 Gr.same (xd ..) (λi b=>by
  by_cases a:i=j
  ·subst a;rw[Za b];exact h b
  rw[zQ a];exact⟨rfl,rfl⟩)
theorem Gr.snoc(h:Gr ls ls'){l:L}(f:1<=l.id)(g:l.id<=12):Gr ls (ls'++[l]):=by
 have b:∀i,i<ls'.length->(ls'++[l]).getD i L0=ls'.getD i L0:=λi a=>by simp[Uv,Xk a]
 have c:(ls'++[l]).getD ls'.length L0=l:=by simp[Uv]
 refine⟨by rw[xb];have:=h.len;omega,λi a=>?_,λi a d=>?_⟩
 ·rw[b i (xn a h.len)];exact h.old i a
 rw[xb,Xc]at d;by_cases e:i<ls'.length
 ·rw[b i e];exact h.new i a e
 obtain rfl:i=ls'.length:=by omega
 rw[c];exact⟨f,g⟩
theorem Gr.trans2{a:List L}(h:Gr ls ls')(k:Gr ls' a)(e:ls'.length=ls.length):Gr ls a :=
 ⟨xj h.len k.len,λi b=>⟨(k.old i (by omega)).1.trans (h.old i b).1,(k.old i (by omega)).2.trans (h.old i b).2⟩,λi d c=>k.new i (by omega) c⟩
theorem Cr(ls:List L)(l:List (Nat×Nat)):∀i,((Zm ls l).getD i L0).gd=(ls.getD i L0).gd:=by
 induction l generalizing ls with
 |nil=>intro i;rfl
 |cons p r ih=>
  intro i;simp only[Zm];rw[ih];by_cases h:i=p.1
  ·subst h;by_cases a:p.1<ls.length
   ·rw[Za a];rfl
   simp[yy (show ls.length<=p.1 by omega)]
  rw[zQ h]
theorem NQ(g:L->Nat->L)(b:∀l n,(g l n).id=l.id/\(g l n).gd=l.gd)(os:List O)(a:Nat)(ls:List L):Gr ls (ls.map (dH g os a)) :=
 Gr.same (Xl ..) (λi c=>by
  rw[Eo c];unfold dH;split
  ·exact⟨(b _ _).1,(b _ _).2⟩
  exact⟨rfl,rfl⟩)
theorem Pf(s:Sv)(k a b c d:Int):Gr s.ls (Gz s (.ok (sp k a b c d))).ls:=by
 have h:=CU a (n:=12) (by omega);have j:=CU b (n:=12) (by omega);have l:=CU c (n:=12) (by omega);unfold sp;split
 ·show Gr s.ls (Zi s.rj s.td s.ls (.ok (1,[pk a 40]))).2.2;have e:(Zi s.rj s.td s.ls (.ok (1,[pk a 40]))).2.2=s.ls:=by simp only[Zi];split<;>rfl
  rw[e];exact Gr.refl _
 ·show Gr s.ls (if zx s.ls (1+pk a 12)=0 then s.ls++[Et s.ls (1+pk a 12) (1+pk b 3) (1+pk c 400) (pk d 40)] else s.ls);split
  ·exact(Gr.refl _).snoc (by show 1<=1+pk a 12;omega) (by show 1+pk a 12<=12;omega)
  exact Gr.refl _
 ·show Gr s.ls (aA s.ls (1+pk a 12) (1+pk b 12) (1+pk c 400));unfold aA;split
  ·refine Gr.snoc ?_ ?_ ?_
   ·exact Gr.set _ _ _ (λ_=>⟨rfl,rfl⟩)
   ·show 1<=1+pk b 12;omega
   show 1+pk b 12<=12;omega
  exact Gr.refl _
 ·show Gr s.ls (ZI s.ls (1+pk a 12) (1+pk b 12) (1+pk c 12));unfold ZI;split
  ·rename_i f;obtain⟨m,p,g,_,_⟩:=qH f;refine Gr.snoc ?_ ?_ ?_
   ·refine Gr.trans2 (ls':=s.ls.set (UB (1+pk a 12) s.ls) (zF (zd s.ls (1+pk a 12)) (zd s.ls (1+pk a 12)).free)) ?_ ?_ (xd ..)
    ·exact Gr.set _ _ _ (λ_=>⟨rfl,rfl⟩)
    refine Gr.set _ _ _ (λ_=>?_);rw[zQ (XZ g)];exact⟨rfl,rfl⟩
   ·show 1<=1+pk c 12;omega
   show 1+pk c 12<=12;omega
  exact Gr.refl _
 ·show Gr s.ls (sZ s.rj s.os s.td s.ls (1+pk a 4) (1+pk b 3) (1+pk c 400) (pk d 10) (pk (d.tdiv 16) 4));unfold sZ;split
  ·exact Gr.same (bR _ _) (λi _=>⟨bL _ _ i,Cr _ _ i⟩)
  exact Gr.refl _
 ·exact NQ Zj (λ_ _=>⟨rfl,rfl⟩) _ _ _
 ·exact NQ Zt (λ_ _=>⟨rfl,rfl⟩) _ _ _
 ·exact Gr.refl _
 ·exact Gr.refl _
 ·show Gr s.ls (Zw s.ls (1+pk a 12) (1+pk c 400));unfold Zw;split
  ·exact Gr.set _ _ _ (λ_=>⟨rfl,rfl⟩)
  exact Gr.refl _
 ·show Gr s.ls (Zi s.rj s.td s.ls (.ok (11,[1+pk a 12]))).2.2;have e:(Zi s.rj s.td s.ls (.ok (11,[1+pk a 12]))).2.2=s.ls:=by simp only[Zi];split<;>rfl
  rw[e];exact Gr.refl _
 exact Gr.refl _
theorem PN(s:Sv)(h:∀o∈s.os,o.id<=4)(k a b c d:Int):∀o∈(Gz s (.ok (sp k a b c d))).os,o.id<=4:=by
 have g:=CU a (n:=4) (by omega);have f:∀n:Nat,∀o∈s.os.filter (λo=>o.id != n),o.id<=4:=λn o e=>h o (XW.1 e).1
 unfold sp;split
 ·exact h
 ·exact h
 ·exact h
 ·exact h
 ·show ∀o∈yA s.rj s.os s.td s.ls (1+pk a 4) (1+pk b 3) (1+pk c 400) (pk d 10) (pk (d.tdiv 16) 4),o.id<=4
  unfold yA;split
  ·intro o e;rcases xw.1 e with e|e
   ·exact h o e
   simp at e;subst e;show 1+pk a 4<=4;omega
  exact h
 ·exact f _
 ·exact f _
 ·exact h
 ·exact h
 ·exact h
 ·exact h
 exact h
structure Sc(s:Sv):Prop where
 lots:∀i,i<s.ls.length->(1<=(s.ls.getD i L0).id/\(s.ls.getD i L0).id<=12)\/(s.ls.getD i L0).gd=9
 os:∀o∈s.os,o.id<=4
theorem Sc.step(h:Sc s)(k a b c d:Int):Sc (Gz s (.ok (sp k a b c d))):=by
 refine⟨λi l=>?_,PN s h.os k a b c d⟩;have e:=Pf s k a b c d;by_cases f:i<s.ls.length
 ·obtain⟨g,j⟩:=e.old i f;rw[g,j];exact h.lots i f
 exact Or.inl (e.new i (by omega) l)
theorem Bg(rj:List (Nat×Nat))(td:Nat)(os:List O)(ls:List L)(l:List UInt8):(zO rj td os ls (Pl.cmd l)).1≠[]:=by
 have g:=dL l
 cases h:ZR l with
 |none=>rw[h]at g;rw[g];simp[zO,ZP,aH,Zi]
 |some p=>
  obtain⟨c,m⟩:=p;rw[h]at g;obtain⟨j,k,e,_⟩:=bK h
  cases i:Pl.mays (Pl.kindsL c) m with
  |false=>simp only[i,XA,Yc]at g;rw[g];simp[zO,ZP,aH,Zi]
  |true=>
   simp only[i,YC]at g;rw[g];rcases(show c=1\/c=2\/c=3\/c=4\/c=5\/c=6\/c=7\/c=8\/c=9\/c=10\/c=11\/c=12 from by omega) with rfl|rfl|rfl|rfl|rfl|rfl|rfl|rfl|rfl|rfl|rfl|rfl
   ·obtain⟨a,rfl⟩:=Ek e;simp only[zO,ZP,aH,Zi];split<;>simp
   ·obtain⟨a,b,c,d,rfl⟩:=St e;simp[zO,ZP,aH,Zi]
   ·obtain⟨a,b,c,rfl⟩:=NY e;simp[zO,ZP,aH,Zi]
   ·obtain⟨a,b,c,rfl⟩:=NY e;simp[zO,ZP,aH,Zi]
   ·obtain⟨a,b,c,d,f,rfl⟩:=SK e;simp only[zO,ZP,GK];split<;>simp
   ·obtain⟨a,rfl⟩:=Ek e;simp[zO,ZP,aH,Zi]
   ·obtain⟨a,rfl⟩:=Ek e;simp[zO,ZP,aH,Zi]
   ·obtain⟨a,b,rfl⟩:=El e;simp only[zO,cA];split<;>simp
   ·obtain⟨a,b,rfl⟩:=El e;simp[zO,ZP,aH,Zi]
   ·obtain⟨a,b,rfl⟩:=El e;simp[zO,ZP,aH,Zi]
   ·obtain⟨a,rfl⟩:=Ek e;simp only[zO,ZP,aH,Zi];split<;>simp
   obtain⟨a,b,rfl⟩:=El e;simp[zO,ZP,aH,Zi]
def bI(s:Sv)(t:ByteArray):Sv:=⟨(zO s.rj s.td s.os s.ls (Pl.cmd t.data.toList)).2.1,(zO s.rj s.td s.os s.ls (Pl.cmd t.data.toList)).2.2.1,(zO s.rj s.td s.os s.ls (Pl.cmd t.data.toList)).2.2.2.1,(zO s.rj s.td s.os s.ls (Pl.cmd t.data.toList)).2.2.2.2,UF s.lg t (zO s.rj s.td s.os s.ls (Pl.cmd t.data.toList)).1⟩
theorem Nl(s:Sv)(t:ByteArray)(c:t.size<=4194304):(bI s t).lg.length<=s.lg.length+4194352:=by
 have b:t.data.toList.length=t.size:=by rw[Array.length_toList];rfl
 have a:=vP t.data.toList (by omega);show(UF _ _ _).length<=_;unfold UF;split
 ·rw[xb];omega
 omega
