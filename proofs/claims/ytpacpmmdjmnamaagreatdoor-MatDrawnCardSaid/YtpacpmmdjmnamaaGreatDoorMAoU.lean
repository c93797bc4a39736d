/- Decks by loops: small boxes, matrices, points in boxes, in matrices. -/
import Derived.Test.YtpacpmmdjmnamaaGreatDoorMAo7
import Derived.Test.YtpacpmmdjmnamaaGreatDoorMAkM
namespace Go.Proofs.YtpacpmmdjmnamaaGreatDoor
open Go.RowKit Nx
set_option linter.unusedVariables false
set_option linter.unusedSimpArgs false
set_option maxRecDepth 100000
set_option maxHeartbeats 4000000
attribute [local go_sem] ib kO rK qI I7 F8 lj nN ou fJ gA gE jd yK ki oy jH jI j8 j9 ite_self fN mo cm jh lF bT kQ
attribute [local irreducible] ar
noncomputable def d7 {α:Type} (g:Nat→Nat→α×Nat) (k:Nat):Nat→List α×Nat
 |0=>([],k)
 |j+1=>((d7 g k j).1++[(g j (d7 g k j).2).1],(g j (d7 g k j).2).2)
theorem eC {α:Type} {g:Nat→Nat→α×Nat} {k:Nat}:∀ n,(d7 g k n).1.length=n:=by
 intro n
 induction n with
 |zero=>rfl
 |succ n ih=>show ((d7 g k n).1++[_]).length=_;rw [List.length_append,ih];rfl
theorem yn {α:Type} {g:Nat→Nat→α×Nat} {k c:Nat} {M:Nat}:∀ n,k+c*n≤M→(∀ j q,j<n→k≤q→q+c≤M→q≤(g j q).2∧(g j q).2≤q+c)→k≤(d7 g k n).2∧(d7 g k n).2≤k+c*n:=by
 intro n
 induction n with
 |zero=>intro _ _;exact ⟨Nat.le_refl _,Nat.le_refl _⟩
 |succ n ih=>
  intro hM h
  have hm:c*(n+1)=c*n+c:=Nat.mul_succ c n
  obtain ⟨h1,h2⟩:=ih (by omega) fun j q hj=>h j q (by omega)
  obtain ⟨h3,h4⟩:=h n (d7 g k n).2 (by omega) h1 (by omega)
  show k≤(g n (d7 g k n).2).2∧(g n (d7 g k n).2).2≤_
  omega
theorem tA {α:Type} {g:Nat→Nat→α×Nat} {k:Nat} {d:α}:∀ n i,i<n→(d7 g k n).1.getD i d=(g i (d7 g k i).2).1:=by
 intro n
 induction n with
 |zero=>intro i h;omega
 |succ n ih=>
  intro i h
  show ((d7 g k n).1++[_]).getD i d=_
  rw [List.getD_eq_getElem?_getD]
  rcases Nat.lt_or_ge i n with h1 |h1
  ·rw [List.getElem?_append_left (by rw [eC];exact h1),←List.getD_eq_getElem?_getD];exact ih i h1
  ·obtain rfl:i=n:=by omega
   rw [List.getElem?_append_right (by rw [eC];omega),eC,Nat.sub_self];rfl
theorem ym {α:Type} {g:Nat→Nat→α×Nat} {k n:Nat} {x:α} (hx:x∈(d7 g k n).1):∃ i,i<n∧x=(g i (d7 g k i).2).1:=by
 obtain ⟨i,hi,e⟩:=List.getElem_of_mem hx
 rw [eC] at hi
 refine ⟨i,hi,?_⟩
 have:=tA (g:=g) (k:=k) (d:=x) n i hi
 rw [←this,List.getD_eq_getElem?_getD,List.getElem?_eq_getElem (by rw [eC];exact hi),←e];rfl
def ud {α:Type} (pa:AV→Option α) (K:Nat→α→Prop×AV×Nat):DK:=fun k rest=>match rest with
 |[x]=>(match pa x with
  |some l=>some (K k l)
  |none=>none)
 |_=>none
theorem Ik {α:Type} {pa:AV→Option α} {c:α→AV} {f0:FuncId} {xs:List Nat} {K:Nat→α→Prop×AV×Nat} (ha:vc pa c) (h:∀ k l,(K k l).1→kZ f0 xs [c l] k (K k l).2.1 (K k l).2.2):∀ k rest e,ud pa K k rest=some e→e.1→kZ f0 xs rest k e.2.1 e.2.2:=by
 intro k rest e he hp
 unfold ud at he
 split at he
 ·split at he
  ·rename_i x l hl
   injection he with he;subst he
   exact fun ρ D w g T A n c us ht hD hA hR hS=>h k l hp ρ D w g T A n c us ht hD hA (RA.c (fun u hu=>ha _ _ hl _ _ _ _ hu) (fun us h=>h) us hR) hS
  ·cases he
 ·cases he
noncomputable def sbx (xs:List Nat) (m k:Nat):List J×Nat:=d7 (fun _ q=>jt xs q) k m
theorem nH {xs:List Nat} {m k:Nat} (h:k+3*m≤800):(sbx xs m k).1.length=m∧(∀ j∈(sbx xs m k).1,fP j∧rZ j)∧k≤(sbx xs m k).2∧(sbx xs m k).2≤k+3*m:=by
 have hp:=fun i (hi:i≤m)=>yn (g:=fun _ q=>jt xs q) (k:=k) (c:=3) (M:=800) i (by omega) fun j q _ _ h=>⟨(kC (xs:=xs) (k:=q) (by omega)).2.1,(kC (xs:=xs) (k:=q) (by omega)).2.2.1⟩
 refine ⟨eC m,fun j hj=>?_,hp m (Nat.le_refl m)⟩
 obtain ⟨i,hi,rfl⟩:=ym hj
 have:=hp i (by omega)
 exact (kC (xs:=xs) (by omega)).1
def me (s0:St) (A:Option Addr) (n c:Nat) (S:Nat→List J×Nat):Nat→St
 |0=>s0++[(10,.s (.lit (.slice none 0 0))),(12,iA 0),(2001,.v true [.lit (.slice A n c),.lit (.int .i64 (((S 0).2:Nat):Int))])]
 |j+1=>s0++[(10,.s (.ol 16 (j+1))),(12,iA ((j+1:Nat):Int)),(2001,.v true [.lit (.slice A n c),.lit (.int .i64 (((S (j+1)).2:Nat):Int))]),(33,.pre 32 6 ((S (j+1)).1.flatMap J.L))]
theorem Qn (xs:List Nat) (k m:Nat) (h1:1≤m) (h2:m≤100) (hk:k+3*m≤800):kZ 11 xs [iA (m:Int)] k (.s (.sl true 6 m (bC (d7 (fun j q=>jt xs q) k m).1))) ((d7 (fun j q=>jt xs q) k (m)).2):=by
 have hpq:∀ i,i<m→(d7 (fun _ q=>jt xs q) k i).2≤800:=fun i hi=>by have:=(nH (xs:=xs) (m:=i) (k:=k) (by omega)).2.2.2;show (sbx xs i k).2≤800;omega
 refine eh (O:=fun A n c=>ib 10 A n c (rK fun k=>(k≤800,jA (jt xs k).1,(jt xs k).2))) (by kernel_rfl) ah (fun A n c F w hA hn=>cz (xs:=xs) (aX Tryz.func10 (by kernel_rfl) rfl) (tj fun k hp=>(kC hp).2.2.2) hA hn) [9999999,0,2,8,10,12,2001,33] ((m+1)*400+400) 18 [.tmp 4] Tryz.func11 rfl Tryz.ntmps11 (by decide) (by rw [Tryz.results11]) (by simp) rfl (fun A n c hsm hs=>?_)
 simp (maxSteps:=10000000) only [go_sem,seval,reduceCtorEq,ud]
 generalize hS0:d7 (fun j q=>jt xs q) k=S
 have hlen:∀ j,(S j).1.length=j:=fun j=>by rw [←hS0];exact eC j
 have hS1:∀ j,(S (j+1)).1=(S j).1++[(jt xs (S j).2).1]:=fun j=>by rw [←hS0];rfl
 have hS2:∀ j,((S (j+1)).2)=(jt xs (S j).2).2:=fun j=>by rw [←hS0];rfl
 have hk0:(S 0).2=k:=by rw [←hS0];rfl
 have h00:(S 0).1=[]:=by rw [←hS0];rfl
 have hq:∀ j,j<m→(S j).2≤800:=fun j hj=>by rw [←hS0];exact hpq j hj
 refine aL 400 (me [(0,.s (.own 1000 0)),(2,iA (m:Int)),(8,.s (.lit (.slice none 0 0)))] A n c S) (m) (fun j=>True) 0 (fun j _=>by cases j with
  |zero=>rfl
  |succ j=>simp only [me,List.cons_append,List.nil_append,List.all_cons,List.all_nil,bH,bx,eX (p:=bx _) (rn _),Bool.and_true];rfl) (fun j mm _ hj _ ih=>?_) (by omega) trivial (by rw [←hk0];rfl)
 have hln:=hlen j
 rcases Nat.lt_or_ge j (m) with hlt |hge
 ·have g0:(0≤(j:Int))=True:=eq_true (by omega)
  have hw:=aN (j:=j) (by omega)
  have hqj:=hq j hlt
  have gm:(j<m)=True:=eq_true hlt
  have es:(S j).1.flatMap J.L++[.lit (.bool (jt xs (S j).2).1.lo.s),.lit (.int .i64 (jt xs (S j).2).1.lo.e),.ws (jt xs (S j).2).1.lo.xs,.lit (.bool (jt xs (S j).2).1.hi.s),.lit (.int .i64 (jt xs (S j).2).1.hi.e),.ws (jt xs (S j).2).1.hi.xs]=(S (j+1)).1.flatMap J.L:=by rw [hS1,←fq];rfl
  have e2:(jt xs (S j).2).2=(S (j+1)).2:=(hS2 j).symm
  replace ih:=ih hlt trivial
  rcases Nat.eq_zero_or_pos j with hj0 |hj0
  ·have hst:me [(0,.s (.own 1000 0)),(2,iA (m:Int)),(8,.s (.lit (.slice none 0 0)))] A n c S j=[(0,.s (.own 1000 0)),(2,iA (m:Int)),(8,.s (.lit (.slice none 0 0)))]++[(10,.s (.lit (.slice none 0 0))),(12,iA (j:Int)),(2001,.v true [.lit (.slice A n c),.lit (.int .i64 (((S j).2:Nat):Int))])]:=by subst hj0;rfl
   rw [hst]
   simp (maxSteps:=10000000) only [go_sem,seval,reduceCtorEq,ud,gm,g0,hw,e2]
   repeat' with_reducible first |apply And.intro |apply condP<;>intro _
   all_goals first |(show ar _ _=true;kernel_rfl)|(exact ih _ _ (by subst hj0;rw [me,←es,h00];rfl))|with_reducible assumption |omega |rfl
  ·obtain ⟨j,rfl⟩:∃ i,j=i+1:=⟨j - 1,by omega⟩
   have hl:((S (j+1)).1.flatMap J.L).length=(j+1)*6:=by rw [bj (s:=6) (fun _=>rfl),hln]
   have g5:(j+1≤100000)=True:=eq_true (by omega)
   simp (maxSteps:=10000000) only [go_sem,seval,reduceCtorEq,ud,me,gm,g0,hw,hl,g5,es,e2]
   repeat' with_reducible first |apply And.intro |apply condP<;>intro _
   all_goals first |(show ar _ _=true;kernel_rfl)|(exact ih _ _ rfl)|with_reducible assumption |omega |rfl
 ·obtain ⟨i,rfl⟩:∃ i,j=i+1:=⟨j - 1,by omega⟩
  have hm:m=i+1:=by omega
  have dn:(i+1<m)=False:=eq_false (by omega)
  have hl:((S (i+1)).1.flatMap J.L).length=(i+1)*6:=by rw [bj (s:=6) (fun _=>rfl),hln]
  have hdn:fD ((S (i+1)).1.flatMap J.L)=some (bC (S (i+1)).1):=by exact dd oK _
  rw [hm]
  simp (maxSteps:=10000000) only [go_sem,seval,reduceCtorEq,ud,me,dn,hl,hdn]
  repeat' with_reducible first |apply And.intro |apply condP<;>intro _
  all_goals first |(show ar _ _=true;kernel_rfl)|with_reducible assumption |omega |rfl |(rw [hln])|(simp only [go_sem, *];done)
theorem F6 {xs:List Nat} {k:Nat} {z:Int} (h:1≤z∧z≤100∧k+3*z.toNat≤800):kZ 11 xs [iA z] k (.s (.sl true 6 (sbx xs z.toNat k).1.length (bC (sbx xs z.toNat k).1))) (sbx xs z.toNat k).2:=by
 obtain ⟨m,rfl⟩:∃ m:Nat,z=(m:Int):=⟨z.toNat,by omega⟩
 have:=Qn xs k m (by omega) (by omega) h.2.2
 rw [(nH h.2.2).1];exact this
noncomputable def matD (xs:List Nat) (m k:Nat):List (List J)×Nat:=d7 (fun _ q=>sbx xs m q) k m
theorem oc {xs:List Nat} {m k i:Nat} (hi:i≤m) (h:k+3*m*m≤800):k≤(d7 (fun _ q=>sbx xs m q) k i).2∧(d7 (fun _ q=>sbx xs m q) k i).2≤k+3*m*i:=by
 have hm:3*m*i≤3*m*m:=Nat.mul_le_mul_left _ hi
 exact yn (g:=fun _ q=>sbx xs m q) (k:=k) (c:=3*m) (M:=800) i (by omega) fun j q _ _ h=>(nH (xs:=xs) (m:=m) (k:=q) (by omega)).2.2
theorem oa {xs:List Nat} {m k:Nat} (h:k+3*m*m≤800):(matD xs m k).1.length=m∧∀ r∈(matD xs m k).1,r.length=m∧∀ j∈r,fP j∧rZ j:=by
 refine ⟨eC m,fun r hr=>?_⟩
 obtain ⟨i,hi,rfl⟩:=ym hr
 have h1:=oc (xs:=xs) (i:=i) (Nat.le_of_lt hi) h
 have h2:3*m*(i+1)≤3*m*m:=Nat.mul_le_mul_left _ hi
 have h3:3*m*(i+1)=3*m*i+3*m:=Nat.mul_succ _ _
 have:=nH (xs:=xs) (m:=m) (k:=(d7 (fun _ q=>sbx xs m q) k i).2) (by omega)
 exact ⟨this.1,this.2.1⟩
abbrev Nv:List J→List Lf:=fun r=>[.sl true 6 r.length (bC r)]
abbrev Nw:List X→List Lf:=fun r=>[.sl true 3 r.length (pC r)]
def md (s0:St) (A:Option Addr) (n c:Nat) (S:Nat→List (List J)×Nat):Nat→St
 |0=>s0++[(10,.s (.lit (.slice none 0 0))),(12,iA 0),(2001,.v true [.lit (.slice A n c),.lit (.int .i64 (((S 0).2:Nat):Int))])]
 |j+1=>s0++[(10,.s (.ol 17 (j+1))),(12,iA ((j+1:Nat):Int)),(2001,.v true [.lit (.slice A n c),.lit (.int .i64 (((S (j+1)).2:Nat):Int))]),(35,.pre 34 1 ((S (j+1)).1.flatMap Nv))]
theorem Qm (xs:List Nat) (k m:Nat) (h1:1≤m) (h2:m≤100) (hk:k+3*m*m≤800):kZ 9 xs [iA (m:Int)] k (.s (.sl true 1 m ((d7 (fun j q=>sbx xs m q) k m).1.map rC))) ((d7 (fun j q=>sbx xs m q) k (m)).2):=by
 have hpq:∀ i,i<m→(d7 (fun _ q=>sbx xs m q) k i).2+3*m≤800:=fun i hi=>by
  have h1:=oc (xs:=xs) (i:=i) (Nat.le_of_lt hi) hk
  have h2:3*m*(i+1)≤3*m*m:=Nat.mul_le_mul_left _ hi
  have h3:3*m*(i+1)=3*m*i+3*m:=Nat.mul_succ _ _
  omega
 refine eh (O:=fun A n c=>ib 11 A n c (qI fun k z=>(1≤z∧z≤100∧k+3*z.toNat≤800,.s (.sl true 6 (sbx xs z.toNat k).1.length (bC (sbx xs z.toNat k).1)),(sbx xs z.toNat k).2))) (by kernel_rfl) ah (fun A n c F w hA hn=>cz (xs:=xs) (aX Tryz.func11 (by kernel_rfl) rfl) (fo fun k z hp=>F6 hp) hA hn) [9999999,0,2,8,10,12,2001,35] ((m+1)*400+400) 19 [.tmp 4] Tryz.func9 rfl Tryz.ntmps9 (by decide) (by rw [Tryz.results9]) (by simp) rfl (fun A n c hsm hs=>?_)
 simp (maxSteps:=10000000) only [go_sem,seval,reduceCtorEq,ud]
 generalize hS0:d7 (fun j q=>sbx xs m q) k=S
 have hlen:∀ j,(S j).1.length=j:=fun j=>by rw [←hS0];exact eC j
 have hS1:∀ j,(S (j+1)).1=(S j).1++[(sbx xs m (S j).2).1]:=fun j=>by rw [←hS0];rfl
 have hS2:∀ j,((S (j+1)).2)=(sbx xs m (S j).2).2:=fun j=>by rw [←hS0];rfl
 have hk0:(S 0).2=k:=by rw [←hS0];rfl
 have h00:(S 0).1=[]:=by rw [←hS0];rfl
 have hq:∀ j,j<m→(S j).2+3*m≤800:=fun j hj=>by rw [←hS0];exact hpq j hj
 refine aL 400 (md [(0,.s (.own 1000 0)),(2,iA (m:Int)),(8,.s (.lit (.slice none 0 0)))] A n c S) (m) (fun j=>True) 0 (fun j _=>by cases j with
  |zero=>rfl
  |succ j=>simp only [md,List.cons_append,List.nil_append,List.all_cons,List.all_nil,bH,bx,eX (p:=bx _) (cf:=Nv) (fun _=>rfl),Bool.and_true];rfl) (fun j mm _ hj _ ih=>?_) (by omega) trivial (by rw [←hk0];rfl)
 have hln:=hlen j
 rcases Nat.lt_or_ge j (m) with hlt |hge
 ·have g0:(0≤(j:Int))=True:=eq_true (by omega)
  have hw:=aN (j:=j) (by omega)
  have hqj:=hq j hlt
  have gm:(j<m)=True:=eq_true hlt
  have p1:(1:Int)≤(m:Int):=by omega
  have p2:(m:Int)≤100:=by omega
  have es:(S j).1.flatMap Nv++[.sl true 6 (sbx xs m (S j).2).1.length (bC (sbx xs m (S j).2).1)]=(S (j+1)).1.flatMap Nv:=by rw [hS1,←fq]
  have e2:(sbx xs m (S j).2).2=(S (j+1)).2:=(hS2 j).symm
  replace ih:=ih hlt trivial
  rcases Nat.eq_zero_or_pos j with hj0 |hj0
  ·have hst:md [(0,.s (.own 1000 0)),(2,iA (m:Int)),(8,.s (.lit (.slice none 0 0)))] A n c S j=[(0,.s (.own 1000 0)),(2,iA (m:Int)),(8,.s (.lit (.slice none 0 0)))]++[(10,.s (.lit (.slice none 0 0))),(12,iA (j:Int)),(2001,.v true [.lit (.slice A n c),.lit (.int .i64 (((S j).2:Nat):Int))])]:=by subst hj0;rfl
   rw [hst]
   simp (maxSteps:=10000000) only [go_sem,seval,reduceCtorEq,ud,gm,g0,hw,e2]
   repeat' with_reducible first |apply And.intro |apply condP<;>intro _
   all_goals first |(show ar _ _=true;kernel_rfl)|(exact ih _ _ (by subst hj0;rw [md,←es,h00];rfl))|with_reducible assumption |omega |rfl
  ·obtain ⟨j,rfl⟩:∃ i,j=i+1:=⟨j - 1,by omega⟩
   have hl:((S (j+1)).1.flatMap Nv).length=(j+1)*1:=by rw [bj (s:=1) (fun _=>rfl),hln]
   have g5:(j+1≤100000)=True:=eq_true (by omega)
   simp (maxSteps:=10000000) only [go_sem,seval,reduceCtorEq,ud,md,gm,g0,hw,hl,g5,es,e2]
   repeat' with_reducible first |apply And.intro |apply condP<;>intro _
   all_goals first |(show ar _ _=true;kernel_rfl)|(exact ih _ _ rfl)|with_reducible assumption |omega |rfl
 ·obtain ⟨i,rfl⟩:∃ i,j=i+1:=⟨j - 1,by omega⟩
  have hm:m=i+1:=by omega
  have dn:(i+1<m)=False:=eq_false (by omega)
  have hl:((S (i+1)).1.flatMap Nv).length=(i+1)*1:=by rw [bj (s:=1) (fun _=>rfl),hln]
  have hdn:fD ((S (i+1)).1.flatMap Nv)=some (List.map rC (S (i+1)).1):=by rw [←lD];exact dd (fun _=>rfl) _
  rw [hm]
  simp (maxSteps:=10000000) only [go_sem,seval,reduceCtorEq,ud,md,dn,hl,hdn]
  repeat' with_reducible first |apply And.intro |apply condP<;>intro _
  all_goals first |(show ar _ _=true;kernel_rfl)|with_reducible assumption |omega |rfl |(rw [hln])|(simp only [go_sem, *];done)
theorem NN {xs:List Nat} {k:Nat} {z:Int} (h:1≤z∧z≤100∧k+3*z.toNat*z.toNat≤800):kZ 9 xs [iA z] k (.s (mL (matD xs z.toNat k).1)) (matD xs z.toNat k).2:=by
 obtain ⟨m,rfl⟩:∃ m:Nat,z=(m:Int):=⟨z.toNat,by omega⟩
 have:=Qm xs k m (by omega) (by omega) h.2.2
 unfold mL
 rw [(oa h.2.2).1];exact this
noncomputable def kq (xs:List Nat) (l:List J) (k:Nat):List X×Nat:=d7 (fun j q=>(vU xs (l.getD j zJ) q,q+1)) k l.length
theorem sJ (xs:List Nat) (l:List J) (k:Nat):∀ i,(d7 (fun j q=>(vU xs (l.getD j zJ) q,q+1)) k i).2=k+i:=by
 intro i
 induction i with
 |zero=>rfl
 |succ i ih=>show (d7 (fun j q=>(vU xs (l.getD j zJ) q,q+1)) k i).2+1=_;rw [ih];omega
theorem xD (xs:List Nat) (l:List J) (k:Nat):(kq xs l k).1.length=l.length:=eC _
theorem GB {xs:List Nat} {l:List J} {k i:Nat} (hi:i<l.length):(kq xs l k).1.getD i zX=vU xs (l.getD i zJ) (k+i):=by
 unfold kq
 rw [tA _ _ hi,sJ]
def kD (s0:St) (A:Option Addr) (n c:Nat) (S:Nat→List X×Nat):Nat→St
 |0=>s0++[(10,.s (.lit (.slice none 0 0))),(12,iA 0),(2001,.v true [.lit (.slice A n c),.lit (.int .i64 (((S 0).2:Nat):Int))])]
 |j+1=>s0++[(10,.s (.ol 21 (j+1))),(12,iA ((j+1:Nat):Int)),(2001,.v true [.lit (.slice A n c),.lit (.int .i64 (((S (j+1)).2:Nat):Int))]),(43,.pre 30 3 ((S (j+1)).1.flatMap X.L))]
theorem NL (xs:List Nat) (k:Nat) (l:List J) (hg:∀ j∈l,fP j) (h1:1≤l.length) (h2:l.length≤100) (hk:k+l.length≤900):kZ 43 xs [bv l] k (.s (.sl true 3 l.length (pC (d7 (fun j q=>(vU xs (l.getD j zJ) q,q+1)) k l.length).1))) ((d7 (fun j q=>(vU xs (l.getD j zJ) q,q+1)) k (l.length)).2):=by
 have hpq:∀ i,i<l.length→(d7 (fun j q=>(vU xs (l.getD j zJ) q,q+1)) k i).2≤900:=fun i hi=>by rw [sJ];omega
 refine eh (O:=fun A n c=>ib 101 A n c (I7 fun k j=>(fP j∧k≤900,xA (vU xs j k),k+1))) (by kernel_rfl) ah (fun A n c F w hA hn=>cz (xs:=xs) (aX Tryz.func101 (by kernel_rfl) rfl) (O5 fun k j hp=>(xC hp.1 hp.2).2.1) hA hn) [9999999,0,2,8,10,12,2001,43] ((l.length+1)*400+400) 23 [.tmp 4] Tryz.func43 rfl Tryz.ntmps43 (by decide) (by rw [Tryz.results43]) (by simp) rfl (fun A n c hsm hs=>?_)
 simp (maxSteps:=10000000) only [go_sem,seval,reduceCtorEq,ud]
 generalize hS0:d7 (fun j q=>(vU xs (l.getD j zJ) q,q+1)) k=S
 have hlen:∀ j,(S j).1.length=j:=fun j=>by rw [←hS0];exact eC j
 have hS1:∀ j,(S (j+1)).1=(S j).1++[((vU xs (l.getD j zJ) (S j).2,(S j).2+1)).1]:=fun j=>by rw [←hS0];rfl
 have hS2:∀ j,((S (j+1)).2)=((vU xs (l.getD j zJ) (S j).2,(S j).2+1)).2:=fun j=>by rw [←hS0];rfl
 have hk0:(S 0).2=k:=by rw [←hS0];rfl
 have h00:(S 0).1=[]:=by rw [←hS0];rfl
 have hq:∀ j,j<l.length→(S j).2≤900:=fun j hj=>by rw [←hS0];exact hpq j hj
 refine aL 400 (kD [(0,.s (.own 1000 0)),(2,bv l),(8,.s (.lit (.slice none 0 0)))] A n c S) (l.length) (fun j=>True) 0 (fun j _=>by cases j with
  |zero=>rfl
  |succ j=>simp only [kD,List.cons_append,List.nil_append,List.all_cons,List.all_nil,bH,bx,eX (p:=bx _) (Hp _),Bool.and_true];rfl) (fun j mm _ hj _ ih=>?_) (by omega) trivial (by rw [←hk0];rfl)
 have hln:=hlen j
 rcases Nat.lt_or_ge j (l.length) with hlt |hge
 ·have g0:(0≤(j:Int))=True:=eq_true (by omega)
  have hw:=aN (j:=j) (by omega)
  have hqj:=hq j hlt
  have el:=eg (aB zJ hlt)
  have gl:(j<l.length)=True:=eq_true hlt
  have gd:fP (l.getD j zJ):=hg _ (List.mem_of_getElem? (aB zJ hlt))
  have ej:(⟨⟨(l.getD j zJ).lo.s,(l.getD j zJ).lo.e,(l.getD j zJ).lo.xs⟩,⟨(l.getD j zJ).hi.s,(l.getD j zJ).hi.e,(l.getD j zJ).hi.xs⟩⟩:J)=l.getD j zJ:=rfl
  have es:(S j).1.flatMap X.L++[.lit (.bool (vU xs (l.getD j zJ) (S j).2).s),.lit (.int .i64 (vU xs (l.getD j zJ) (S j).2).e),.ws (vU xs (l.getD j zJ) (S j).2).xs]=(S (j+1)).1.flatMap X.L:=by rw [hS1,←fq];rfl
  have e2:(S j).2+1=(S (j+1)).2:=(hS2 j).symm
  replace ih:=ih hlt trivial
  rcases Nat.eq_zero_or_pos j with hj0 |hj0
  ·have hst:kD [(0,.s (.own 1000 0)),(2,bv l),(8,.s (.lit (.slice none 0 0)))] A n c S j=[(0,.s (.own 1000 0)),(2,bv l),(8,.s (.lit (.slice none 0 0)))]++[(10,.s (.lit (.slice none 0 0))),(12,iA (j:Int)),(2001,.v true [.lit (.slice A n c),.lit (.int .i64 (((S j).2:Nat):Int))])]:=by subst hj0;rfl
   rw [hst]
   simp (maxSteps:=10000000) only [go_sem,seval,reduceCtorEq,ud,el,gl,ej,g0,hw,e2]
   repeat' with_reducible first |apply And.intro |apply condP<;>intro _
   all_goals first |(show ar _ _=true;kernel_rfl)|(exact ih _ _ (by subst hj0;rw [kD,←es,h00];rfl))|with_reducible assumption |omega |rfl
  ·obtain ⟨j,rfl⟩:∃ i,j=i+1:=⟨j - 1,by omega⟩
   have hl:((S (j+1)).1.flatMap X.L).length=(j+1)*3:=by rw [bj (s:=3) (fun _=>rfl),hln]
   have g5:(j+1≤100000)=True:=eq_true (by omega)
   simp (maxSteps:=10000000) only [go_sem,seval,reduceCtorEq,ud,kD,el,gl,ej,g0,hw,hl,g5,es,e2]
   repeat' with_reducible first |apply And.intro |apply condP<;>intro _
   all_goals first |(show ar _ _=true;kernel_rfl)|(exact ih _ _ rfl)|with_reducible assumption |omega |rfl
 ·obtain ⟨i,rfl⟩:∃ i,j=i+1:=⟨j - 1,by omega⟩
  have hm:l.length=i+1:=by omega
  have dn:(i+1<l.length)=False:=eq_false (by omega)
  have hl:((S (i+1)).1.flatMap X.L).length=(i+1)*3:=by rw [bj (s:=3) (fun _=>rfl),hln]
  have hdn:fD ((S (i+1)).1.flatMap X.L)=some (pC (S (i+1)).1):=by exact dd AW _
  rw [hm]
  simp (maxSteps:=10000000) only [go_sem,seval,reduceCtorEq,ud,kD,dn,hl,hdn]
  repeat' with_reducible first |apply And.intro |apply condP<;>intro _
  all_goals first |(show ar _ _=true;kernel_rfl)|with_reducible assumption |omega |rfl |(rw [hln])|(simp only [go_sem, *];done)
theorem JN {xs:List Nat} {k:Nat} {l:List J} (h:(∀ j∈l,fP j)∧1≤l.length∧l.length≤100∧k+l.length≤900):kZ 43 xs [bv l] k (.s (.sl true 3 (kq xs l k).1.length (pC (kq xs l k).1))) (kq xs l k).2:=by
 rw [xD]
 exact NL xs k l h.1 h.2.1 h.2.2.1 h.2.2.2
noncomputable def vW (xs:List Nat) (m:List (List J)) (k:Nat):List (List X)×Nat:=d7 (fun j q=>kq xs (m.getD j []) q) k m.length
theorem xF {xs:List Nat} {m:List (List J)} {k s:Nat} (hs:∀ r∈m,r.length=s):∀ i,i≤m.length→(d7 (fun j q=>kq xs (m.getD j []) q) k i).2=k+s*i:=by
 intro i
 induction i with
 |zero=>intro _;rfl
 |succ i ih=>
  intro hi
  have hr:=hs _ (List.mem_of_getElem? (aB [] (show i<m.length by omega)))
  show (kq xs (m.getD i []) (d7 (fun j q=>kq xs (m.getD j []) q) k i).2).2=_
  unfold kq at ih ⊢
  rw [sJ,ih (by omega),hr,Nat.mul_succ];omega
theorem xE (xs:List Nat) (m:List (List J)) (k:Nat):(vW xs m k).1.length=m.length:=eC _
theorem GF {xs:List Nat} {m:List (List J)} {k s i:Nat} (hs:∀ r∈m,r.length=s) (hi:i<m.length):(vW xs m k).1.getD i []=(kq xs (m.getD i []) (k+s*i)).1:=by
 unfold vW
 rw [tA _ _ hi,xF hs i (by omega)]
def kE (s0:St) (A:Option Addr) (n c:Nat) (S:Nat→List (List X)×Nat):Nat→St
 |0=>s0++[(10,.s (.lit (.slice none 0 0))),(12,iA 0),(2001,.v true [.lit (.slice A n c),.lit (.int .i64 (((S 0).2:Nat):Int))])]
 |j+1=>s0++[(10,.s (.ol 21 (j+1))),(12,iA ((j+1:Nat):Int)),(2001,.v true [.lit (.slice A n c),.lit (.int .i64 (((S (j+1)).2:Nat):Int))]),(43,.pre 51 1 ((S (j+1)).1.flatMap Nw))]
theorem NM (xs:List Nat) (k:Nat) (m:List (List J)) (s:Nat) (hsz:∀ r∈m,r.length=s) (hg:∀ r∈m,∀ j∈r,fP j) (h1:1≤m.length) (h2:m.length≤100) (h3:1≤s) (h4:s≤100) (hk:k+s*m.length≤900):kZ 13 xs [bw m] k (.s (.sl true 1 m.length ((d7 (fun j q=>kq xs (m.getD j []) q) k m.length).1.map rP))) ((d7 (fun j q=>kq xs (m.getD j []) q) k (m.length)).2):=by
 have hpq:∀ i,i<m.length→(d7 (fun j q=>kq xs (m.getD j []) q) k i).2+s≤900:=fun i hi=>by
  rw [xF hsz i (Nat.le_of_lt hi)]
  have h2:s*(i+1)≤s*m.length:=Nat.mul_le_mul_left _ hi
  have h3:s*(i+1)=s*i+s:=Nat.mul_succ _ _
  omega
 refine eh (O:=fun A n c=>ib 43 A n c (ud jC fun k l=>((∀ j∈l,fP j)∧1≤l.length∧l.length≤100∧k+l.length≤900,.s (.sl true 3 (kq xs l k).1.length (pC (kq xs l k).1)),(kq xs l k).2))) (by kernel_rfl) ah (fun A n c F w hA hn=>cz (xs:=xs) (aX Tryz.func43 (by kernel_rfl) rfl) (Ik dB fun k l hp=>JN hp) hA hn) [9999999,0,2,8,10,12,2001,43] ((m.length+1)*400+400) 23 [.tmp 4] Tryz.func13 rfl Tryz.ntmps13 (by decide) (by rw [Tryz.results13]) (by simp) rfl (fun A n c hsm hs=>?_)
 simp (maxSteps:=10000000) only [go_sem,seval,reduceCtorEq,ud]
 generalize hS0:d7 (fun j q=>kq xs (m.getD j []) q) k=S
 have hlen:∀ j,(S j).1.length=j:=fun j=>by rw [←hS0];exact eC j
 have hS1:∀ j,(S (j+1)).1=(S j).1++[(kq xs (m.getD j []) (S j).2).1]:=fun j=>by rw [←hS0];rfl
 have hS2:∀ j,((S (j+1)).2)=(kq xs (m.getD j []) (S j).2).2:=fun j=>by rw [←hS0];rfl
 have hk0:(S 0).2=k:=by rw [←hS0];rfl
 have h00:(S 0).1=[]:=by rw [←hS0];rfl
 have hq:∀ j,j<m.length→(S j).2+s≤900:=fun j hj=>by rw [←hS0];exact hpq j hj
 refine aL 400 (kE [(0,.s (.own 1000 0)),(2,bw m),(8,.s (.lit (.slice none 0 0)))] A n c S) (m.length) (fun j=>True) 0 (fun j _=>by cases j with
  |zero=>rfl
  |succ j=>simp only [kE,List.cons_append,List.nil_append,List.all_cons,List.all_nil,bH,bx,eX (p:=bx _) (cf:=Nw) (fun _=>rfl),Bool.and_true];rfl) (fun j mm _ hj _ ih=>?_) (by omega) trivial (by rw [←hk0];rfl)
 have hln:=hlen j
 rcases Nat.lt_or_ge j (m.length) with hlt |hge
 ·have g0:(0≤(j:Int))=True:=eq_true (by omega)
  have hw:=aN (j:=j) (by omega)
  have hqj:=hq j hlt
  have em:=eQ (aB [] hlt)
  have gm:(j<m.length)=True:=eq_true hlt
  have hrow:m.getD j []∈m:=List.mem_of_getElem? (aB [] hlt)
  have p1:∀ x∈m.getD j [],fP x:=hg _ hrow
  have p2:1≤(m.getD j []).length:=by rw [hsz _ hrow];exact h3
  have p3:(m.getD j []).length≤100:=by rw [hsz _ hrow];exact h4
  have p4:(S j).2+(m.getD j []).length≤900:=by rw [hsz _ hrow];exact hqj
  have es:(S j).1.flatMap Nw++[.sl true 3 (kq xs (m.getD j []) (S j).2).1.length (pC (kq xs (m.getD j []) (S j).2).1)]=(S (j+1)).1.flatMap Nw:=by rw [hS1,←fq]
  have e2:(kq xs (m.getD j []) (S j).2).2=(S (j+1)).2:=(hS2 j).symm
  replace ih:=ih hlt trivial
  rcases Nat.eq_zero_or_pos j with hj0 |hj0
  ·have hst:kE [(0,.s (.own 1000 0)),(2,bw m),(8,.s (.lit (.slice none 0 0)))] A n c S j=[(0,.s (.own 1000 0)),(2,bw m),(8,.s (.lit (.slice none 0 0)))]++[(10,.s (.lit (.slice none 0 0))),(12,iA (j:Int)),(2001,.v true [.lit (.slice A n c),.lit (.int .i64 (((S j).2:Nat):Int))])]:=by subst hj0;rfl
   rw [hst]
   simp (maxSteps:=10000000) only [go_sem,seval,reduceCtorEq,ud,em,gm,g0,hw,e2]
   repeat' with_reducible first |apply And.intro |apply condP<;>intro _
   all_goals first |(show ar _ _=true;kernel_rfl)|(exact ih _ _ (by subst hj0;rw [kE,←es,h00];rfl))|with_reducible assumption |omega |rfl
  ·obtain ⟨j,rfl⟩:∃ i,j=i+1:=⟨j - 1,by omega⟩
   have hl:((S (j+1)).1.flatMap Nw).length=(j+1)*1:=by rw [bj (s:=1) (fun _=>rfl),hln]
   have g5:(j+1≤100000)=True:=eq_true (by omega)
   simp (maxSteps:=10000000) only [go_sem,seval,reduceCtorEq,ud,kE,em,gm,g0,hw,hl,g5,es,e2]
   repeat' with_reducible first |apply And.intro |apply condP<;>intro _
   all_goals first |(show ar _ _=true;kernel_rfl)|(exact ih _ _ rfl)|with_reducible assumption |omega |rfl
 ·obtain ⟨i,rfl⟩:∃ i,j=i+1:=⟨j - 1,by omega⟩
  have hm:m.length=i+1:=by omega
  have dn:(i+1<m.length)=False:=eq_false (by omega)
  have hl:((S (i+1)).1.flatMap Nw).length=(i+1)*1:=by rw [bj (s:=1) (fun _=>rfl),hln]
  have hdn:fD ((S (i+1)).1.flatMap Nw)=some (List.map rP (S (i+1)).1):=by rw [←lD];exact dd (fun _=>rfl) _
  rw [hm]
  simp (maxSteps:=10000000) only [go_sem,seval,reduceCtorEq,ud,kE,dn,hl,hdn]
  repeat' with_reducible first |apply And.intro |apply condP<;>intro _
  all_goals first |(show ar _ _=true;kernel_rfl)|with_reducible assumption |omega |rfl |(rw [hln])|(simp only [go_sem, *];done)
theorem JO {xs:List Nat} {k:Nat} {m:List (List J)} (h:(∀ r∈m,r.length=m.length∧∀ j∈r,fP j)∧1≤m.length∧m.length≤100∧k+m.length*m.length≤900):kZ 13 xs [bw m] k (.s (qL (vW xs m k).1)) (vW xs m k).2:=by
 unfold qL
 rw [xE]
 exact NM xs k m m.length (fun r hr=>(h.1 r hr).1) (fun r hr=>(h.1 r hr).2) h.2.1 h.2.2.1 h.2.1 h.2.2.1 h.2.2.2
end Go.Proofs.YtpacpmmdjmnamaaGreatDoor
