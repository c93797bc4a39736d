/- The document's boxes by loops: sums, differences, multiples, middles. -/
import Derived.Test.YtpacpmmdjmnamaaGreatDoorMAo4
import Derived.Test.YtpacpmmdjmnamaaGreatDoorMAl8
import Derived.Test.YtpacpmmdjmnamaaGreatDoorMAmC
namespace Go.Proofs.YtpacpmmdjmnamaaGreatDoor
set_option linter.unusedSimpArgs false
set_option linter.unusedVariables false
set_option maxHeartbeats 4000000
set_option maxRecDepth 100000
open Go.RowKit Nx
attribute [local irreducible] ar
section
attribute [local go_sem] lj nN ou fJ gA gE jd yK ki oy jH jI j8 j9 ite_self fN mo cm jh lF bT kQ
theorem eX {α:Type} {cf:α→List Lf} {p:Lf→Bool} (h:∀ a,(cf a).all p=true):∀ (l:List α),(l.flatMap cf).all p=true:=by
 intro l
 induction l with
 |nil=>rfl
 |cons a l ih=>rw [List.flatMap_cons,List.all_append,h,ih];rfl
theorem fq {α:Type} {cf:α→List Lf} (l:List α) (a:α):l.flatMap cf++cf a=(l++[a]).flatMap cf:=by rw [List.flatMap_append,List.flatMap_cons,List.flatMap_nil,List.append_nil]
theorem li {α:Type} {F:Nat→α×Int} {n:Nat} (h:(eachN F n).2=0) (h1:1≤n):∃ a l,eachN F n=(a::l,0)∧(a::l).length=n:=by
 have hl:=bq h
 cases hx:eachN F n with
 |mk l e=>
  rw [hx] at h hl
  have h:e=0:=h
  have hl:l.length=n:=hl
  subst h
  cases l with
  |nil=>rw [←hl] at h1;simp at h1
  |cons a l=>exact ⟨a,l,rfl,hl⟩
theorem Fu (k:Int) (l m:List J) (z:Int) (c0:rightB l=false):Ct Tryz.prog 103 [iA k,bv l,bv m,iA z] (·= .tup [(false,[.lit (.slice none 0 0)]),(false,[.lit (.int .i64 1)])]):=by
 refine ak (O:=ai (aF an (aF ae aU))) (by kernel_rfl) ah (fun w=>aa (ab bc (ab av dh)) _ w) [] 600 62 [.tmp 8,.tmp 9] Tryz.func103 rfl Tryz.ntmps103 (by rw [Tryz.results103]) (by simp) rfl (fun hsm=>?_)
 simp (maxSteps:=10000000) only [go_sem,seval,reduceCtorEq,an,ae,aU,c0,bP,cp,eZ,dU,hd1,pick,ax,eo,eY,cr,eI,dt]
 repeat' with_reducible first |apply And.intro |apply condP<;>intro _
 all_goals first |(show ar _ _=true;kernel_rfl)|assumption |rfl |(simp only [go_sem, *]<;>rfl)
theorem Fw (k:Int) (l m:List J) (z:Int) (c0:rightB l=true) (c1:rightB m=false):Ct Tryz.prog 103 [iA k,bv l,bv m,iA z] (·= .tup [(false,[.lit (.slice none 0 0)]),(false,[.lit (.int .i64 1)])]):=by
 refine ak (O:=ai (aF an (aF ae aU))) (by kernel_rfl) ah (fun w=>aa (ab bc (ab av dh)) _ w) [] 600 62 [.tmp 8,.tmp 9] Tryz.func103 rfl Tryz.ntmps103 (by rw [Tryz.results103]) (by simp) rfl (fun hsm=>?_)
 simp (maxSteps:=10000000) only [go_sem,seval,reduceCtorEq,an,ae,aU,c0,c1,bP,cp,eZ,dU,hd1,pick,ax,eo,eY,cr,eI,dt]
 repeat' with_reducible first |apply And.intro |apply condP<;>intro _
 all_goals first |(show ar _ _=true;kernel_rfl)|assumption |rfl |(simp only [go_sem, *]<;>rfl)
theorem Fx (k:Int) (l m:List J) (z:Int) (c0:rightB l=true) (c1:rightB m=true) (c2:((l.length:Int)!=(m.length:Int))=true):Ct Tryz.prog 103 [iA k,bv l,bv m,iA z] (·= .tup [(false,[.lit (.slice none 0 0)]),(false,[.lit (.int .i64 1)])]):=by
 refine ak (O:=ai (aF an (aF ae aU))) (by kernel_rfl) ah (fun w=>aa (ab bc (ab av dh)) _ w) [] 600 62 [.tmp 8,.tmp 9] Tryz.func103 rfl Tryz.ntmps103 (by rw [Tryz.results103]) (by simp) rfl (fun hsm=>?_)
 simp (maxSteps:=10000000) only [go_sem,seval,reduceCtorEq,an,ae,aU,c0,c1,c2,bP,cp,eZ,dU,hd1,pick,ax,eo,eY,cr,eI,dt]
 repeat' with_reducible first |apply And.intro |apply condP<;>intro _
 all_goals first |(show ar _ _=true;kernel_rfl)|assumption |rfl |(simp only [go_sem, *]<;>rfl)
theorem Fy (k:Int) (l m:List J) (z:Int) (c0:rightB l=true) (c1:rightB m=true) (c2:((l.length:Int)!=(m.length:Int))=false) (c3:prb z=false):Ct Tryz.prog 103 [iA k,bv l,bv m,iA z] (·= .tup [(false,[.lit (.slice none 0 0)]),(false,[.lit (.int .i64 1)])]):=by
 refine ak (O:=ai (aF an (aF ae aU))) (by kernel_rfl) ah (fun w=>aa (ab bc (ab av dh)) _ w) [] 600 62 [.tmp 8,.tmp 9] Tryz.func103 rfl Tryz.ntmps103 (by rw [Tryz.results103]) (by simp) rfl (fun hsm=>?_)
 simp (maxSteps:=10000000) only [go_sem,seval,reduceCtorEq,an,ae,aU,c0,c1,c2,c3,bP,cp,eZ,dU,hd1,pick,ax,eo,eY,cr,eI,dt]
 repeat' with_reducible first |apply And.intro |apply condP<;>intro _
 all_goals first |(show ar _ _=true;kernel_rfl)|assumption |rfl |(simp only [go_sem, *]<;>rfl)
def f9 (s0:St) (F:Nat→J×Int):Nat→St
 |0=>s0++[(20,.s (.lit (.slice none 0 0))),(22,iA 0)]
 |j+1=>s0++[(20,.s (.ol 60 (j+1))),(22,iA ((j+1:Nat):Int)),(121,.pre 32 6 ((eachN F (j+1)).1.flatMap J.L))]
theorem Fz (k:Int) (l m:List J) (z:Int) (c0:rightB l=true) (c1:rightB m=true) (c2:((l.length:Int)!=(m.length:Int))=false) (c3:prb z=true) (hk:k=0∨k=1∨k=2):Ct Tryz.prog 103 [iA k,bv l,bv m,iA z] (·=bP (eachN (fun j=>ft k (l.getD j zJ) (m.getD j zJ) z) (l.length))):=by
 refine ak (O:=ai (aF an (aF ae aU))) (by kernel_rfl) ah (fun w=>aa (ab bc (ab av dh)) _ w) [9999999,0,2,4,6,16,18,20,22,121] ((l.length+1)*400+400) 62 [.tmp 8,.tmp 9] Tryz.func103 rfl Tryz.ntmps103 (by rw [Tryz.results103]) (by simp) rfl (fun hsm=>?_)
 have hl4:=c9 c0
 have hm2:m.length=l.length:=by have:=bne_eq_false_iff_eq.1 c2;omega
 simp (maxSteps:=10000000) only [go_sem,seval,reduceCtorEq,an,ae,aU,c0,c1,c2,c3]
 generalize hF0:(fun j=>ft k (l.getD j zJ) (m.getD j zJ) z)=F
 have hFj:∀ j,F j=ft k (l.getD j zJ) (m.getD j zJ) z:=fun j=>by rw [←hF0]
 have key:∀ j,(f9 [(0,iA k),(2,bv l),(4,bv m),(6,iA z),(16,.s (.lit (.slice none 0 0))),(18,iA 0)] F j).all (fun p=>bH (f9 [(0,iA k),(2,bv l),(4,bv m),(6,iA z),(16,.s (.lit (.slice none 0 0))),(18,iA 0)] F j) p.2)=true:=fun j=>by
  cases j with
  |zero=>rfl
  |succ j=>simp only [f9,List.cons_append,List.nil_append,List.all_cons,List.all_nil,bH,bx,X.L,J.L,eX (p:=bx _) (rn _),Bool.and_true];rfl
 refine aL 400 (f9 [(0,iA k),(2,bv l),(4,bv m),(6,iA z),(16,.s (.lit (.slice none 0 0))),(18,iA 0)] F) (l.length) (fun j=>(eachN F j).2=0) 0 (fun j _=>key j) (fun j mm _ hj hI ih=>?_) (by omega) rfl rfl
 clear key
 have hlen:=bq hI
 rcases Nat.lt_or_ge j (l.length) with hlt |hge
 ·have d:=decide_eq_true (show (j:Int)<((l).length:Int) by omega)
  have g0:(0≤(j:Int))=True:=eq_true (by omega)
  have hw:=aN (j:=j) (by omega)
  have el:=eg (aB zJ (show j<l.length by omega))
  have gl:(j<l.length)=True:=eq_true (by omega)
  have em:=eg (aB zJ (show j<m.length by omega))
  have gm:(j<m.length)=True:=eq_true (by omega)
  have hFj:=hFj j
  cases hF:(F j).2 !=0 with
  |true=>
   have hr:=cQ hI hF hlt
   rw [hFj] at hF
   rcases Nat.eq_zero_or_pos j with hj0 |hj0
   ·have hst:f9 [(0,iA k),(2,bv l),(4,bv m),(6,iA z),(16,.s (.lit (.slice none 0 0))),(18,iA 0)] F j=[(0,iA k),(2,bv l),(4,bv m),(6,iA z),(16,.s (.lit (.slice none 0 0))),(18,iA 0)]++[(20,.s (.lit (.slice none 0 0))),(22,iA (j:Int))]:=by subst hj0;rfl
    rw [hst,hr,hFj]
    simp (maxSteps:=10000000) only [go_sem,seval,reduceCtorEq,an,ae,aU,el,gl,em,gm,hk,d,g0,hw,hF,cg]
    repeat' with_reducible first |apply And.intro |apply condP<;>intro _
    all_goals first |(show ar _ _=true;kernel_rfl)|assumption |rfl |(simp only [go_sem, *]<;>rfl)
   ·obtain ⟨j,rfl⟩:∃ i,j=i+1:=⟨j - 1,by omega⟩
    have hl:((eachN F (j+1)).1.flatMap J.L).length=(j+1)*6:=by rw [bj (s:=6) (fun _=>rfl),hlen]
    rw [hr,hFj]
    simp (maxSteps:=10000000) only [go_sem,seval,reduceCtorEq,an,ae,aU,f9,el,gl,em,gm,hk,d,g0,hw,hF,hl,cg]
    repeat' with_reducible first |apply And.intro |apply condP<;>intro _
    all_goals first |(show ar _ _=true;kernel_rfl)|assumption |rfl |(simp only [go_sem, *]<;>rfl)
  |false=>
   have hF1:(F j).2=0:=by simpa using hF
   have hkk:=bh hI hF1
   have hk2:(eachN F (j+1)).2=0:=by rw [hkk]
   replace ih:=ih hlt hk2
   have es:(eachN F j).1.flatMap J.L++[.lit (.bool (ft k (l.getD j zJ) (m.getD j zJ) z).1.lo.s),.lit (.int .i64 (ft k (l.getD j zJ) (m.getD j zJ) z).1.lo.e),.ws (ft k (l.getD j zJ) (m.getD j zJ) z).1.lo.xs,.lit (.bool (ft k (l.getD j zJ) (m.getD j zJ) z).1.hi.s),.lit (.int .i64 (ft k (l.getD j zJ) (m.getD j zJ) z).1.hi.e),.ws (ft k (l.getD j zJ) (m.getD j zJ) z).1.hi.xs]=(eachN F (j+1)).1.flatMap J.L:=by rw [hkk,←fq,hFj];rfl
   rw [hFj] at hF
   rcases Nat.eq_zero_or_pos j with hj0 |hj0
   ·have hst:f9 [(0,iA k),(2,bv l),(4,bv m),(6,iA z),(16,.s (.lit (.slice none 0 0))),(18,iA 0)] F j=[(0,iA k),(2,bv l),(4,bv m),(6,iA z),(16,.s (.lit (.slice none 0 0))),(18,iA 0)]++[(20,.s (.lit (.slice none 0 0))),(22,iA (j:Int))]:=by subst hj0;rfl
    rw [hst]
    simp (maxSteps:=10000000) only [go_sem,seval,reduceCtorEq,an,ae,aU,el,gl,em,gm,hk,d,g0,hw,hF]
    repeat' with_reducible first |apply And.intro |apply condP<;>intro _
    all_goals first |(show ar _ _=true;kernel_rfl)|(exact ih _ _ (by subst hj0;rw [f9,←es];rfl))|assumption |rfl
   ·obtain ⟨j,rfl⟩:∃ i,j=i+1:=⟨j - 1,by omega⟩
    have hl:((eachN F (j+1)).1.flatMap J.L).length=(j+1)*6:=by rw [bj (s:=6) (fun _=>rfl),hlen]
    have g5:(j+1≤100000)=True:=eq_true (by omega)
    simp (maxSteps:=10000000) only [go_sem,seval,reduceCtorEq,an,ae,aU,f9,el,gl,em,gm,hk,d,g0,hw,hF,hl,g5,es]
    repeat' with_reducible first |apply And.intro |apply condP<;>intro _
    all_goals first |(show ar _ _=true;kernel_rfl)|(exact ih _ _ rfl)|assumption |rfl
 ·obtain ⟨i,rfl⟩:∃ i,j=i+1:=⟨j - 1,by omega⟩
  have hn:l.length=i+1:=by omega
  have hm:(l).length=i+1:=by omega
  have dn:(i+1<(l).length)=False:=eq_false (by omega)
  have hl:((eachN F (i+1)).1.flatMap J.L).length=(i+1)*6:=by rw [bj (s:=6) (fun _=>rfl),hlen]
  have hdn:fD ((eachN F (i+1)).1.flatMap J.L)=some (bC (eachN F (i+1)).1):=by exact dd oK _
  have hfin:bP (eachN F (l.length))= .tup [(false,[.sl true 6 (i+1) (bC (eachN F (i+1)).1)]),(false,[.lit (.int .i64 0)])]:=by
   rw [hn]
   obtain ⟨a,l,e1,e2⟩:=li hI (by omega)
   rw [e1,←e2];rfl
  rw [hfin]
  simp (maxSteps:=10000000) only [go_sem,seval,reduceCtorEq,an,ae,aU,f9,dn,hl,hdn]
  repeat' with_reducible first |apply And.intro |apply condP<;>intro _
  all_goals first |(show ar _ _=true;kernel_rfl)|assumption |rfl |(simp only [go_sem, *]<;>rfl)
theorem FC (x:J) (l:List J) (z:Int) (c0:rightB l=false):Ct Tryz.prog 107 [jA x,bv l,iA z] (·= .tup [(false,[.lit (.slice none 0 0)]),(false,[.lit (.int .i64 1)])]):=by
 refine ak (O:=ai (aF an (aF aj (aF ae aU)))) (by kernel_rfl) ah (fun w=>aa (ab bc (ab aG (ab av dh))) _ w) [] 600 49 [.tmp 6,.tmp 7] Tryz.func107 rfl Tryz.ntmps107 (by rw [Tryz.results107]) (by simp) rfl (fun hsm=>?_)
 simp (maxSteps:=10000000) only [go_sem,seval,reduceCtorEq,an,aj,ae,aU,c0,bP,cp,eZ,dU,hd1,pick,ax,eo,eY,cr,eI,dt]
 repeat' with_reducible first |apply And.intro |apply condP<;>intro _
 all_goals first |(show ar _ _=true;kernel_rfl)|assumption |rfl |(simp only [go_sem, *]<;>rfl)
theorem FD (x:J) (l:List J) (z:Int) (c0:rightB l=true) (c1:okJ x=false):Ct Tryz.prog 107 [jA x,bv l,iA z] (·= .tup [(false,[.lit (.slice none 0 0)]),(false,[.lit (.int .i64 1)])]):=by
 refine ak (O:=ai (aF an (aF aj (aF ae aU)))) (by kernel_rfl) ah (fun w=>aa (ab bc (ab aG (ab av dh))) _ w) [] 600 49 [.tmp 6,.tmp 7] Tryz.func107 rfl Tryz.ntmps107 (by rw [Tryz.results107]) (by simp) rfl (fun hsm=>?_)
 simp (maxSteps:=10000000) only [go_sem,seval,reduceCtorEq,an,aj,ae,aU,c0,c1,bP,cp,eZ,dU,hd1,pick,ax,eo,eY,cr,eI,dt]
 repeat' with_reducible first |apply And.intro |apply condP<;>intro _
 all_goals first |(show ar _ _=true;kernel_rfl)|assumption |rfl |(simp only [go_sem, *]<;>rfl)
theorem FE (x:J) (l:List J) (z:Int) (c0:rightB l=true) (c1:okJ x=true) (c2:prb z=false):Ct Tryz.prog 107 [jA x,bv l,iA z] (·= .tup [(false,[.lit (.slice none 0 0)]),(false,[.lit (.int .i64 1)])]):=by
 refine ak (O:=ai (aF an (aF aj (aF ae aU)))) (by kernel_rfl) ah (fun w=>aa (ab bc (ab aG (ab av dh))) _ w) [] 600 49 [.tmp 6,.tmp 7] Tryz.func107 rfl Tryz.ntmps107 (by rw [Tryz.results107]) (by simp) rfl (fun hsm=>?_)
 simp (maxSteps:=10000000) only [go_sem,seval,reduceCtorEq,an,aj,ae,aU,c0,c1,c2,bP,cp,eZ,dU,hd1,pick,ax,eo,eY,cr,eI,dt]
 repeat' with_reducible first |apply And.intro |apply condP<;>intro _
 all_goals first |(show ar _ _=true;kernel_rfl)|assumption |rfl |(simp only [go_sem, *]<;>rfl)
def gf (s0:St) (F:Nat→J×Int):Nat→St
 |0=>s0++[(16,.s (.lit (.slice none 0 0))),(18,iA 0)]
 |j+1=>s0++[(16,.s (.ol 47 (j+1))),(18,iA ((j+1:Nat):Int)),(95,.pre 32 6 ((eachN F (j+1)).1.flatMap J.L))]
theorem FF (x:J) (l:List J) (z:Int) (c0:rightB l=true) (c1:okJ x=true) (c2:prb z=true):Ct Tryz.prog 107 [jA x,bv l,iA z] (·=bP (eachN (fun j=>ft 2 x (l.getD j zJ) z) (l.length))):=by
 refine ak (O:=ai (aF an (aF aj (aF ae aU)))) (by kernel_rfl) ah (fun w=>aa (ab bc (ab aG (ab av dh))) _ w) [9999999,0,2,4,6,7,12,14,16,18,95] ((l.length+1)*400+400) 49 [.tmp 6,.tmp 7] Tryz.func107 rfl Tryz.ntmps107 (by rw [Tryz.results107]) (by simp) rfl (fun hsm=>?_)
 have hl4:=c9 c0
 simp (maxSteps:=10000000) only [go_sem,seval,reduceCtorEq,an,aj,ae,aU,c0,c1,c2]
 generalize hF0:(fun j=>ft 2 x (l.getD j zJ) z)=F
 have hFj:∀ j,F j=ft 2 x (l.getD j zJ) z:=fun j=>by rw [←hF0]
 have key:∀ j,(gf [(0,jA x),(2,bv l),(4,iA z),(6,.s (.own 3 0)),(7,jA x),(12,.s (.lit (.slice none 0 0))),(14,iA 0)] F j).all (fun p=>bH (gf [(0,jA x),(2,bv l),(4,iA z),(6,.s (.own 3 0)),(7,jA x),(12,.s (.lit (.slice none 0 0))),(14,iA 0)] F j) p.2)=true:=fun j=>by
  cases j with
  |zero=>rfl
  |succ j=>simp only [gf,List.cons_append,List.nil_append,List.all_cons,List.all_nil,bH,bx,X.L,J.L,eX (p:=bx _) (rn _),Bool.and_true];rfl
 refine aL 400 (gf [(0,jA x),(2,bv l),(4,iA z),(6,.s (.own 3 0)),(7,jA x),(12,.s (.lit (.slice none 0 0))),(14,iA 0)] F) (l.length) (fun j=>(eachN F j).2=0) 0 (fun j _=>key j) (fun j mm _ hj hI ih=>?_) (by omega) rfl rfl
 clear key
 have hlen:=bq hI
 rcases Nat.lt_or_ge j (l.length) with hlt |hge
 ·have d:=decide_eq_true (show (j:Int)<((l).length:Int) by omega)
  have g0:(0≤(j:Int))=True:=eq_true (by omega)
  have hw:=aN (j:=j) (by omega)
  have el:=eg (aB zJ (show j<l.length by omega))
  have gl:(j<l.length)=True:=eq_true (by omega)
  have hFj:=hFj j
  cases hF:(F j).2 !=0 with
  |true=>
   have hr:=cQ hI hF hlt
   rw [hFj] at hF
   rcases Nat.eq_zero_or_pos j with hj0 |hj0
   ·have hst:gf [(0,jA x),(2,bv l),(4,iA z),(6,.s (.own 3 0)),(7,jA x),(12,.s (.lit (.slice none 0 0))),(14,iA 0)] F j=[(0,jA x),(2,bv l),(4,iA z),(6,.s (.own 3 0)),(7,jA x),(12,.s (.lit (.slice none 0 0))),(14,iA 0)]++[(16,.s (.lit (.slice none 0 0))),(18,iA (j:Int))]:=by subst hj0;rfl
    rw [hst,hr,hFj]
    simp (maxSteps:=10000000) only [go_sem,seval,reduceCtorEq,an,aj,ae,aU,el,gl,d,g0,hw,hF,cg]
    repeat' with_reducible first |apply And.intro |apply condP<;>intro _
    all_goals first |(show ar _ _=true;kernel_rfl)|assumption |rfl |(simp only [go_sem, *]<;>rfl)
   ·obtain ⟨j,rfl⟩:∃ i,j=i+1:=⟨j - 1,by omega⟩
    have hl:((eachN F (j+1)).1.flatMap J.L).length=(j+1)*6:=by rw [bj (s:=6) (fun _=>rfl),hlen]
    rw [hr,hFj]
    simp (maxSteps:=10000000) only [go_sem,seval,reduceCtorEq,an,aj,ae,aU,gf,el,gl,d,g0,hw,hF,hl,cg]
    repeat' with_reducible first |apply And.intro |apply condP<;>intro _
    all_goals first |(show ar _ _=true;kernel_rfl)|assumption |rfl |(simp only [go_sem, *]<;>rfl)
  |false=>
   have hF1:(F j).2=0:=by simpa using hF
   have hkk:=bh hI hF1
   have hk2:(eachN F (j+1)).2=0:=by rw [hkk]
   replace ih:=ih hlt hk2
   have es:(eachN F j).1.flatMap J.L++[.lit (.bool (ft 2 x (l.getD j zJ) z).1.lo.s),.lit (.int .i64 (ft 2 x (l.getD j zJ) z).1.lo.e),.ws (ft 2 x (l.getD j zJ) z).1.lo.xs,.lit (.bool (ft 2 x (l.getD j zJ) z).1.hi.s),.lit (.int .i64 (ft 2 x (l.getD j zJ) z).1.hi.e),.ws (ft 2 x (l.getD j zJ) z).1.hi.xs]=(eachN F (j+1)).1.flatMap J.L:=by rw [hkk,←fq,hFj];rfl
   rw [hFj] at hF
   rcases Nat.eq_zero_or_pos j with hj0 |hj0
   ·have hst:gf [(0,jA x),(2,bv l),(4,iA z),(6,.s (.own 3 0)),(7,jA x),(12,.s (.lit (.slice none 0 0))),(14,iA 0)] F j=[(0,jA x),(2,bv l),(4,iA z),(6,.s (.own 3 0)),(7,jA x),(12,.s (.lit (.slice none 0 0))),(14,iA 0)]++[(16,.s (.lit (.slice none 0 0))),(18,iA (j:Int))]:=by subst hj0;rfl
    rw [hst]
    simp (maxSteps:=10000000) only [go_sem,seval,reduceCtorEq,an,aj,ae,aU,el,gl,d,g0,hw,hF]
    repeat' with_reducible first |apply And.intro |apply condP<;>intro _
    all_goals first |(show ar _ _=true;kernel_rfl)|(exact ih _ _ (by subst hj0;rw [gf,←es];rfl))|assumption |rfl
   ·obtain ⟨j,rfl⟩:∃ i,j=i+1:=⟨j - 1,by omega⟩
    have hl:((eachN F (j+1)).1.flatMap J.L).length=(j+1)*6:=by rw [bj (s:=6) (fun _=>rfl),hlen]
    have g5:(j+1≤100000)=True:=eq_true (by omega)
    simp (maxSteps:=10000000) only [go_sem,seval,reduceCtorEq,an,aj,ae,aU,gf,el,gl,d,g0,hw,hF,hl,g5,es]
    repeat' with_reducible first |apply And.intro |apply condP<;>intro _
    all_goals first |(show ar _ _=true;kernel_rfl)|(exact ih _ _ rfl)|assumption |rfl
 ·obtain ⟨i,rfl⟩:∃ i,j=i+1:=⟨j - 1,by omega⟩
  have hn:l.length=i+1:=by omega
  have hm:(l).length=i+1:=by omega
  have dn:(i+1<(l).length)=False:=eq_false (by omega)
  have hl:((eachN F (i+1)).1.flatMap J.L).length=(i+1)*6:=by rw [bj (s:=6) (fun _=>rfl),hlen]
  have hdn:fD ((eachN F (i+1)).1.flatMap J.L)=some (bC (eachN F (i+1)).1):=by exact dd oK _
  have hfin:bP (eachN F (l.length))= .tup [(false,[.sl true 6 (i+1) (bC (eachN F (i+1)).1)]),(false,[.lit (.int .i64 0)])]:=by
   rw [hn]
   obtain ⟨a,l,e1,e2⟩:=li hI (by omega)
   rw [e1,←e2];rfl
  rw [hfin]
  simp (maxSteps:=10000000) only [go_sem,seval,reduceCtorEq,an,aj,ae,aU,gf,dn,hl,hdn]
  repeat' with_reducible first |apply And.intro |apply condP<;>intro _
  all_goals first |(show ar _ _=true;kernel_rfl)|assumption |rfl |(simp only [go_sem, *]<;>rfl)
theorem Fq (l:List J) (z:Int) (c0:rightB l=false):Ct Tryz.prog 109 [bv l,iA z] (·= .tup [(false,[.lit (.slice none 0 0)]),(false,[.lit (.int .i64 1)])]):=by
 refine ak (O:=ai (aF an (aF ae e6))) (by kernel_rfl) ah (fun w=>aa (ab bc (ab av nf)) _ w) [] 600 41 [.tmp 4,.tmp 5] Tryz.func109 rfl Tryz.ntmps109 (by rw [Tryz.results109]) (by simp) rfl (fun hsm=>?_)
 simp (maxSteps:=10000000) only [go_sem,seval,reduceCtorEq,an,ae,e6,c0,bP,cp,eZ,dU,hd1,pick,ax,eo,eY,cr,eI,dt]
 repeat' with_reducible first |apply And.intro |apply condP<;>intro _
 all_goals first |(show ar _ _=true;kernel_rfl)|assumption |rfl |(simp only [go_sem, *]<;>rfl)
theorem Fs (l:List J) (z:Int) (c0:rightB l=true) (c1:prb z=false):Ct Tryz.prog 109 [bv l,iA z] (·= .tup [(false,[.lit (.slice none 0 0)]),(false,[.lit (.int .i64 1)])]):=by
 refine ak (O:=ai (aF an (aF ae e6))) (by kernel_rfl) ah (fun w=>aa (ab bc (ab av nf)) _ w) [] 600 41 [.tmp 4,.tmp 5] Tryz.func109 rfl Tryz.ntmps109 (by rw [Tryz.results109]) (by simp) rfl (fun hsm=>?_)
 simp (maxSteps:=10000000) only [go_sem,seval,reduceCtorEq,an,ae,e6,c0,c1,bP,cp,eZ,dU,hd1,pick,ax,eo,eY,cr,eI,dt]
 repeat' with_reducible first |apply And.intro |apply condP<;>intro _
 all_goals first |(show ar _ _=true;kernel_rfl)|assumption |rfl |(simp only [go_sem, *]<;>rfl)
def f8 (s0:St) (F:Nat→X×Int):Nat→St
 |0=>s0++[(12,.s (.lit (.slice none 0 0))),(14,iA 0)]
 |j+1=>s0++[(12,.s (.ol 39 (j+1))),(14,iA ((j+1:Nat):Int)),(79,.pre 30 3 ((eachN F (j+1)).1.flatMap X.L))]
theorem Ft (l:List J) (z:Int) (c0:rightB l=true) (c1:prb z=true):Ct Tryz.prog 109 [bv l,iA z] (·=cp (eachN (fun j=>lK (l.getD j zJ) z) (l.length))):=by
 refine ak (O:=ai (aF an (aF ae e6))) (by kernel_rfl) ah (fun w=>aa (ab bc (ab av nf)) _ w) [9999999,0,2,8,10,12,14,79] ((l.length+1)*400+400) 41 [.tmp 4,.tmp 5] Tryz.func109 rfl Tryz.ntmps109 (by rw [Tryz.results109]) (by simp) rfl (fun hsm=>?_)
 have hl4:=c9 c0
 simp (maxSteps:=10000000) only [go_sem,seval,reduceCtorEq,an,ae,e6,c0,c1]
 generalize hF0:(fun j=>lK (l.getD j zJ) z)=F
 have hFj:∀ j,F j=lK (l.getD j zJ) z:=fun j=>by rw [←hF0]
 have key:∀ j,(f8 [(0,bv l),(2,iA z),(8,.s (.lit (.slice none 0 0))),(10,iA 0)] F j).all (fun p=>bH (f8 [(0,bv l),(2,iA z),(8,.s (.lit (.slice none 0 0))),(10,iA 0)] F j) p.2)=true:=fun j=>by
  cases j with
  |zero=>rfl
  |succ j=>simp only [f8,List.cons_append,List.nil_append,List.all_cons,List.all_nil,bH,bx,X.L,J.L,eX (p:=bx _) (Hp _),Bool.and_true];rfl
 refine aL 400 (f8 [(0,bv l),(2,iA z),(8,.s (.lit (.slice none 0 0))),(10,iA 0)] F) (l.length) (fun j=>(eachN F j).2=0) 0 (fun j _=>key j) (fun j mm _ hj hI ih=>?_) (by omega) rfl rfl
 clear key
 have hlen:=bq hI
 rcases Nat.lt_or_ge j (l.length) with hlt |hge
 ·have d:=decide_eq_true (show (j:Int)<((l).length:Int) by omega)
  have g0:(0≤(j:Int))=True:=eq_true (by omega)
  have hw:=aN (j:=j) (by omega)
  have el:=eg (aB zJ (show j<l.length by omega))
  have gl:(j<l.length)=True:=eq_true (by omega)
  have hFj:=hFj j
  cases hF:(F j).2 !=0 with
  |true=>
   have hr:=cQ hI hF hlt
   rw [hFj] at hF
   rcases Nat.eq_zero_or_pos j with hj0 |hj0
   ·have hst:f8 [(0,bv l),(2,iA z),(8,.s (.lit (.slice none 0 0))),(10,iA 0)] F j=[(0,bv l),(2,iA z),(8,.s (.lit (.slice none 0 0))),(10,iA 0)]++[(12,.s (.lit (.slice none 0 0))),(14,iA (j:Int))]:=by subst hj0;rfl
    rw [hst,hr,hFj]
    simp (maxSteps:=10000000) only [go_sem,seval,reduceCtorEq,an,ae,e6,el,gl,d,g0,hw,hF,cg]
    repeat' with_reducible first |apply And.intro |apply condP<;>intro _
    all_goals first |(show ar _ _=true;kernel_rfl)|assumption |rfl |(simp only [go_sem, *]<;>rfl)
   ·obtain ⟨j,rfl⟩:∃ i,j=i+1:=⟨j - 1,by omega⟩
    have hl:((eachN F (j+1)).1.flatMap X.L).length=(j+1)*3:=by rw [bj (s:=3) (fun _=>rfl),hlen]
    rw [hr,hFj]
    simp (maxSteps:=10000000) only [go_sem,seval,reduceCtorEq,an,ae,e6,f8,el,gl,d,g0,hw,hF,hl,cg]
    repeat' with_reducible first |apply And.intro |apply condP<;>intro _
    all_goals first |(show ar _ _=true;kernel_rfl)|assumption |rfl |(simp only [go_sem, *]<;>rfl)
  |false=>
   have hF1:(F j).2=0:=by simpa using hF
   have hkk:=bh hI hF1
   have hk2:(eachN F (j+1)).2=0:=by rw [hkk]
   replace ih:=ih hlt hk2
   have es:(eachN F j).1.flatMap X.L++[.lit (.bool (lK (l.getD j zJ) z).1.s),.lit (.int .i64 (lK (l.getD j zJ) z).1.e),.ws (lK (l.getD j zJ) z).1.xs]=(eachN F (j+1)).1.flatMap X.L:=by rw [hkk,←fq,hFj];rfl
   rw [hFj] at hF
   rcases Nat.eq_zero_or_pos j with hj0 |hj0
   ·have hst:f8 [(0,bv l),(2,iA z),(8,.s (.lit (.slice none 0 0))),(10,iA 0)] F j=[(0,bv l),(2,iA z),(8,.s (.lit (.slice none 0 0))),(10,iA 0)]++[(12,.s (.lit (.slice none 0 0))),(14,iA (j:Int))]:=by subst hj0;rfl
    rw [hst]
    simp (maxSteps:=10000000) only [go_sem,seval,reduceCtorEq,an,ae,e6,el,gl,d,g0,hw,hF]
    repeat' with_reducible first |apply And.intro |apply condP<;>intro _
    all_goals first |(show ar _ _=true;kernel_rfl)|(exact ih _ _ (by subst hj0;rw [f8,←es];rfl))|assumption |rfl
   ·obtain ⟨j,rfl⟩:∃ i,j=i+1:=⟨j - 1,by omega⟩
    have hl:((eachN F (j+1)).1.flatMap X.L).length=(j+1)*3:=by rw [bj (s:=3) (fun _=>rfl),hlen]
    have g5:(j+1≤100000)=True:=eq_true (by omega)
    simp (maxSteps:=10000000) only [go_sem,seval,reduceCtorEq,an,ae,e6,f8,el,gl,d,g0,hw,hF,hl,g5,es]
    repeat' with_reducible first |apply And.intro |apply condP<;>intro _
    all_goals first |(show ar _ _=true;kernel_rfl)|(exact ih _ _ rfl)|assumption |rfl
 ·obtain ⟨i,rfl⟩:∃ i,j=i+1:=⟨j - 1,by omega⟩
  have hn:l.length=i+1:=by omega
  have hm:(l).length=i+1:=by omega
  have dn:(i+1<(l).length)=False:=eq_false (by omega)
  have hl:((eachN F (i+1)).1.flatMap X.L).length=(i+1)*3:=by rw [bj (s:=3) (fun _=>rfl),hlen]
  have hdn:fD ((eachN F (i+1)).1.flatMap X.L)=some (pC (eachN F (i+1)).1):=by exact dd AW _
  have hfin:cp (eachN F (l.length))= .tup [(false,[.sl true 3 (i+1) (pC (eachN F (i+1)).1)]),(false,[.lit (.int .i64 0)])]:=by
   rw [hn]
   obtain ⟨a,l,e1,e2⟩:=li hI (by omega)
   rw [e1,←e2];rfl
  rw [hfin]
  simp (maxSteps:=10000000) only [go_sem,seval,reduceCtorEq,an,ae,e6,f8,dn,hl,hdn]
  repeat' with_reducible first |apply And.intro |apply condP<;>intro _
  all_goals first |(show ar _ _=true;kernel_rfl)|assumption |rfl |(simp only [go_sem, *]<;>rfl)
end
section
attribute [local go_sem] lj nN ou fJ gA gE jd yK ki oy jH jI j8 j9 ite_self fN mo cm jh lF bT kQ
noncomputable def Ek (k:Int) (l m:List J) (z:Int):List J×Int:=fL (rightB l) (fL (rightB m) (fL (!((l.length:Int)!=(m.length:Int))) (fL (prb z) (eachN (fun j=>ft k (l.getD j zJ) (m.getD j zJ) z) l.length))))
noncomputable def En (x:J) (l:List J) (z:Int):List J×Int:=fL (rightB l) (fL (okJ x) (fL (prb z) (eachN (fun j=>ft 2 x (l.getD j zJ) z) l.length)))
noncomputable def Ht (l:List J) (z:Int):List X×Int:=fL (rightB l) (fL (prb z) (eachN (fun j=>lK (l.getD j zJ) z) l.length))
theorem aY {α:Type} {b:Bool} {r:List α×Int} (h:b=true):fL b r=r:=by unfold fL;rw [h];rfl
theorem eL {α:Type} {b:Bool} {r:List α×Int} (h:b=false):fL b r=([],1):=by unfold fL;rw [h];rfl
theorem KZ {b:Bool} (h:b=true):(!b)=false:=by rw [h];rfl
theorem xX {b:Bool} (h:b=false):(!b)=true:=by rw [h];rfl
theorem P7 (k:Int) (l m:List J) (z:Int) (hk:k=0∨k=1∨k=2):Ct Tryz.prog 103 [iA k,bv l,bv m,iA z] (·=bP (Ek k l m z)):=by
 unfold Ek
 rcases Bool.eq_false_or_eq_true (rightB l) with c0 |c0
 case inr=>rw [eL c0];exact Fu k l m z c0
 rcases Bool.eq_false_or_eq_true (rightB m) with c1 |c1
 case inr=>rw [aY c0,eL c1];exact Fw k l m z c0 c1
 rcases Bool.eq_false_or_eq_true ((l.length:Int)!=(m.length:Int)) with c2 |c2
 case inl=>rw [aY c0,aY c1,eL (KZ c2)];exact Fx k l m z c0 c1 c2
 rcases Bool.eq_false_or_eq_true (prb z) with c3 |c3
 case inr=>rw [aY c0,aY c1,aY (xX c2),eL c3];exact Fy k l m z c0 c1 c2 c3
 rw [aY c0,aY c1,aY (xX c2),aY c3]
 exact Fz k l m z c0 c1 c2 c3 hk
theorem P8 (x:J) (l:List J) (z:Int):Ct Tryz.prog 107 [jA x,bv l,iA z] (·=bP (En x l z)):=by
 unfold En
 rcases Bool.eq_false_or_eq_true (rightB l) with c0 |c0
 case inr=>rw [eL c0];exact FC x l z c0
 rcases Bool.eq_false_or_eq_true (okJ x) with c1 |c1
 case inr=>rw [aY c0,eL c1];exact FD x l z c0 c1
 rcases Bool.eq_false_or_eq_true (prb z) with c2 |c2
 case inr=>rw [aY c0,aY c1,eL c2];exact FE x l z c0 c1 c2
 rw [aY c0,aY c1,aY c2]
 exact FF x l z c0 c1 c2
theorem P6 (l:List J) (z:Int):Ct Tryz.prog 109 [bv l,iA z] (·=cp (Ht l z)):=by
 unfold Ht
 rcases Bool.eq_false_or_eq_true (rightB l) with c0 |c0
 case inr=>rw [eL c0];exact Fq l z c0
 rcases Bool.eq_false_or_eq_true (prb z) with c1 |c1
 case inr=>rw [aY c0,eL c1];exact Fs l z c0 c1
 rw [aY c0,aY c1]
 exact Ft l z c0 c1
noncomputable def fQ:b9:=one 103 (gA jd fun k=>gA jC fun l=>gA jC fun m=>gA jd fun z=>gE (k=0∨k=1∨k=2,bP (Ek k l m z)))
theorem lP:TbOK Tryz.prog fQ:=bI (aX Tryz.func103 (by kernel_rfl) rfl) (.a bK fun k=>.a dB fun l=>.a dB fun m=>.a bK fun z=>.e fun h=>P7 k l m z h)
noncomputable def iF:b9:=one 107 (gA ki fun x=>gA jC fun l=>gA jd fun z=>gE (True,bP (En x l z)))
theorem nO:TbOK Tryz.prog iF:=bI (aX Tryz.func107 (by kernel_rfl) rfl) (.a nU fun x=>.a dB fun l=>.a bK fun z=>.e fun _=>P8 x l z)
noncomputable def jV:b9:=one 109 (gA jC fun l=>gA jd fun z=>gE (True,cp (Ht l z)))
theorem qj:TbOK Tryz.prog jV:=bI (aX Tryz.func109 (by kernel_rfl) rfl) (.a dB fun l=>.a bK fun z=>.e fun _=>P6 l z)
noncomputable def ic (a b:List J) (z:Int):J×Int:=aC zJ (fun j=>ft 2 (a.getD j zJ) (b.getD j zJ) z) (fun s x=>ft 0 s x z) a.length
theorem Jq (a b:List J) (z:Int) (h:a.length≤b.length) (h2:a.length≤1000):Ct Tryz.prog 104 [bv a,bv b,iA z] (·=iY (aC zJ (fun j=>ft 2 (a.getD j zJ) (b.getD j zJ) z) (fun s x=>ft 0 s x z) a.length)):=by
 refine ak (O:=ai aU) (by kernel_rfl) ah (fun w=>aa dh _ w) [9999999,0,2,4,12,13,14,16,17,18] ((a.length+1)*400+200) 50 [.cell 6 32,.tmp 7] Tryz.func104 rfl Tryz.ntmps104 (by rw [Tryz.results104]) (by simp) rfl (fun hsm=>?_)
 simp (maxSteps:=10000000) only [go_sem,seval,reduceCtorEq,aU]
 generalize hF0:(fun j=>ft 2 (a.getD j zJ) (b.getD j zJ) z)=F
 have hFj:∀ j,F j=ft 2 (a.getD j zJ) (b.getD j zJ) z:=fun j=>by rw [←hF0]
 generalize hA0:(fun s x=>ft 0 s x z)=add
 have hAd:∀ s x,add s x=ft 0 s x z:=fun s x=>by rw [←hA0]
 refine aL 400 (fun j=>[(0,bv a),(2,bv b),(4,iA z),(12,.s (.own 6 0)),(13,.v true [.lit (.bool false),.lit (.int .i64 0),.ws [],.lit (.bool false),.lit (.int .i64 0),.ws []]),(14,iA 0),(16,.s (.own 8 0)),(17,.v true [.lit (.bool (aC zJ F add j).1.lo.s),.lit (.int .i64 (aC zJ F add j).1.lo.e),.ws (aC zJ F add j).1.lo.xs,.lit (.bool (aC zJ F add j).1.hi.s),.lit (.int .i64 (aC zJ F add j).1.hi.e),.ws (aC zJ F add j).1.hi.xs]),(18,iA j)]) a.length (fun j=>(aC zJ F add j).2=0) 0 (fun j _=>rfl) (fun j mm _ hj hI ih=>?_) (by omega) rfl rfl
 have hs:=pc (z:=zJ) (F:=F) (add:=add) hI
 rcases Nat.lt_or_ge j a.length with hlt |hge
 ·have ea:=eg (aB zJ hlt)
  have eb:=eg (aB zJ (show j<b.length by omega))
  have ga:(j<a.length)=True:=eq_true hlt
  have gb:(j<b.length)=True:=eq_true (by omega)
  have d:=decide_eq_true (show (j:Int)<(a.length:Int) by omega)
  have g0:(0≤(j:Int))=True:=eq_true (by omega)
  have hw:=aN (j:=j) (by omega)
  rw [hFj] at hs
  simp only [hAd] at hs
  cases hF:(ft 2 (a.getD j zJ) (b.getD j zJ) z).2 !=0 with
  |true=>
   have hF2:((ft 2 (a.getD j zJ) (b.getD j zJ) z).2==0)=false:=by simpa using hF
   rw [hF,cond_true] at hs
   have hr:aC zJ F add a.length=(zJ,(ft 2 (a.getD j zJ) (b.getD j zJ) z).2):=by rw [iB (j:=j+1) (by rw [hs];exact hF) hlt,hs]
   simp (maxSteps:=10000000) only [go_sem,seval,reduceCtorEq,aU,ea,ga,eb,gb,d,g0,hw,hF,hF2,hr]
   repeat' with_reducible first |apply And.intro |apply condP<;>intro _
   all_goals first |(show ar _ _=true;kernel_rfl)|assumption |rfl |(simp only [go_sem, *]<;>rfl)
  |false=>
   have hF0:(ft 2 (a.getD j zJ) (b.getD j zJ) z).2=0:=by simpa using hF
   have hF2:((ft 2 (a.getD j zJ) (b.getD j zJ) z).2==0)=true:=by rw [hF0];rfl
   rw [hF,cond_false] at hs
   rcases Nat.eq_zero_or_pos j with h0 |h0
   ·have e:decide ((0:Int)<(j:Int))=false:=decide_eq_false (by omega)
    have hs:aC zJ F add (j+1)=((ft 2 (a.getD j zJ) (b.getD j zJ) z).1,0):=by rw [hs,decide_eq_false (by omega)];rfl
    have hk2:(aC zJ F add (j+1)).2=0:=by rw [hs]
    replace ih:=ih hlt hk2
    rw [hs] at ih
    simp (maxSteps:=10000000) only [go_sem,seval,reduceCtorEq,aU,ea,ga,eb,gb,d,g0,hw,hF,hF2,e,hF0]
    repeat' with_reducible first |apply And.intro |apply condP<;>intro _
    all_goals first |(show ar _ _=true;kernel_rfl)|(exact ih _ _ rfl)|assumption |rfl
   ·have e:decide ((0:Int)<(j:Int))=true:=decide_eq_true (by omega)
    rw [decide_eq_true h0,cond_true] at hs
    cases hA:(ft 0 (aC zJ F add j).1 (ft 2 (a.getD j zJ) (b.getD j zJ) z).1 z).2 !=0 with
    |true=>
     rw [hA,cond_true] at hs
     have hr:aC zJ F add a.length=(zJ,(ft 0 (aC zJ F add j).1 (ft 2 (a.getD j zJ) (b.getD j zJ) z).1 z).2):=by rw [iB (j:=j+1) (by rw [hs];exact hA) hlt,hs]
     simp (maxSteps:=10000000) only [go_sem,seval,reduceCtorEq,aU,ea,ga,eb,gb,d,g0,hw,hF,hF2,e,hA,hr]
     repeat' with_reducible first |apply And.intro |apply condP<;>intro _
     all_goals first |(show ar _ _=true;kernel_rfl)|assumption |rfl |(simp only [go_sem, *]<;>rfl)
    |false=>
     rw [hA,cond_false] at hs
     have hk2:(aC zJ F add (j+1)).2=0:=by rw [hs]
     replace ih:=ih hlt hk2
     rw [hs] at ih
     simp (maxSteps:=10000000) only [go_sem,seval,reduceCtorEq,aU,ea,ga,eb,gb,d,g0,hw,hF,hF2,e,hA]
     repeat' with_reducible first |apply And.intro |apply condP<;>intro _
     all_goals first |(show ar _ _=true;kernel_rfl)|(exact ih _ _ rfl)|assumption |rfl
 ·have hn:j=a.length:=by omega
  subst hn
  have d:=decide_eq_false (show ¬ (a.length:Int)<(a.length:Int) by omega)
  have hr:aC zJ F add a.length=((aC zJ F add a.length).1,0):=by rw [←hI]
  simp (maxSteps:=10000000) only [go_sem,seval,reduceCtorEq,aU,d]
  rw [hr]
  repeat' with_reducible first |apply And.intro |apply condP<;>intro _
  all_goals first |(show ar _ _=true;kernel_rfl)|assumption |rfl |(simp only [go_sem, *]<;>rfl)
noncomputable def bE:b9:=one 104 (gA jC fun a=>gA jC fun b=>gA jd fun z=>gE (a.length≤b.length∧a.length≤1000,iY (ic a b z)))
theorem fe:TbOK Tryz.prog bE:=bI (aX Tryz.func104 (by kernel_rfl) rfl) (.a dB fun a=>.a dB fun b=>.a bK fun z=>.e fun h=>Jq a b z h.1 h.2)
end
end Go.Proofs.YtpacpmmdjmnamaaGreatDoor
