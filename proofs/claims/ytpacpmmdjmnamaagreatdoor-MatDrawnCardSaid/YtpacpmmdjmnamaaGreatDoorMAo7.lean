/- The document's matrices by loops: sums, multiples, middles, products with boxes; columns. -/
import Derived.Test.YtpacpmmdjmnamaaGreatDoorMAo6
namespace Go.Proofs.YtpacpmmdjmnamaaGreatDoor
set_option linter.unusedSimpArgs false
set_option linter.unusedVariables false
set_option maxHeartbeats 4000000
set_option maxRecDepth 100000
open Go.RowKit Nx
attribute [local irreducible] ar
section
attribute [local go_sem] lj nN ou fJ gA gE jd yK ki oy jH jI j8 j9 ite_self fN mo cm jh lF bT kQ
theorem GY (k:Int) (a b:List (List J)) (z:Int) (c0:rightM a=false):Ct Tryz.prog 44 [iA k,bw a,bw b,iA z] (·= .tup [(false,[.lit (.slice none 0 0)]),(false,[.lit (.int .i64 1)])]):=by
 refine ak (O:=ai (aF af (aF ae fQ))) (by kernel_rfl) ah (fun w=>aa (ab aR (ab av lP)) _ w) [] 600 62 [.tmp 8,.tmp 9] Tryz.func44 rfl Tryz.ntmps44 (by rw [Tryz.results44]) (by simp) rfl (fun hsm=>?_)
 simp (maxSteps:=10000000) only [go_sem,seval,reduceCtorEq,af,ae,fQ,c0,bP,cp,eZ,dU,hd1,pick,ax,eo,eY,cr,eI,dt]
 repeat' with_reducible first |apply And.intro |apply condP<;>intro _
 all_goals first |(show ar _ _=true;kernel_rfl)|assumption |rfl |(simp only [go_sem, *]<;>rfl)
theorem GZ (k:Int) (a b:List (List J)) (z:Int) (c0:rightM a=true) (c1:rightM b=false):Ct Tryz.prog 44 [iA k,bw a,bw b,iA z] (·= .tup [(false,[.lit (.slice none 0 0)]),(false,[.lit (.int .i64 1)])]):=by
 refine ak (O:=ai (aF af (aF ae fQ))) (by kernel_rfl) ah (fun w=>aa (ab aR (ab av lP)) _ w) [] 600 62 [.tmp 8,.tmp 9] Tryz.func44 rfl Tryz.ntmps44 (by rw [Tryz.results44]) (by simp) rfl (fun hsm=>?_)
 simp (maxSteps:=10000000) only [go_sem,seval,reduceCtorEq,af,ae,fQ,c0,c1,bP,cp,eZ,dU,hd1,pick,ax,eo,eY,cr,eI,dt]
 repeat' with_reducible first |apply And.intro |apply condP<;>intro _
 all_goals first |(show ar _ _=true;kernel_rfl)|assumption |rfl |(simp only [go_sem, *]<;>rfl)
theorem G3 (k:Int) (a b:List (List J)) (z:Int) (c0:rightM a=true) (c1:rightM b=true) (c2:((a.length:Int)!=(b.length:Int))=true):Ct Tryz.prog 44 [iA k,bw a,bw b,iA z] (·= .tup [(false,[.lit (.slice none 0 0)]),(false,[.lit (.int .i64 1)])]):=by
 refine ak (O:=ai (aF af (aF ae fQ))) (by kernel_rfl) ah (fun w=>aa (ab aR (ab av lP)) _ w) [] 600 62 [.tmp 8,.tmp 9] Tryz.func44 rfl Tryz.ntmps44 (by rw [Tryz.results44]) (by simp) rfl (fun hsm=>?_)
 simp (maxSteps:=10000000) only [go_sem,seval,reduceCtorEq,af,ae,fQ,c0,c1,c2,bP,cp,eZ,dU,hd1,pick,ax,eo,eY,cr,eI,dt]
 repeat' with_reducible first |apply And.intro |apply condP<;>intro _
 all_goals first |(show ar _ _=true;kernel_rfl)|assumption |rfl |(simp only [go_sem, *]<;>rfl)
theorem G4 (k:Int) (a b:List (List J)) (z:Int) (c0:rightM a=true) (c1:rightM b=true) (c2:((a.length:Int)!=(b.length:Int))=false) (c3:prb z=false):Ct Tryz.prog 44 [iA k,bw a,bw b,iA z] (·= .tup [(false,[.lit (.slice none 0 0)]),(false,[.lit (.int .i64 1)])]):=by
 refine ak (O:=ai (aF af (aF ae fQ))) (by kernel_rfl) ah (fun w=>aa (ab aR (ab av lP)) _ w) [] 600 62 [.tmp 8,.tmp 9] Tryz.func44 rfl Tryz.ntmps44 (by rw [Tryz.results44]) (by simp) rfl (fun hsm=>?_)
 simp (maxSteps:=10000000) only [go_sem,seval,reduceCtorEq,af,ae,fQ,c0,c1,c2,c3,bP,cp,eZ,dU,hd1,pick,ax,eo,eY,cr,eI,dt]
 repeat' with_reducible first |apply And.intro |apply condP<;>intro _
 all_goals first |(show ar _ _=true;kernel_rfl)|assumption |rfl |(simp only [go_sem, *]<;>rfl)
def gn (s0:St) (F:Nat→(List J)×Int):Nat→St
 |0=>s0++[(20,.s (.lit (.slice none 0 0))),(22,iA 0)]
 |j+1=>s0++[(20,.s (.ol 60 (j+1))),(22,iA ((j+1:Nat):Int)),(121,.pre 34 1 ((eachN F (j+1)).1.flatMap (fun l=>[dA l])))]
theorem G5 (k:Int) (a b:List (List J)) (z:Int) (c0:rightM a=true) (c1:rightM b=true) (c2:((a.length:Int)!=(b.length:Int))=false) (c3:prb z=true) (hk:k=0∨k=1∨k=2):Ct Tryz.prog 44 [iA k,bw a,bw b,iA z] (·=cg uN (eachN (fun j=>Ek k (a.getD j []) (b.getD j []) z) (a.length))):=by
 refine ak (O:=ai (aF af (aF ae fQ))) (by kernel_rfl) ah (fun w=>aa (ab aR (ab av lP)) _ w) [9999999,0,2,4,6,16,18,20,22,121] ((a.length+1)*400+400) 62 [.tmp 8,.tmp 9] Tryz.func44 rfl Tryz.ntmps44 (by rw [Tryz.results44]) (by simp) rfl (fun hsm=>?_)
 have hl4:=(aP c0).1
 have hm2:b.length=a.length:=by have:=bne_eq_false_iff_eq.1 c2;omega
 simp (maxSteps:=10000000) only [go_sem,seval,reduceCtorEq,af,ae,fQ,bP,cp,c0,c1,c2,c3]
 generalize hF0:(fun j=>Ek k (a.getD j []) (b.getD j []) z)=F
 have hFj:∀ j,F j=Ek k (a.getD j []) (b.getD j []) z:=fun j=>by rw [←hF0]
 have key:∀ j,(gn [(0,iA k),(2,bw a),(4,bw b),(6,iA z),(16,.s (.lit (.slice none 0 0))),(18,iA 0)] F j).all (fun p=>bH (gn [(0,iA k),(2,bw a),(4,bw b),(6,iA z),(16,.s (.lit (.slice none 0 0))),(18,iA 0)] F j) p.2)=true:=fun j=>by
  cases j with
  |zero=>rfl
  |succ j=>simp only [gn,List.cons_append,List.nil_append,List.all_cons,List.all_nil,bH,bx,X.L,J.L,eX (p:=bx _) (Hq _),Bool.and_true];rfl
 refine aL 400 (gn [(0,iA k),(2,bw a),(4,bw b),(6,iA z),(16,.s (.lit (.slice none 0 0))),(18,iA 0)] F) (a.length) (fun j=>(eachN F j).2=0) 0 (fun j _=>key j) (fun j mm _ hj hI ih=>?_) (by omega) rfl rfl
 clear key
 have hlen:=bq hI
 rcases Nat.lt_or_ge j (a.length) with hlt |hge
 ·have d:=decide_eq_true (show (j:Int)<((a).length:Int) by omega)
  have g0:(0≤(j:Int))=True:=eq_true (by omega)
  have hw:=aN (j:=j) (by omega)
  have ea:=eQ (aB [] (show j<a.length by omega))
  have ga:(j<a.length)=True:=eq_true (by omega)
  have eb:=eQ (aB [] (show j<b.length by omega))
  have gb:(j<b.length)=True:=eq_true (by omega)
  have hFj:=hFj j
  cases hF:(F j).2 !=0 with
  |true=>
   have hr:=cQ hI hF hlt
   rw [hFj] at hF
   rcases Nat.eq_zero_or_pos j with hj0 |hj0
   ·have hst:gn [(0,iA k),(2,bw a),(4,bw b),(6,iA z),(16,.s (.lit (.slice none 0 0))),(18,iA 0)] F j=[(0,iA k),(2,bw a),(4,bw b),(6,iA z),(16,.s (.lit (.slice none 0 0))),(18,iA 0)]++[(20,.s (.lit (.slice none 0 0))),(22,iA (j:Int))]:=by subst hj0;rfl
    rw [hst,hr,hFj]
    simp (maxSteps:=10000000) only [go_sem,seval,reduceCtorEq,af,ae,fQ,bP,cp,ea,ga,eb,gb,hk,d,g0,hw,hF,cg]
    repeat' with_reducible first |apply And.intro |apply condP<;>intro _
    all_goals first |(show ar _ _=true;kernel_rfl)|assumption |rfl |(simp only [go_sem, *]<;>rfl)
   ·obtain ⟨j,rfl⟩:∃ i,j=i+1:=⟨j - 1,by omega⟩
    have hl:((eachN F (j+1)).1.flatMap (fun l=>[dA l])).length=(j+1)*1:=by rw [bj (s:=1) (fun _=>rfl),hlen]
    rw [hr,hFj]
    simp (maxSteps:=10000000) only [go_sem,seval,reduceCtorEq,af,ae,fQ,bP,cp,gn,ea,ga,eb,gb,hk,d,g0,hw,hF,hl,cg]
    repeat' with_reducible first |apply And.intro |apply condP<;>intro _
    all_goals first |(show ar _ _=true;kernel_rfl)|assumption |rfl |(simp only [go_sem, *]<;>rfl)
  |false=>
   have hF1:(F j).2=0:=by simpa using hF
   have hkk:=bh hI hF1
   have hk2:(eachN F (j+1)).2=0:=by rw [hkk]
   replace ih:=ih hlt hk2
   have es:(eachN F j).1.flatMap (fun l=>[dA l])++[dA (Ek k (a.getD j []) (b.getD j []) z).1]=(eachN F (j+1)).1.flatMap (fun l=>[dA l]):=by rw [hkk,←fq,hFj]
   rw [hFj] at hF
   rcases Nat.eq_zero_or_pos j with hj0 |hj0
   ·have hst:gn [(0,iA k),(2,bw a),(4,bw b),(6,iA z),(16,.s (.lit (.slice none 0 0))),(18,iA 0)] F j=[(0,iA k),(2,bw a),(4,bw b),(6,iA z),(16,.s (.lit (.slice none 0 0))),(18,iA 0)]++[(20,.s (.lit (.slice none 0 0))),(22,iA (j:Int))]:=by subst hj0;rfl
    rw [hst]
    simp (maxSteps:=10000000) only [go_sem,seval,reduceCtorEq,af,ae,fQ,bP,cp,ea,ga,eb,gb,hk,d,g0,hw,hF]
    repeat' with_reducible first |apply And.intro |apply condP<;>intro _
    all_goals first |(show ar _ _=true;kernel_rfl)|(exact ih _ _ (by subst hj0;rw [gn,←es];rfl))|assumption |rfl
   ·obtain ⟨j,rfl⟩:∃ i,j=i+1:=⟨j - 1,by omega⟩
    have hl:((eachN F (j+1)).1.flatMap (fun l=>[dA l])).length=(j+1)*1:=by rw [bj (s:=1) (fun _=>rfl),hlen]
    have g5:(j+1≤100000)=True:=eq_true (by omega)
    simp (maxSteps:=10000000) only [go_sem,seval,reduceCtorEq,af,ae,fQ,bP,cp,gn,ea,ga,eb,gb,hk,d,g0,hw,hF,hl,g5,es]
    repeat' with_reducible first |apply And.intro |apply condP<;>intro _
    all_goals first |(show ar _ _=true;kernel_rfl)|(exact ih _ _ rfl)|assumption |rfl
 ·obtain ⟨i,rfl⟩:∃ i,j=i+1:=⟨j - 1,by omega⟩
  have hn:a.length=i+1:=by omega
  have hm:(a).length=i+1:=by omega
  have dn:(i+1<(a).length)=False:=eq_false (by omega)
  have hl:((eachN F (i+1)).1.flatMap (fun l=>[dA l])).length=(i+1)*1:=by rw [bj (s:=1) (fun _=>rfl),hlen]
  have hdn:fD ((eachN F (i+1)).1.flatMap (fun l=>[dA l]))=some (List.map uN (eachN F (i+1)).1):=by rw [←lD];exact dd rL _
  have hfin:cg uN (eachN F (a.length))= .tup [(false,[.sl true 1 (i+1) (List.map uN (eachN F (i+1)).1)]),(false,[.lit (.int .i64 0)])]:=by
   rw [hn]
   obtain ⟨a,l,e1,e2⟩:=li hI (by omega)
   rw [e1,←e2];rfl
  rw [hfin]
  simp (maxSteps:=10000000) only [go_sem,seval,reduceCtorEq,af,ae,fQ,bP,cp,gn,dn,hl,hdn]
  repeat' with_reducible first |apply And.intro |apply condP<;>intro _
  all_goals first |(show ar _ _=true;kernel_rfl)|assumption |rfl |(simp only [go_sem, *]<;>rfl)
theorem G8 (x:J) (m:List (List J)) (z:Int) (c0:rightM m=false):Ct Tryz.prog 46 [jA x,bw m,iA z] (·= .tup [(false,[.lit (.slice none 0 0)]),(false,[.lit (.int .i64 1)])]):=by
 refine ak (O:=ai (aF af (aF aj (aF ae iF)))) (by kernel_rfl) ah (fun w=>aa (ab aR (ab aG (ab av nO))) _ w) [] 600 49 [.tmp 6,.tmp 7] Tryz.func46 rfl Tryz.ntmps46 (by rw [Tryz.results46]) (by simp) rfl (fun hsm=>?_)
 simp (maxSteps:=10000000) only [go_sem,seval,reduceCtorEq,af,aj,ae,iF,c0,bP,cp,eZ,dU,hd1,pick,ax,eo,eY,cr,eI,dt]
 repeat' with_reducible first |apply And.intro |apply condP<;>intro _
 all_goals first |(show ar _ _=true;kernel_rfl)|assumption |rfl |(simp only [go_sem, *]<;>rfl)
theorem G9 (x:J) (m:List (List J)) (z:Int) (c0:rightM m=true) (c1:okJ x=false):Ct Tryz.prog 46 [jA x,bw m,iA z] (·= .tup [(false,[.lit (.slice none 0 0)]),(false,[.lit (.int .i64 1)])]):=by
 refine ak (O:=ai (aF af (aF aj (aF ae iF)))) (by kernel_rfl) ah (fun w=>aa (ab aR (ab aG (ab av nO))) _ w) [] 600 49 [.tmp 6,.tmp 7] Tryz.func46 rfl Tryz.ntmps46 (by rw [Tryz.results46]) (by simp) rfl (fun hsm=>?_)
 simp (maxSteps:=10000000) only [go_sem,seval,reduceCtorEq,af,aj,ae,iF,c0,c1,bP,cp,eZ,dU,hd1,pick,ax,eo,eY,cr,eI,dt]
 repeat' with_reducible first |apply And.intro |apply condP<;>intro _
 all_goals first |(show ar _ _=true;kernel_rfl)|assumption |rfl |(simp only [go_sem, *]<;>rfl)
theorem Ha (x:J) (m:List (List J)) (z:Int) (c0:rightM m=true) (c1:okJ x=true) (c2:prb z=false):Ct Tryz.prog 46 [jA x,bw m,iA z] (·= .tup [(false,[.lit (.slice none 0 0)]),(false,[.lit (.int .i64 1)])]):=by
 refine ak (O:=ai (aF af (aF aj (aF ae iF)))) (by kernel_rfl) ah (fun w=>aa (ab aR (ab aG (ab av nO))) _ w) [] 600 49 [.tmp 6,.tmp 7] Tryz.func46 rfl Tryz.ntmps46 (by rw [Tryz.results46]) (by simp) rfl (fun hsm=>?_)
 simp (maxSteps:=10000000) only [go_sem,seval,reduceCtorEq,af,aj,ae,iF,c0,c1,c2,bP,cp,eZ,dU,hd1,pick,ax,eo,eY,cr,eI,dt]
 repeat' with_reducible first |apply And.intro |apply condP<;>intro _
 all_goals first |(show ar _ _=true;kernel_rfl)|assumption |rfl |(simp only [go_sem, *]<;>rfl)
def gp (s0:St) (F:Nat→(List J)×Int):Nat→St
 |0=>s0++[(16,.s (.lit (.slice none 0 0))),(18,iA 0)]
 |j+1=>s0++[(16,.s (.ol 47 (j+1))),(18,iA ((j+1:Nat):Int)),(95,.pre 34 1 ((eachN F (j+1)).1.flatMap (fun l=>[dA l])))]
theorem Hb (x:J) (m:List (List J)) (z:Int) (c0:rightM m=true) (c1:okJ x=true) (c2:prb z=true):Ct Tryz.prog 46 [jA x,bw m,iA z] (·=cg uN (eachN (fun j=>En x (m.getD j []) z) (m.length))):=by
 refine ak (O:=ai (aF af (aF aj (aF ae iF)))) (by kernel_rfl) ah (fun w=>aa (ab aR (ab aG (ab av nO))) _ w) [9999999,0,2,4,6,7,12,14,16,18,95] ((m.length+1)*400+400) 49 [.tmp 6,.tmp 7] Tryz.func46 rfl Tryz.ntmps46 (by rw [Tryz.results46]) (by simp) rfl (fun hsm=>?_)
 have hl4:=(aP c0).1
 simp (maxSteps:=10000000) only [go_sem,seval,reduceCtorEq,af,aj,ae,iF,bP,cp,c0,c1,c2]
 generalize hF0:(fun j=>En x (m.getD j []) z)=F
 have hFj:∀ j,F j=En x (m.getD j []) z:=fun j=>by rw [←hF0]
 have key:∀ j,(gp [(0,jA x),(2,bw m),(4,iA z),(6,.s (.own 3 0)),(7,jA x),(12,.s (.lit (.slice none 0 0))),(14,iA 0)] F j).all (fun p=>bH (gp [(0,jA x),(2,bw m),(4,iA z),(6,.s (.own 3 0)),(7,jA x),(12,.s (.lit (.slice none 0 0))),(14,iA 0)] F j) p.2)=true:=fun j=>by
  cases j with
  |zero=>rfl
  |succ j=>simp only [gp,List.cons_append,List.nil_append,List.all_cons,List.all_nil,bH,bx,X.L,J.L,eX (p:=bx _) (Hq _),Bool.and_true];rfl
 refine aL 400 (gp [(0,jA x),(2,bw m),(4,iA z),(6,.s (.own 3 0)),(7,jA x),(12,.s (.lit (.slice none 0 0))),(14,iA 0)] F) (m.length) (fun j=>(eachN F j).2=0) 0 (fun j _=>key j) (fun j mm _ hj hI ih=>?_) (by omega) rfl rfl
 clear key
 have hlen:=bq hI
 rcases Nat.lt_or_ge j (m.length) with hlt |hge
 ·have d:=decide_eq_true (show (j:Int)<((m).length:Int) by omega)
  have g0:(0≤(j:Int))=True:=eq_true (by omega)
  have hw:=aN (j:=j) (by omega)
  have em:=eQ (aB [] (show j<m.length by omega))
  have gm:(j<m.length)=True:=eq_true (by omega)
  have hFj:=hFj j
  cases hF:(F j).2 !=0 with
  |true=>
   have hr:=cQ hI hF hlt
   rw [hFj] at hF
   rcases Nat.eq_zero_or_pos j with hj0 |hj0
   ·have hst:gp [(0,jA x),(2,bw m),(4,iA z),(6,.s (.own 3 0)),(7,jA x),(12,.s (.lit (.slice none 0 0))),(14,iA 0)] F j=[(0,jA x),(2,bw m),(4,iA z),(6,.s (.own 3 0)),(7,jA x),(12,.s (.lit (.slice none 0 0))),(14,iA 0)]++[(16,.s (.lit (.slice none 0 0))),(18,iA (j:Int))]:=by subst hj0;rfl
    rw [hst,hr,hFj]
    simp (maxSteps:=10000000) only [go_sem,seval,reduceCtorEq,af,aj,ae,iF,bP,cp,em,gm,d,g0,hw,hF,cg]
    repeat' with_reducible first |apply And.intro |apply condP<;>intro _
    all_goals first |(show ar _ _=true;kernel_rfl)|assumption |rfl |(simp only [go_sem, *]<;>rfl)
   ·obtain ⟨j,rfl⟩:∃ i,j=i+1:=⟨j - 1,by omega⟩
    have hl:((eachN F (j+1)).1.flatMap (fun l=>[dA l])).length=(j+1)*1:=by rw [bj (s:=1) (fun _=>rfl),hlen]
    rw [hr,hFj]
    simp (maxSteps:=10000000) only [go_sem,seval,reduceCtorEq,af,aj,ae,iF,bP,cp,gp,em,gm,d,g0,hw,hF,hl,cg]
    repeat' with_reducible first |apply And.intro |apply condP<;>intro _
    all_goals first |(show ar _ _=true;kernel_rfl)|assumption |rfl |(simp only [go_sem, *]<;>rfl)
  |false=>
   have hF1:(F j).2=0:=by simpa using hF
   have hkk:=bh hI hF1
   have hk2:(eachN F (j+1)).2=0:=by rw [hkk]
   replace ih:=ih hlt hk2
   have es:(eachN F j).1.flatMap (fun l=>[dA l])++[dA (En x (m.getD j []) z).1]=(eachN F (j+1)).1.flatMap (fun l=>[dA l]):=by rw [hkk,←fq,hFj]
   rw [hFj] at hF
   rcases Nat.eq_zero_or_pos j with hj0 |hj0
   ·have hst:gp [(0,jA x),(2,bw m),(4,iA z),(6,.s (.own 3 0)),(7,jA x),(12,.s (.lit (.slice none 0 0))),(14,iA 0)] F j=[(0,jA x),(2,bw m),(4,iA z),(6,.s (.own 3 0)),(7,jA x),(12,.s (.lit (.slice none 0 0))),(14,iA 0)]++[(16,.s (.lit (.slice none 0 0))),(18,iA (j:Int))]:=by subst hj0;rfl
    rw [hst]
    simp (maxSteps:=10000000) only [go_sem,seval,reduceCtorEq,af,aj,ae,iF,bP,cp,em,gm,d,g0,hw,hF]
    repeat' with_reducible first |apply And.intro |apply condP<;>intro _
    all_goals first |(show ar _ _=true;kernel_rfl)|(exact ih _ _ (by subst hj0;rw [gp,←es];rfl))|assumption |rfl
   ·obtain ⟨j,rfl⟩:∃ i,j=i+1:=⟨j - 1,by omega⟩
    have hl:((eachN F (j+1)).1.flatMap (fun l=>[dA l])).length=(j+1)*1:=by rw [bj (s:=1) (fun _=>rfl),hlen]
    have g5:(j+1≤100000)=True:=eq_true (by omega)
    simp (maxSteps:=10000000) only [go_sem,seval,reduceCtorEq,af,aj,ae,iF,bP,cp,gp,em,gm,d,g0,hw,hF,hl,g5,es]
    repeat' with_reducible first |apply And.intro |apply condP<;>intro _
    all_goals first |(show ar _ _=true;kernel_rfl)|(exact ih _ _ rfl)|assumption |rfl
 ·obtain ⟨i,rfl⟩:∃ i,j=i+1:=⟨j - 1,by omega⟩
  have hn:m.length=i+1:=by omega
  have hm:(m).length=i+1:=by omega
  have dn:(i+1<(m).length)=False:=eq_false (by omega)
  have hl:((eachN F (i+1)).1.flatMap (fun l=>[dA l])).length=(i+1)*1:=by rw [bj (s:=1) (fun _=>rfl),hlen]
  have hdn:fD ((eachN F (i+1)).1.flatMap (fun l=>[dA l]))=some (List.map uN (eachN F (i+1)).1):=by rw [←lD];exact dd rL _
  have hfin:cg uN (eachN F (m.length))= .tup [(false,[.sl true 1 (i+1) (List.map uN (eachN F (i+1)).1)]),(false,[.lit (.int .i64 0)])]:=by
   rw [hn]
   obtain ⟨a,l,e1,e2⟩:=li hI (by omega)
   rw [e1,←e2];rfl
  rw [hfin]
  simp (maxSteps:=10000000) only [go_sem,seval,reduceCtorEq,af,aj,ae,iF,bP,cp,gp,dn,hl,hdn]
  repeat' with_reducible first |apply And.intro |apply condP<;>intro _
  all_goals first |(show ar _ _=true;kernel_rfl)|assumption |rfl |(simp only [go_sem, *]<;>rfl)
theorem GM (m:List (List J)) (z:Int) (c0:rightM m=false):Ct Tryz.prog 48 [bw m,iA z] (·= .tup [(false,[.lit (.slice none 0 0)]),(false,[.lit (.int .i64 1)])]):=by
 refine ak (O:=ai (aF af (aF ae jV))) (by kernel_rfl) ah (fun w=>aa (ab aR (ab av qj)) _ w) [] 600 41 [.tmp 4,.tmp 5] Tryz.func48 rfl Tryz.ntmps48 (by rw [Tryz.results48]) (by simp) rfl (fun hsm=>?_)
 simp (maxSteps:=10000000) only [go_sem,seval,reduceCtorEq,af,ae,jV,c0,bP,cp,eZ,dU,hd1,pick,ax,eo,eY,cr,eI,dt]
 repeat' with_reducible first |apply And.intro |apply condP<;>intro _
 all_goals first |(show ar _ _=true;kernel_rfl)|assumption |rfl |(simp only [go_sem, *]<;>rfl)
theorem GN (m:List (List J)) (z:Int) (c0:rightM m=true) (c1:prb z=false):Ct Tryz.prog 48 [bw m,iA z] (·= .tup [(false,[.lit (.slice none 0 0)]),(false,[.lit (.int .i64 1)])]):=by
 refine ak (O:=ai (aF af (aF ae jV))) (by kernel_rfl) ah (fun w=>aa (ab aR (ab av qj)) _ w) [] 600 41 [.tmp 4,.tmp 5] Tryz.func48 rfl Tryz.ntmps48 (by rw [Tryz.results48]) (by simp) rfl (fun hsm=>?_)
 simp (maxSteps:=10000000) only [go_sem,seval,reduceCtorEq,af,ae,jV,c0,c1,bP,cp,eZ,dU,hd1,pick,ax,eo,eY,cr,eI,dt]
 repeat' with_reducible first |apply And.intro |apply condP<;>intro _
 all_goals first |(show ar _ _=true;kernel_rfl)|assumption |rfl |(simp only [go_sem, *]<;>rfl)
def gg (s0:St) (F:Nat→(List X)×Int):Nat→St
 |0=>s0++[(12,.s (.lit (.slice none 0 0))),(14,iA 0)]
 |j+1=>s0++[(12,.s (.ol 39 (j+1))),(14,iA ((j+1:Nat):Int)),(79,.pre 51 1 ((eachN F (j+1)).1.flatMap (fun l=>[jp l])))]
theorem GO (m:List (List J)) (z:Int) (c0:rightM m=true) (c1:prb z=true):Ct Tryz.prog 48 [bw m,iA z] (·=cg DH (eachN (fun j=>Ht (m.getD j []) z) (m.length))):=by
 refine ak (O:=ai (aF af (aF ae jV))) (by kernel_rfl) ah (fun w=>aa (ab aR (ab av qj)) _ w) [9999999,0,2,8,10,12,14,79] ((m.length+1)*400+400) 41 [.tmp 4,.tmp 5] Tryz.func48 rfl Tryz.ntmps48 (by rw [Tryz.results48]) (by simp) rfl (fun hsm=>?_)
 have hl4:=(aP c0).1
 simp (maxSteps:=10000000) only [go_sem,seval,reduceCtorEq,af,ae,jV,bP,cp,c0,c1]
 generalize hF0:(fun j=>Ht (m.getD j []) z)=F
 have hFj:∀ j,F j=Ht (m.getD j []) z:=fun j=>by rw [←hF0]
 have key:∀ j,(gg [(0,bw m),(2,iA z),(8,.s (.lit (.slice none 0 0))),(10,iA 0)] F j).all (fun p=>bH (gg [(0,bw m),(2,iA z),(8,.s (.lit (.slice none 0 0))),(10,iA 0)] F j) p.2)=true:=fun j=>by
  cases j with
  |zero=>rfl
  |succ j=>simp only [gg,List.cons_append,List.nil_append,List.all_cons,List.all_nil,bH,bx,X.L,J.L,eX (p:=bx _) (Mx _),Bool.and_true];rfl
 refine aL 400 (gg [(0,bw m),(2,iA z),(8,.s (.lit (.slice none 0 0))),(10,iA 0)] F) (m.length) (fun j=>(eachN F j).2=0) 0 (fun j _=>key j) (fun j mm _ hj hI ih=>?_) (by omega) rfl rfl
 clear key
 have hlen:=bq hI
 rcases Nat.lt_or_ge j (m.length) with hlt |hge
 ·have d:=decide_eq_true (show (j:Int)<((m).length:Int) by omega)
  have g0:(0≤(j:Int))=True:=eq_true (by omega)
  have hw:=aN (j:=j) (by omega)
  have em:=eQ (aB [] (show j<m.length by omega))
  have gm:(j<m.length)=True:=eq_true (by omega)
  have hFj:=hFj j
  cases hF:(F j).2 !=0 with
  |true=>
   have hr:=cQ hI hF hlt
   rw [hFj] at hF
   rcases Nat.eq_zero_or_pos j with hj0 |hj0
   ·have hst:gg [(0,bw m),(2,iA z),(8,.s (.lit (.slice none 0 0))),(10,iA 0)] F j=[(0,bw m),(2,iA z),(8,.s (.lit (.slice none 0 0))),(10,iA 0)]++[(12,.s (.lit (.slice none 0 0))),(14,iA (j:Int))]:=by subst hj0;rfl
    rw [hst,hr,hFj]
    simp (maxSteps:=10000000) only [go_sem,seval,reduceCtorEq,af,ae,jV,bP,cp,em,gm,d,g0,hw,hF,cg]
    repeat' with_reducible first |apply And.intro |apply condP<;>intro _
    all_goals first |(show ar _ _=true;kernel_rfl)|assumption |rfl |(simp only [go_sem, *]<;>rfl)
   ·obtain ⟨j,rfl⟩:∃ i,j=i+1:=⟨j - 1,by omega⟩
    have hl:((eachN F (j+1)).1.flatMap (fun l=>[jp l])).length=(j+1)*1:=by rw [bj (s:=1) (fun _=>rfl),hlen]
    rw [hr,hFj]
    simp (maxSteps:=10000000) only [go_sem,seval,reduceCtorEq,af,ae,jV,bP,cp,gg,em,gm,d,g0,hw,hF,hl,cg]
    repeat' with_reducible first |apply And.intro |apply condP<;>intro _
    all_goals first |(show ar _ _=true;kernel_rfl)|assumption |rfl |(simp only [go_sem, *]<;>rfl)
  |false=>
   have hF1:(F j).2=0:=by simpa using hF
   have hkk:=bh hI hF1
   have hk2:(eachN F (j+1)).2=0:=by rw [hkk]
   replace ih:=ih hlt hk2
   have es:(eachN F j).1.flatMap (fun l=>[jp l])++[jp (Ht (m.getD j []) z).1]=(eachN F (j+1)).1.flatMap (fun l=>[jp l]):=by rw [hkk,←fq,hFj]
   rw [hFj] at hF
   rcases Nat.eq_zero_or_pos j with hj0 |hj0
   ·have hst:gg [(0,bw m),(2,iA z),(8,.s (.lit (.slice none 0 0))),(10,iA 0)] F j=[(0,bw m),(2,iA z),(8,.s (.lit (.slice none 0 0))),(10,iA 0)]++[(12,.s (.lit (.slice none 0 0))),(14,iA (j:Int))]:=by subst hj0;rfl
    rw [hst]
    simp (maxSteps:=10000000) only [go_sem,seval,reduceCtorEq,af,ae,jV,bP,cp,em,gm,d,g0,hw,hF]
    repeat' with_reducible first |apply And.intro |apply condP<;>intro _
    all_goals first |(show ar _ _=true;kernel_rfl)|(exact ih _ _ (by subst hj0;rw [gg,←es];rfl))|assumption |rfl
   ·obtain ⟨j,rfl⟩:∃ i,j=i+1:=⟨j - 1,by omega⟩
    have hl:((eachN F (j+1)).1.flatMap (fun l=>[jp l])).length=(j+1)*1:=by rw [bj (s:=1) (fun _=>rfl),hlen]
    have g5:(j+1≤100000)=True:=eq_true (by omega)
    simp (maxSteps:=10000000) only [go_sem,seval,reduceCtorEq,af,ae,jV,bP,cp,gg,em,gm,d,g0,hw,hF,hl,g5,es]
    repeat' with_reducible first |apply And.intro |apply condP<;>intro _
    all_goals first |(show ar _ _=true;kernel_rfl)|(exact ih _ _ rfl)|assumption |rfl
 ·obtain ⟨i,rfl⟩:∃ i,j=i+1:=⟨j - 1,by omega⟩
  have hn:m.length=i+1:=by omega
  have hm:(m).length=i+1:=by omega
  have dn:(i+1<(m).length)=False:=eq_false (by omega)
  have hl:((eachN F (i+1)).1.flatMap (fun l=>[jp l])).length=(i+1)*1:=by rw [bj (s:=1) (fun _=>rfl),hlen]
  have hdn:fD ((eachN F (i+1)).1.flatMap (fun l=>[jp l]))=some (List.map DH (eachN F (i+1)).1):=by rw [←lD];exact dd AY _
  have hfin:cg DH (eachN F (m.length))= .tup [(false,[.sl true 1 (i+1) (List.map DH (eachN F (i+1)).1)]),(false,[.lit (.int .i64 0)])]:=by
   rw [hn]
   obtain ⟨a,l,e1,e2⟩:=li hI (by omega)
   rw [e1,←e2];rfl
  rw [hfin]
  simp (maxSteps:=10000000) only [go_sem,seval,reduceCtorEq,af,ae,jV,bP,cp,gg,dn,hl,hdn]
  repeat' with_reducible first |apply And.intro |apply condP<;>intro _
  all_goals first |(show ar _ _=true;kernel_rfl)|assumption |rfl |(simp only [go_sem, *]<;>rfl)
theorem Hd (m:List (List J)) (b:List J) (z:Int) (c0:rightM m=false):Ct Tryz.prog 47 [bw m,bv b,iA z] (·= .tup [(false,[.lit (.slice none 0 0)]),(false,[.lit (.int .i64 1)])]):=by
 refine ak (O:=ai (aF af (aF an (aF ae bE)))) (by kernel_rfl) ah (fun w=>aa (ab aR (ab bc (ab av fe))) _ w) [] 600 56 [.tmp 6,.tmp 7] Tryz.func47 rfl Tryz.ntmps47 (by rw [Tryz.results47]) (by simp) rfl (fun hsm=>?_)
 simp (maxSteps:=10000000) only [go_sem,seval,reduceCtorEq,af,an,ae,bE,c0,bP,cp,eZ,dU,hd1,pick,ax,eo,eY,cr,eI,dt]
 repeat' with_reducible first |apply And.intro |apply condP<;>intro _
 all_goals first |(show ar _ _=true;kernel_rfl)|assumption |rfl |(simp only [go_sem, *]<;>rfl)
theorem He (m:List (List J)) (b:List J) (z:Int) (c0:rightM m=true) (c1:rightB b=false):Ct Tryz.prog 47 [bw m,bv b,iA z] (·= .tup [(false,[.lit (.slice none 0 0)]),(false,[.lit (.int .i64 1)])]):=by
 refine ak (O:=ai (aF af (aF an (aF ae bE)))) (by kernel_rfl) ah (fun w=>aa (ab aR (ab bc (ab av fe))) _ w) [] 600 56 [.tmp 6,.tmp 7] Tryz.func47 rfl Tryz.ntmps47 (by rw [Tryz.results47]) (by simp) rfl (fun hsm=>?_)
 simp (maxSteps:=10000000) only [go_sem,seval,reduceCtorEq,af,an,ae,bE,c0,c1,bP,cp,eZ,dU,hd1,pick,ax,eo,eY,cr,eI,dt]
 repeat' with_reducible first |apply And.intro |apply condP<;>intro _
 all_goals first |(show ar _ _=true;kernel_rfl)|assumption |rfl |(simp only [go_sem, *]<;>rfl)
theorem Hf (m:List (List J)) (b:List J) (z:Int) (c0:rightM m=true) (c1:rightB b=true) (c2:((m.length:Int)!=(b.length:Int))=true):Ct Tryz.prog 47 [bw m,bv b,iA z] (·= .tup [(false,[.lit (.slice none 0 0)]),(false,[.lit (.int .i64 1)])]):=by
 refine ak (O:=ai (aF af (aF an (aF ae bE)))) (by kernel_rfl) ah (fun w=>aa (ab aR (ab bc (ab av fe))) _ w) [] 600 56 [.tmp 6,.tmp 7] Tryz.func47 rfl Tryz.ntmps47 (by rw [Tryz.results47]) (by simp) rfl (fun hsm=>?_)
 simp (maxSteps:=10000000) only [go_sem,seval,reduceCtorEq,af,an,ae,bE,c0,c1,c2,bP,cp,eZ,dU,hd1,pick,ax,eo,eY,cr,eI,dt]
 repeat' with_reducible first |apply And.intro |apply condP<;>intro _
 all_goals first |(show ar _ _=true;kernel_rfl)|assumption |rfl |(simp only [go_sem, *]<;>rfl)
theorem Hg (m:List (List J)) (b:List J) (z:Int) (c0:rightM m=true) (c1:rightB b=true) (c2:((m.length:Int)!=(b.length:Int))=false) (c3:prb z=false):Ct Tryz.prog 47 [bw m,bv b,iA z] (·= .tup [(false,[.lit (.slice none 0 0)]),(false,[.lit (.int .i64 1)])]):=by
 refine ak (O:=ai (aF af (aF an (aF ae bE)))) (by kernel_rfl) ah (fun w=>aa (ab aR (ab bc (ab av fe))) _ w) [] 600 56 [.tmp 6,.tmp 7] Tryz.func47 rfl Tryz.ntmps47 (by rw [Tryz.results47]) (by simp) rfl (fun hsm=>?_)
 simp (maxSteps:=10000000) only [go_sem,seval,reduceCtorEq,af,an,ae,bE,c0,c1,c2,c3,bP,cp,eZ,dU,hd1,pick,ax,eo,eY,cr,eI,dt]
 repeat' with_reducible first |apply And.intro |apply condP<;>intro _
 all_goals first |(show ar _ _=true;kernel_rfl)|assumption |rfl |(simp only [go_sem, *]<;>rfl)
def gq (s0:St) (F:Nat→J×Int):Nat→St
 |0=>s0++[(16,.s (.lit (.slice none 0 0))),(18,iA 0)]
 |j+1=>s0++[(16,.s (.ol 54 (j+1))),(18,iA ((j+1:Nat):Int)),(109,.pre 32 6 ((eachN F (j+1)).1.flatMap J.L))]
theorem Hh (m:List (List J)) (b:List J) (z:Int) (c0:rightM m=true) (c1:rightB b=true) (c2:((m.length:Int)!=(b.length:Int))=false) (c3:prb z=true):Ct Tryz.prog 47 [bw m,bv b,iA z] (·=bP (eachN (fun j=>ic (m.getD j []) b z) (m.length))):=by
 refine ak (O:=ai (aF af (aF an (aF ae bE)))) (by kernel_rfl) ah (fun w=>aa (ab aR (ab bc (ab av fe))) _ w) [9999999,0,2,4,12,14,16,18,109] ((m.length+1)*400+400) 56 [.tmp 6,.tmp 7] Tryz.func47 rfl Tryz.ntmps47 (by rw [Tryz.results47]) (by simp) rfl (fun hsm=>?_)
 have hl4:=(aP c0).1
 have hm2:b.length=m.length:=by have:=bne_eq_false_iff_eq.1 c2;omega
 simp (maxSteps:=10000000) only [go_sem,seval,reduceCtorEq,af,an,ae,bE,c0,c1,c2,c3]
 generalize hF0:(fun j=>ic (m.getD j []) b z)=F
 have hFj:∀ j,F j=ic (m.getD j []) b z:=fun j=>by rw [←hF0]
 have key:∀ j,(gq [(0,bw m),(2,bv b),(4,iA z),(12,.s (.lit (.slice none 0 0))),(14,iA 0)] F j).all (fun p=>bH (gq [(0,bw m),(2,bv b),(4,iA z),(12,.s (.lit (.slice none 0 0))),(14,iA 0)] F j) p.2)=true:=fun j=>by
  cases j with
  |zero=>rfl
  |succ j=>simp only [gq,List.cons_append,List.nil_append,List.all_cons,List.all_nil,bH,bx,X.L,J.L,eX (p:=bx _) (rn _),Bool.and_true];rfl
 refine aL 400 (gq [(0,bw m),(2,bv b),(4,iA z),(12,.s (.lit (.slice none 0 0))),(14,iA 0)] F) (m.length) (fun j=>(eachN F j).2=0) 0 (fun j _=>key j) (fun j mm _ hj hI ih=>?_) (by omega) rfl rfl
 clear key
 have hlen:=bq hI
 rcases Nat.lt_or_ge j (m.length) with hlt |hge
 ·have d:=decide_eq_true (show (j:Int)<((m).length:Int) by omega)
  have g0:(0≤(j:Int))=True:=eq_true (by omega)
  have hw:=aN (j:=j) (by omega)
  have em:=eQ (aB [] (show j<m.length by omega))
  have gm:(j<m.length)=True:=eq_true (by omega)
  have q1:(m.getD j []).length≤b.length:=by have:=(aP c0).2.row (i:=j) (by omega);omega
  have q2:(m.getD j []).length≤1000:=by omega
  have hFj:=hFj j
  cases hF:(F j).2 !=0 with
  |true=>
   have hr:=cQ hI hF hlt
   rw [hFj] at hF
   rcases Nat.eq_zero_or_pos j with hj0 |hj0
   ·have hst:gq [(0,bw m),(2,bv b),(4,iA z),(12,.s (.lit (.slice none 0 0))),(14,iA 0)] F j=[(0,bw m),(2,bv b),(4,iA z),(12,.s (.lit (.slice none 0 0))),(14,iA 0)]++[(16,.s (.lit (.slice none 0 0))),(18,iA (j:Int))]:=by subst hj0;rfl
    rw [hst,hr,hFj]
    simp (maxSteps:=10000000) only [go_sem,seval,reduceCtorEq,af,an,ae,bE,em,gm,d,g0,hw,hF,cg]
    repeat' with_reducible first |apply And.intro |apply condP<;>intro _
    all_goals first |(show ar _ _=true;kernel_rfl)|assumption |rfl |(simp only [go_sem, *]<;>rfl)
   ·obtain ⟨j,rfl⟩:∃ i,j=i+1:=⟨j - 1,by omega⟩
    have hl:((eachN F (j+1)).1.flatMap J.L).length=(j+1)*6:=by rw [bj (s:=6) (fun _=>rfl),hlen]
    rw [hr,hFj]
    simp (maxSteps:=10000000) only [go_sem,seval,reduceCtorEq,af,an,ae,bE,gq,em,gm,d,g0,hw,hF,hl,cg]
    repeat' with_reducible first |apply And.intro |apply condP<;>intro _
    all_goals first |(show ar _ _=true;kernel_rfl)|assumption |rfl |(simp only [go_sem, *]<;>rfl)
  |false=>
   have hF1:(F j).2=0:=by simpa using hF
   have hkk:=bh hI hF1
   have hk2:(eachN F (j+1)).2=0:=by rw [hkk]
   replace ih:=ih hlt hk2
   have es:(eachN F j).1.flatMap J.L++[.lit (.bool (ic (m.getD j []) b z).1.lo.s),.lit (.int .i64 (ic (m.getD j []) b z).1.lo.e),.ws (ic (m.getD j []) b z).1.lo.xs,.lit (.bool (ic (m.getD j []) b z).1.hi.s),.lit (.int .i64 (ic (m.getD j []) b z).1.hi.e),.ws (ic (m.getD j []) b z).1.hi.xs]=(eachN F (j+1)).1.flatMap J.L:=by rw [hkk,←fq,hFj];rfl
   rw [hFj] at hF
   rcases Nat.eq_zero_or_pos j with hj0 |hj0
   ·have hst:gq [(0,bw m),(2,bv b),(4,iA z),(12,.s (.lit (.slice none 0 0))),(14,iA 0)] F j=[(0,bw m),(2,bv b),(4,iA z),(12,.s (.lit (.slice none 0 0))),(14,iA 0)]++[(16,.s (.lit (.slice none 0 0))),(18,iA (j:Int))]:=by subst hj0;rfl
    rw [hst]
    simp (maxSteps:=10000000) only [go_sem,seval,reduceCtorEq,af,an,ae,bE,em,gm,d,g0,hw,hF]
    repeat' with_reducible first |apply And.intro |apply condP<;>intro _
    all_goals first |(show ar _ _=true;kernel_rfl)|(exact ih _ _ (by subst hj0;rw [gq,←es];rfl))|assumption |rfl
   ·obtain ⟨j,rfl⟩:∃ i,j=i+1:=⟨j - 1,by omega⟩
    have hl:((eachN F (j+1)).1.flatMap J.L).length=(j+1)*6:=by rw [bj (s:=6) (fun _=>rfl),hlen]
    have g5:(j+1≤100000)=True:=eq_true (by omega)
    simp (maxSteps:=10000000) only [go_sem,seval,reduceCtorEq,af,an,ae,bE,gq,em,gm,d,g0,hw,hF,hl,g5,es]
    repeat' with_reducible first |apply And.intro |apply condP<;>intro _
    all_goals first |(show ar _ _=true;kernel_rfl)|(exact ih _ _ rfl)|assumption |rfl
 ·obtain ⟨i,rfl⟩:∃ i,j=i+1:=⟨j - 1,by omega⟩
  have hn:m.length=i+1:=by omega
  have hm:(m).length=i+1:=by omega
  have dn:(i+1<(m).length)=False:=eq_false (by omega)
  have hl:((eachN F (i+1)).1.flatMap J.L).length=(i+1)*6:=by rw [bj (s:=6) (fun _=>rfl),hlen]
  have hdn:fD ((eachN F (i+1)).1.flatMap J.L)=some (bC (eachN F (i+1)).1):=by exact dd oK _
  have hfin:bP (eachN F (m.length))= .tup [(false,[.sl true 6 (i+1) (bC (eachN F (i+1)).1)]),(false,[.lit (.int .i64 0)])]:=by
   rw [hn]
   obtain ⟨a,l,e1,e2⟩:=li hI (by omega)
   rw [e1,←e2];rfl
  rw [hfin]
  simp (maxSteps:=10000000) only [go_sem,seval,reduceCtorEq,af,an,ae,bE,gq,dn,hl,hdn]
  repeat' with_reducible first |apply And.intro |apply condP<;>intro _
  all_goals first |(show ar _ _=true;kernel_rfl)|assumption |rfl |(simp only [go_sem, *]<;>rfl)
noncomputable def OX (k:Int) (a b:List (List J)) (z:Int):List (List J)×Int:=fL (rightM a) (fL (rightM b) (fL (!((a.length:Int)!=(b.length:Int))) (fL (prb z) (eachN (fun j=>Ek k (a.getD j []) (b.getD j []) z) a.length))))
noncomputable def Pt (x:J) (m:List (List J)) (z:Int):List (List J)×Int:=fL (rightM m) (fL (okJ x) (fL (prb z) (eachN (fun j=>En x (m.getD j []) z) m.length)))
noncomputable def OI (m:List (List J)) (z:Int):List (List X)×Int:=fL (rightM m) (fL (prb z) (eachN (fun j=>Ht (m.getD j []) z) m.length))
noncomputable def Pz (m:List (List J)) (b:List J) (z:Int):List J×Int:=fL (rightM m) (fL (rightB b) (fL (!((m.length:Int)!=(b.length:Int))) (fL (prb z) (eachN (fun j=>ic (m.getD j []) b z) m.length))))
theorem Q4 (k:Int) (a b:List (List J)) (z:Int) (hk:k=0∨k=1∨k=2):Ct Tryz.prog 44 [iA k,bw a,bw b,iA z] (·=cg uN (OX k a b z)):=by
 unfold OX
 rcases Bool.eq_false_or_eq_true (rightM a) with c0 |c0
 case inr=>rw [eL c0];exact GY k a b z c0
 rcases Bool.eq_false_or_eq_true (rightM b) with c1 |c1
 case inr=>rw [aY c0,eL c1];exact GZ k a b z c0 c1
 rcases Bool.eq_false_or_eq_true ((a.length:Int)!=(b.length:Int)) with c2 |c2
 case inl=>rw [aY c0,aY c1,eL (KZ c2)];exact G3 k a b z c0 c1 c2
 rcases Bool.eq_false_or_eq_true (prb z) with c3 |c3
 case inr=>rw [aY c0,aY c1,aY (xX c2),eL c3];exact G4 k a b z c0 c1 c2 c3
 rw [aY c0,aY c1,aY (xX c2),aY c3]
 exact G5 k a b z c0 c1 c2 c3 hk
theorem Q5 (x:J) (m:List (List J)) (z:Int):Ct Tryz.prog 46 [jA x,bw m,iA z] (·=cg uN (Pt x m z)):=by
 unfold Pt
 rcases Bool.eq_false_or_eq_true (rightM m) with c0 |c0
 case inr=>rw [eL c0];exact G8 x m z c0
 rcases Bool.eq_false_or_eq_true (okJ x) with c1 |c1
 case inr=>rw [aY c0,eL c1];exact G9 x m z c0 c1
 rcases Bool.eq_false_or_eq_true (prb z) with c2 |c2
 case inr=>rw [aY c0,aY c1,eL c2];exact Ha x m z c0 c1 c2
 rw [aY c0,aY c1,aY c2]
 exact Hb x m z c0 c1 c2
theorem Q1 (m:List (List J)) (z:Int):Ct Tryz.prog 48 [bw m,iA z] (·=cg DH (OI m z)):=by
 unfold OI
 rcases Bool.eq_false_or_eq_true (rightM m) with c0 |c0
 case inr=>rw [eL c0];exact GM m z c0
 rcases Bool.eq_false_or_eq_true (prb z) with c1 |c1
 case inr=>rw [aY c0,eL c1];exact GN m z c0 c1
 rw [aY c0,aY c1]
 exact GO m z c0 c1
theorem Q6 (m:List (List J)) (b:List J) (z:Int):Ct Tryz.prog 47 [bw m,bv b,iA z] (·=bP (Pz m b z)):=by
 unfold Pz
 rcases Bool.eq_false_or_eq_true (rightM m) with c0 |c0
 case inr=>rw [eL c0];exact Hd m b z c0
 rcases Bool.eq_false_or_eq_true (rightB b) with c1 |c1
 case inr=>rw [aY c0,eL c1];exact He m b z c0 c1
 rcases Bool.eq_false_or_eq_true ((m.length:Int)!=(b.length:Int)) with c2 |c2
 case inl=>rw [aY c0,aY c1,eL (KZ c2)];exact Hf m b z c0 c1 c2
 rcases Bool.eq_false_or_eq_true (prb z) with c3 |c3
 case inr=>rw [aY c0,aY c1,aY (xX c2),eL c3];exact Hg m b z c0 c1 c2 c3
 rw [aY c0,aY c1,aY (xX c2),aY c3]
 exact Hh m b z c0 c1 c2 c3
noncomputable def yS:b9:=one 44 (gA jd fun k=>gA kU fun a=>gA kU fun b=>gA jd fun z=>gE (k=0∨k=1∨k=2,oz (OX k a b z)))
theorem Cb:TbOK Tryz.prog yS:=bI (aX Tryz.func44 (by kernel_rfl) rfl) (.a bK fun k=>.a bi fun a=>.a bi fun b=>.a bK fun z=>.e fun h=>(Q4 k a b z h).wk (vO _))
noncomputable def yU:b9:=one 46 (gA ki fun x=>gA kU fun m=>gA jd fun z=>gE (True,oz (Pt x m z)))
theorem Cc:TbOK Tryz.prog yU:=bI (aX Tryz.func46 (by kernel_rfl) rfl) (.a nU fun x=>.a bi fun m=>.a bK fun z=>.e fun _=>(Q5 x m z).wk (vO _))
noncomputable def yP:b9:=one 48 (gA kU fun m=>gA jd fun z=>gE (True,MG (OI m z)))
theorem B0:TbOK Tryz.prog yP:=bI (aX Tryz.func48 (by kernel_rfl) rfl) (.a bi fun m=>.a bK fun z=>.e fun _=>(Q1 m z).wk (Ba _))
noncomputable def yV:b9:=one 47 (gA kU fun m=>gA jC fun b=>gA jd fun z=>gE (True,bP (Pz m b z)))
theorem Cd:TbOK Tryz.prog yV:=bI (aX Tryz.func47 (by kernel_rfl) rfl) (.a bi fun m=>.a dB fun b=>.a bK fun z=>.e fun _=>Q6 m b z)
def iK (m:List (List J)) (i:Nat):List J:=(eachN (fun j=>(bS m j i,0)) m.length).1
theorem Gb {α:Type} {G:Nat→α} (n:Nat):(eachN (fun j=>(G j,0)) n).2=0:=CG fun _ _=>rfl
theorem sC (m:List (List J)) (i:Nat):(iK m i).length=m.length:=bq (Gb _)
theorem F0 {m:List (List J)} {i k:Nat} (h:k<m.length):(iK m i).getD k zJ=bS m k i:=by
 have:=(CI (F:=fun j=>(bS m j i,0)) (Gb m.length) k h).2
 unfold iK
 rw [List.getD_eq_getElem?_getD,this];rfl
def qS (s0:St) (G:Nat→J):Nat→St
 |0=>s0++[(10,.s (.lit (.slice none 0 0))),(12,iA 0)]
 |j+1=>s0++[(10,.s (.ol 22 (j+1))),(12,iA ((j+1:Nat):Int)),(45,.pre 32 6 ((eachN (fun j=>(G j,0)) (j+1)).1.flatMap J.L))]
theorem OG (m:List (List J)) (i:Nat) (h1:1≤m.length) (h2:m.length≤1000) (hr:∀ r∈m,i<r.length):Ct Tryz.prog 105 [bw m,iA (i:Int)] (·= .s (.sl true 6 m.length (bC (iK m i)))):=by
 refine ak (O:=ai eJ) (by kernel_rfl) ah (fun w=>aa bk _ w) [9999999,0,2,8,10,12,45] ((m.length+1)*400+200) 24 [.tmp 4] Tryz.func105 rfl Tryz.ntmps105 (by rw [Tryz.results105]) (by simp) rfl (fun hsm=>?_)
 simp (maxSteps:=10000000) only [go_sem,seval,reduceCtorEq]
 generalize hG0:(fun j=>bS m j i)=G
 have hGj:∀ j,G j=bS m j i:=fun j=>by rw [←hG0]
 have hcol:iK m i=(eachN (fun j=>(G j,0)) m.length).1:=by rw [←hG0];rfl
 rw [hcol]
 refine aL 400 (qS [(0,bw m),(2,iA (i:Int)),(8,.s (.lit (.slice none 0 0)))] G) m.length (fun j=>True) 0 (fun j _=>by cases j with
  |zero=>rfl
  |succ j=>simp only [qS,List.cons_append,List.nil_append,List.all_cons,List.all_nil,bH,bx,eX (p:=bx _) (rn _),Bool.and_true];rfl) (fun j mm _ hj _ ih=>?_) (by omega) trivial rfl
 have hI:=Gb (G:=G) j
 have hlen:=bq hI
 rcases Nat.lt_or_ge j m.length with hlt |hge
 ·have em:=eQ (aB [] hlt)
  have er:List.take 6 (List.drop (i*6) (bC (m.getD j [])))=[.lit (.bool (bS m j i).lo.s),.lit (.int .i64 (bS m j i).lo.e),.ws (bS m j i).lo.xs,.lit (.bool (bS m j i).hi.s),.lit (.int .i64 (bS m j i).hi.e),.ws (bS m j i).hi.xs]:=eg (aB zJ (hr _ (List.mem_of_getElem? (aB [] hlt))))
  have gr:(i<(m.getD j []).length)=True:=eq_true (hr _ (List.mem_of_getElem? (aB [] hlt)))
  have gi:(0≤(i:Int))=True:=eq_true (by omega)
  have gm:(j<m.length)=True:=eq_true hlt
  have d:=decide_eq_true (show (j:Int)<(m.length:Int) by omega)
  have g0:(0≤(j:Int))=True:=eq_true (by omega)
  have hw:=aN (j:=j) (by omega)
  have hk:=bh (F:=fun j=>(G j,0)) hI rfl
  have es:(eachN (fun j=>(G j,0)) j).1.flatMap J.L++[.lit (.bool (bS m j i).lo.s),.lit (.int .i64 (bS m j i).lo.e),.ws (bS m j i).lo.xs,.lit (.bool (bS m j i).hi.s),.lit (.int .i64 (bS m j i).hi.e),.ws (bS m j i).hi.xs]=(eachN (fun j=>(G j,0)) (j+1)).1.flatMap J.L:=by rw [hk,←fq,hGj];rfl
  replace ih:=ih hlt trivial
  rcases Nat.eq_zero_or_pos j with hj0 |hj0
  ·have hst:qS [(0,bw m),(2,iA (i:Int)),(8,.s (.lit (.slice none 0 0)))] G j=[(0,bw m),(2,iA (i:Int)),(8,.s (.lit (.slice none 0 0)))]++[(10,.s (.lit (.slice none 0 0))),(12,iA (j:Int))]:=by subst hj0;rfl
   rw [hst]
   simp (maxSteps:=10000000) only [go_sem,seval,reduceCtorEq,em,er,gr,gi,gm,d,g0,hw]
   repeat' with_reducible first |apply And.intro |apply condP<;>intro _
   all_goals first |(show ar _ _=true;kernel_rfl)|(exact ih _ _ (by subst hj0;rw [qS,←es];rfl))|assumption |rfl
  ·obtain ⟨j,rfl⟩:∃ i,j=i+1:=⟨j - 1,by omega⟩
   have hl:((eachN (fun j=>(G j,0)) (j+1)).1.flatMap J.L).length=(j+1)*6:=by rw [bj (s:=6) (fun _=>rfl),hlen]
   have g5:(j+1≤100000)=True:=eq_true (by omega)
   simp (maxSteps:=10000000) only [go_sem,seval,reduceCtorEq,qS,em,er,gr,gi,gm,d,g0,hw,hl,g5,es]
   repeat' with_reducible first |apply And.intro |apply condP<;>intro _
   all_goals first |(show ar _ _=true;kernel_rfl)|(exact ih _ _ rfl)|assumption |rfl
 ·obtain ⟨n,rfl⟩:∃ i,j=i+1:=⟨j - 1,by omega⟩
  have hn:m.length=n+1:=by omega
  have dn:(n+1<m.length)=False:=eq_false (by omega)
  have hl:((eachN (fun j=>(G j,0)) (n+1)).1.flatMap J.L).length=(n+1)*6:=by rw [bj (s:=6) (fun _=>rfl),hlen]
  have hdn:fD ((eachN (fun j=>(G j,0)) (n+1)).1.flatMap J.L)=some (bC (eachN (fun j=>(G j,0)) (n+1)).1):=dd oK _
  rw [hn]
  simp (maxSteps:=10000000) only [go_sem,seval,reduceCtorEq,qS,dn,hl,hdn]
  repeat' with_reducible first |apply And.intro |apply condP<;>intro _
  all_goals first |(show ar _ _=true;kernel_rfl)|assumption |rfl |(simp only [go_sem, *]<;>rfl)
end
section
attribute [local go_sem] lj nN ou fJ gA gE jd yK ki oy jH jI j8 j9 ite_self fN mo cm jh lF bT kQ
abbrev yL:List J→List Lf:=fun r=>[.sl true 6 r.length (bC r)]
abbrev oA (a b:List (List J)) (z:Int):St:=[(0,bw a),(2,bw b),(4,iA z),(12,.s (.lit (.slice none 0 0))),(14,iA 0)]
def IF (s0:St) (F:Nat→List J×Int):Nat→St
 |0=>s0++[(16,.s (.lit (.slice none 0 0))),(18,iA 0)]
 |i+1=>s0++[(16,.s (.ol 68 (i+1))),(18,iA ((i+1:Nat):Int)),(137,.pre 34 1 ((eachN F (i+1)).1.flatMap yL))]
def tC (s1 s2:St) (G:Nat→J×Int):Nat→St
 |0=>s1++((20,.s (.lit (.slice none 0 0)))::(22,iA 0)::s2)
 |j+1=>s1++((20,.s (.ol 64 (j+1)))::(22,iA ((j+1:Nat):Int))::(s2++[(129,.pre 32 6 ((eachN G (j+1)).1.flatMap J.L))]))
theorem Ny (l:List (List J)):(l.flatMap yL).all Sn=true:=eX (fun _=>rfl) l
theorem BM {a b:List (List J)} {z:Int} {F:Nat→List J×Int} {i n k:Nat} {C cells:List Lf} (hk:k=i+1) (hI:(eachN F i).2=0) (hF:(F i).2=0) (hn:(F i).1.length=n) (hC:C=(eachN F i).1.flatMap yL) (hc:cells=(F i).1.flatMap J.L):eY 64 (oA a b z++[(16,.s (.ol 68 k)),(18,iA ((i+1:Nat):Int)),(137,.pre 34 1 (C++[.ol 64 n])),(129,.pre 32 6 cells)])=IF (oA a b z) F (i+1):=by
 subst hk
 have hd:fD cells=some (bC (F i).1):=by rw [hc];exact dd oK _
 have hl:cells.length=n*6:=by rw [hc,bj (s:=6) (fun _=>rfl),hn]
 unfold eY
 generalize hs:(oA a b z++[(16,.s (.ol 68 (i+1))),(18,iA ((i+1:Nat):Int)),(137,.pre 34 1 (C++[.ol 64 n])),(129,.pre 32 6 cells)]:St)=st
 have hk:look st (2*64+1)=some (.pre 32 6 cells):=by rw [←hs];rfl
 rw [hk]
 simp only [hd]
 have ho:outL st (.ol 64 n)= .sl true 6 n (bC (F i).1):=by
  show (match look st (2*64+1) with
   |some (AV.pre _ sz ls)=>(match fD ls with
    |some ls'=>if ls.length=n*sz then Lf.sl true sz n ls' else Lf.ol 64 n
    |none=>Lf.ol 64 n)
   |_=>Lf.ol 64 n)=_
  rw [hk]
  simp only [hd,hl,if_true]
 have f1:=Gm (b:=64) (st:=st) (Ny (eachN F i).1)
 have key:eI 64 st (.pre 34 1 (C++[.ol 64 n]))= .pre 34 1 ((eachN F (i+1)).1.flatMap yL):=by
  show AV.pre _ _ (List.map (dt 64 st) _)=_
  rw [hC,List.map_append,f1,List.map_cons,List.map_nil,bh hI hF,List.flatMap_append,List.flatMap_cons,List.flatMap_nil,List.append_nil]
  rw [show dt 64 st (.ol 64 n)=outL st (.ol 64 n) from rfl,ho,←hn]
 rw [←hs]
 show (0,_)::(2,_)::(4,_)::(12,_)::(14,_)::(16,_)::(18,_)::(137,eI 64 _ _)::[]=_
 rw [hs,key]
 rfl
theorem JV (x:List (List J)×Int):Ng (cg rC x) (oz x):=by
 obtain ⟨l,e⟩:=x
 cases l with
 |nil=>exact iq (fun _ _ _ _ h=>jm h) rfl
 |cons a l=>exact iq (fun _ _ _ _ h=>h) rfl
theorem Ks (m:List (List J)) (i:Nat) (h1:1≤m.length) (h2:m.length≤1000) (hr:∀ r∈m,i<r.length):Ct Tryz.prog 105 [bw m,iA (i:Int)] (·= .s (.sl true 6 (iK m i).length (bC (iK m i)))):=by
 rw [sC];exact OG m i h1 h2 hr
noncomputable def cj:b9:=one 105 (gA kU fun m=>gA jd fun z=>gE (0≤z∧1≤m.length∧m.length≤1000∧∀ r∈m,z<(r.length:Int),.s (.sl true 6 (iK m z.toNat).length (bC (iK m z.toNat)))))
theorem kF:TbOK Tryz.prog cj:=bI (aX Tryz.func105 (by kernel_rfl) rfl) (.a bi fun m=>.a bK fun z=>.e fun h=>by
 obtain ⟨h0,h1,h2,h3⟩:=h
 obtain ⟨i,rfl⟩:∃ i:Nat,z=(i:Int):=⟨z.toNat,by omega⟩
 exact Ks m i h1 h2 fun r hr=>by have:=h3 r hr;omega)
theorem GP (a b:List (List J)) (z:Int) (c0:rightM a=false):Ct Tryz.prog 45 [bw a,bw b,iA z] (·= .tup [(false,[.lit (.slice none 0 0)]),(false,[.lit (.int .i64 1)])]):=by
 refine ak (O:=ai (aF af (aF ae (aF cj bE)))) (by kernel_rfl) ah (fun w=>aa (ab aR (ab av (ab kF fe))) _ w) [] 600 70 [.tmp 6,.tmp 7] Tryz.func45 rfl Tryz.ntmps45 (by rw [Tryz.results45]) (by simp) rfl (fun hsm=>?_)
 simp (maxSteps:=10000000) only [go_sem,seval,reduceCtorEq,af,ae,cj,bE,c0,bP,cp,eZ,dU,hd1,pick,ax,eo,eY,cr,eI,dt]
 repeat' with_reducible first |apply And.intro |apply condP<;>intro _
 all_goals first |(show ar _ _=true;kernel_rfl)|assumption |rfl |(simp only [go_sem, *]<;>rfl)
theorem GQ (a b:List (List J)) (z:Int) (c0:rightM a=true) (c1:rightM b=false):Ct Tryz.prog 45 [bw a,bw b,iA z] (·= .tup [(false,[.lit (.slice none 0 0)]),(false,[.lit (.int .i64 1)])]):=by
 refine ak (O:=ai (aF af (aF ae (aF cj bE)))) (by kernel_rfl) ah (fun w=>aa (ab aR (ab av (ab kF fe))) _ w) [] 600 70 [.tmp 6,.tmp 7] Tryz.func45 rfl Tryz.ntmps45 (by rw [Tryz.results45]) (by simp) rfl (fun hsm=>?_)
 simp (maxSteps:=10000000) only [go_sem,seval,reduceCtorEq,af,ae,cj,bE,c0,c1,bP,cp,eZ,dU,hd1,pick,ax,eo,eY,cr,eI,dt]
 repeat' with_reducible first |apply And.intro |apply condP<;>intro _
 all_goals first |(show ar _ _=true;kernel_rfl)|assumption |rfl |(simp only [go_sem, *]<;>rfl)
theorem GR (a b:List (List J)) (z:Int) (c0:rightM a=true) (c1:rightM b=true) (c2:((a.length:Int)!=(b.length:Int))=true):Ct Tryz.prog 45 [bw a,bw b,iA z] (·= .tup [(false,[.lit (.slice none 0 0)]),(false,[.lit (.int .i64 1)])]):=by
 refine ak (O:=ai (aF af (aF ae (aF cj bE)))) (by kernel_rfl) ah (fun w=>aa (ab aR (ab av (ab kF fe))) _ w) [] 600 70 [.tmp 6,.tmp 7] Tryz.func45 rfl Tryz.ntmps45 (by rw [Tryz.results45]) (by simp) rfl (fun hsm=>?_)
 simp (maxSteps:=10000000) only [go_sem,seval,reduceCtorEq,af,ae,cj,bE,c0,c1,c2,bP,cp,eZ,dU,hd1,pick,ax,eo,eY,cr,eI,dt]
 repeat' with_reducible first |apply And.intro |apply condP<;>intro _
 all_goals first |(show ar _ _=true;kernel_rfl)|assumption |rfl |(simp only [go_sem, *]<;>rfl)
theorem GS (a b:List (List J)) (z:Int) (c0:rightM a=true) (c1:rightM b=true) (c2:((a.length:Int)!=(b.length:Int))=false) (c3:prb z=false):Ct Tryz.prog 45 [bw a,bw b,iA z] (·= .tup [(false,[.lit (.slice none 0 0)]),(false,[.lit (.int .i64 1)])]):=by
 refine ak (O:=ai (aF af (aF ae (aF cj bE)))) (by kernel_rfl) ah (fun w=>aa (ab aR (ab av (ab kF fe))) _ w) [] 600 70 [.tmp 6,.tmp 7] Tryz.func45 rfl Tryz.ntmps45 (by rw [Tryz.results45]) (by simp) rfl (fun hsm=>?_)
 simp (maxSteps:=10000000) only [go_sem,seval,reduceCtorEq,af,ae,cj,bE,c0,c1,c2,c3,bP,cp,eZ,dU,hd1,pick,ax,eo,eY,cr,eI,dt]
 repeat' with_reducible first |apply And.intro |apply condP<;>intro _
 all_goals first |(show ar _ _=true;kernel_rfl)|assumption |rfl |(simp only [go_sem, *]<;>rfl)
theorem GT (a b:List (List J)) (z:Int) (c0:rightM a=true) (c1:rightM b=true) (c2:((a.length:Int)!=(b.length:Int))=false) (c3:prb z=true):Ct Tryz.prog 45 [bw a,bw b,iA z] (·=cg rC (eachN (fun i=>eachN (fun j=>ic (a.getD i []) (iK b j) z) a.length) a.length)):=by
 refine ak (O:=ai (aF af (aF ae (aF cj bE)))) (by kernel_rfl) ah (fun w=>aa (ab aR (ab av (ab kF fe))) _ w) [9999997,78,12,9999998,64,9999999,0,2,4,12,14,16,18,137,129,9999999,0,2,4,12,14,16,18,20,22,137,129] ((a.length+1)*4000+400) 70 [.tmp 6,.tmp 7] Tryz.func45 rfl Tryz.ntmps45 (by rw [Tryz.results45]) (by simp) rfl (fun hsm=>?_)
 have hl4:=(aP c0).1
 have hm2:b.length=a.length:=by have:=bne_eq_false_iff_eq.1 c2;omega
 simp (maxSteps:=10000000) only [go_sem,seval,reduceCtorEq,af,ae,cj,bE,c0,c1,c2,c3]
 generalize hF0:(fun i=>eachN (fun j=>ic (a.getD i []) (iK b j) z) a.length)=F
 refine aL 4000 (IF (oA a b z) F) a.length (fun i=>(eachN F i).2=0) 0 (fun i _=>by cases i with
  |zero=>rfl
  |succ i=>simp only [IF,oA,List.cons_append,List.nil_append,List.all_cons,List.all_nil,bH,bx,eX (p:=bx _) (cf:=yL) (fun _=>rfl),Bool.and_true];rfl) (fun i m1 _ hi hI ih=>?_) (by omega) rfl rfl
 rcases Nat.lt_or_ge i a.length with hlt |hge
 ·have ea:=eQ (aB [] hlt)
  have ga:(i<a.length)=True:=eq_true hlt
  have gb:(i<b.length)=True:=eq_true (by omega)
  have d1:=decide_eq_true (show (i:Int)<(a.length:Int) by omega)
  have g10:(0≤(i:Int))=True:=eq_true (by omega)
  have hw1:=aN (j:=i) (by omega)
  have hFi:F i=eachN (fun j=>ic (a.getD i []) (iK b j) z) a.length:=by rw [←hF0]
  generalize hG0:(fun j=>ic (a.getD i []) (iK b j) z)=G at hFi
  have hG:∀ j,G j=ic (a.getD i []) (iK b j) z:=fun j=>by rw [←hG0]
  rcases Nat.eq_zero_or_pos i with hi0 |hi0
  ·skip
   have hst:IF (oA a b z) F i=oA a b z++[(16,.s (.lit (.slice none 0 0))),(18,iA (i:Int))]:=by subst hi0;rfl
   rw [hst]
   simp (maxSteps:=10000000) only [go_sem,seval,reduceCtorEq,af,ae,cj,bE,oA,tC,ea,ga,d1,g10]
   refine aL 400 (tC (oA a b z++[(16,.s (.lit (.slice none 0 0))),(18,iA (i:Int))]) [] G) a.length (fun j=>(eachN G j).2=0) m1 (fun j _=>by cases j with
    |zero=>rfl
    |succ j=>simp only [tC,oA,List.cons_append,List.nil_append,List.all_cons,List.all_nil,bH,bx,eX (p:=bx _) (rn _),eX (p:=bx _) (cf:=yL) (fun _=>rfl),Bool.and_true];rfl) (fun j m2 hL2 hj hJ ihJ=>?_) (by omega) rfl rfl
   obtain ⟨r2,rfl⟩:=Nat.exists_eq_add_of_le hL2
   have hlen:=bq hJ
   rcases Nat.lt_or_ge j a.length with hlt2 |hge2
   ·have d2:=decide_eq_true (show (j:Int)<(a.length:Int) by omega)
    have g20:(0≤(j:Int))=True:=eq_true (by omega)
    have gj:(j<a.length)=True:=eq_true hlt2
    have hw:=aN (j:=j) (by omega)
    have q3:∀ r∈b,j<r.length:=fun r hr=>by have:=(aP c1).2.2 r hr;omega
    have q4:(a.getD i []).length≤(iK b j).length:=by rw [sC];have:=(aP c0).2.row (i:=i) (by omega);omega
    have q5:(a.getD i []).length≤1000:=by have:=(aP c0).2.row (i:=i) (by omega);omega
    have q6:0≤(j:Int):=by omega
    have q7:1≤b.length:=by omega
    have q8:b.length≤1000:=by omega
    have hGj:=hG j
    cases hg:(G j).2 !=0 with
    |true=>
     have hr:=cQ hJ hg hlt2
     have hF:F i=([],(G j).2):=by rw [hFi,←hr,←hG0]
     have hr2:=cQ hI (by rw [hF];exact hg) hlt
     rw [hF] at hr2
     rw [hGj] at hg
     rcases Nat.eq_zero_or_pos j with hj0 |hj0
     ·have hs2:tC (oA a b z++[(16,.s (.lit (.slice none 0 0))),(18,iA (i:Int))]) [] G j=(oA a b z++[(16,.s (.lit (.slice none 0 0))),(18,iA (i:Int))])++((20,.s (.lit (.slice none 0 0)))::(22,iA (j:Int))::[]):=by subst hj0;rfl
      rw [hs2,hr2,hGj]
      simp (maxSteps:=10000000) only [go_sem,seval,reduceCtorEq,af,ae,cj,bE,oA,tC,ea,ga,d1,g10,d2,g20,gj,hw,hg,cg]
      repeat' with_reducible first |apply And.intro |apply condP<;>intro _
      all_goals first |(show ar _ _=true;kernel_rfl)|assumption |rfl |(simp only [go_sem, *]<;>rfl)
     ·obtain ⟨j,rfl⟩:∃ i,j=i+1:=⟨j - 1,by omega⟩
      have hl:((eachN G (j+1)).1.flatMap J.L).length=(j+1)*6:=by rw [bj (s:=6) (fun _=>rfl),hlen]
      rw [hr2,hGj]
      simp (maxSteps:=10000000) only [go_sem,seval,reduceCtorEq,af,ae,cj,bE,oA,tC,ea,ga,d1,g10,d2,g20,gj,hw,hg,hl,cg]
      repeat' with_reducible first |apply And.intro |apply condP<;>intro _
      all_goals first |(show ar _ _=true;kernel_rfl)|assumption |rfl |(simp only [go_sem, *]<;>rfl)
    |false=>
     have hg1:(G j).2=0:=by simpa using hg
     have hk:=bh hJ hg1
     have hk2:(eachN G (j+1)).2=0:=by rw [hk]
     replace ihJ:=ihJ hlt2 hk2
     have es:(eachN G j).1.flatMap J.L++[.lit (.bool (ic (a.getD i []) (iK b j) z).1.lo.s),.lit (.int .i64 (ic (a.getD i []) (iK b j) z).1.lo.e),.ws (ic (a.getD i []) (iK b j) z).1.lo.xs,.lit (.bool (ic (a.getD i []) (iK b j) z).1.hi.s),.lit (.int .i64 (ic (a.getD i []) (iK b j) z).1.hi.e),.ws (ic (a.getD i []) (iK b j) z).1.hi.xs]=(eachN G (j+1)).1.flatMap J.L:=by rw [hk,←fq,hGj];rfl
     rw [hGj] at hg
     rcases Nat.eq_zero_or_pos j with hj0 |hj0
     ·have hs2:tC (oA a b z++[(16,.s (.lit (.slice none 0 0))),(18,iA (i:Int))]) [] G j=(oA a b z++[(16,.s (.lit (.slice none 0 0))),(18,iA (i:Int))])++((20,.s (.lit (.slice none 0 0)))::(22,iA (j:Int))::[]):=by subst hj0;rfl
      rw [hs2]
      simp (maxSteps:=10000000) only [go_sem,seval,reduceCtorEq,af,ae,cj,bE,oA,tC,ea,ga,d1,g10,d2,g20,gj,hw,hg]
      repeat' with_reducible first |apply And.intro |apply condP<;>intro _
      all_goals first |(show ar _ _=true;kernel_rfl)|(exact ihJ _ _ (by subst hj0;rw [tC,←es];rfl))|assumption |rfl |(simp only [*];done)
     ·obtain ⟨j,rfl⟩:∃ i,j=i+1:=⟨j - 1,by omega⟩
      have hl:((eachN G (j+1)).1.flatMap J.L).length=(j+1)*6:=by rw [bj (s:=6) (fun _=>rfl),hlen]
      have g5:(j+1≤100000)=True:=eq_true (by omega)
      simp (maxSteps:=10000000) only [go_sem,seval,reduceCtorEq,af,ae,cj,bE,oA,tC,ea,ga,d1,g10,d2,g20,gj,hw,hg,hl,g5,es]
      repeat' with_reducible first |apply And.intro |apply condP<;>intro _
      all_goals first |(show ar _ _=true;kernel_rfl)|(exact ihJ _ _ rfl)|assumption |rfl |(simp only [*];done)
   ·obtain ⟨j,rfl⟩:∃ i,j=i+1:=⟨j - 1,by omega⟩
    have hn:a.length=j+1:=by omega
    have d2:(j+1<a.length)=False:=eq_false (by omega)
    have hF:F i=((eachN G (j+1)).1,0):=by rw [hFi,←hJ,←hG0,hn]
    have hl:((eachN G (j+1)).1.flatMap J.L).length=(j+1)*6:=by rw [bj (s:=6) (fun _=>rfl),hlen]
    replace ih:=ih hlt (by rw [bh hI (by rw [hF])])
    simp (maxSteps:=10000000) only [go_sem,seval,reduceCtorEq,af,ae,cj,bE,oA,tC,ea,ga,d1,g10,d2,hw1,hl]
    repeat' with_reducible first |apply And.intro |apply condP<;>intro _
    all_goals first |(show ar _ _=true;kernel_rfl)|(simp only [Nat.add_assoc];refine ih _ _ (Eq.trans ?_ (BM (i:=i) (k:=i+1) (n:=j+1) (C:=[]) rfl hI (by rw [hF]) (by rw [hF];exact hlen) (by subst hi0;rfl) (by rw [hF])));subst hi0;rfl)|assumption |rfl |(simp only [*];done)
  ·obtain ⟨i,rfl⟩:∃ k,i=k+1:=⟨i - 1,by omega⟩
   have ho5:(i+1≤100000)=True:=eq_true (by omega)
   have hol:((eachN F (i+1)).1.flatMap yL).length=(i+1)*1:=by rw [bj (s:=1) (fun _=>rfl),bq hI]
   simp (maxSteps:=10000000) only [go_sem,seval,reduceCtorEq,af,ae,cj,bE,oA,tC,IF,ho5,hol,ea,ga,d1,g10]
   refine aL 400 (tC (oA a b z++[(16,.s (.ol 68 (i+1))),(18,iA ((i+1:Nat):Int))]) [(137,.pre 34 1 ((eachN F (i+1)).1.flatMap yL))] G) a.length (fun j=>(eachN G j).2=0) m1 (fun j _=>by cases j with
    |zero=>simp only [tC,oA,List.cons_append,List.nil_append,List.all_cons,List.all_nil,bH,bx,eX (p:=bx _) (cf:=yL) (fun _=>rfl),Bool.and_true];rfl
    |succ j=>simp only [tC,oA,List.cons_append,List.nil_append,List.all_cons,List.all_nil,bH,bx,eX (p:=bx _) (rn _),eX (p:=bx _) (cf:=yL) (fun _=>rfl),Bool.and_true];rfl) (fun j m2 hL2 hj hJ ihJ=>?_) (by omega) rfl rfl
   obtain ⟨r2,rfl⟩:=Nat.exists_eq_add_of_le hL2
   have hlen:=bq hJ
   rcases Nat.lt_or_ge j a.length with hlt2 |hge2
   ·have d2:=decide_eq_true (show (j:Int)<(a.length:Int) by omega)
    have g20:(0≤(j:Int))=True:=eq_true (by omega)
    have gj:(j<a.length)=True:=eq_true hlt2
    have hw:=aN (j:=j) (by omega)
    have q3:∀ r∈b,j<r.length:=fun r hr=>by have:=(aP c1).2.2 r hr;omega
    have q4:(a.getD (i+1) []).length≤(iK b j).length:=by rw [sC];have:=(aP c0).2.row (i:=(i+1)) (by omega);omega
    have q5:(a.getD (i+1) []).length≤1000:=by have:=(aP c0).2.row (i:=(i+1)) (by omega);omega
    have q6:0≤(j:Int):=by omega
    have q7:1≤b.length:=by omega
    have q8:b.length≤1000:=by omega
    have hGj:=hG j
    cases hg:(G j).2 !=0 with
    |true=>
     have hr:=cQ hJ hg hlt2
     have hF:F (i+1)=([],(G j).2):=by rw [hFi,←hr,←hG0]
     have hr2:=cQ hI (by rw [hF];exact hg) hlt
     rw [hF] at hr2
     rw [hGj] at hg
     rcases Nat.eq_zero_or_pos j with hj0 |hj0
     ·have hs2:tC (oA a b z++[(16,.s (.ol 68 (i+1))),(18,iA ((i+1:Nat):Int))]) [(137,.pre 34 1 ((eachN F (i+1)).1.flatMap yL))] G j=(oA a b z++[(16,.s (.ol 68 (i+1))),(18,iA ((i+1:Nat):Int))])++((20,.s (.lit (.slice none 0 0)))::(22,iA (j:Int))::[(137,.pre 34 1 ((eachN F (i+1)).1.flatMap yL))]):=by subst hj0;rfl
      rw [hs2,hr2,hGj]
      simp (maxSteps:=10000000) only [go_sem,seval,reduceCtorEq,af,ae,cj,bE,oA,tC,IF,ho5,hol,ea,ga,d1,g10,d2,g20,gj,hw,hg,cg]
      repeat' with_reducible first |apply And.intro |apply condP<;>intro _
      all_goals first |(show ar _ _=true;kernel_rfl)|assumption |rfl |(simp only [go_sem, *]<;>rfl)
     ·obtain ⟨j,rfl⟩:∃ i,j=i+1:=⟨j - 1,by omega⟩
      have hl:((eachN G (j+1)).1.flatMap J.L).length=(j+1)*6:=by rw [bj (s:=6) (fun _=>rfl),hlen]
      rw [hr2,hGj]
      simp (maxSteps:=10000000) only [go_sem,seval,reduceCtorEq,af,ae,cj,bE,oA,tC,IF,ho5,hol,ea,ga,d1,g10,d2,g20,gj,hw,hg,hl,cg]
      repeat' with_reducible first |apply And.intro |apply condP<;>intro _
      all_goals first |(show ar _ _=true;kernel_rfl)|assumption |rfl |(simp only [go_sem, *]<;>rfl)
    |false=>
     have hg1:(G j).2=0:=by simpa using hg
     have hk:=bh hJ hg1
     have hk2:(eachN G (j+1)).2=0:=by rw [hk]
     replace ihJ:=ihJ hlt2 hk2
     have es:(eachN G j).1.flatMap J.L++[.lit (.bool (ic (a.getD (i+1) []) (iK b j) z).1.lo.s),.lit (.int .i64 (ic (a.getD (i+1) []) (iK b j) z).1.lo.e),.ws (ic (a.getD (i+1) []) (iK b j) z).1.lo.xs,.lit (.bool (ic (a.getD (i+1) []) (iK b j) z).1.hi.s),.lit (.int .i64 (ic (a.getD (i+1) []) (iK b j) z).1.hi.e),.ws (ic (a.getD (i+1) []) (iK b j) z).1.hi.xs]=(eachN G (j+1)).1.flatMap J.L:=by rw [hk,←fq,hGj];rfl
     rw [hGj] at hg
     rcases Nat.eq_zero_or_pos j with hj0 |hj0
     ·have hs2:tC (oA a b z++[(16,.s (.ol 68 (i+1))),(18,iA ((i+1:Nat):Int))]) [(137,.pre 34 1 ((eachN F (i+1)).1.flatMap yL))] G j=(oA a b z++[(16,.s (.ol 68 (i+1))),(18,iA ((i+1:Nat):Int))])++((20,.s (.lit (.slice none 0 0)))::(22,iA (j:Int))::[(137,.pre 34 1 ((eachN F (i+1)).1.flatMap yL))]):=by subst hj0;rfl
      rw [hs2]
      simp (maxSteps:=10000000) only [go_sem,seval,reduceCtorEq,af,ae,cj,bE,oA,tC,IF,ho5,hol,ea,ga,d1,g10,d2,g20,gj,hw,hg]
      repeat' with_reducible first |apply And.intro |apply condP<;>intro _
      all_goals first |(show ar _ _=true;kernel_rfl)|(exact ihJ _ _ (by subst hj0;rw [tC,←es];rfl))|assumption |rfl |(simp only [*];done)
     ·obtain ⟨j,rfl⟩:∃ i,j=i+1:=⟨j - 1,by omega⟩
      have hl:((eachN G (j+1)).1.flatMap J.L).length=(j+1)*6:=by rw [bj (s:=6) (fun _=>rfl),hlen]
      have g5:(j+1≤100000)=True:=eq_true (by omega)
      simp (maxSteps:=10000000) only [go_sem,seval,reduceCtorEq,af,ae,cj,bE,oA,tC,IF,ho5,hol,ea,ga,d1,g10,d2,g20,gj,hw,hg,hl,g5,es]
      repeat' with_reducible first |apply And.intro |apply condP<;>intro _
      all_goals first |(show ar _ _=true;kernel_rfl)|(exact ihJ _ _ rfl)|assumption |rfl |(simp only [*];done)
   ·obtain ⟨j,rfl⟩:∃ i,j=i+1:=⟨j - 1,by omega⟩
    have hn:a.length=j+1:=by omega
    have d2:(j+1<a.length)=False:=eq_false (by omega)
    have hF:F (i+1)=((eachN G (j+1)).1,0):=by rw [hFi,←hJ,←hG0,hn]
    have hl:((eachN G (j+1)).1.flatMap J.L).length=(j+1)*6:=by rw [bj (s:=6) (fun _=>rfl),hlen]
    replace ih:=ih hlt (by rw [bh hI (by rw [hF])])
    simp (maxSteps:=10000000) only [go_sem,seval,reduceCtorEq,af,ae,cj,bE,oA,tC,IF,ho5,hol,ea,ga,d1,g10,d2,hw1,hl]
    repeat' with_reducible first |apply And.intro |apply condP<;>intro _
    all_goals first |(show ar _ _=true;kernel_rfl)|(simp only [Nat.add_assoc];refine ih _ _ (Eq.trans ?_ (BM (i:=(i+1)) (k:=(i+1)+1) (n:=j+1) rfl hI (by rw [hF]) (by rw [hF];exact hlen) rfl (by rw [hF])));rfl)|assumption |rfl |(simp only [*];done)
 ·obtain ⟨i,rfl⟩:∃ k,i=k+1:=⟨i - 1,by omega⟩
  have hn:a.length=i+1:=by omega
  have d1:(i+1<a.length)=False:=eq_false (by omega)
  have hlen:=bq hI
  have hl:((eachN F (i+1)).1.flatMap yL).length=(i+1)*1:=by rw [bj (s:=1) (fun _=>rfl),hlen]
  have hdn:fD ((eachN F (i+1)).1.flatMap yL)=some (List.map rC (eachN F (i+1)).1):=by rw [←lD];exact dd (fun _=>rfl) _
  have hfin:cg rC (eachN F a.length)= .tup [(false,[.sl true 1 (i+1) (List.map rC (eachN F (i+1)).1)]),(false,[.lit (.int .i64 0)])]:=by
   rw [hn]
   obtain ⟨x,l,e1,e2⟩:=li hI (by omega)
   rw [e1,←e2];rfl
  rw [hfin]
  simp (maxSteps:=10000000) only [go_sem,seval,reduceCtorEq,af,ae,cj,bE,IF,oA,d1,hl,hdn]
  repeat' with_reducible first |apply And.intro |apply condP<;>intro _
  all_goals first |(show ar _ _=true;kernel_rfl)|assumption |rfl |(simp only [go_sem, *]<;>rfl)
noncomputable def OL (a b:List (List J)) (z:Int):List (List J)×Int:=fL (rightM a) (fL (rightM b) (fL (!((a.length:Int)!=(b.length:Int))) (fL (prb z) (eachN (fun i=>eachN (fun j=>ic (a.getD i []) (iK b j) z) a.length) a.length))))
theorem Q2 (a b:List (List J)) (z:Int):Ct Tryz.prog 45 [bw a,bw b,iA z] (·=cg rC (OL a b z)):=by
 unfold OL
 rcases Bool.eq_false_or_eq_true (rightM a) with c0 |c0
 case inr=>rw [eL c0];exact GP a b z c0
 rcases Bool.eq_false_or_eq_true (rightM b) with c1 |c1
 case inr=>rw [aY c0,eL c1];exact GQ a b z c0 c1
 rcases Bool.eq_false_or_eq_true ((a.length:Int)!=(b.length:Int)) with c2 |c2
 case inl=>rw [aY c0,aY c1,eL (KZ c2)];exact GR a b z c0 c1 c2
 rcases Bool.eq_false_or_eq_true (prb z) with c3 |c3
 case inr=>rw [aY c0,aY c1,aY (xX c2),eL c3];exact GS a b z c0 c1 c2 c3
 rw [aY c0,aY c1,aY (xX c2),aY c3]
 exact GT a b z c0 c1 c2 c3
noncomputable def yQ:b9:=one 45 (gA kU fun a=>gA kU fun b=>gA jd fun z=>gE (True,oz (OL a b z)))
theorem B9:TbOK Tryz.prog yQ:=bI (aX Tryz.func45 (by kernel_rfl) rfl) (.a bi fun a=>.a bi fun b=>.a bK fun z=>.e fun _=>(Q2 a b z).wk (JV _))
end
end Go.Proofs.YtpacpmmdjmnamaaGreatDoor
