/- Package box by loops: what is right; pairs, each; sums, differences, multiples, middles. -/
import Derived.Test.YtpacpmmdjmnamaaGreatDoorMAo1
import Derived.Test.YtpacpmmdjmnamaaGreatDoorMAl2
namespace Go.Proofs.YtpacpmmdjmnamaaGreatDoor
set_option linter.unusedSimpArgs false
set_option linter.unusedVariables false
set_option maxHeartbeats 4000000
set_option maxRecDepth 100000
open Go.RowKit Nx
attribute [local irreducible] ar
section
attribute [local go_sem] nN ou fJ gA gE jd yK ki oy jH jI j8 j9 ite_self fN mo cm jh lF
def bT (L:List (List Lf)) (c0:FuncId) (L2:List (List Lf)) (c2:FuncId) (A:List AV) (r:AV):PV:=fun ls c ls2 d xs=>some ((ls=L∧c=c0)∧(ls2=L2∧d=c2)∧xs=A,r)
theorem aB {α:Type} {l:List α} {j:Nat} (d:α) (h:j<l.length):l[j]? =some (l.getD j d):=by
 rw [List.getD_eq_getElem?_getD,List.getElem?_eq_getElem h];rfl
theorem dx {S T:b9} {f:FuncId} {args:List AV} (h1:S f args=none) (h2:T f args=none):aF S T f args=none:=by unfold aF;rw [h1];exact h2
theorem eg {l:List J} {j:Nat} {x:J} (h:l[j]? =some x):List.take 6 (List.drop (j*6) (bC l))=[.lit (.bool x.lo.s),.lit (.int .i64 x.lo.e),.ws x.lo.xs,.lit (.bool x.hi.s),.lit (.int .i64 x.hi.e),.ws x.hi.xs]:=FG h
theorem Ac {l:List X} {j:Nat} {x:X} (h:l[j]? =some x):List.take 3 (List.drop (j*3) (pC l))=[.lit (.bool x.s),.lit (.int .i64 x.e),.ws x.xs]:=If h
def cR {α:Type} (φ:J→J→α×Int) (l m:List J):List α×Int:=bif (bif rightB l then rightB m else false) then (bif ((l.length:Int)!=(m.length:Int)) then ([],1) else eachN (fun j=>φ (l.getD j zJ) (m.getD j zJ)) l.length) else ([],1)
def fU {α:Type} (φ:J→α×Int) (l:List J):List α×Int:=bif rightB l then eachN (fun j=>φ (l.getD j zJ)) l.length else ([],1)
theorem uL {α:Type} {φ:J→α×Int} {l:List J}:cR (fun x _=>φ x) l l=fU φ l:=by
 unfold cR fU
 rw [bne_self_eq_false]
 cases rightB l<;>rfl
theorem TA (l:List J) (h:(bif decide ((l.length:Int)<1) then true else decide (4<(l.length:Int)))=true):Ct Tryz.prog 56 [bv l] (·=bA (rightB l)):=by
 have hr:rightB l=false:=by
  unfold rightB
  cases h1:decide ((l.length:Int)<1) with
  |true=>have:=of_decide_eq_true h1;rw [decide_eq_false (show ¬ 1≤l.length by omega)];rfl
  |false=>rw [h1,cond_false] at h;have:=of_decide_eq_true h;rw [decide_eq_false (show ¬ l.length≤4 by omega),Bool.and_false];rfl
 cases h1:decide ((l.length:Int)<1) with
 |true=>
  refine ak (O:=ai eJ) (by kernel_rfl) ah (fun w=>aa bk _ w) [] 300 23 [.tmp 2] Tryz.func56 rfl Tryz.ntmps56 (by rw [Tryz.results56]) (by simp) rfl (fun hsm=>?_)
  simp (maxSteps:=10000000) only [go_sem,seval,reduceCtorEq,bT,h1,hr]
  repeat' with_reducible first |apply And.intro |apply condP<;>intro _
  all_goals first |(show ar _ _=true;kernel_rfl)|assumption |rfl |(simp only [go_sem, *]<;>rfl)
 |false=>
  rw [h1,cond_false] at h
  refine ak (O:=ai eJ) (by kernel_rfl) ah (fun w=>aa bk _ w) [] 300 23 [.tmp 2] Tryz.func56 rfl Tryz.ntmps56 (by rw [Tryz.results56]) (by simp) rfl (fun hsm=>?_)
  simp (maxSteps:=10000000) only [go_sem,seval,reduceCtorEq,bT,h1,h,hr]
  repeat' with_reducible first |apply And.intro |apply condP<;>intro _
  all_goals first |(show ar _ _=true;kernel_rfl)|assumption |rfl |(simp only [go_sem, *]<;>rfl)
theorem TC (l:List J) (h1:1≤l.length) (h2:l.length≤4):Ct Tryz.prog 56 [bv l] (·=bA (rightB l)):=by
 have c1:decide ((l.length:Int)<1)=false:=decide_eq_false (by omega)
 have c2:decide (4<(l.length:Int))=false:=decide_eq_false (by omega)
 have hR:rightB l=l.all okJ:=by unfold rightB;rw [decide_eq_true h1,decide_eq_true h2];rfl
 refine ak (O:=ai bQ) (by kernel_rfl) ah (fun w=>aa dJ _ w) [9999999,0,26,28,30] ((l.length+1)*200+100) 23 [.tmp 2] Tryz.func56 rfl Tryz.ntmps56 (by rw [Tryz.results56]) (by simp) rfl (fun hsm=>?_)
 simp (maxSteps:=10000000) only [go_sem,seval,reduceCtorEq,bT,bQ,c1,c2]
 refine aL 200 (fun j=>[(0,bv l),(26,bv l),(28,iA (l.length:Int)),(30,iA (j:Int))]) l.length (fun j=>(l.take j).all okJ=true) 0 (fun j _=>rfl) (fun j mm _ hj hI ih=>?_) (by omega) rfl rfl
 rcases Nat.lt_or_ge j l.length with hlt |hge
 ·have hx:=aB zJ hlt
  generalize l.getD j zJ=x at hx
  have e1:=eg hx
  have d:=decide_eq_true (show (j:Int)<(l.length:Int) by omega)
  have g1:(j<l.length)=True:=eq_true hlt
  have g0:(0≤(j:Int))=True:=eq_true (by omega)
  have hw:=aN (j:=j) (by omega)
  have ht:l.take (j+1)=l.take j++[x]:=by rw [List.take_add_one,hx];rfl
  cases hr:okJ x with
  |false=>
   have hm:rightB l=false:=by
    rw [hR,List.all_eq_false]
    exact ⟨x,List.mem_of_getElem? hx,by rw [hr];simp⟩
   simp (maxSteps:=10000000) only [go_sem,seval,reduceCtorEq,bT,bQ,e1,hr,hm,d,g0,g1,hw]
   repeat' with_reducible first |apply And.intro |apply condP<;>intro _
   all_goals first |(show ar _ _=true;kernel_rfl)|assumption |rfl |(simp only [go_sem, *]<;>rfl)
  |true=>
   replace ih:=ih hlt (by rw [ht,List.all_append,hI,List.all_cons,hr];rfl)
   simp (maxSteps:=10000000) only [go_sem,seval,reduceCtorEq,bT,bQ,e1,hr,d,g0,g1,hw]
   repeat' with_reducible first |apply And.intro |apply condP<;>intro _
   all_goals first |(show ar _ _=true;kernel_rfl)|(exact ih _ _ rfl)|assumption |rfl
 ·have hn:j=l.length:=by omega
  subst hn
  have d:=decide_eq_false (show ¬ (l.length:Int)<(l.length:Int) by omega)
  rw [List.take_length] at hI
  rw [hR,hI]
  simp (maxSteps:=10000000) only [go_sem,seval,reduceCtorEq,bT,d]
  repeat' with_reducible first |apply And.intro |apply condP<;>intro _
  all_goals first |(show ar _ _=true;kernel_rfl)|assumption |rfl |(simp only [go_sem, *]<;>rfl)
theorem xr (l:List J):Ct Tryz.prog 56 [bv l] (·=bA (rightB l)):=by
 cases h:(bif decide ((l.length:Int)<1) then true else decide (4<(l.length:Int))) with
 |true=>exact TA l h
 |false=>
  cases h1:decide ((l.length:Int)<1) with
  |true=>rw [h1] at h;cases h
  |false=>
   rw [h1,cond_false] at h
   have:=of_decide_eq_false h1
   have:=of_decide_eq_false h
   exact TC l (by omega) (by omega)
noncomputable def aQ:b9:=one 56 (gA jC fun l=>gE (True,bA (rightB l)))
theorem fB:TbOK Tryz.prog aQ:=bI (aX Tryz.func56 (by kernel_rfl) rfl) (.a dB fun l=>.e fun _=>xr l)
theorem jN {w:World} {f:FuncId} {caps:List Value} {k:List AV→Option (Prop×AV)} (hf:Fv Tryz.prog w f caps k):OrOK Tryz.prog (bO (jM 2 f caps k) (ai aQ)) (fun _=>False) w:=by
 refine mO (fE hf) (aa fB _ w) (fun g d st args e he st'=>?_)
 unfold ai at he
 split at he
 case h_2=>cases he
 rename_i q hq
 unfold aQ one at hq
 split at hq
 case isFalse=>cases hq
 match args,hq with
 |[],hq=>cases hq
 |[_],_=>rfl
 |x::y::r,hq=>
  simp only [List.map_cons,gA,gE] at hq
  split at hq<;>cases hq
theorem R6 {w:World} {f:FuncId} {caps:List Value} {φ:J→J→J×Int} (ht:Tab w) (hf:Fv Tryz.prog w f caps (l5 fun a b=>(True,iY (φ a b)))) (l m:List J) (h1:rightB l=false):Hc Tryz.prog w 142 [bv l,bv m,jL f caps] (bP ([],1)):=by
 have hO:=jN hf
 refine fM (O:=bO (jM 2 f caps (l5 fun a b=>(True,iY (φ a b)))) (ai aQ)) (by kernel_rfl) ah hO ht [] 400 57 [.tmp 6,.tmp 7] Tryz.func142 rfl Tryz.ntmps142 (by rw [Tryz.results142]) (by simp) rfl (fun hsm=>?_)
 simp (maxSteps:=10000000) only [go_sem,seval,reduceCtorEq,bT,aQ,h1]
 repeat' with_reducible first |apply And.intro |apply condP<;>intro _
 all_goals first |(show ar _ _=true;kernel_rfl)|assumption |rfl |(simp only [go_sem, *]<;>rfl)
theorem R7 {w:World} {f:FuncId} {caps:List Value} {φ:J→J→J×Int} (ht:Tab w) (hf:Fv Tryz.prog w f caps (l5 fun a b=>(True,iY (φ a b)))) (l m:List J) (h1:rightB l=true) (h2:rightB m=false):Hc Tryz.prog w 142 [bv l,bv m,jL f caps] (bP ([],1)):=by
 have hO:=jN hf
 refine fM (O:=bO (jM 2 f caps (l5 fun a b=>(True,iY (φ a b)))) (ai aQ)) (by kernel_rfl) ah hO ht [] 400 57 [.tmp 6,.tmp 7] Tryz.func142 rfl Tryz.ntmps142 (by rw [Tryz.results142]) (by simp) rfl (fun hsm=>?_)
 simp (maxSteps:=10000000) only [go_sem,seval,reduceCtorEq,bT,aQ,h1,h2]
 repeat' with_reducible first |apply And.intro |apply condP<;>intro _
 all_goals first |(show ar _ _=true;kernel_rfl)|assumption |rfl |(simp only [go_sem, *]<;>rfl)
theorem R8 {w:World} {f:FuncId} {caps:List Value} {φ:J→J→J×Int} (ht:Tab w) (hf:Fv Tryz.prog w f caps (l5 fun a b=>(True,iY (φ a b)))) (l m:List J) (h1:rightB l=true) (h2:rightB m=true) (h3:((l.length:Int)!=(m.length:Int))=true):Hc Tryz.prog w 142 [bv l,bv m,jL f caps] (bP ([],1)):=by
 have hO:=jN hf
 refine fM (O:=bO (jM 2 f caps (l5 fun a b=>(True,iY (φ a b)))) (ai aQ)) (by kernel_rfl) ah hO ht [] 400 57 [.tmp 6,.tmp 7] Tryz.func142 rfl Tryz.ntmps142 (by rw [Tryz.results142]) (by simp) rfl (fun hsm=>?_)
 simp (maxSteps:=10000000) only [go_sem,seval,reduceCtorEq,bT,aQ,h1,h2,h3]
 repeat' with_reducible first |apply And.intro |apply condP<;>intro _
 all_goals first |(show ar _ _=true;kernel_rfl)|assumption |rfl |(simp only [go_sem, *]<;>rfl)
theorem S5 {w:World} {f:FuncId} {caps:List Value} {φ:J→J→J×Int} (ht:Tab w) (hf:Fv Tryz.prog w f caps (l5 fun a b=>(True,iY (φ a b)))) (l m:List J) (h1:rightB l=true) (h2:rightB m=true) (h3:((l.length:Int)!=(m.length:Int))=false) (h4:l.length≤4):Hc Tryz.prog w 142 [bv l,bv m,jL f caps] (bP (eachN (fun j=>φ (l.getD j zJ) (m.getD j zJ)) l.length)):=by
 have hF:∃ F:Nat→J×Int,F=fun j=>φ (l.getD j zJ) (m.getD j zJ):=⟨_,rfl⟩
 obtain ⟨F,hF0⟩:=hF
 rw [←hF0]
 have hO:=jN hf
 have c1:(0≤(l.length:Int))=True:=eq_true (by omega)
 have c2:((l.length:Int)≤1000)=True:=eq_true (by omega)
 have e0:(List.replicate l.length [.lit (.bool false),.lit (.int .i64 0),.ws [],.lit (.bool false),.lit (.int .i64 0),.ws []]).flatten=re l.length ([]:List J):=(mB (cf:=J.L) (zf:=zJ.L)).symm
 refine fM (O:=bO (jM 2 f caps (l5 fun a b=>(True,iY (φ a b)))) (ai aQ)) (by kernel_rfl) ah hO ht [9999999,0,2,4,16,59,62,64] ((l.length+1)*300+200) 57 [.tmp 6,.tmp 7] Tryz.func142 rfl Tryz.ntmps142 (by rw [Tryz.results142]) (by simp) rfl (fun hsm=>?_)
 simp (maxSteps:=10000000) only [go_sem,seval,reduceCtorEq,bT,aQ,h1,h2,h3,c1,c2,e0]
 refine aL 300 (fun j=>[(0,bv l),(2,bv m),(4,jL f caps),(16,.s (.osl 29 l.length)),(59,.v true (re l.length (eachN F j).1)),(62,iA (l.length:Int)),(64,iA (j:Int))]) l.length (fun j=>(eachN F j).2=0) 0 (fun j _=>by simp only [List.all_cons,List.all_nil,bH,bx,FP,Bool.and_true];rfl) (fun j mm _ hj hI ih=>?_) (by omega) rfl rfl
 have hlen:=bq hI
 rcases Nat.lt_or_ge j l.length with hlt |hge
 ·have hl2:l.length=m.length:=by
     have:(l.length:Int)=(m.length:Int):=by simpa using h3
     omega
  have hFj:φ (l.getD j zJ) (m.getD j zJ)=F j:=by rw [hF0]
  have hx:=aB zJ hlt
  have hy:=aB zJ (show j<m.length by omega)
  have e1:=eg hx
  have e2:=eg hy
  have d:=decide_eq_true (show (j:Int)<(l.length:Int) by omega)
  have g1:(j<l.length)=True:=eq_true hlt
  have g0:(0≤(j:Int))=True:=eq_true (by omega)
  have hw:=aN (j:=j) (by omega)
  have g2:(j<m.length)=True:=eq_true (by omega)
  have hl:=qt (n:=l.length) (l:=(eachN F j).1) (by omega)
  have g3:(j*6+6≤l.length*6)=True:=eq_true (by omega)
  cases hF:(F j).2 !=0 with
  |true=>
   have hr:=cQ hI hF hlt
   simp (maxSteps:=10000000) only [go_sem,seval,reduceCtorEq,bT,aQ,g2,e1,e2,hF,hr,hFj,d,g0,g1,hw]
   repeat' with_reducible first |apply And.intro |apply condP<;>intro _
   all_goals first |(show ar _ _=true;kernel_rfl)|assumption |rfl |(simp only [go_sem, *]<;>rfl)
  |false=>
   have hF0:(F j).2=0:=by simpa using hF
   have hk:=bh hI hF0
   have es:=ni (cf:=J.L) (zf:=zJ.L) (s:=6) (fun _=>rfl) rfl (F j).1 hlen hlt
   have es:List.take (j*6) (re l.length (eachN F j).1)++[.lit (.bool (F j).1.lo.s),.lit (.int .i64 (F j).1.lo.e),.ws (F j).1.lo.xs,.lit (.bool (F j).1.hi.s),.lit (.int .i64 (F j).1.hi.e),.ws (F j).1.hi.xs]++List.drop (j*6+6) (re l.length (eachN F j).1)=re l.length (eachN F (j+1)).1:=by rw [hk];exact es
   have hk2:(eachN F (j+1)).2=0:=by rw [hk]
   replace ih:=ih hlt hk2
   simp (maxSteps:=10000000) only [go_sem,seval,reduceCtorEq,bT,aQ,g2,e1,e2,g3,hl,es,hF,hFj,d,g0,g1,hw]
   repeat' with_reducible first |apply And.intro |apply condP<;>intro _
   all_goals first |(show ar _ _=true;kernel_rfl)|(exact ih _ _ rfl)|assumption |rfl
 ·have hn:j=l.length:=by omega
  subst hn
  have d:=decide_eq_false (show ¬ (l.length:Int)<(l.length:Int) by omega)
  have hl:=qt (n:=l.length) (l:=(eachN F l.length).1) (by omega)
  have hq:l.length*6 / l.length=6:=Nat.mul_div_cancel_left _ (c9 h1).1
  have hdn:fD (re l.length (eachN F l.length).1)=some (bC (eachN F l.length).1):=by unfold re;rw [lf hlen];exact dd oK _
  have hfin:bP (eachN F l.length)= .tup [(false,[.sl true 6 l.length (bC (eachN F l.length).1)]),(false,[.lit (.int .i64 0)])]:=by
   have:=(c9 h1).1
   generalize l.length=n at*
   cases hx:eachN F n with
   |mk q e=>
    rw [hx] at hI hlen
    have hI:e=0:=hI
    have hlen:q.length=n:=hlen
    subst hI;subst hlen
    cases q with
    |nil=>simp at this
    |cons a q=>rfl
  simp (maxSteps:=10000000) only [go_sem,seval,reduceCtorEq,bT,d,hl,hq,hdn,hfin]
  repeat' with_reducible first |apply And.intro |apply condP<;>intro _
  all_goals first |(show ar _ _=true;kernel_rfl)|assumption |rfl |(simp only [go_sem, *]<;>rfl)
theorem S1 {w:World} {f:FuncId} {caps:List Value} {φ:J→J→J×Int} (ht:Tab w) (hf:Fv Tryz.prog w f caps (l5 fun a b=>(True,iY (φ a b)))) (l m:List J):Hc Tryz.prog w 142 [bv l,bv m,jL f caps] (bP (cR φ l m)):=by
 unfold cR
 cases h1:rightB l with
 |false=>exact R6 ht hf l m h1
 |true=>
  cases h2:rightB m with
  |false=>exact R7 ht hf l m h1 h2
  |true=>
   rw [cond_true,cond_true]
   cases h3:((l.length:Int)!=(m.length:Int)) with
   |true=>exact R8 ht hf l m h1 h2 h3
   |false=>exact S5 ht hf l m h1 h2 h3 (c9 h1).2
theorem R9 {w:World} {f:FuncId} {caps:List Value} {φ:J→J→X×Int} (ht:Tab w) (hf:Fv Tryz.prog w f caps (l5 fun a b=>(True,kY (φ a b)))) (l m:List J) (h1:rightB l=false):Hc Tryz.prog w 200 [bv l,bv m,jL f caps] (cp ([],1)):=by
 have hO:=jN hf
 refine fM (O:=bO (jM 2 f caps (l5 fun a b=>(True,kY (φ a b)))) (ai aQ)) (by kernel_rfl) ah hO ht [] 400 57 [.tmp 6,.tmp 7] Tryz.func200 rfl Tryz.ntmps200 (by rw [Tryz.results200]) (by simp) rfl (fun hsm=>?_)
 simp (maxSteps:=10000000) only [go_sem,seval,reduceCtorEq,bT,aQ,h1]
 repeat' with_reducible first |apply And.intro |apply condP<;>intro _
 all_goals first |(show ar _ _=true;kernel_rfl)|assumption |rfl |(simp only [go_sem, *]<;>rfl)
theorem Sa {w:World} {f:FuncId} {caps:List Value} {φ:J→J→X×Int} (ht:Tab w) (hf:Fv Tryz.prog w f caps (l5 fun a b=>(True,kY (φ a b)))) (l m:List J) (h1:rightB l=true) (h2:rightB m=false):Hc Tryz.prog w 200 [bv l,bv m,jL f caps] (cp ([],1)):=by
 have hO:=jN hf
 refine fM (O:=bO (jM 2 f caps (l5 fun a b=>(True,kY (φ a b)))) (ai aQ)) (by kernel_rfl) ah hO ht [] 400 57 [.tmp 6,.tmp 7] Tryz.func200 rfl Tryz.ntmps200 (by rw [Tryz.results200]) (by simp) rfl (fun hsm=>?_)
 simp (maxSteps:=10000000) only [go_sem,seval,reduceCtorEq,bT,aQ,h1,h2]
 repeat' with_reducible first |apply And.intro |apply condP<;>intro _
 all_goals first |(show ar _ _=true;kernel_rfl)|assumption |rfl |(simp only [go_sem, *]<;>rfl)
theorem Sb {w:World} {f:FuncId} {caps:List Value} {φ:J→J→X×Int} (ht:Tab w) (hf:Fv Tryz.prog w f caps (l5 fun a b=>(True,kY (φ a b)))) (l m:List J) (h1:rightB l=true) (h2:rightB m=true) (h3:((l.length:Int)!=(m.length:Int))=true):Hc Tryz.prog w 200 [bv l,bv m,jL f caps] (cp ([],1)):=by
 have hO:=jN hf
 refine fM (O:=bO (jM 2 f caps (l5 fun a b=>(True,kY (φ a b)))) (ai aQ)) (by kernel_rfl) ah hO ht [] 400 57 [.tmp 6,.tmp 7] Tryz.func200 rfl Tryz.ntmps200 (by rw [Tryz.results200]) (by simp) rfl (fun hsm=>?_)
 simp (maxSteps:=10000000) only [go_sem,seval,reduceCtorEq,bT,aQ,h1,h2,h3]
 repeat' with_reducible first |apply And.intro |apply condP<;>intro _
 all_goals first |(show ar _ _=true;kernel_rfl)|assumption |rfl |(simp only [go_sem, *]<;>rfl)
theorem Ta {w:World} {f:FuncId} {caps:List Value} {φ:J→J→X×Int} (ht:Tab w) (hf:Fv Tryz.prog w f caps (l5 fun a b=>(True,kY (φ a b)))) (l m:List J) (h1:rightB l=true) (h2:rightB m=true) (h3:((l.length:Int)!=(m.length:Int))=false) (h4:l.length≤4):Hc Tryz.prog w 200 [bv l,bv m,jL f caps] (cp (eachN (fun j=>φ (l.getD j zJ) (m.getD j zJ)) l.length)):=by
 have hF:∃ F:Nat→X×Int,F=fun j=>φ (l.getD j zJ) (m.getD j zJ):=⟨_,rfl⟩
 obtain ⟨F,hF0⟩:=hF
 rw [←hF0]
 have hO:=jN hf
 have c1:(0≤(l.length:Int))=True:=eq_true (by omega)
 have c2:((l.length:Int)≤1000)=True:=eq_true (by omega)
 have e0:(List.replicate l.length [.lit (.bool false),.lit (.int .i64 0),.ws []]).flatten=vH l.length ([]:List X):=(mB (cf:=X.L) (zf:=zX.L)).symm
 refine fM (O:=bO (jM 2 f caps (l5 fun a b=>(True,kY (φ a b)))) (ai aQ)) (by kernel_rfl) ah hO ht [9999999,0,2,4,16,59,62,64] ((l.length+1)*300+200) 57 [.tmp 6,.tmp 7] Tryz.func200 rfl Tryz.ntmps200 (by rw [Tryz.results200]) (by simp) rfl (fun hsm=>?_)
 simp (maxSteps:=10000000) only [go_sem,seval,reduceCtorEq,bT,aQ,h1,h2,h3,c1,c2,e0]
 refine aL 300 (fun j=>[(0,bv l),(2,bv m),(4,jL f caps),(16,.s (.osl 29 l.length)),(59,.v true (vH l.length (eachN F j).1)),(62,iA (l.length:Int)),(64,iA (j:Int))]) l.length (fun j=>(eachN F j).2=0) 0 (fun j _=>by simp only [List.all_cons,List.all_nil,bH,bx,Mi,Bool.and_true];rfl) (fun j mm _ hj hI ih=>?_) (by omega) rfl rfl
 have hlen:=bq hI
 rcases Nat.lt_or_ge j l.length with hlt |hge
 ·have hl2:l.length=m.length:=by
     have:(l.length:Int)=(m.length:Int):=by simpa using h3
     omega
  have hFj:φ (l.getD j zJ) (m.getD j zJ)=F j:=by rw [hF0]
  have hx:=aB zJ hlt
  have hy:=aB zJ (show j<m.length by omega)
  have e1:=eg hx
  have e2:=eg hy
  have d:=decide_eq_true (show (j:Int)<(l.length:Int) by omega)
  have g1:(j<l.length)=True:=eq_true hlt
  have g0:(0≤(j:Int))=True:=eq_true (by omega)
  have hw:=aN (j:=j) (by omega)
  have g2:(j<m.length)=True:=eq_true (by omega)
  have hl:=vI (n:=l.length) (l:=(eachN F j).1) (by omega)
  have g3:(j*3+3≤l.length*3)=True:=eq_true (by omega)
  cases hF:(F j).2 !=0 with
  |true=>
   have hr:=cQ hI hF hlt
   simp (maxSteps:=10000000) only [go_sem,seval,reduceCtorEq,bT,aQ,g2,e1,e2,hF,hr,hFj,d,g0,g1,hw]
   repeat' with_reducible first |apply And.intro |apply condP<;>intro _
   all_goals first |(show ar _ _=true;kernel_rfl)|assumption |rfl |(simp only [go_sem, *]<;>rfl)
  |false=>
   have hF0:(F j).2=0:=by simpa using hF
   have hk:=bh hI hF0
   have es:=ni (cf:=X.L) (zf:=zX.L) (s:=3) (fun _=>rfl) rfl (F j).1 hlen hlt
   have es:List.take (j*3) (vH l.length (eachN F j).1)++[.lit (.bool (F j).1.s),.lit (.int .i64 (F j).1.e),.ws (F j).1.xs]++List.drop (j*3+3) (vH l.length (eachN F j).1)=vH l.length (eachN F (j+1)).1:=by rw [hk];exact es
   have hk2:(eachN F (j+1)).2=0:=by rw [hk]
   replace ih:=ih hlt hk2
   simp (maxSteps:=10000000) only [go_sem,seval,reduceCtorEq,bT,aQ,g2,e1,e2,g3,hl,es,hF,hFj,d,g0,g1,hw]
   repeat' with_reducible first |apply And.intro |apply condP<;>intro _
   all_goals first |(show ar _ _=true;kernel_rfl)|(exact ih _ _ rfl)|assumption |rfl
 ·have hn:j=l.length:=by omega
  subst hn
  have d:=decide_eq_false (show ¬ (l.length:Int)<(l.length:Int) by omega)
  have hl:=vI (n:=l.length) (l:=(eachN F l.length).1) (by omega)
  have hq:l.length*3 / l.length=3:=Nat.mul_div_cancel_left _ (c9 h1).1
  have hdn:fD (vH l.length (eachN F l.length).1)=some (pC (eachN F l.length).1):=by unfold vH;rw [lf hlen];exact dd AW _
  have hfin:cp (eachN F l.length)= .tup [(false,[.sl true 3 l.length (pC (eachN F l.length).1)]),(false,[.lit (.int .i64 0)])]:=by
   have:=(c9 h1).1
   generalize l.length=n at*
   cases hx:eachN F n with
   |mk q e=>
    rw [hx] at hI hlen
    have hI:e=0:=hI
    have hlen:q.length=n:=hlen
    subst hI;subst hlen
    cases q with
    |nil=>simp at this
    |cons a q=>rfl
  simp (maxSteps:=10000000) only [go_sem,seval,reduceCtorEq,bT,d,hl,hq,hdn,hfin]
  repeat' with_reducible first |apply And.intro |apply condP<;>intro _
  all_goals first |(show ar _ _=true;kernel_rfl)|assumption |rfl |(simp only [go_sem, *]<;>rfl)
theorem Tz {w:World} {f:FuncId} {caps:List Value} {φ:J→J→X×Int} (ht:Tab w) (hf:Fv Tryz.prog w f caps (l5 fun a b=>(True,kY (φ a b)))) (l m:List J):Hc Tryz.prog w 200 [bv l,bv m,jL f caps] (cp (cR φ l m)):=by
 unfold cR
 cases h1:rightB l with
 |false=>exact R9 ht hf l m h1
 |true=>
  cases h2:rightB m with
  |false=>exact Sa ht hf l m h1 h2
  |true=>
   rw [cond_true,cond_true]
   cases h3:((l.length:Int)!=(m.length:Int)) with
   |true=>exact Sb ht hf l m h1 h2 h3
   |false=>exact Ta ht hf l m h1 h2 h3 (c9 h1).2
theorem Tx {w:World} {f:FuncId} {caps:List Value} {φ:J→J×Int} (ht:Tab w) (hf:Fv Tryz.prog w f caps (gJ fun j=>(True,iY (φ j)))) (l:List J):Hc Tryz.prog w 147 [bv l,jL f caps] (bP (fU φ l)):=by
 rw [←uL]
 refine fM (O:=bO (fN 142 2 (cm [[.lit (.func (.func f) #[] caps.toArray)]] 199 [bv l,bv l] (bP (cR (fun a _=>φ a) l l)))) (ai eJ)) (by kernel_rfl) ah (dD (dC (aX Tryz.func142 (by kernel_rfl) rfl) (fun ls c xs e he hp S w' gs hb ht' hL=>by
  injection he with he;subst he
  obtain ⟨rfl,rfl,rfl⟩:=hp
  exact S1 ht' (Qr hL (hf.mono hb)) l l)) (aa bk _ w) (fun _ _ _=>bf fun _=>rfl)) ht [] 300 12 [.tmp 4,.tmp 5] Tryz.func147 rfl Tryz.ntmps147 (by rw [Tryz.results147]) (by simp) rfl (fun hsm=>?_)
 simp (maxSteps:=10000000) only [go_sem,seval,reduceCtorEq,bT,bP,cp,eZ,dU,hd1,pick,ax,eo,eY,cr,eI,dt]
 repeat' with_reducible first |apply And.intro |apply condP<;>intro _
 all_goals first |(show ar _ _=true;kernel_rfl)|assumption |rfl |(simp only [go_sem, *,fN,mo,cm]<;>rfl)
theorem Ty {w:World} {f:FuncId} {caps:List Value} {φ:J→X×Int} (ht:Tab w) (hf:Fv Tryz.prog w f caps (gJ fun j=>(True,kY (φ j)))) (l:List J):Hc Tryz.prog w 149 [bv l,jL f caps] (cp (fU φ l)):=by
 rw [←uL]
 refine fM (O:=bO (fN 200 2 (cm [[.lit (.func (.func f) #[] caps.toArray)]] 201 [bv l,bv l] (cp (cR (fun a _=>φ a) l l)))) (ai eJ)) (by kernel_rfl) ah (dD (dC (aX Tryz.func200 (by kernel_rfl) rfl) (fun ls c xs e he hp S w' gs hb ht' hL=>by
  injection he with he;subst he
  obtain ⟨rfl,rfl,rfl⟩:=hp
  exact Tz ht' (Qs hL (hf.mono hb)) l l)) (aa bk _ w) (fun _ _ _=>bf fun _=>rfl)) ht [] 300 12 [.tmp 4,.tmp 5] Tryz.func149 rfl Tryz.ntmps149 (by rw [Tryz.results149]) (by simp) rfl (fun hsm=>?_)
 simp (maxSteps:=10000000) only [go_sem,seval,reduceCtorEq,bT,bP,cp,eZ,dU,hd1,pick,ax,eo,eY,cr,eI,dt]
 repeat' with_reducible first |apply And.intro |apply condP<;>intro _
 all_goals first |(show ar _ _=true;kernel_rfl)|assumption |rfl |(simp only [go_sem, *,fN,mo,cm]<;>rfl)
theorem R2 (l:List J) (m:List J) (z:Int):Ct Tryz.prog 86 [bv l,bv m,iA z] (·=bP (cR (fun a b=>cH a b z) l m)):=by
 refine ak (O:=bO (fN 142 2 (cm [[.lit (.int .i64 z)]] 143 [bv l,bv m] (bP (cR (fun a b=>cH a b z) l m)))) (ai eJ)) (by kernel_rfl) ah (fun w=>dD (dC (aX Tryz.func142 (by kernel_rfl) rfl) (fun ls c xs e he hp S w' gs hb ht' hL=>by
  injection he with he;subst he
  obtain ⟨rfl,rfl,rfl⟩:=hp
  exact S1 ht' (Qc hL) l m)) (aa bk _ w) (fun _ _ _=>bf fun _=>rfl)) [] 600 14 [.tmp 6,.tmp 7] Tryz.func86 rfl Tryz.ntmps86 (by rw [Tryz.results86]) (by simp) rfl (fun hsm=>?_)
 simp (maxSteps:=10000000) only [go_sem,seval,reduceCtorEq,bT,bP,cp,eZ,dU,hd1,pick,ax,eo,eY,cr,eI,dt]
 repeat' with_reducible first |apply And.intro |apply condP<;>intro _
 all_goals first |(show ar _ _=true;kernel_rfl)|assumption |rfl |(simp only [go_sem, *,fN,mo,cm]<;>rfl)
noncomputable def y9:b9:=one 86 (gA jC fun l=>gA jC fun m=>gA jd fun z=>gE (True,bP (cR (fun a b=>cH a b z) l m)))
theorem Cg:TbOK Tryz.prog y9:=bI (aX Tryz.func86 (by kernel_rfl) rfl) (.a dB fun l=>.a dB fun m=>.a bK fun z=>.e fun _=>R2 l m z)
theorem R4 (l:List J) (m:List J) (z:Int):Ct Tryz.prog 89 [bv l,bv m,iA z] (·=bP (cR (fun a b=>lM a b z) l m)):=by
 refine ak (O:=bO (fN 142 2 (cm [[.lit (.int .i64 z)]] 145 [bv l,bv m] (bP (cR (fun a b=>lM a b z) l m)))) (ai eJ)) (by kernel_rfl) ah (fun w=>dD (dC (aX Tryz.func142 (by kernel_rfl) rfl) (fun ls c xs e he hp S w' gs hb ht' hL=>by
  injection he with he;subst he
  obtain ⟨rfl,rfl,rfl⟩:=hp
  exact S1 ht' (Qe hL) l m)) (aa bk _ w) (fun _ _ _=>bf fun _=>rfl)) [] 600 14 [.tmp 6,.tmp 7] Tryz.func89 rfl Tryz.ntmps89 (by rw [Tryz.results89]) (by simp) rfl (fun hsm=>?_)
 simp (maxSteps:=10000000) only [go_sem,seval,reduceCtorEq,bT,bP,cp,eZ,dU,hd1,pick,ax,eo,eY,cr,eI,dt]
 repeat' with_reducible first |apply And.intro |apply condP<;>intro _
 all_goals first |(show ar _ _=true;kernel_rfl)|assumption |rfl |(simp only [go_sem, *,fN,mo,cm]<;>rfl)
noncomputable def zb:b9:=one 89 (gA jC fun l=>gA jC fun m=>gA jd fun z=>gE (True,bP (cR (fun a b=>lM a b z) l m)))
theorem Ci:TbOK Tryz.prog zb:=bI (aX Tryz.func89 (by kernel_rfl) rfl) (.a dB fun l=>.a dB fun m=>.a bK fun z=>.e fun _=>R4 l m z)
theorem R5 (x:J) (l:List J) (z:Int):Ct Tryz.prog 92 [jA x,bv l,iA z] (·=bP (fU (fun a=>cB x a z) l)):=by
 refine ak (O:=bO (fN 147 1 (cm [x.L,[.lit (.int .i64 z)]] 148 [bv l] (bP (fU (fun a=>cB x a z) l)))) (ai eJ)) (by kernel_rfl) ah (fun w=>dD (dC (aX Tryz.func147 (by kernel_rfl) rfl) (fun ls c xs e he hp S w' gs hb ht' hL=>by
  injection he with he;subst he
  obtain ⟨rfl,rfl,rfl⟩:=hp
  exact Tx ht' (Jy hL) l)) (aa bk _ w) (fun _ _ _=>bf fun _=>rfl)) [] 600 13 [.tmp 6,.tmp 7] Tryz.func92 rfl Tryz.ntmps92 (by rw [Tryz.results92]) (by simp) rfl (fun hsm=>?_)
 simp (maxSteps:=10000000) only [go_sem,seval,reduceCtorEq,bT,bP,cp,eZ,dU,hd1,pick,ax,eo,eY,cr,eI,dt]
 repeat' with_reducible first |apply And.intro |apply condP<;>intro _
 all_goals first |(show ar _ _=true;kernel_rfl)|assumption |rfl |(simp only [go_sem, *,fN,mo,cm]<;>rfl)
noncomputable def zc:b9:=one 92 (gA ki fun x=>gA jC fun l=>gA jd fun z=>gE (True,bP (fU (fun a=>cB x a z) l)))
theorem Cj:TbOK Tryz.prog zc:=bI (aX Tryz.func92 (by kernel_rfl) rfl) (.a nU fun x=>.a dB fun l=>.a bK fun z=>.e fun _=>R5 x l z)
theorem R3 (l:List J) (z:Int):Ct Tryz.prog 96 [bv l,iA z] (·=cp (fU (fun a=>iZ a z) l)):=by
 refine ak (O:=bO (fN 149 1 (cm [[.lit (.int .i64 z)]] 150 [bv l] (cp (fU (fun a=>iZ a z) l)))) (ai eJ)) (by kernel_rfl) ah (fun w=>dD (dC (aX Tryz.func149 (by kernel_rfl) rfl) (fun ls c xs e he hp S w' gs hb ht' hL=>by
  injection he with he;subst he
  obtain ⟨rfl,rfl,rfl⟩:=hp
  exact Ty ht' (Qd hL) l)) (aa bk _ w) (fun _ _ _=>bf fun _=>rfl)) [] 600 11 [.tmp 4,.tmp 5] Tryz.func96 rfl Tryz.ntmps96 (by rw [Tryz.results96]) (by simp) rfl (fun hsm=>?_)
 simp (maxSteps:=10000000) only [go_sem,seval,reduceCtorEq,bT,bP,cp,eZ,dU,hd1,pick,ax,eo,eY,cr,eI,dt]
 repeat' with_reducible first |apply And.intro |apply condP<;>intro _
 all_goals first |(show ar _ _=true;kernel_rfl)|assumption |rfl |(simp only [go_sem, *,fN,mo,cm]<;>rfl)
noncomputable def za:b9:=one 96 (gA jC fun l=>gA jd fun z=>gE (True,cp (fU (fun a=>iZ a z) l)))
theorem Ch:TbOK Tryz.prog za:=bI (aX Tryz.func96 (by kernel_rfl) rfl) (.a dB fun l=>.a bK fun z=>.e fun _=>R3 l z)
end
section
attribute [local go_sem] nN ou fJ gA gE jd yK ki oy jH jI j8 j9 ite_self fN mo cm jh lF bT
def mC (m:List (List J)):Lc:=.sl 1 m.length (m.map rC)
abbrev SH (l:List (List (List J))):AV:=.s (.sl false 1 l.length (l.map mC))
def asMs:List Lc→Option (List (List (List J)))
 |[]=>some []
 |.sl sz n ls::r=>(match vv ls,asMs r with
  |some m,some l=>if sz=1∧n=m.length then some (m::l) else none
  |_,_=>none)
 |_=>none
def Fh (x:AV):Option (List (List (List J))):=match x with
 |.v false [.sl false sz n ls]=>(match asMs ls with
  |some l=>if sz=1∧n=l.length then some l else none
  |none=>none)
 |_=>none
theorem Fi {S:Nat→Prop} {w:World}:∀ {ls:List Lc} {m:List (List (List J))},asMs ls=some m→ls.length=(m.map mC).length∧∀ us,LcL S w ls us→LcL S w (m.map mC) us:=by
 intro ls
 induction ls with
 |nil=>intro m h;injection h with h;subst h;exact ⟨rfl,fun _ h=>h⟩
 |cons l ls ih=>
  intro m h
  unfold asMs at h
  split at h
  ·rename_i e;cases e
  ·rename_i sz n ks r e
   injection e with e1 e2;subst e1;subst e2
   split at h
   ·rename_i l' m' h1 h2
    split at h
    ·rename_i hc
     injection h with h;subst h
     obtain ⟨rfl,rfl⟩:=hc
     obtain ⟨i1,i2⟩:=ih h2
     refine ⟨by simp [i1],?_⟩
     rintro us ⟨u,r,rfl,h3,h4⟩
     exact ⟨u,r,rfl,jF (vw (S:=S) (w:=w) h1).1 (vw h1).2 h3,i2 _ h4⟩
    ·cases h
   ·cases h
  ·cases h
theorem Jo:vc Fh SH:=by
 intro x m h ρ D w u hR
 unfold Fh at h
 split at h
 ·split at h
  ·rename_i ls m' hl
   split at h
   ·rename_i hc
    injection h with h;subst h
    obtain ⟨rfl,rfl⟩:=hc
    exact RL.one.2 (jF (Fi (S:=SepF false ρ D) (w:=w) hl).1 (Fi hl).2 (RL.one.1 hR))
   ·cases h
  ·cases h
 ·cases h
theorem eQ {m:List (List J)} {j:Nat} {r:List J} (h:m[j]? =some r):List.take 1 (List.drop (j*1) (List.map rC m))=[Lc.sl 6 r.length (bC r)]:=by
 rw [Nat.mul_one,←List.map_drop,←List.map_take]
 have hlt:j<m.length:=(List.getElem?_eq_some_iff.1 h).1
 rw [List.drop_eq_getElem_cons hlt,List.take_succ_cons,List.take_zero,(List.getElem?_eq_some_iff.1 h).2]
 rfl
theorem Bz {m:List (List X)} {j:Nat} {r:List X} (h:m[j]? =some r):List.take 1 (List.drop (j*1) (List.map rP m))=[Lc.sl 3 r.length (pC r)]:=by
 rw [Nat.mul_one,←List.map_drop,←List.map_take]
 have hlt:j<m.length:=(List.getElem?_eq_some_iff.1 h).1
 rw [List.drop_eq_getElem_cons hlt,List.take_succ_cons,List.take_zero,(List.getElem?_eq_some_iff.1 h).2]
 rfl
theorem Q8 {m:List (List (List J))} {j:Nat} {r:List (List J)} (h:m[j]? =some r):List.take 1 (List.drop (j*1) (List.map mC m))=[Lc.sl 1 r.length (r.map rC)]:=by
 rw [Nat.mul_one,←List.map_drop,←List.map_take]
 have hlt:j<m.length:=(List.getElem?_eq_some_iff.1 h).1
 rw [List.drop_eq_getElem_cons hlt,List.take_succ_cons,List.take_zero,(List.getElem?_eq_some_iff.1 h).2]
 rfl
def jR (n a b:Int):Bool:=bif decide (a≤n) then decide (n≤b) else false
def mZ (n:Nat) (r:List J):Bool:=bif ((r.length:Int)!=(n:Int)) then false else rightB r
def rightM (m:List (List J)):Bool:=bif jR m.length 1 4 then m.all (mZ m.length) else false
theorem KQ (x a b:Int):Ct Tryz.prog 55 [iA x,iA a,iA b] (·=bA (jR x a b)):=by
 refine ak (O:=ai eJ) (by kernel_rfl) ah (fun w=>aa bk _ w) [] 600 15 [.tmp 6] Tryz.func55 rfl Tryz.ntmps55 (by rw [Tryz.results55]) (by simp) rfl (fun hsm=>?_)
 simp (maxSteps:=10000000) only [go_sem,seval,reduceCtorEq,jR,bP,cp,eZ,dU,hd1,pick,ax,eo,eY,cr,eI,dt]
 repeat' with_reducible first |apply And.intro |apply condP<;>intro _
 all_goals first |(show ar _ _=true;kernel_rfl)|assumption |rfl |(simp only [go_sem, *,jR]<;>rfl)
noncomputable def cO:b9:=one 55 (gA jd fun x=>gA jd fun a=>gA jd fun b=>gE (True,bA (jR x a b)))
theorem k9:TbOK Tryz.prog cO:=bI (aX Tryz.func55 (by kernel_rfl) rfl) (.a bK fun x=>.a bK fun a=>.a bK fun b=>.e fun _=>KQ x a b)
theorem Hi (m:List (List J)) (h:jR m.length 1 4=false):Ct Tryz.prog 19 [bw m] (·=bA (rightM m)):=by
 have hr:rightM m=false:=by unfold rightM;rw [h];rfl
 refine ak (O:=ai cO) (by kernel_rfl) ah (fun w=>aa k9 _ w) [] 600 30 [.tmp 2] Tryz.func19 rfl Tryz.ntmps19 (by rw [Tryz.results19]) (by simp) rfl (fun hsm=>?_)
 simp (maxSteps:=10000000) only [go_sem,seval,reduceCtorEq,cO,h,hr,bP,cp,eZ,dU,hd1,pick,ax,eo,eY,cr,eI,dt]
 repeat' with_reducible first |apply And.intro |apply condP<;>intro _
 all_goals first |(show ar _ _=true;kernel_rfl)|assumption |rfl |(simp only [go_sem, *]<;>rfl)
theorem Hj (m:List (List J)) (h:jR m.length 1 4=true):Ct Tryz.prog 19 [bw m] (·=bA (rightM m)):=by
 have hb:m.length≤4:=by
  unfold jR at h
  cases h1:decide ((1:Int)≤(m.length:Int)) with
  |false=>rw [h1] at h;cases h
  |true=>rw [h1,cond_true] at h;have:=of_decide_eq_true h;omega
 refine ak (O:=ai (aF cO aQ)) (by kernel_rfl) ah (fun w=>aa (ab k9 fB) _ w) [9999999,0,6,20,22] ((m.length+1)*300+200) 30 [.tmp 2] Tryz.func19 rfl Tryz.ntmps19 (by rw [Tryz.results19]) (by simp) rfl (fun hsm=>?_)
 simp (maxSteps:=10000000) only [go_sem,seval,reduceCtorEq,cO,aQ,h]
 refine aL 300 (fun j=>[(0,bw m),(6,iA (m.length:Int)),(20,iA (m.length:Int)),(22,iA (j:Int))]) m.length (fun j=>(m.take j).all (mZ m.length)=true) 0 (fun j _=>rfl) (fun j mm _ hj hI ih=>?_) (by omega) rfl rfl
 rcases Nat.lt_or_ge j m.length with hlt |hge
 ·have hx:=aB [] hlt
  generalize m.getD j []=r at hx
  have e1:=eQ hx
  have d:=decide_eq_true (show (j:Int)<(m.length:Int) by omega)
  have g1:(j<m.length)=True:=eq_true hlt
  have g0:(0≤(j:Int))=True:=eq_true (by omega)
  have hw:=aN (j:=j) (by omega)
  have ht:m.take (j+1)=m.take j++[r]:=by rw [List.take_add_one,hx];rfl
  cases hr:mZ m.length r with
  |false=>
   have hm:rightM m=false:=by
    unfold rightM
    rw [h,cond_true,List.all_eq_false]
    exact ⟨r,List.mem_of_getElem? hx,by rw [hr];simp⟩
   unfold mZ at hr
   cases hq:((r.length:Int)!=(m.length:Int)) with
   |true=>
    simp (maxSteps:=10000000) only [go_sem,seval,reduceCtorEq,cO,aQ,d,g0,g1,e1,hw,hq,hm]
    repeat' with_reducible first |apply And.intro |apply condP<;>intro _
    all_goals first |(show ar _ _=true;kernel_rfl)|assumption |rfl |(simp only [go_sem, *]<;>rfl)
   |false=>
    rw [hq,cond_false] at hr
    simp (maxSteps:=10000000) only [go_sem,seval,reduceCtorEq,cO,aQ,d,g0,g1,e1,hw,hq,hr,hm]
    repeat' with_reducible first |apply And.intro |apply condP<;>intro _
    all_goals first |(show ar _ _=true;kernel_rfl)|assumption |rfl |(simp only [go_sem, *]<;>rfl)
  |true=>
   replace ih:=ih hlt (by rw [ht,List.all_append,hI,List.all_cons,hr];rfl)
   unfold mZ at hr
   cases hq:((r.length:Int)!=(m.length:Int)) with
   |true=>rw [hq] at hr;cases hr
   |false=>
    rw [hq,cond_false] at hr
    simp (maxSteps:=10000000) only [go_sem,seval,reduceCtorEq,cO,aQ,d,g0,g1,e1,hw,hq,hr]
    repeat' with_reducible first |apply And.intro |apply condP<;>intro _
    all_goals first |(show ar _ _=true;kernel_rfl)|(exact ih _ _ rfl)|assumption |rfl
 ·have hn:j=m.length:=by omega
  subst hn
  have d:=decide_eq_false (show ¬ (m.length:Int)<(m.length:Int) by omega)
  rw [List.take_length] at hI
  have hm:rightM m=true:=by unfold rightM;rw [h,hI];rfl
  simp (maxSteps:=10000000) only [go_sem,seval,reduceCtorEq,cO,aQ,d,hm]
  repeat' with_reducible first |apply And.intro |apply condP<;>intro _
  all_goals first |(show ar _ _=true;kernel_rfl)|assumption |rfl |(simp only [go_sem, *]<;>rfl)
theorem Bn (m:List (List J)):Ct Tryz.prog 19 [bw m] (·=bA (rightM m)):=by
 cases h:jR m.length 1 4 with
 |false=>exact Hi m h
 |true=>exact Hj m h
noncomputable def cN:b9:=one 19 (gA kU fun m=>gE (True,bA (rightM m)))
theorem nc:TbOK Tryz.prog cN:=bI (aX Tryz.func19 (by kernel_rfl) rfl) (.a bi fun m=>.e fun _=>Bn m)
theorem Hk (p:Int) (l:List (List (List J))) (hl:l.length≤100):Ct Tryz.prog 67 [iA p,SH l] (·=bA (bif l.all rightM then jR p 8 256 else false)):=by
 refine ak (O:=ai (aF cO cN)) (by kernel_rfl) ah (fun w=>aa (ab k9 nc) _ w) [9999999,0,14,16,18] ((l.length+1)*300+200) 19 [.tmp 4] Tryz.func67 rfl Tryz.ntmps67 (by rw [Tryz.results67]) (by simp) rfl (fun hsm=>?_)
 simp (maxSteps:=10000000) only [go_sem,seval,reduceCtorEq,cO,cN]
 refine aL 300 (fun j=>[(0,iA p),(14,SH l),(16,iA (l.length:Int)),(18,iA (j:Int))]) l.length (fun j=>(l.take j).all rightM=true) 0 (fun j _=>rfl) (fun j mm _ hj hI ih=>?_) (by omega) rfl rfl
 rcases Nat.lt_or_ge j l.length with hlt |hge
 ·have hx:=aB [] hlt
  generalize l.getD j []=r at hx
  have e1:=Q8 hx
  have d:=decide_eq_true (show (j:Int)<(l.length:Int) by omega)
  have g1:(j<l.length)=True:=eq_true hlt
  have g0:(0≤(j:Int))=True:=eq_true (by omega)
  have hw:=aN (j:=j) (by omega)
  have ht:l.take (j+1)=l.take j++[r]:=by rw [List.take_add_one,hx];rfl
  cases hr:rightM r with
  |false=>
   have hm:l.all rightM=false:=by
    rw [List.all_eq_false]
    exact ⟨r,List.mem_of_getElem? hx,by rw [hr];simp⟩
   simp (maxSteps:=10000000) only [go_sem,seval,reduceCtorEq,cO,cN,d,g0,g1,e1,hw,hr,hm]
   repeat' with_reducible first |apply And.intro |apply condP<;>intro _
   all_goals first |(show ar _ _=true;kernel_rfl)|assumption |rfl |(simp only [go_sem, *]<;>rfl)
  |true=>
   replace ih:=ih hlt (by rw [ht,List.all_append,hI,List.all_cons,hr];rfl)
   simp (maxSteps:=10000000) only [go_sem,seval,reduceCtorEq,cO,cN,d,g0,g1,e1,hw,hr]
   repeat' with_reducible first |apply And.intro |apply condP<;>intro _
   all_goals first |(show ar _ _=true;kernel_rfl)|(exact ih _ _ rfl)|assumption |rfl
 ·have hn:j=l.length:=by omega
  subst hn
  have d:=decide_eq_false (show ¬ (l.length:Int)<(l.length:Int) by omega)
  rw [List.take_length] at hI
  simp (maxSteps:=10000000) only [go_sem,seval,reduceCtorEq,cO,cN,d,hI]
  repeat' with_reducible first |apply And.intro |apply condP<;>intro _
  all_goals first |(show ar _ _=true;kernel_rfl)|assumption |rfl |(simp only [go_sem, *]<;>rfl)
noncomputable def aA:b9:=one 67 (gA jd fun p=>gA Fh fun l=>gE (l.length≤100,bA (bif l.all rightM then jR p 8 256 else false)))
theorem aV:TbOK Tryz.prog aA:=bI (aX Tryz.func67 (by kernel_rfl) rfl) (.a bK fun p=>.a Jo fun l=>.e fun h=>Hk p l h)
end
section
attribute [local go_sem] nN ou fJ gA gE jd yK ki oy jH jI j8 j9 ite_self fN mo cm jh lF bT
def poi (l:List X):List J:=l.map fun x=>⟨x,x⟩
theorem lm (l:List X):(poi l).length=l.length:=by unfold poi;simp
theorem Ii {l:List X} {j:Nat} {x:X} (h:l[j]? =some x):(poi l).take (j+1)=(poi l).take j++[⟨x,x⟩]:=by
 unfold poi
 rw [List.take_add_one,List.getElem?_map,h];rfl
theorem yb {l:List X} {j:Nat} (h:j≤l.length):((poi l).take j).length=j:=by rw [List.length_take,lm];omega
theorem IB {ρ:Env} {D:Nat→Bool} {w:World} {u:Value} {s s':Nat} (h:(Lf.sl true s 0 []).R ρ D w u):(Lf.sl true s' 0 []).R ρ D w u:=by
 obtain ⟨_,A,c,e,hc,_⟩:=h
 exact ⟨by simp,A,c,e,hc,.inl rfl⟩
def tP (n:Nat) (l:List (List J)):List Lf:=cA (fun r:List J=>[.sl true 6 r.length (bC r)]) [.lit (.slice none 0 0)] n l
theorem vG {n:Nat} {l:List (List J)} (hl:l.length≤n):(tP n l).length=n*1:=ss (cf:=fun r:List J=>[.sl true 6 r.length (bC r)]) (zf:=[.lit (.slice none 0 0)]) (s:=1) (fun _=>rfl) rfl hl
theorem Mg {st:St} {n:Nat} {l:List (List J)}:(tP n l).all (bx st)=true:=qr (p:=bx st) (fun _=>rfl) rfl
theorem Mf {n:Nat} {l:List (List J)} (hl:l.length=n):fD (tP n l)=some (l.map rC):=by
 unfold tP
 rw [lf hl,←lD]
 exact dd (fun _=>rfl) _
theorem FR {n j:Nat} {l:List (List J)} (r:List J) (hl:l.length=j) (hj:j<n):List.take (j*1) (tP n l)++[.sl true 6 r.length (bC r)]++List.drop (j*1+1) (tP n l)=tP n (l++[r]):=ni (cf:=fun r:List J=>[.sl true 6 r.length (bC r)]) (zf:=[.lit (.slice none 0 0)]) (s:=1) (fun _=>rfl) rfl r hl hj
def Sn:Lf→Bool
 |.osl _ _=>false
 |.ol _ _=>false
 |_=>true
theorem Gm {b:Nat} {st:St}:∀ {ls:List Lf},ls.all Sn=true→ls.map (dt b st)=ls:=by
 intro ls
 induction ls with
 |nil=>intro _;rfl
 |cons l ls ih=>
  intro h
  rw [List.all_cons,Bool.and_eq_true] at h
  rw [List.map_cons,ih h.2]
  congr 1
  cases l<;>first |rfl |exact absurd h.1 (by simp [Sn])
theorem Ff {p:Lf→Bool} {ls:List Lf} (h:ls.all p=true) (k:Nat):(ls.take k).all p=true:=List.all_eq_true.2 fun l hl=>List.all_eq_true.1 h l (List.mem_of_mem_take hl)
theorem Fe {p:Lf→Bool} {ls:List Lf} (h:ls.all p=true) (k:Nat):(ls.drop k).all p=true:=List.all_eq_true.2 fun l hl=>List.all_eq_true.1 h l (List.mem_of_mem_drop hl)
theorem Mh {n:Nat} {l:List (List J)}:(tP n l).all Sn=true:=qr (fun _=>rfl) rfl
theorem Nr:Ct Tryz.prog 29 [qi []] (·= .s (.sl true 6 (poi []).length (bC (poi [])))):=by
 refine Ct.wk ?_ (wS (l:=.sl true 0 0 []) (fun _ _ _ _ h=>IB h) rfl)
 refine ak (O:=ai jW) (by kernel_rfl) ah (fun w=>aa nQ _ w) [] 600 23 [.tmp 2] Tryz.func29 rfl Tryz.ntmps29 (by rw [Tryz.results29]) (by simp) rfl (fun hsm=>?_)
 simp (maxSteps:=10000000) only [go_sem,seval,reduceCtorEq,jW,jC,eZ,dU,hd1,pick,ax,bP,cp,eo,eY,cr,eI,dt]
 repeat' with_reducible first |apply And.intro |apply condP<;>intro _
 all_goals first |(show ar _ _=true;kernel_rfl)|assumption |rfl |(simp only [go_sem, *]<;>rfl)
theorem FN (l:List X) (h1:1≤l.length) (h2:l.length≤100):Ct Tryz.prog 29 [qi l] (·= .s (.sl true 6 (poi l).length (bC (poi l)))):=by
 have c1:(0≤(l.length:Int))=True:=eq_true (by omega)
 have c2:((l.length:Int)≤1000)=True:=eq_true (by omega)
 have e0:(List.replicate l.length [.lit (.bool false),.lit (.int .i64 0),.ws [],.lit (.bool false),.lit (.int .i64 0),.ws []]).flatten=re l.length ([]:List J):=(mB (cf:=J.L) (zf:=zJ.L)).symm
 refine ak (O:=ai jW) (by kernel_rfl) ah (fun w=>aa nQ _ w) [9999999,0,6,17,18,20,22] ((l.length+1)*200+100) 23 [.tmp 2] Tryz.func29 rfl Tryz.ntmps29 (by rw [Tryz.results29]) (by simp) rfl (fun hsm=>?_)
 simp (maxSteps:=10000000) only [go_sem,seval,reduceCtorEq,jW,c1,c2,e0]
 refine aL 200 (fun j=>[(0,qi l),(6,.s (.osl 8 l.length)),(17,.v true (re l.length ((poi l).take j))),(18,qi l),(20,iA (l.length:Int)),(22,iA (j:Int))]) l.length (fun j=>True) 0 (fun j _=>by simp only [List.all_cons,List.all_nil,bH,bx,FP,Bool.and_true];rfl) (fun j mm _ hj _ ih=>?_) (by omega) trivial rfl
 rcases Nat.lt_or_ge j l.length with hlt |hge
 ·have hx:=aB zX hlt
  generalize l.getD j zX=x at hx
  have e1:=Ac hx
  have d:=decide_eq_true (show (j:Int)<(l.length:Int) by omega)
  have g1:(j<l.length)=True:=eq_true hlt
  have g0:(0≤(j:Int))=True:=eq_true (by omega)
  have hw:=aN (j:=j) (by omega)
  have hl:=qt (n:=l.length) (l:=(poi l).take j) (by rw [yb hj];omega)
  have g3:(j*6+6≤l.length*6)=True:=eq_true (by omega)
  have es:=ni (cf:=J.L) (zf:=zJ.L) (s:=6) (fun _=>rfl) rfl ⟨x,x⟩ (yb hj) hlt
  have es:List.take (j*6) (re l.length ((poi l).take j))++[.lit (.bool x.s),.lit (.int .i64 x.e),.ws x.xs,.lit (.bool x.s),.lit (.int .i64 x.e),.ws x.xs]++List.drop (j*6+6) (re l.length ((poi l).take j))=re l.length ((poi l).take (j+1)):=by rw [Ii hx];exact es
  replace ih:=ih hlt trivial
  simp (maxSteps:=10000000) only [go_sem,seval,reduceCtorEq,jW,e1,hl,g3,es,d,g0,g1,hw]
  repeat' with_reducible first |apply And.intro |apply condP<;>intro _
  all_goals first |(show ar _ _=true;kernel_rfl)|(exact ih _ _ rfl)|assumption |rfl
 ·have hn:j=l.length:=by omega
  subst hn
  have d:=decide_eq_false (show ¬ (l.length:Int)<(l.length:Int) by omega)
  have ht:(poi l).take l.length=poi l:=by rw [←lm l,List.take_length]
  have hl:=qt (n:=l.length) (l:=poi l) (by rw [lm];omega)
  have hq:l.length*6 / l.length=6:=Nat.mul_div_cancel_left _ h1
  have hdn:fD (re l.length (poi l))=some (bC (poi l)):=by unfold re;rw [lf (lm l)];exact dd oK _
  rw [ht]
  simp (maxSteps:=10000000) only [go_sem,seval,reduceCtorEq,jW,d,hl,hq,hdn,lm]
  repeat' with_reducible first |apply And.intro |apply condP<;>intro _
  all_goals first |(show ar _ _=true;kernel_rfl)|assumption |rfl |(simp only [go_sem, *]<;>rfl)
noncomputable def r9:b9:=one 29 (gA tY fun l=>gE (l.length≤100,.s (.sl true 6 (poi l).length (bC (poi l)))))
theorem xa:TbOK Tryz.prog r9:=bI (aX Tryz.func29 (by kernel_rfl) rfl) (.a vu fun l=>.e fun h=>by
 rcases Nat.eq_zero_or_pos l.length with h0 |h0
 ·obtain rfl:=List.eq_nil_of_length_eq_zero h0;exact Nr
 ·exact FN l h0 h)
theorem pm {α β:Type} {φ:α→β→Bool}:∀ {l:List α} {m:List β},l.length≠m.length→bZ φ l m=false:=by
 intro l
 induction l with
 |nil=>intro m h;cases m with
  |nil=>simp at h
  |cons _ _=>rfl
 |cons a l ih=>intro m h;cases m with
  |nil=>rfl
  |cons b m=>unfold bZ;rw [ih (by simpa using h),Bool.and_false]
theorem Sy {w:World} {f:FuncId} {caps:List Value} {φ:J→J→Bool} (ht:Tab w) (hf:Fv Tryz.prog w f caps (l5 fun a b=>(True,bA (φ a b)))) (l:List J) (m:List J) (hl:l.length≠m.length):Hc Tryz.prog w 113 [bv l,bv m,jL f caps] (bA (bZ φ l m)):=by
 have h1:((l.length:Int)!=(m.length:Int))=true:=bne_iff_ne.2 (by omega)
 rw [pm hl]
 refine fM (O:=bO (jM 2 f caps (l5 fun a b=>(True,bA (φ a b)))) (ai eJ)) (by kernel_rfl) ah (kP (fE hf) (aa bk _ w) (fun g d st args h=>LK)) ht [] 300 32 [.tmp 6] Tryz.func113 rfl Tryz.ntmps113 (by rw [Tryz.results113]) (by simp) rfl (fun hsm=>?_)
 simp (maxSteps:=10000000) only [go_sem,seval,reduceCtorEq,h1]
 repeat' with_reducible first |apply And.intro |apply condP<;>intro _
 all_goals first |(show ar _ _=true;kernel_rfl)|assumption |rfl |(simp only [go_sem, *]<;>rfl)
theorem Tj {w:World} {f:FuncId} {caps:List Value} {φ:J→J→Bool} (ht:Tab w) (hf:Fv Tryz.prog w f caps (l5 fun a b=>(True,bA (φ a b)))) (l:List J) (m:List J) (hb:l.length≤1000):Hc Tryz.prog w 113 [bv l,bv m,jL f caps] (bA (bZ φ l m)):=by
 by_cases h:l.length=m.length
 ·exact Sx ht hf l m h (by omega)
 ·exact Sy ht hf l m h
theorem Jx (l m:List J) (hb0:l.length≤1000):Ct Tryz.prog 97 [bv l,bv m] (·=bA (dT l m)):=by
 refine ak (O:=bO (fN 113 2 (cm [] 152 [bv l,bv m] (bA (bZ oQ l m)))) (ai eJ)) (by kernel_rfl) ah (fun w=>dD (dC (aX Tryz.func113 (by kernel_rfl) rfl) (fun ls c xs e he hp S w' gs hb ht' hL=>by
  injection he with he;subst he
  obtain ⟨rfl,rfl,rfl⟩:=hp
  obtain rfl:gs=[]:=List.eq_nil_of_length_eq_zero hL.1
  exact Tj ht' (Qu xb (aX Tryz.func152 (by kernel_rfl) rfl)) l m hb0)) (aa bk _ w) (fun _ _ _=>bf fun _=>rfl)) [] 600 8 [.tmp 4] Tryz.func97 rfl Tryz.ntmps97 (by rw [Tryz.results97]) (by simp) rfl (fun hsm=>?_)
 simp (maxSteps:=10000000) only [go_sem,seval,reduceCtorEq,bP,cp,eZ,dU,hd1,pick,ax,eo,eY,cr,eI,dt]
 repeat' with_reducible first |apply And.intro |apply condP<;>intro _
 all_goals first |(show ar _ _=true;kernel_rfl)|assumption |rfl |(simp only [go_sem, *,fN,mo,cm,dT]<;>rfl)
noncomputable def Je:b9:=one 97 (gA jC fun l=>gA jC fun m=>gE (l.length≤1000,bA (dT l m)))
theorem yX:TbOK Tryz.prog Je:=bI (aX Tryz.func97 (by kernel_rfl) rfl) (.a dB fun l=>.a dB fun m=>.e fun h=>Jx l m h)
theorem P9 (l m:List J) (hb0:l.length≤1000):Ct Tryz.prog 53 [bv l,bv m] (·=bA (Ol l m)):=by
 refine ak (O:=bO (fN 113 2 (cm [] 114 [bv l,bv m] (bA (bZ Kc l m)))) (ai aQ)) (by kernel_rfl) ah (fun w=>dD (dC (aX Tryz.func113 (by kernel_rfl) rfl) (fun ls c xs e he hp S w' gs hb ht' hL=>by
  injection he with he;subst he
  obtain ⟨rfl,rfl,rfl⟩:=hp
  obtain rfl:gs=[]:=List.eq_nil_of_length_eq_zero hL.1
  exact Tj ht' (Qu Ce (aX Tryz.func114 (by kernel_rfl) rfl)) l m hb0)) (aa fB _ w) (fun _ _ _=>bf fun _=>bz (by decide))) [] 600 16 [.tmp 4] Tryz.func53 rfl Tryz.ntmps53 (by rw [Tryz.results53]) (by simp) rfl (fun hsm=>?_)
 simp (maxSteps:=10000000) only [go_sem,seval,reduceCtorEq,aQ,bP,cp,eZ,dU,hd1,pick,ax,eo,eY,cr,eI,dt]
 repeat' with_reducible first |apply And.intro |apply condP<;>intro _
 all_goals first |(show ar _ _=true;kernel_rfl)|assumption |rfl |(simp only [go_sem, *,fN,mo,cm,Ol]<;>rfl)
noncomputable def PX:b9:=one 53 (gA jC fun l=>gA jC fun m=>gE (l.length≤1000,bA (Ol l m)))
theorem EB:TbOK Tryz.prog PX:=bI (aX Tryz.func53 (by kernel_rfl) rfl) (.a dB fun l=>.a dB fun m=>.e fun h=>P9 l m h)
theorem OJ:Ct Tryz.prog 16 [wl []] (·= .s (.sl true 1 (([]:List (List X)).map poi).length ((([]:List (List X)).map poi).map rC))):=by
 refine Ct.wk ?_ (wS (l:=.sl true 0 0 []) (fun _ _ _ _ h=>IB h) rfl)
 refine ak (O:=ai r9) (by kernel_rfl) ah (fun w=>aa xa _ w) [] 600 23 [.tmp 2] Tryz.func16 rfl Tryz.ntmps16 (by rw [Tryz.results16]) (by simp) rfl (fun hsm=>?_)
 simp (maxSteps:=10000000) only [go_sem,seval,reduceCtorEq,r9,jC,eZ,dU,hd1,pick,ax,bP,cp,eo,eY,cr,eI,dt]
 repeat' with_reducible first |apply And.intro |apply condP<;>intro _
 all_goals first |(show ar _ _=true;kernel_rfl)|assumption |rfl |(simp only [go_sem, *]<;>rfl)
theorem Hv (a:List (List X)) (h1:1≤a.length) (h2:a.length≤100) (h3:∀ r∈a,r.length≤100):Ct Tryz.prog 16 [wl a] (·= .s (.sl true 1 (a.map poi).length ((a.map poi).map rC))):=by
 have c1:(0≤(a.length:Int))=True:=eq_true (by omega)
 have c2:((a.length:Int)≤1000)=True:=eq_true (by omega)
 have e0:(List.replicate a.length [Lf.lit (.slice none 0 0)]).flatten=tP a.length ([]:List (List J)):=(mB (cf:=fun r:List J=>[.sl true 6 r.length (bC r)]) (zf:=[.lit (.slice none 0 0)])).symm
 refine ak (O:=ai r9) (by kernel_rfl) ah (fun w=>aa xa _ w) [9999999,0,6,15,18,20] ((a.length+1)*200+100) 23 [.tmp 2] Tryz.func16 rfl Tryz.ntmps16 (by rw [Tryz.results16]) (by simp) rfl (fun hsm=>?_)
 simp (maxSteps:=10000000) only [go_sem,seval,reduceCtorEq,r9,c1,c2,e0]
 refine aL 200 (fun j=>[(0,wl a),(6,.s (.osl 7 a.length)),(15,.v true (tP a.length ((a.map poi).take j))),(18,iA (a.length:Int)),(20,iA (j:Int))]) a.length (fun j=>True) 0 (fun j _=>by simp only [List.all_cons,List.all_nil,bH,bx,Mg,Bool.and_true];rfl) (fun j mm _ hj _ ih=>?_) (by omega) trivial rfl
 have hlj:((a.map poi).take j).length=j:=by rw [List.length_take,List.length_map];omega
 rcases Nat.lt_or_ge j a.length with hlt |hge
 ·have hx:=aB [] hlt
  have hr:=h3 _ (List.mem_of_getElem? hx)
  generalize a.getD j []=x at hx hr
  have e1:=Bz hx
  have d:=decide_eq_true (show (j:Int)<(a.length:Int) by omega)
  have g1:(j<a.length)=True:=eq_true hlt
  have g0:(0≤(j:Int))=True:=eq_true (by omega)
  have hw:=aN (j:=j) (by omega)
  have hl:=vG (n:=a.length) (l:=(a.map poi).take j) (by omega)
  have g3:(j*1+1≤a.length*1)=True:=eq_true (by omega)
  have g4:(x.length≤100)=True:=eq_true hr
  have ht:(a.map poi).take (j+1)=(a.map poi).take j++[poi x]:=by rw [List.take_add_one,List.getElem?_map,hx];rfl
  have es:=FR (poi x) hlj hlt
  rw [←ht] at es
  replace ih:=ih hlt trivial
  simp (maxSteps:=10000000) only [go_sem,seval,reduceCtorEq,r9,e1,hl,g3,g4,es,d,g0,g1,hw]
  repeat' with_reducible first |apply And.intro |apply condP<;>intro _
  all_goals first |(show ar _ _=true;kernel_rfl)|(exact ih _ _ rfl)|assumption |rfl
 ·have hn:j=a.length:=by omega
  subst hn
  have d:=decide_eq_false (show ¬ (a.length:Int)<(a.length:Int) by omega)
  have ht:(a.map poi).take a.length=a.map poi:=by rw [←List.length_map poi,List.take_length]
  have hl:=vG (n:=a.length) (l:=a.map poi) (by simp)
  have hq:a.length*1 / a.length=1:=Nat.mul_div_cancel_left _ h1
  have hdn:=Mf (n:=a.length) (l:=a.map poi) (by simp)
  rw [ht]
  simp (maxSteps:=10000000) only [go_sem,seval,reduceCtorEq,r9,d,hl,hq,hdn,List.length_map]
  repeat' with_reducible first |apply And.intro |apply condP<;>intro _
  all_goals first |(show ar _ _=true;kernel_rfl)|assumption |rfl |(simp only [go_sem, *]<;>rfl)
noncomputable def oC:b9:=one 16 (gA Jp fun a=>gE (a.length≤100∧∀ r∈a,r.length≤100,.s (.sl true 1 (a.map poi).length ((a.map poi).map rC))))
theorem Fa:TbOK Tryz.prog oC:=bI (aX Tryz.func16 (by kernel_rfl) rfl) (.a sn fun a=>.e fun h=>by
 rcases Nat.eq_zero_or_pos a.length with h0 |h0
 ·obtain rfl:=List.eq_nil_of_length_eq_zero h0;exact OJ
 ·exact Hv a h0 h.1 h.2)
theorem Sv {w:World} {f:FuncId} {caps:List Value} {φ:List J→List J→Bool} (ht:Tab w) (hf:Fv Tryz.prog w f caps (gA jC fun a=>gA jC fun b=>gE (a.length≤1000,bA (φ a b)))) (l m:List (List J)) (hl:l.length≠m.length):Hc Tryz.prog w 52 [bw l,bw m,jL f caps] (bA (bZ φ l m)):=by
 have h1:((l.length:Int)!=(m.length:Int))=true:=bne_iff_ne.2 (by omega)
 rw [pm hl]
 refine fM (O:=bO (jM 2 f caps (gA jC fun a=>gA jC fun b=>gE (a.length≤1000,bA (φ a b)))) (ai eJ)) (by kernel_rfl) ah (kP (fE hf) (aa bk _ w) (fun g d st args h=>LK)) ht [] 300 32 [.tmp 6] Tryz.func52 rfl Tryz.ntmps52 (by rw [Tryz.results52]) (by simp) rfl (fun hsm=>?_)
 simp (maxSteps:=10000000) only [go_sem,seval,reduceCtorEq,h1]
 repeat' with_reducible first |apply And.intro |apply condP<;>intro _
 all_goals first |(show ar _ _=true;kernel_rfl)|assumption |rfl |(simp only [go_sem, *]<;>rfl)
theorem Sw {w:World} {f:FuncId} {caps:List Value} {φ:List J→List J→Bool} (ht:Tab w) (hf:Fv Tryz.prog w f caps (gA jC fun a=>gA jC fun b=>gE (a.length≤1000,bA (φ a b)))) (l m:List (List J)) (hl:l.length=m.length) (hb:l.length≤1000) (h3:∀ r∈l,r.length≤1000):Hc Tryz.prog w 52 [bw l,bw m,jL f caps] (bA (bZ φ l m)):=by
 have h1:((l.length:Int)!=(m.length:Int))=false:=by rw [hl];exact bne_self_eq_false ..
 refine fM (O:=bO (jM 2 f caps (gA jC fun a=>gA jC fun b=>gE (a.length≤1000,bA (φ a b)))) (ai eJ)) (by kernel_rfl) ah (kP (fE hf) (aa bk _ w) (fun g d st args h=>LK)) ht [9999999,0,2,4,12,30,32,34] ((l.length+1)*200+100) 32 [.tmp 6] Tryz.func52 rfl Tryz.ntmps52 (by rw [Tryz.results52]) (by simp) rfl (fun hsm=>?_)
 simp (maxSteps:=10000000) only [go_sem,seval,reduceCtorEq,h1]
 refine aL 200 (fun j=>[(0,bw l),(2,bw m),(4,jL f caps),(12,bA false),(30,bw l),(32,iA (l.length:Int)),(34,iA (j:Int))]) l.length (fun j=>bZ φ (l.take j) (m.take j)=true) 0 (fun j _=>rfl) (fun j mm _ hj hI ih=>?_) (by omega) (by simp [bZ]) rfl
 rcases Nat.lt_or_ge j l.length with hlt |hge
 ·have hx:=aB [] hlt
  have hy:=aB [] (show j<m.length by omega)
  have hr:=h3 _ (List.mem_of_getElem? hx)
  generalize l.getD j []=x at hx hr
  generalize m.getD j []=y at hy
  have e1:=eQ hx
  have e2:=eQ hy
  have d:=decide_eq_true (show (j:Int)<(l.length:Int) by omega)
  have g1:(j<l.length)=True:=eq_true hlt
  have g0:(0≤(j:Int))=True:=eq_true (by omega)
  have hw:=aN (j:=j) (by omega)
  have g2:(j<m.length)=True:=eq_true (by omega)
  have g4:(x.length≤1000)=True:=eq_true hr
  obtain ⟨s1,s2⟩:=lT (φ:=φ) hx hy
  replace ih:=ih hlt
  cases hp:φ x y with
  |false=>
   have s1:=s1 hp
   simp (maxSteps:=10000000) only [go_sem,seval,reduceCtorEq,d,g0,g1,hw,g2,g4,e1,e2,hp,s1]
   repeat' with_reducible first |apply And.intro |apply condP<;>intro _
   all_goals first |(show ar _ _=true;kernel_rfl)|assumption |rfl |(simp only [go_sem, *]<;>rfl)
  |true=>
   replace ih:=ih (s2 hI hp)
   simp (maxSteps:=10000000) only [go_sem,seval,reduceCtorEq,d,g0,g1,hw,g2,g4,e1,e2,hp]
   repeat' with_reducible first |apply And.intro |apply condP<;>intro _
   all_goals first |(show ar _ _=true;kernel_rfl)|(exact ih _ _ rfl)|assumption |rfl
 ·have hn:j=l.length:=by omega
  subst hn
  have d:=decide_eq_false (show ¬ (l.length:Int)<(l.length:Int) by omega)
  rw [List.take_of_length_le (Nat.le_refl _),List.take_of_length_le (by omega)] at hI
  simp (maxSteps:=10000000) only [go_sem,seval,reduceCtorEq,d,hI]
  repeat' with_reducible first |apply And.intro |apply condP<;>intro _
  all_goals first |(show ar _ _=true;kernel_rfl)|assumption |rfl |(simp only [go_sem, *]<;>rfl)
theorem Tk {w:World} {f:FuncId} {caps:List Value} {φ:List J→List J→Bool} (ht:Tab w) (hf:Fv Tryz.prog w f caps (gA jC fun a=>gA jC fun b=>gE (a.length≤1000,bA (φ a b)))) (l m:List (List J)) (hb:l.length≤1000) (h3:∀ r∈l,r.length≤1000):Hc Tryz.prog w 52 [bw l,bw m,jL f caps] (bA (bZ φ l m)):=by
 by_cases h:l.length=m.length
 ·exact Sw ht hf l m h hb h3
 ·exact Sv ht hf l m h
def rr:List (List J)→List (List J)→Bool:=bZ dT
def Mm (a b:List (List J)):Bool:=bif (bif rightM a then rightM b else false) then bZ Ol a b else false
theorem KW (l m:List (List J)) (hb0:l.length≤1000∧∀ r∈l,r.length≤1000):Ct Tryz.prog 37 [bw l,bw m] (·=bA (rr l m)):=by
 refine ak (O:=bO (fN 52 2 (cm [] 97 [bw l,bw m] (bA (bZ dT l m)))) (ai eJ)) (by kernel_rfl) ah (fun w=>dD (dC (aX Tryz.func52 (by kernel_rfl) rfl) (fun ls c xs e he hp S w' gs hb ht' hL=>by
  injection he with he;subst he
  obtain ⟨rfl,rfl,rfl⟩:=hp
  obtain rfl:gs=[]:=List.eq_nil_of_length_eq_zero hL.1
  exact Tk ht' (Qu yX (aX Tryz.func97 (by kernel_rfl) rfl)) l m hb0.1 hb0.2)) (aa bk _ w) (fun _ _ _=>bf fun _=>rfl)) [] 600 8 [.tmp 4] Tryz.func37 rfl Tryz.ntmps37 (by rw [Tryz.results37]) (by simp) rfl (fun hsm=>?_)
 simp (maxSteps:=10000000) only [go_sem,seval,reduceCtorEq,bP,cp,eZ,dU,hd1,pick,ax,eo,eY,cr,eI,dt]
 repeat' with_reducible first |apply And.intro |apply condP<;>intro _
 all_goals first |(show ar _ _=true;kernel_rfl)|assumption |rfl |(simp only [go_sem, *,fN,mo,cm,rr]<;>rfl)
theorem My (l m:List (List J)) (hb0:l.length≤1000∧∀ r∈l,r.length≤1000):Ct Tryz.prog 15 [bw l,bw m] (·=bA (Mm l m)):=by
 refine ak (O:=bO (fN 52 2 (cm [] 53 [bw l,bw m] (bA (bZ Ol l m)))) (ai cN)) (by kernel_rfl) ah (fun w=>dD (dC (aX Tryz.func52 (by kernel_rfl) rfl) (fun ls c xs e he hp S w' gs hb ht' hL=>by
  injection he with he;subst he
  obtain ⟨rfl,rfl,rfl⟩:=hp
  obtain rfl:gs=[]:=List.eq_nil_of_length_eq_zero hL.1
  exact Tk ht' (Qu EB (aX Tryz.func53 (by kernel_rfl) rfl)) l m hb0.1 hb0.2)) (aa nc _ w) (fun _ _ _=>bf fun _=>bz (by decide))) [] 600 16 [.tmp 4] Tryz.func15 rfl Tryz.ntmps15 (by rw [Tryz.results15]) (by simp) rfl (fun hsm=>?_)
 simp (maxSteps:=10000000) only [go_sem,seval,reduceCtorEq,cN,bP,cp,eZ,dU,hd1,pick,ax,eo,eY,cr,eI,dt]
 repeat' with_reducible first |apply And.intro |apply condP<;>intro _
 all_goals first |(show ar _ _=true;kernel_rfl)|assumption |rfl |(simp only [go_sem, *,fN,mo,cm,Mm]<;>rfl)
noncomputable def oB:b9:=one 15 (gA kU fun l=>gA kU fun m=>gE (l.length≤1000∧∀ r∈l,r.length≤1000,bA (Mm l m)))
theorem E9:TbOK Tryz.prog oB:=bI (aX Tryz.func15 (by kernel_rfl) rfl) (.a bi fun l=>.a bi fun m=>.e fun h=>My l m h)
end
end Go.Proofs.YtpacpmmdjmnamaaGreatDoor
