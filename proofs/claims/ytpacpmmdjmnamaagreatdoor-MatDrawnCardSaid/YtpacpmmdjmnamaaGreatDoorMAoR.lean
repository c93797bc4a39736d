/- The document's norms; rows of numbers side by side. -/
import Derived.Test.YtpacpmmdjmnamaaGreatDoorMAo7
import Derived.Test.YtpacpmmdjmnamaaGreatDoorMAn1
namespace Go.Proofs.YtpacpmmdjmnamaaGreatDoor
open Go.RowKit Nx
set_option linter.unusedVariables false
set_option linter.unusedSimpArgs false
set_option maxRecDepth 100000
set_option maxHeartbeats 4000000
attribute [local go_sem] lj nN ou fJ gA gE jd yK ki oy jH jI j8 j9 ite_self fN mo cm jh lF bT kQ
attribute [local irreducible] ar
noncomputable def fR (z:Int) (s x:X):X×Int:=(qx (dZ (gk 0 z true) z s x).1,(dZ (gk 0 z true) z s x).2)
noncomputable def ue (m:List (List J)) (z:Int) (i:Nat):X×Int:=aC zX (fun k=>(lJ (bS m i k),0)) (fR z) m.length
noncomputable def od (S:Nat→X×Int):Nat→X×Int
 |0=>(zX,0)
 |i+1=>bif (od S i).2 !=0 then od S i else bif (S i).2 !=0 then (zX,(S i).2) else (bif decide (0<cmpx (S i).1 (od S i).1) then (S i).1 else (od S i).1,0)
theorem Mz {S:Nat→X×Int} {j:Nat} (h:(od S j).2=0):od S (j+1)=bif (S j).2 !=0 then (zX,(S j).2) else (bif decide (0<cmpx (S j).1 (od S j).1) then (S j).1 else (od S j).1,0):=by
 show (bif (od S j).2 !=0 then _ else _)=_
 rw [h];rfl
theorem xT {S:Nat→X×Int} {j n:Nat} (h:((od S j).2 !=0)=true) (hn:j≤n):od S n=od S j:=by
 induction n with
 |zero=>
     obtain rfl:j=0:=by omega
     rfl
 |succ n ih=>
  rcases Nat.eq_or_lt_of_le hn with e |e
  ·rw [e]
  ·have e:=ih (by omega)
   show (bif (od S n).2 !=0 then od S n else _)=_
   rw [e,h];rfl
theorem GU (m:List (List J)) (z:Int) (c0:rightM m=false):Ct Tryz.prog 49 [bw m,iA z] (·= .tup [(true,[.lit (.bool false),.lit (.int .i64 0),.ws []]),(false,[.lit (.int .i64 1)])]):=by
 refine ak (O:=ai (aF af (aF ae (aF ed (aF cd bg))))) (by kernel_rfl) ah (fun w=>aa (ab aR (ab av (ab ne (ab kK d9)))) _ w) [] 600 66 [.cell 4 30,.tmp 5] Tryz.func49 rfl Tryz.ntmps49 (by rw [Tryz.results49]) (by simp) rfl (fun hsm=>?_)
 simp (maxSteps:=10000000) only [go_sem,seval,reduceCtorEq,af,ae,ed,cd,bg,c0,bP,cp,eZ,dU,hd1,pick,ax,eo,eY,cr,eI,dt]
 repeat' with_reducible first |apply And.intro |apply condP<;>intro _
 all_goals first |(show ar _ _=true;kernel_rfl)|assumption |rfl |(simp only [go_sem, *]<;>rfl)
theorem GV (m:List (List J)) (z:Int) (c0:rightM m=true) (c1:prb z=false):Ct Tryz.prog 49 [bw m,iA z] (·= .tup [(true,[.lit (.bool false),.lit (.int .i64 0),.ws []]),(false,[.lit (.int .i64 1)])]):=by
 refine ak (O:=ai (aF af (aF ae (aF ed (aF cd bg))))) (by kernel_rfl) ah (fun w=>aa (ab aR (ab av (ab ne (ab kK d9)))) _ w) [] 600 66 [.cell 4 30,.tmp 5] Tryz.func49 rfl Tryz.ntmps49 (by rw [Tryz.results49]) (by simp) rfl (fun hsm=>?_)
 simp (maxSteps:=10000000) only [go_sem,seval,reduceCtorEq,af,ae,ed,cd,bg,c0,c1,bP,cp,eZ,dU,hd1,pick,ax,eo,eY,cr,eI,dt]
 repeat' with_reducible first |apply And.intro |apply condP<;>intro _
 all_goals first |(show ar _ _=true;kernel_rfl)|assumption |rfl |(simp only [go_sem, *]<;>rfl)
theorem GW (m:List (List J)) (z:Int) (c0:rightM m=true) (c1:prb z=true):Ct Tryz.prog 49 [bw m,iA z] (·=kY (od (ue m z) m.length)):=by
 refine ak (O:=ai (aF af (aF ae (aF ed (aF cd bg))))) (by kernel_rfl) ah (fun w=>aa (ab aR (ab av (ab ne (ab kK d9)))) _ w) [9999997,54,9,9999999,0,2,8,9,10,12,13,14,9999999,0,2,8,9,10,12,13,14,16,17,18] ((m.length+1)*4000+400) 66 [.cell 4 30,.tmp 5] Tryz.func49 rfl Tryz.ntmps49 (by rw [Tryz.results49]) (by simp) rfl (fun hsm=>?_)
 have hl4:=(aP c0).1
 simp (maxSteps:=10000000) only [go_sem,seval,reduceCtorEq,af,ae,ed,cd,bg,c0,c1]
 generalize hS0:ue m z=S
 refine aL 4000 (fun i=>[(0,bw m),(2,iA z),(8,.s (.own 4 0)),(9,.v true [.lit (.bool false),.lit (.int .i64 0),.ws []]),(10,iA 0),(12,.s (.own 6 0)),(13,.v true [.lit (.bool (od S i).1.s),.lit (.int .i64 (od S i).1.e),.ws (od S i).1.xs]),(14,iA (i:Int))]) m.length (fun i=>(od S i).2=0) 0 (fun i _=>rfl) (fun i m1 _ hi hI ih=>?_) (by omega) rfl rfl
 rcases Nat.lt_or_ge i m.length with hlt |hge
 ·have em:=eQ (aB [] hlt)
  have gm:(i<m.length)=True:=eq_true hlt
  have g0:(0≤(i:Int))=True:=eq_true (by omega)
  have hw1:=aN (j:=i) (by omega)
  have hrow:=(aP c0).2.row (i:=i) (by omega)
  have e0:List.take 6 (bC (m.getD i []))=[.lit (.bool (bS m i 0).lo.s),.lit (.int .i64 (bS m i 0).lo.e),.ws (bS m i 0).lo.xs,.lit (.bool (bS m i 0).hi.s),.lit (.int .i64 (bS m i 0).hi.e),.ws (bS m i 0).hi.xs]:=by
   have:=eg (aB zJ (show 0<(m.getD i []).length by omega));rw [Nat.zero_mul,List.drop_zero] at this;exact this
  have ge:(0<(m.getD i []).length)=True:=eq_true (by omega)
  have hSi:S i=aC zX (fun k=>(lJ (bS m i k),0)) (fR z) m.length:=by rw [←hS0];rfl
  have hms:=Mz (S:=S) hI
  have hT1:aC zX (fun k=>(lJ (bS m i k),0)) (fR z) 1=(lJ (bS m i 0),0):=rfl
  simp (maxSteps:=10000000) only [go_sem,seval,reduceCtorEq,af,ae,ed,cd,bg,em,gm,g0,e0,ge]
  generalize hF0:(fun k=>(lJ (bS m i k),(0:Int)))=F at hSi hT1
  have hF2:∀ k,F k=(lJ (bS m i k),0):=fun k=>by rw [←hF0]
  obtain ⟨n,hn⟩:∃ n,m.length=n+1:=⟨m.length - 1,by omega⟩
  refine aL 400 (fun jj=>[(0,bw m),(2,iA z),(8,.s (.own 4 0)),(9,.v true [.lit (.bool false),.lit (.int .i64 0),.ws []]),(10,iA 0),(12,.s (.own 6 0)),(13,.v true [.lit (.bool (od S i).1.s),.lit (.int .i64 (od S i).1.e),.ws (od S i).1.xs]),(14,iA (i:Int)),(16,.s (.own 8 0)),(17,.v true [.lit (.bool (aC zX F (fR z) (jj+1)).1.s),.lit (.int .i64 (aC zX F (fR z) (jj+1)).1.e),.ws (aC zX F (fR z) (jj+1)).1.xs]),(18,iA ((jj+1:Nat):Int))]) n (fun jj=>(aC zX F (fR z) (jj+1)).2=0) m1 (fun j _=>rfl) (fun jj m2 hL2 hj hJ ihJ=>?_) (by omega) (by rw [hT1]) (by rw [hT1];rfl)
  obtain ⟨r2,rfl⟩:=Nat.exists_eq_add_of_le hL2
  rcases Nat.lt_or_ge jj n with hlt2 |hge2
  ·have gj:(jj+1<m.length)=True:=eq_true (by omega)
   have gr:(jj+1<(m.getD i []).length)=True:=eq_true (by omega)
   have g20:(0≤((jj+1:Nat):Int))=True:=eq_true (by omega)
   have hw:=aN (j:=jj+1) (by omega)
   have ej:List.take 6 (List.drop ((jj+1)*6) (bC (m.getD i [])))=[.lit (.bool (bS m i (jj+1)).lo.s),.lit (.int .i64 (bS m i (jj+1)).lo.e),.ws (bS m i (jj+1)).lo.xs,.lit (.bool (bS m i (jj+1)).hi.s),.lit (.int .i64 (bS m i (jj+1)).hi.e),.ws (bS m i (jj+1)).hi.xs]:=eg (aB zJ (show jj+1<(m.getD i []).length by omega))
   have hs:=pc (z:=zX) (F:=F) (add:=fR z) hJ
   rw [hF2,decide_eq_true (show 0<jj+1 by omega),cond_true] at hs
   have hs:aC zX F (fR z) (jj+1+1)=bif (dZ (gk 0 z true) z (aC zX F (fR z) (jj+1)).1 (lJ (bS m i (jj+1)))).2 !=0 then (zX,(dZ (gk 0 z true) z (aC zX F (fR z) (jj+1)).1 (lJ (bS m i (jj+1)))).2) else (qx (dZ (gk 0 z true) z (aC zX F (fR z) (jj+1)).1 (lJ (bS m i (jj+1)))).1,0):=hs.trans (by unfold fR;rw [show ((0:Int)!=0)=false from rfl,cond_false])
   cases hA:(dZ (gk 0 z true) z (aC zX F (fR z) (jj+1)).1 (lJ (bS m i (jj+1)))).2 !=0 with
   |true=>
    rw [hA,cond_true] at hs
    have hSe:S i=(zX,(dZ (gk 0 z true) z (aC zX F (fR z) (jj+1)).1 (lJ (bS m i (jj+1)))).2):=by rw [hSi,iB (j:=jj+1+1) (by rw [hs];exact hA) (by omega),hs]
    rw [hSe] at hms
    have hme:od S (i+1)=(zX,(dZ (gk 0 z true) z (aC zX F (fR z) (jj+1)).1 (lJ (bS m i (jj+1)))).2):=by rw [hms];show (bif (dZ (gk 0 z true) z (aC zX F (fR z) (jj+1)).1 (lJ (bS m i (jj+1)))).2 !=0 then _ else _)=_;rw [hA];rfl
    have hr:od S m.length=(zX,(dZ (gk 0 z true) z (aC zX F (fR z) (jj+1)).1 (lJ (bS m i (jj+1)))).2):=by rw [xT (j:=i+1) (by rw [hme];exact hA) hlt,hme]
    simp (maxSteps:=10000000) only [go_sem,seval,reduceCtorEq,af,ae,ed,cd,bg,em,gm,g0,e0,ge,gj,gr,g20,ej,hA,hr]
    repeat' with_reducible first |apply And.intro |apply condP<;>intro _
    all_goals first |(show ar _ _=true;kernel_rfl)|assumption |rfl |(simp only [go_sem, *]<;>rfl)
   |false=>
    rw [hA,cond_false] at hs
    replace ihJ:=ihJ hlt2 (by rw [hs])
    rw [hs] at ihJ
    simp (maxSteps:=10000000) only [go_sem,seval,reduceCtorEq,af,ae,ed,cd,bg,em,gm,g0,e0,ge,gj,gr,g20,ej,hA,hw]
    repeat' with_reducible first |apply And.intro |apply condP<;>intro _
    all_goals first |(show ar _ _=true;kernel_rfl)|(exact ihJ _ _ rfl)|(exact .inl rfl)|assumption |rfl
  ·obtain rfl:jj=n:=by omega
   have gj:(jj+1<m.length)=False:=eq_false (by omega)
   have hS2:S i=(aC zX F (fR z) (jj+1)):=by rw [hSi,hn]
   rw [hS2,hJ,show ((0:Int)!=0)=false from rfl,cond_false] at hms
   replace ih:=ih hlt (by rw [hms])
   rw [hms] at ih
   cases hC:decide (0<cmpx (aC zX F (fR z) (jj+1)).1 (od S i).1) with
   |true=>
    rw [hC,cond_true] at ih
    simp (maxSteps:=10000000) only [go_sem,seval,reduceCtorEq,af,ae,ed,cd,bg,em,gm,g0,e0,ge,gj,hC,hw1]
    repeat' with_reducible first |apply And.intro |apply condP<;>intro _
    all_goals first |(show ar _ _=true;kernel_rfl)|(simp only [Nat.add_assoc];exact ih _ _ rfl)|assumption |rfl
   |false=>
    rw [hC,cond_false] at ih
    simp (maxSteps:=10000000) only [go_sem,seval,reduceCtorEq,af,ae,ed,cd,bg,em,gm,g0,e0,ge,gj,hC,hw1]
    repeat' with_reducible first |apply And.intro |apply condP<;>intro _
    all_goals first |(show ar _ _=true;kernel_rfl)|(simp only [Nat.add_assoc];exact ih _ _ rfl)|assumption |rfl
 ·obtain rfl:i=m.length:=by omega
  have gm:(m.length<m.length)=False:=eq_false (by omega)
  have hr:od S m.length=((od S m.length).1,0):=by rw [←hI]
  simp (maxSteps:=10000000) only [go_sem,seval,reduceCtorEq,af,ae,ed,cd,bg,gm]
  rw [hr]
  repeat' with_reducible first |apply And.intro |apply condP<;>intro _
  all_goals first |(show ar _ _=true;kernel_rfl)|assumption |rfl |(simp only [go_sem, *]<;>rfl)
noncomputable def Rk (m:List (List J)) (z:Int):X×Int:=bif rightM m then (bif prb z then od (ue m z) m.length else (zX,1)) else (zX,1)
theorem Q3 (m:List (List J)) (z:Int):Ct Tryz.prog 49 [bw m,iA z] (·=kY (Rk m z)):=by
 unfold Rk
 rcases Bool.eq_false_or_eq_true (rightM m) with c0 |c0
 case inr=>rw [c0];exact GU m z c0
 rcases Bool.eq_false_or_eq_true (prb z) with c1 |c1
 case inr=>rw [c0,c1];exact GV m z c0 c1
 have:=GW m z c0 c1
 rw [c0,c1];exact this
noncomputable def yR:b9:=one 49 (gA kU fun m=>gA jd fun z=>gE (True,kY (Rk m z)))
theorem Ca:TbOK Tryz.prog yR:=bI (aX Tryz.func49 (by kernel_rfl) rfl) (.a bi fun m=>.a bK fun z=>.e fun _=>Q3 m z)
theorem Rh (l m:List X) (hl:((l.length:Int)!=(m.length:Int))=true):Ct Tryz.prog 66 [qi l,qi m] (·=bA false):=by
 refine ak (O:=ai eJ) (by kernel_rfl) ah (fun w=>aa bk _ w) [] 600 27 [.tmp 4] Tryz.func66 rfl Tryz.ntmps66 (by rw [Tryz.results66]) (by simp) rfl (fun hsm=>?_)
 simp (maxSteps:=10000000) only [go_sem,seval,reduceCtorEq,hl,bP,cp,eZ,dU,hd1,pick,ax,eo,eY,cr,eI,dt]
 repeat' with_reducible first |apply And.intro |apply condP<;>intro _
 all_goals first |(show ar _ _=true;kernel_rfl)|assumption |rfl |(simp only [go_sem, *]<;>rfl)
theorem n7 (l m:List X) (hb:l.length≤1000):Ct Tryz.prog 66 [qi l,qi m] (·=bA (bZ iT l m)):=by
 by_cases h:l.length=m.length
 ·exact H6 l m h (by omega)
 ·rw [pm h];exact Rh l m (bne_iff_ne.2 (by omega))
noncomputable def mu:b9:=one 66 (gA tY fun l=>gA tY fun m=>gE (l.length≤1000,bA (bZ iT l m)))
theorem r6:TbOK Tryz.prog mu:=bI (aX Tryz.func66 (by kernel_rfl) rfl) (.a vu fun l=>.a vu fun m=>.e fun h=>n7 l m h)
theorem LW (l m:List (List X)) (hl:((l.length:Int)!=(m.length:Int))=true):Ct Tryz.prog 24 [wl l,wl m] (·=bA false):=by
 refine ak (O:=ai mu) (by kernel_rfl) ah (fun w=>aa r6 _ w) [] 600 27 [.tmp 4] Tryz.func24 rfl Tryz.ntmps24 (by rw [Tryz.results24]) (by simp) rfl (fun hsm=>?_)
 simp (maxSteps:=10000000) only [go_sem,seval,reduceCtorEq,mu,hl,bP,cp,eZ,dU,hd1,pick,ax,eo,eY,cr,eI,dt]
 repeat' with_reducible first |apply And.intro |apply condP<;>intro _
 all_goals first |(show ar _ _=true;kernel_rfl)|assumption |rfl |(simp only [go_sem, *]<;>rfl)
theorem LZ (l m:List (List X)) (hl:((l.length:Int)!=(m.length:Int))=false) (hb:l.length≤1000) (h3:∀ r∈l,r.length≤6):Ct Tryz.prog 24 [wl l,wl m] (·=bA (bZ (bZ iT) l m)):=by
 have hlm:l.length=m.length:=by
     have:(l.length:Int)=(m.length:Int):=by simpa using hl
     omega
 refine ak (O:=ai mu) (by kernel_rfl) ah (fun w=>aa r6 _ w) [9999999,0,2,8,10] ((l.length+1)*300+200) 27 [.tmp 4] Tryz.func24 rfl Tryz.ntmps24 (by rw [Tryz.results24]) (by simp) rfl (fun hsm=>?_)
 simp (maxSteps:=10000000) only [go_sem,seval,reduceCtorEq,mu,hl]
 refine aL 300 (fun j=>[(0,wl l),(2,wl m),(8,bA false),(10,iA (j:Int))]) l.length (fun j=>bZ (bZ iT) (l.take j) (m.take j)=true) 0 (fun j _=>rfl) (fun j mm _ hj hI ih=>?_) (by omega) (by simp [bZ]) rfl
 rcases Nat.lt_or_ge j l.length with hlt |hge
 ·have hx:=aB [] hlt
  have hy:=aB [] (show j<m.length by omega)
  have hr:=h3 _ (List.mem_of_getElem? hx)
  have g4:((l.getD j []).length≤1000)=True:=eq_true (by omega)
  generalize l.getD j []=x at*
  generalize m.getD j []=y at*
  have e1:=Bz hx
  have e2:=Bz hy
  have d:=decide_eq_true (show (j:Int)<(l.length:Int) by omega)
  have g1:(j<l.length)=True:=eq_true hlt
  have g0:(0≤(j:Int))=True:=eq_true (by omega)
  have hw:=aN (j:=j) (by omega)
  have g2:(j<m.length)=True:=eq_true (by omega)
  obtain ⟨s1,s2⟩:=lT (φ:=(bZ iT)) hx hy
  replace ih:=ih hlt
  cases hp:(bZ iT) x y with
  |false=>
   have s1:=s1 hp
   simp (maxSteps:=10000000) only [go_sem,seval,reduceCtorEq,mu,d,g0,g1,hw,g2,e1,e2,hp,s1,g4]
   repeat' with_reducible first |apply And.intro |apply condP<;>intro _
   all_goals first |(show ar _ _=true;kernel_rfl)|assumption |rfl |(simp only [go_sem, *]<;>rfl)
  |true=>
   replace ih:=ih (s2 hI hp)
   simp (maxSteps:=10000000) only [go_sem,seval,reduceCtorEq,mu,d,g0,g1,hw,g2,e1,e2,hp,g4]
   repeat' with_reducible first |apply And.intro |apply condP<;>intro _
   all_goals first |(show ar _ _=true;kernel_rfl)|(exact ih _ _ rfl)|assumption |rfl
 ·have hn:j=l.length:=by omega
  subst hn
  have d:=decide_eq_false (show ¬ (l.length:Int)<(l.length:Int) by omega)
  rw [List.take_of_length_le (Nat.le_refl _),List.take_of_length_le (by omega)] at hI
  simp (maxSteps:=10000000) only [go_sem,seval,reduceCtorEq,d,hI]
  repeat' with_reducible first |apply And.intro |apply condP<;>intro _
  all_goals first |(show ar _ _=true;kernel_rfl)|assumption |rfl |(simp only [go_sem, *]<;>rfl)
theorem Te (l m:List (List X)) (hb:l.length≤1000∧∀ r∈l,r.length≤6):Ct Tryz.prog 24 [wl l,wl m] (·=bA (bZ (bZ iT) l m)):=by
 cases hl:((l.length:Int)!=(m.length:Int)) with
 |true=>rw [pm (fun e=>by rw [e,bne_self_eq_false] at hl;cases hl)];exact LW l m hl
 |false=>exact LZ l m hl hb.1 hb.2
noncomputable def vf:b9:=one 24 (gA Jp fun l=>gA Jp fun m=>gE (l.length≤1000∧∀ r∈l,r.length≤6,bA (bZ (bZ iT) l m)))
theorem yT:TbOK Tryz.prog vf:=bI (aX Tryz.func24 (by kernel_rfl) rfl) (.a sn fun l=>.a sn fun m=>.e fun h=>Te l m h)
end Go.Proofs.YtpacpmmdjmnamaaGreatDoor
