/- The document's matrices: right, same, within, points, ones. -/
import Derived.Test.YtpacpmmdjmnamaaGreatDoorMAo3
import Derived.Test.YtpacpmmdjmnamaaGreatDoorMAl4
import Derived.Test.YtpacpmmdjmnamaaGreatDoorMAm2
import Derived.Test.YtpacpmmdjmnamaaGreatDoorMAl8
namespace Go.Proofs.YtpacpmmdjmnamaaGreatDoor
set_option linter.unusedSimpArgs false
set_option linter.unusedVariables false
section
open Go.RowKit Nx
set_option maxRecDepth 100000
set_option maxHeartbeats 4000000
attribute [local go_sem] nN ou fJ gA gE jd yK ki oy jH jI j8 j9 ite_self fN mo cm jh lF bT
attribute [local irreducible] ar
theorem yf {m:List (List J)} (h:4<m.length):rightM m=false:=by
 unfold rightM jR
 rw [decide_eq_true (show (1:Int)≤(m.length:Int) by omega),cond_true,decide_eq_false (show ¬ (m.length:Int)≤4 by omega)]
 rfl
theorem Si:Ct Tryz.prog 102 [bw []] (·=bA false):=by
 refine ak (O:=ai an) (by kernel_rfl) ah (fun w=>aa bc _ w) [] 600 38 [.tmp 2] Tryz.func102 rfl Tryz.ntmps102 (by rw [Tryz.results102]) (by simp) rfl (fun hsm=>?_)
 simp (maxSteps:=10000000) only [go_sem,seval,reduceCtorEq,an,bP,cp,eZ,dU,hd1,pick,ax,eo,eY,cr,eI,dt]
 repeat' with_reducible first |apply And.intro |apply condP<;>intro _
 all_goals first |(show ar _ _=true;kernel_rfl)|assumption |rfl |(simp only [go_sem, *]<;>rfl)
theorem Sj (m:List (List J)) (h:jR m.length 1 4=true):Ct Tryz.prog 102 [bw m] (·=bA (rightM m)):=by
 have hb:=tt h
 refine ak (O:=ai an) (by kernel_rfl) ah (fun w=>aa bc _ w) [9999999,0,4,6] ((m.length+1)*400+200) 38 [.tmp 2] Tryz.func102 rfl Tryz.ntmps102 (by rw [Tryz.results102]) (by simp) rfl (fun hsm=>?_)
 simp (maxSteps:=10000000) only [go_sem,seval,reduceCtorEq,an]
 refine aL 400 (fun j=>[(0,bw m),(4,bA false),(6,iA (j:Int))]) m.length (fun j=>(m.take j).all (mZ m.length)=true) 0 (fun j _=>rfl) (fun j mm _ hj hI ih=>?_) (by omega) rfl rfl
 rcases Nat.lt_or_ge j m.length with hlt |hge
 ·have hjm:j<m.length:=by omega
  have hx:=aB [] hjm
  generalize m.getD j []=r at hx
  have e1:=eQ hx
  have d:=decide_eq_true (show (j:Int)<(m.length:Int) by omega)
  have d4:=decide_eq_true (show (j:Int)<4 by omega)
  have g1:(j<m.length)=True:=eq_true hjm
  have g0:(0≤(j:Int))=True:=eq_true (by omega)
  have hw:=aN (j:=j) (by omega)
  have ht:m.take (j+1)=m.take j++[r]:=by rw [List.take_add_one,hx];rfl
  cases hr:mZ m.length r with
  |false=>
   have hm:rightM m=false:=by
    unfold rightM
    rw [h,cond_true,List.all_eq_false]
    exact ⟨r,List.mem_of_getElem? hx,by rw [hr];simp⟩
   unfold mZ at hr
   cases hq:((r.length:Int)!=(m.length:Int)) with
   |true=>
    simp (maxSteps:=10000000) only [go_sem,seval,reduceCtorEq,d,d4,g0,g1,e1,hw,an,hq,hm]
    repeat' with_reducible first |apply And.intro |apply condP<;>intro _
    all_goals first |(show ar _ _=true;kernel_rfl)|assumption |rfl |(simp only [go_sem, *]<;>rfl)
   |false=>
    rw [hq,cond_false] at hr
    simp (maxSteps:=10000000) only [go_sem,seval,reduceCtorEq,d,d4,g0,g1,e1,hw,an,hq,hr,hm]
    repeat' with_reducible first |apply And.intro |apply condP<;>intro _
    all_goals first |(show ar _ _=true;kernel_rfl)|assumption |rfl |(simp only [go_sem, *]<;>rfl)
  |true=>
   replace ih:=ih hlt (by rw [ht,List.all_append,hI,List.all_cons,hr];rfl)
   unfold mZ at hr
   cases hq:((r.length:Int)!=(m.length:Int)) with
   |true=>rw [hq] at hr;cases hr
   |false=>
    rw [hq,cond_false] at hr
    simp (maxSteps:=10000000) only [go_sem,seval,reduceCtorEq,d,d4,g0,g1,e1,hw,an,hq,hr]
    repeat' with_reducible first |apply And.intro |apply condP<;>intro _
    all_goals first |(show ar _ _=true;kernel_rfl)|(exact ih _ _ rfl)|assumption |rfl
 ·have hn:j=m.length:=by omega
  subst hn
  have d:=decide_eq_false (show ¬ (m.length:Int)<(m.length:Int) by omega)
  have d0:=decide_eq_true (show (0:Int)<(m.length:Int) by omega)
  have d5:=decide_eq_true (show (m.length:Int)≤4 by omega)
  rw [List.take_length] at hI
  have hm:rightM m=true:=by unfold rightM;rw [h,hI];rfl
  simp (maxSteps:=10000000) only [go_sem,seval,reduceCtorEq,d,d0,d5,hm]
  repeat' with_reducible first |apply And.intro |apply condP<;>intro _
  all_goals first |(show ar _ _=true;kernel_rfl)|assumption |rfl |(simp only [go_sem, *]<;>rfl)
theorem Sk (m:List (List J)) (h:4<m.length):Ct Tryz.prog 102 [bw m] (·=bA false):=by
 refine ak (O:=ai an) (by kernel_rfl) ah (fun w=>aa bc _ w) [9999999,0,4,6] ((4+1)*400+200) 38 [.tmp 2] Tryz.func102 rfl Tryz.ntmps102 (by rw [Tryz.results102]) (by simp) rfl (fun hsm=>?_)
 simp (maxSteps:=10000000) only [go_sem,seval,reduceCtorEq,an]
 refine aL 400 (fun j=>[(0,bw m),(4,bA false),(6,iA (j:Int))]) 4 (fun j=>True) 0 (fun j _=>rfl) (fun j mm _ hj hI ih=>?_) (by omega) trivial rfl
 rcases Nat.lt_or_ge j 4 with hlt |hge
 ·have hjm:j<m.length:=by omega
  have hx:=aB [] hjm
  generalize m.getD j []=r at hx
  have e1:=eQ hx
  have d:=decide_eq_true (show (j:Int)<(m.length:Int) by omega)
  have d4:=decide_eq_true (show (j:Int)<4 by omega)
  have g1:(j<m.length)=True:=eq_true hjm
  have g0:(0≤(j:Int))=True:=eq_true (by omega)
  have hw:=aN (j:=j) (by omega)
  replace ih:=ih hlt trivial
  cases hq:((r.length:Int)!=(m.length:Int)) with
  |true=>
   simp (maxSteps:=10000000) only [go_sem,seval,reduceCtorEq,d,d4,g0,g1,e1,hw,an,hq]
   repeat' with_reducible first |apply And.intro |apply condP<;>intro _
   all_goals first |(show ar _ _=true;kernel_rfl)|assumption |rfl |(simp only [go_sem, *]<;>rfl)
  |false=>
   cases hr:rightB r with
   |false=>
    simp (maxSteps:=10000000) only [go_sem,seval,reduceCtorEq,d,d4,g0,g1,e1,hw,an,hq,hr]
    repeat' with_reducible first |apply And.intro |apply condP<;>intro _
    all_goals first |(show ar _ _=true;kernel_rfl)|assumption |rfl |(simp only [go_sem, *]<;>rfl)
   |true=>
    simp (maxSteps:=10000000) only [go_sem,seval,reduceCtorEq,d,d4,g0,g1,e1,hw,an,hq,hr]
    repeat' with_reducible first |apply And.intro |apply condP<;>intro _
    all_goals first |(show ar _ _=true;kernel_rfl)|(exact ih _ _ rfl)|assumption |rfl
 ·have hn:j=4:=by omega
  subst hn
  have d:=decide_eq_true (show ((4:Nat):Int)<(m.length:Int) by omega)
  have d4:decide (((4:Nat):Int)<4)=false:=rfl
  have d0:=decide_eq_true (show (0:Int)<(m.length:Int) by omega)
  have d5:=decide_eq_false (show ¬ (m.length:Int)≤4 by omega)
  simp (maxSteps:=10000000) only [go_sem,seval,reduceCtorEq,d,d4,d0,d5]
  repeat' with_reducible first |apply And.intro |apply condP<;>intro _
  all_goals first |(show ar _ _=true;kernel_rfl)|assumption |rfl |(simp only [go_sem, *]<;>rfl)
theorem Td (m:List (List J)):Ct Tryz.prog 102 [bw m] (·=bA (rightM m)):=by
 rcases Nat.eq_zero_or_pos m.length with h0 |h0
 ·obtain rfl:=List.eq_nil_of_length_eq_zero h0;exact Si
 ·rcases Nat.lt_or_ge 4 m.length with h4 |h4
  ·rw [yf h4];exact Sk m h4
  ·exact Sj m (by unfold jR;rw [decide_eq_true (show (1:Int)≤(m.length:Int) by omega),cond_true];exact decide_eq_true (by omega))
noncomputable def af:b9:=one 102 (gA kU fun m=>gE (True,bA (rightM m)))
theorem aR:TbOK Tryz.prog af:=bI (aX Tryz.func102 (by kernel_rfl) rfl) (.a bi fun m=>.e fun _=>Td m)
theorem L9 (l m:List (List J)) (hl:((l.length:Int)!=(m.length:Int))=true):Ct Tryz.prog 17 [bw l,bw m] (·=bA false):=by
 refine ak (O:=ai kh) (by kernel_rfl) ah (fun w=>aa oU _ w) [] 600 27 [.tmp 4] Tryz.func17 rfl Tryz.ntmps17 (by rw [Tryz.results17]) (by simp) rfl (fun hsm=>?_)
 simp (maxSteps:=10000000) only [go_sem,seval,reduceCtorEq,kh,hl,bP,cp,eZ,dU,hd1,pick,ax,eo,eY,cr,eI,dt]
 repeat' with_reducible first |apply And.intro |apply condP<;>intro _
 all_goals first |(show ar _ _=true;kernel_rfl)|assumption |rfl |(simp only [go_sem, *]<;>rfl)
theorem Ma (l m:List (List J)) (hl:((l.length:Int)!=(m.length:Int))=false) (hb:l.length≤1000) (h3:∀ r∈l,r.length≤6):Ct Tryz.prog 17 [bw l,bw m] (·=bA (bZ dT l m)):=by
 have hlm:l.length=m.length:=by
     have:(l.length:Int)=(m.length:Int):=by simpa using hl
     omega
 refine ak (O:=ai kh) (by kernel_rfl) ah (fun w=>aa oU _ w) [9999999,0,2,8,10] ((l.length+1)*300+200) 27 [.tmp 4] Tryz.func17 rfl Tryz.ntmps17 (by rw [Tryz.results17]) (by simp) rfl (fun hsm=>?_)
 simp (maxSteps:=10000000) only [go_sem,seval,reduceCtorEq,kh,hl]
 refine aL 300 (fun j=>[(0,bw l),(2,bw m),(8,bA false),(10,iA (j:Int))]) l.length (fun j=>bZ dT (l.take j) (m.take j)=true) 0 (fun j _=>rfl) (fun j mm _ hj hI ih=>?_) (by omega) (by simp [bZ]) rfl
 rcases Nat.lt_or_ge j l.length with hlt |hge
 ·have hx:=aB [] hlt
  have hy:=aB [] (show j<m.length by omega)
  have hr:=h3 _ (List.mem_of_getElem? hx)
  have g4:((l.getD j []).length≤6)=True:=eq_true hr
  generalize l.getD j []=x at*
  generalize m.getD j []=y at*
  have e1:=eQ hx
  have e2:=eQ hy
  have d:=decide_eq_true (show (j:Int)<(l.length:Int) by omega)
  have g1:(j<l.length)=True:=eq_true hlt
  have g0:(0≤(j:Int))=True:=eq_true (by omega)
  have hw:=aN (j:=j) (by omega)
  have g2:(j<m.length)=True:=eq_true (by omega)
  obtain ⟨s1,s2⟩:=lT (φ:=dT) hx hy
  replace ih:=ih hlt
  cases hp:dT x y with
  |false=>
   have s1:=s1 hp
   simp (maxSteps:=10000000) only [go_sem,seval,reduceCtorEq,kh,d,g0,g1,hw,g2,e1,e2,hp,s1,g4]
   repeat' with_reducible first |apply And.intro |apply condP<;>intro _
   all_goals first |(show ar _ _=true;kernel_rfl)|assumption |rfl |(simp only [go_sem, *]<;>rfl)
  |true=>
   replace ih:=ih (s2 hI hp)
   simp (maxSteps:=10000000) only [go_sem,seval,reduceCtorEq,kh,d,g0,g1,hw,g2,e1,e2,hp,g4]
   repeat' with_reducible first |apply And.intro |apply condP<;>intro _
   all_goals first |(show ar _ _=true;kernel_rfl)|(exact ih _ _ rfl)|assumption |rfl
 ·have hn:j=l.length:=by omega
  subst hn
  have d:=decide_eq_false (show ¬ (l.length:Int)<(l.length:Int) by omega)
  rw [List.take_of_length_le (Nat.le_refl _),List.take_of_length_le (by omega)] at hI
  simp (maxSteps:=10000000) only [go_sem,seval,reduceCtorEq,d,hI]
  repeat' with_reducible first |apply And.intro |apply condP<;>intro _
  all_goals first |(show ar _ _=true;kernel_rfl)|assumption |rfl |(simp only [go_sem, *]<;>rfl)
theorem Tf (l m:List (List J)) (hb:l.length≤1000∧∀ r∈l,r.length≤6):Ct Tryz.prog 17 [bw l,bw m] (·=bA (rr l m)):=by
 unfold rr
 cases hl:((l.length:Int)!=(m.length:Int)) with
 |true=>rw [pm (fun e=>by rw [e,bne_self_eq_false] at hl;cases hl)];exact L9 l m hl
 |false=>exact Ma l m hl hb.1 hb.2
noncomputable def gu:b9:=one 17 (gA kU fun l=>gA kU fun m=>gE (l.length≤1000∧∀ r∈l,r.length≤6,bA (rr l m)))
theorem r7:TbOK Tryz.prog gu:=bI (aX Tryz.func17 (by kernel_rfl) rfl) (.a bi fun l=>.a bi fun m=>.e fun h=>Tf l m h)
def wB (m:List (List J)):List Lf:=m.flatMap fun l=>[dA l]
theorem RY (st:St) (m:List (List J)):(wB m).all (bx st)=true:=by
 unfold wB
 induction m with
 |nil=>rfl
 |cons l m ih=>rw [List.flatMap_cons,List.all_append,ih,List.all_cons,dR];rfl
theorem IN (m:List (List J)):(wB m).length=m.length:=by
 unfold wB
 induction m with
 |nil=>rfl
 |cons l m ih=>rw [List.flatMap_cons,List.length_append,ih];simp;omega
theorem RX (m:List (List J)):fD (wB m)=some (m.map uN):=by
 unfold wB
 rw [←lD]
 exact dd rL _
def PP (a:List (List X)):Nat→St
 |0=>[(0,wl a),(4,.s (.lit (.slice none 0 0))),(6,.s (.lit (.slice none 0 0))),(8,iA 0)]
 |j+1=>[(0,wl a),(4,.s (.lit (.slice none 0 0))),(6,.s (.ol 18 (j+1))),(8,iA ((j+1:Nat):Int)),(37,.pre 34 1 (wB ((a.map poi).take (j+1))))]
theorem y_pm0:Ct Tryz.prog 18 [wl []] (·= .s (.lit (.slice none 0 0))):=by
 refine ak (O:=ai i7) (by kernel_rfl) ah (fun w=>aa pe _ w) [] 600 20 [.tmp 2] Tryz.func18 rfl Tryz.ntmps18 (by rw [Tryz.results18]) (by simp) rfl (fun hsm=>?_)
 simp (maxSteps:=10000000) only [go_sem,seval,reduceCtorEq,i7,bP,cp,eZ,dU,hd1,pick,ax,eo,eY,cr,eI,dt]
 repeat' with_reducible first |apply And.intro |apply condP<;>intro _
 all_goals first |(show ar _ _=true;kernel_rfl)|assumption |rfl |(simp only [go_sem, *]<;>rfl)
theorem Sf (a:List (List X)) (n:Nat) (hn:a.length=n+1) (h2:n≤100) (h3:∀ r∈a,r.length≤6):Ct Tryz.prog 18 [wl a] (·= .s (.sl true 1 (n+1) ((a.map poi).map uN))):=by
 refine ak (O:=ai i7) (by kernel_rfl) ah (fun w=>aa pe _ w) [9999999,0,4,6,8,37] ((n+1+1)*200+100) 20 [.tmp 2] Tryz.func18 rfl Tryz.ntmps18 (by rw [Tryz.results18]) (by simp) rfl (fun hsm=>?_)
 simp (maxSteps:=10000000) only [go_sem,seval,reduceCtorEq,i7]
 refine aL 200 (PP a) (n+1) (fun j=>True) 0 (fun j _=>by cases j with
  |zero=>rfl
  |succ j=>simp only [PP,List.all_cons,List.all_nil,bH,bx,RY,Bool.and_true];rfl) (fun j mm _ hj _ ih=>?_) (by omega) trivial rfl
 rcases Nat.lt_or_ge j (n+1) with hlt |hge
 ·have hx:=aB [] (show j<a.length by omega)
  have hr:=h3 _ (List.mem_of_getElem? hx)
  generalize a.getD j []=r at hx hr
  have e1:=Bz hx
  have d:=decide_eq_true (show (j:Int)<(a.length:Int) by omega)
  have g1:(j<a.length)=True:=eq_true (by omega)
  have g0:(0≤(j:Int))=True:=eq_true (by omega)
  have hw:=aN (j:=j) (by omega)
  have g4:(r.length≤6)=True:=eq_true hr
  have ht:(a.map poi).take (j+1)=(a.map poi).take j++[poi r]:=by rw [List.take_add_one,List.getElem?_map,hx];rfl
  have es:wB ((a.map poi).take j)++[dA (yc r)]=wB ((a.map poi).take (j+1)):=by rw [ht];unfold wB;rw [List.flatMap_append];rfl
  replace ih:=ih hlt trivial
  rcases Nat.eq_zero_or_pos j with hj0 |hj0
  ·have hst:PP a j=[(0,wl a),(4,.s (.lit (.slice none 0 0))),(6,.s (.lit (.slice none 0 0))),(8,iA (j:Int))]:=by subst hj0;rfl
   rw [hst]
   simp (maxSteps:=10000000) only [go_sem,seval,reduceCtorEq,i7,e1,g4,hw,g0,g1,d]
   repeat' with_reducible first |apply And.intro |apply condP<;>intro _
   all_goals first |(show ar _ _=true;kernel_rfl)|(exact ih _ _ (by subst hj0;rw [PP,←es];rfl))|assumption |rfl
  ·obtain ⟨j,rfl⟩:∃ i,j=i+1:=⟨j - 1,by omega⟩
   have hl:(wB ((a.map poi).take (j+1))).length=(j+1)*1:=by rw [IN,List.length_take,List.length_map];omega
   have g5:(j+1≤100000)=True:=eq_true (by omega)
   simp (maxSteps:=10000000) only [go_sem,seval,reduceCtorEq,i7,PP,e1,g4,hw,g0,g1,d,hl,g5,es]
   repeat' with_reducible first |apply And.intro |apply condP<;>intro _
   all_goals first |(show ar _ _=true;kernel_rfl)|(exact ih _ _ rfl)|assumption |rfl
 ·obtain rfl:j=n+1:=by omega
  have dn:(n+1<a.length)=False:=eq_false (by omega)
  have ht:(a.map poi).take (n+1)=a.map poi:=List.take_of_length_le (by rw [List.length_map];omega)
  have hl:(wB (a.map poi)).length=(n+1)*1:=by rw [IN,List.length_map];omega
  have hdn:=RX (a.map poi)
  simp (maxSteps:=10000000) only [go_sem,seval,reduceCtorEq,PP,dn,ht,hl,hdn]
  repeat' with_reducible first |apply And.intro |apply condP<;>intro _
  all_goals first |(show ar _ _=true;kernel_rfl)|assumption |rfl |(simp only [go_sem, *]<;>rfl)
theorem Tc (a:List (List X)) (h:a.length≤100∧∀ r∈a,r.length≤6):Ct Tryz.prog 18 [wl a] (·= .s (mL (a.map poi))):=by
 cases hn:a.length with
 |zero=>obtain rfl:=List.eq_nil_of_length_eq_zero hn;exact y_pm0.wk (wS (fun _ _ _ _ h=>jm h) rfl)
 |succ n=>
  refine (Sf a n hn (by omega) h.2).wk (wS (fun _ _ _ _ hR=>Q9 ?_) rfl)
  rw [List.length_map,hn];exact hR
noncomputable def ff:b9:=one 18 (gA Jp fun a=>gE (a.length≤100∧∀ r∈a,r.length≤6,.s (mL (a.map poi))))
theorem ve:TbOK Tryz.prog ff:=bI (aX Tryz.func18 (by kernel_rfl) rfl) (.a sn fun a=>.e fun h=>Tc a h)
end
section
open Go.RowKit Nx
attribute [local irreducible] ar
end
section
open Go.ChangeShapes Go.WideShapes Go.ChangeAt Go.RowKit Go.Joins Nx
abbrev P2:=Nat×Nat
def ML (W:World):List (List J)→List Value→Prop
 |[],us=>us=[]
 |l::m,us=>∃ (u:Value) (r:List Value),us=u::r∧BoxV W u l∧ML W m r
def MatV (W:World) (v:Value) (m:List (List J)):Prop:=SlV W v m.length 1 (ML W m)
section
variable {W:World} {v:Value}
theorem ML.ws:∀ {m:List (List J)} {us:List Value},ML W m us→(∀ l∈m,∀ j∈l,j.lo.xs.length≤100000∧j.hi.xs.length≤100000)→LcL (SepF false t6 Rj) W (m.map rC) us:=by
 intro m
 induction m with
 |nil=>intro us h _;exact h
 |cons l m ih=>
  rintro us ⟨u,r,rfl,h1,h2⟩ hs
  exact ⟨u,r,rfl,h1.R Bu (FH l) fun _ h=>h.ws (hs l (List.mem_cons_self ..)),ih h2 fun l hl=>hs l (List.mem_cons_of_mem _ hl)⟩
theorem MatV.ws {m:List (List J)} (h:MatV W v m) (hs:∀ l∈m,∀ j∈l,j.lo.xs.length≤100000∧j.hi.xs.length≤100000):(bw m).R t6 Rj W v:=RL.one.2 (h.R Bu (by simp) fun _ h=>h.ws hs)
end
section
variable {H:Type} {enc:TypeId×Value→H} {W:World}
end
end
end Go.Proofs.YtpacpmmdjmnamaaGreatDoor
