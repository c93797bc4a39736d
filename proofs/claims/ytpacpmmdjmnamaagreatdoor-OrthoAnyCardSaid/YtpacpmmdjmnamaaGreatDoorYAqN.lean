/- The document's columns: dot products, what is left, what is right. -/
import Derived.Test.YtpacpmmdjmnamaaGreatDoorYAqM
import Derived.Test.YtpacpmmdjmnamaaGreatDoorYAq3
namespace Go.Proofs.YtpacpmmdjmnamaaGreatDoor
open Go.RowKit Nx
set_option linter.unusedVariables false
set_option linter.unusedSimpArgs false
set_option maxRecDepth 100000
set_option maxHeartbeats 4000000
attribute [local go_sem] run dX X.L J.L vL X.eta J.eta Q.eta List.cons_append List.nil_append iH dU dV bW bX da nc dA iE eq aG bj aL aR bi cL cQ cR cM inL aS bE dom fH kU nD evd okeys look dN di co cV lenOf fw jb qK jw qQ fv qf np qh qg nL pF eX jF eY jG bu nV keysOf aD ir jp jg olA olL ot nU mS nT dh jx one cT fi cu bq gG eO jf iO cH decide_true decide_false List.all_cons List.all_nil Bool.and_true Bool.and_self true_and and_true and_self List.length_cons List.length_nil List.drop_succ_cons List.drop_zero List.take_succ_cons List.take_zero List.getElem?_cons_zero List.getElem?_cons_succ List.map_cons List.map_nil false_implies true_implies Option.bind_some List.getElem?_toArray Bool.false_eq_true List.append_nil List.flatMap_cons List.flatMap_nil true_or or_true forall_const List.reverse_cons List.reverse_nil Option.isSome_some Option.any_some Nat.lt_irrefl not_true_eq_false Bool.not_true Bool.not_false imp_self implies_true Bool.not_eq_true' Bool.not_eq_false' Bool.true_eq_false fL jo lQ lV oq pR qo cO qw iJ fB sy Int.toNat_zero decide_eq_true_eq fW fX so sr BEq.rfl beq_self_eq_true Int.natCast_zero ge_iff_le gt_iff_lt Int.le_refl Nat.zero_mul Nat.one_mul Nat.zero_add Nat.zero_lt_succ Nat.lt_add_one Nat.le_refl List.append_eq Int.toNat_natCast gN pP pO gI ek kc gJ su sv ka ss cK cS cN cD pN fN okO je pT gH outPs ep outL fT rD aT aE aY aF bne_self_eq_false wr2 nM nN nO nP nQ nR gB gP nF nG nH gu cG bw cJ aN nE Lc.up pU List.replicate_succ List.replicate_zero List.flatten_cons List.flatten_nil Int.ofNat_lt Int.cast_ofNat_Int Int.ofNat_eq_natCast List.isEmpty_nil List.isEmpty_cons and_false false_and List.cons_ne_nil Nat.add_zero ite_true ite_false if_true if_false Nat.le_zero_eq eq_self Bool.and_false Bool.false_and Bool.true_and nY gA gE kg oO ip fF ed ef eA eg ite_self AV.s cond_true cond_false Bool.or_true Bool.true_or Bool.or_false Bool.false_or
attribute [local go_sem ↓] cond_true cond_false cw aW aX bI bJ bR bS aU aV bT bU bK bL bP bQ bG bH bM bN
attribute [local irreducible] be
theorem xg {z:Int} {x y:X} (h:((an (bf z false) z x y).2 !=0)=false):an (eB z false) z zX (qx (an (bf z false) z x y).1)=((an (bf z false) z x y).1,0):=by
 have h0:(an (bf z false) z x y).2=0:=by simpa using h
 by_cases hb:iG z x y=true
 ·rw [kI hb] at h0;cases h0
 ·have hb:iG z x y=false:=by simpa using hb
  obtain ⟨hx,hy,hz⟩:=badB_not.1 hb
  have hp:pQ z=true:=by rw [←jU];exact hz
  have e:=rJ (b:=false) hx hy hp
  rw [e] at h0 ⊢
  have hf:iX (dP z.toNat false (times x.q y.q)):=by
   by_cases hf:iX (dP z.toNat false (times x.q y.q))
   ·exact hf
   ·rw [eW hf] at h0;cases h0
  rw [eF hf]
  have hp1:1≤z.toNat:=by
   unfold pQ at hp
   simp only [Bool.and_eq_true,decide_eq_true_eq] at hp
   omega
  have hv:aH (dP z.toNat false (times x.q y.q)):=⟨dT _ _ _,hf⟩
  rw [←um,gp (gF vG).1 (gF hv).1 hp,(gF vG).2.2,(gF hv).2.2]
  show res (dP z.toNat false (plus q0 _))=_
  rw [wv hv.1,xT _ _ _ hp1,eF hf]
theorem GI (u v:List X) (z:Int) (hl:v.length=u.length) (h2:u.length≤1000):Ct Tryz.prog 125 [eM u,eM v,iA z] (·=yk (dM z u v u.length)):=by
 refine bF (O:=aD aI) (by kernel_rfl) az (fun w=>ao dG _ w) [9999999,0,2,4,12,13,16,17,18] ((u.length+1)*900+300) 50 [.cell 6 30,.tmp 7] Tryz.func125 rfl Tryz.ntmps125 (by rw [Tryz.results125]) (by simp) rfl (fun hsm=>?_)
 simp (maxSteps:=10000000) only [go_sem,seval,reduceCtorEq,bv,aI]
 generalize hD:dM z u v=D
 refine aP 900 (fun j=>[(0,eM u),(2,eM v),(4,iA z),(12,.s (.own 6 0)),(13,.v true zX.L),(16,.s (.own 8 0)),(17,.v true (D j).1.L),(18,iA (j:Int))]) u.length (fun j=>(D j).2=0) 0 (fun j _=>rfl) (fun j mm _ hj hI ih=>?_) (by omega) (by rw [←hD];rfl) (by rw [←hD];rfl)
 rcases Nat.lt_or_ge j u.length with hlt |hge
 ·have hxj:=ba zX hlt
  have hyj:=ba zX (show j<v.length by omega)
  have hs:D (j+1)=bif (D j).2 !=0 then (zX,(D j).2) else
   bif (an (bf z false) z (u.getD j zX) (v.getD j zX)).2 !=0 then (zX,(an (bf z false) z (u.getD j zX) (v.getD j zX)).2) else
   bif (an (eB z false) z (D j).1 (qx (an (bf z false) z (u.getD j zX) (v.getD j zX)).1)).2 !=0 then (zX,(an (eB z false) z (D j).1 (qx (an (bf z false) z (u.getD j zX) (v.getD j zX)).1)).2) else
   (qx (an (eB z false) z (D j).1 (qx (an (bf z false) z (u.getD j zX) (v.getD j zX)).1)).1,0):=by rw [←hD];rfl
  have hbad:∀ e,D (j+1)=(zX,e)→(e !=0)=true→D u.length=(zX,e):=fun e h1 h2=>by rw [←hD] at h1 ⊢;exact sR h1 h2 hlt
  have hI0:((D j).2 !=0)=false:=by rw [hI];rfl
  rw [hI0,cond_false] at hs
  generalize u.getD j zX=x at*
  generalize v.getD j zX=y at*
  have hx:=fq hxj
  have hy:=fq hyj
  have d:=decide_eq_true (show (j:Int)<(u.length:Int) by omega)
  have g0:(0≤(j:Int))=True:=eq_true (by omega)
  have g1:(j<u.length)=True:=eq_true hlt
  have g2:(j<v.length)=True:=eq_true (by omega)
  have hw:=aZ (j:=j) (by omega)
  cases hM:(an (bf z false) z x y).2 !=0 with
  |true=>
   have hM1:((an (bf z false) z x y).2==0)=false:=by rw [bne,Bool.not_eq_true'] at hM;exact hM
   rw [hM,cond_true] at hs
   rw [hbad _ hs hM]
   simp (maxSteps:=10000000) only [go_sem,seval,reduceCtorEq,bv,aI,d,g0,g1,g2,hw,hx,hy,jd,zo,uT,hM,hM1]
   repeat' with_reducible first |apply And.intro |apply condP<;>intro _
   all_goals first |(show be _ _=true;kernel_rfl)|assumption |rfl |(simp only [go_sem, *]<;>rfl)
  |false=>
   have hM1:((an (bf z false) z x y).2==0)=true:=by rw [bne,Bool.not_eq_false'] at hM;exact hM
   rw [hM,cond_false] at hs
   rcases Nat.eq_zero_or_pos j with hj0 |hj0
   ·subst hj0
    have hD0:(D 0).1=zX:=by rw [←hD];rfl
    have hf:=xg hM
    rw [hD0,hf] at hs
    have hs:D 1=(qx (an (bf z false) z x y).1,0):=hs
    replace ih:=ih hlt (by rw [hs])
    rw [Nat.zero_mul,List.drop_zero] at hx hy
    have p0:decide ((0:Int)<(0:Int))=false:=rfl
    have d:=decide_eq_true (show (0:Int)<(u.length:Int) by omega)
    simp (maxSteps:=10000000) only [go_sem,seval,reduceCtorEq,bv,aI,d,g0,g1,g2,hw,hx,hy,jd,zo,uT,hM,hM1,p0,hD0]
    repeat' with_reducible first |apply And.intro |apply condP<;>intro _
    all_goals first |(show be _ _=true;kernel_rfl)|(exact ih _ _ (by rw [hs];rfl))|assumption |rfl
   ·have p0:decide ((0:Int)<(j:Int))=true:=decide_eq_true (by omega)
    cases hA:(an (eB z false) z (D j).1 (qx (an (bf z false) z x y).1)).2 !=0 with
    |true=>
     rw [hA,cond_true] at hs
     rw [hbad _ hs hA]
     simp (maxSteps:=10000000) only [go_sem,seval,reduceCtorEq,bv,aI,d,g0,g1,g2,hw,hx,hy,jd,zo,uT,hM,hM1,hA,p0]
     repeat' with_reducible first |apply And.intro |apply condP<;>intro _
     all_goals first |(show be _ _=true;kernel_rfl)|assumption |rfl |(simp only [go_sem, *]<;>rfl)
    |false=>
     rw [hA,cond_false] at hs
     replace ih:=ih hlt (by rw [hs])
     simp (maxSteps:=10000000) only [go_sem,seval,reduceCtorEq,bv,aI,d,g0,g1,g2,hw,hx,hy,jd,zo,uT,hM,hM1,hA,p0]
     repeat' with_reducible first |apply And.intro |apply condP<;>intro _
     all_goals first |(show be _ _=true;kernel_rfl)|(exact ih _ _ (by rw [hs];rfl))|assumption |rfl
 ·obtain rfl:j=u.length:=by omega
  have hfin:D u.length=((D u.length).1,0):=Prod.ext rfl hI
  rw [hfin]
  have d:decide ((u.length:Int)<(u.length:Int))=false:=decide_eq_false (by omega)
  simp (maxSteps:=10000000) only [go_sem,seval,reduceCtorEq,bv,aI,d]
  repeat' with_reducible first |apply And.intro |apply condP<;>intro _
  all_goals first |(show be _ _=true;kernel_rfl)|assumption |rfl |(simp only [go_sem, *]<;>rfl)
noncomputable def ec:fR:=one 125 (gA ny fun u=>gA ny fun v=>gA kg fun z=>gE (v.length=u.length∧u.length≤1000,yk (aJ z u v)))
theorem jM:TbOK Tryz.prog ec:=fM (ew Tryz.func125 (by kernel_rfl) rfl) (.a fj fun u=>.a fj fun v=>.a iq fun z=>.e fun h=>GI u v z h.1 h.2)
noncomputable def uk (z:Int) (x m y:X):X×Int:=bif (an (bf z false) z m y).2 !=0 then (qx (an (bf z false) z m y).1,(an (bf z false) z m y).2) else
 (qx (an (jQ z false) z x (qx (an (bf z false) z m y).1)).1,(an (jQ z false) z x (qx (an (bf z false) z m y).1)).2)
theorem Jh (x m y:X) (z:Int) (h:((an (bf z false) z m y).2 !=0)=true):Ct Tryz.prog 126 [.v true x.L,.v true m.L,.v true y.L,iA z] (·=yk (qx (an (bf z false) z m y).1,(an (bf z false) z m y).2)):=by
 refine bF (O:=aD aI) (by kernel_rfl) az (fun w=>ao dG _ w) [] 600 29 [.cell 8 30,.tmp 9] Tryz.func126 rfl Tryz.ntmps126 (by rw [Tryz.results126]) (by simp) rfl (fun hsm=>?_)
 simp (maxSteps:=10000000) only [go_sem,seval,reduceCtorEq,bv,aI,h,jd,Fs,uT,jY,iU,kZ,jh,hd1,pick,bD,go,iI,dE,gW,fx]
 repeat' with_reducible first |apply And.intro |apply condP<;>intro _
 all_goals first |(show be _ _=true;kernel_rfl)|assumption |rfl |(simp only [go_sem, *]<;>rfl)
theorem Ji (x m y:X) (z:Int) (h:((an (bf z false) z m y).2 !=0)=false):Ct Tryz.prog 126 [.v true x.L,.v true m.L,.v true y.L,iA z] (·=yk (qx (an (jQ z false) z x (qx (an (bf z false) z m y).1)).1,(an (jQ z false) z x (qx (an (bf z false) z m y).1)).2)):=by
 refine bF (O:=aD aI) (by kernel_rfl) az (fun w=>ao dG _ w) [] 600 29 [.cell 8 30,.tmp 9] Tryz.func126 rfl Tryz.ntmps126 (by rw [Tryz.results126]) (by simp) rfl (fun hsm=>?_)
 simp (maxSteps:=10000000) only [go_sem,seval,reduceCtorEq,bv,aI,h,jd,Fs,uT,jY,iU,kZ,jh,hd1,pick,bD,go,iI,dE,gW,fx]
 repeat' with_reducible first |apply And.intro |apply condP<;>intro _
 all_goals first |(show be _ _=true;kernel_rfl)|assumption |rfl |(simp only [go_sem, *]<;>rfl)
theorem Kl (x m y:X) (z:Int):Ct Tryz.prog 126 [.v true x.L,.v true m.L,.v true y.L,iA z] (·=yk (uk z x m y)):=by
 unfold uk
 cases h:(an (bf z false) z m y).2 !=0 with
 |true=>exact Jh x m y z h
 |false=>exact Ji x m y z h
noncomputable def dZ:fR:=one 126 (gA fF fun x=>gA fF fun m=>gA fF fun y=>gA kg fun z=>gE (True,yk (uk z x m y)))
theorem jL:TbOK Tryz.prog dZ:=fM (ew Tryz.func126 (by kernel_rfl) rfl) (.a oc fun x=>.a oc fun m=>.a oc fun y=>.a iq fun z=>.e fun _=>Kl x m y z)
def gK (m:List (List X)):Bool:=bif (m.take 4).all (rowQ m.length) then (bif decide (0<(m.length:Int)) then decide ((m.length:Int)≤4) else false) else false
theorem Km (m:List (List X)) (hm:m.length≤40) (hm2:∀ r∈m,r.length≤40):Ct Tryz.prog 61 [ji m] (·=bA (gK m)):=by
 refine bF (O:=aD cB) (by kernel_rfl) az (fun w=>ao lu _ w) [9999997,28,3,9999999,0,6,9999999,0,6,8] ((min m.length 4+1)*30000+500) 49 [.tmp 2] Tryz.func61 rfl Tryz.ntmps61 (by rw [Tryz.results61]) (by simp) rfl (fun hsm=>?_)
 obtain ⟨n,hn⟩:∃ n,n=min m.length 4:=⟨_,rfl⟩
 have h2:=hm
 simp (maxSteps:=10000000) only [go_sem,seval,reduceCtorEq,bv,cB,ey,Option.isSome_none]
 refine aP 30000 (fun i=>[(0,ji m),(6,iA (i:Int))]) n (fun i=>(m.take i).all (rowQ m.length)=true) 0 (fun i _=>rfl) (fun i m1 _ hi hI ih=>?_) (by omega) rfl rfl
 rcases Nat.lt_or_ge i n with hlt |hge
 ·have hlt1:i<m.length:=by omega
  have hx:=ba [] hlt1
  generalize m.getD i []=r at hx
  have ht:m.take (i+1)=m.take i++[r]:=by rw [List.take_add_one,hx];rfl
  have e1:=ng hx
  have d:=decide_eq_true (show (i:Int)<(m.length:Int) by omega)
  have d4:=decide_eq_true (show (i:Int)<4 by omega)
  have g1:(i<m.length)=True:=eq_true hlt1
  have g0:(0≤(i:Int))=True:=eq_true (by omega)
  have hw:=aZ (j:=i) (by omega)
  have hin:r∈m.take 4:=List.mem_of_getElem? (i:=i) (by rw [List.getElem?_take,if_pos (by omega)];exact hx)
  have hbad:rowQ m.length r=false→gK m=false:=fun h=>by unfold gK;rw [List.all_eq_false.2 ⟨r,hin,by rw [h];simp⟩];rfl
  have hrl:=hm2 r (List.mem_of_getElem? hx)
  cases hq:((r.length:Int)!=(m.length:Int)) with
  |true=>
   rw [hbad (by unfold rowQ;rw [hq];rfl)]
   simp (maxSteps:=10000000) only [go_sem,seval,reduceCtorEq,bv,cB,ey,Option.isSome_none,d,d4,g0,g1,e1,hw,hq]
   repeat' with_reducible first |apply And.intro |apply condP<;>intro _
   all_goals first |(show be _ _=true;kernel_rfl)|assumption |rfl |(simp only [go_sem, *]<;>rfl)
  |false=>
   have hrq:rowQ m.length r=r.all X.ok:=by unfold rowQ;rw [hq];rfl
   simp (maxSteps:=10000000) only [go_sem,seval,reduceCtorEq,bv,cB,ey,Option.isSome_none,d,d4,g0,g1,e1,hw,hq]
   refine aP 500 (fun j=>[(0,ji m),(6,iA (i:Int)),(8,iA (j:Int))]) r.length (fun j=>(r.take j).all X.ok=true) m1 (fun j _=>rfl) (fun j m2 hL2 hj hJ ihJ=>?_) (by omega) rfl rfl
   obtain ⟨r2,rfl⟩:=Nat.exists_eq_add_of_le hL2
   rcases Nat.lt_or_ge j r.length with hlt2 |hge2
   ·have hy:=ba zX hlt2
    generalize r.getD j zX=x at hy
    have ht2:r.take (j+1)=r.take j++[x]:=by rw [List.take_add_one,hy];rfl
    have e2:=fq hy
    have d2:=decide_eq_true (show (j:Int)<(r.length:Int) by omega)
    have h1:(j<r.length)=True:=eq_true hlt2
    have h0:(0≤(j:Int))=True:=eq_true (by omega)
    have hw2:=aZ (j:=j) (by omega)
    cases hok:x.ok with
    |false=>
     rw [hbad (by rw [hrq];exact List.all_eq_false.2 ⟨x,List.mem_of_getElem? hy,by rw [hok];simp⟩)]
     simp (maxSteps:=10000000) only [go_sem,seval,reduceCtorEq,bv,cB,ey,Option.isSome_none,d2,g0,g1,e1,h0,h1,e2,hw2,hok]
     repeat' with_reducible first |apply And.intro |apply condP<;>intro _
     all_goals first |(show be _ _=true;kernel_rfl)|assumption |rfl |(simp only [go_sem, *]<;>rfl)
    |true=>
     replace ihJ:=ihJ hlt2 (by rw [ht2,List.all_append,hJ,List.all_cons,hok];rfl)
     simp (maxSteps:=10000000) only [go_sem,seval,reduceCtorEq,bv,cB,ey,Option.isSome_none,d2,g0,g1,e1,h0,h1,e2,hw2,hok]
     repeat' with_reducible first |apply And.intro |apply condP<;>intro _
     all_goals first |(show be _ _=true;kernel_rfl)|(exact ihJ _ _ rfl)|assumption |rfl
   ·obtain rfl:j=r.length:=by omega
    rw [List.take_length] at hJ
    replace ih:=ih hlt (by rw [ht,List.all_append,hI,List.all_cons,hrq,hJ];rfl)
    have d2:decide ((r.length:Int)<(r.length:Int))=false:=decide_eq_false (by omega)
    simp (maxSteps:=10000000) only [go_sem,seval,reduceCtorEq,bv,cB,ey,Option.isSome_none,d2,g0,g1,e1,hw]
    repeat' with_reducible first |apply And.intro |apply condP<;>intro _
    all_goals first |(show be _ _=true;kernel_rfl)|(rw [Nat.add_assoc];exact ih _ _ rfl)|assumption |rfl
 ·have hin:i=n:=by omega
  have ht:m.take i=m.take 4:=by
   rcases Nat.lt_or_ge 4 m.length with h4 |h4
   ·rw [show i=4 by omega]
   ·rw [List.take_of_length_le (by omega),List.take_of_length_le (by omega)]
  rw [ht] at hI
  have hfin:gK m=bif decide (0<(m.length:Int)) then decide ((m.length:Int)≤4) else false:=by unfold gK;rw [hI];rfl
  rw [hfin]
  rcases Nat.lt_or_ge 4 m.length with h4 |h4
  ·have hi4:i=4:=by omega
   clear ih hI
   clear hin hge hi ht
   subst hi4
   have d:=decide_eq_true (show ((4:Nat):Int)<(m.length:Int) by omega)
   have d4:decide (((4:Nat):Int)<4)=false:=rfl
   have c0:=decide_eq_true (show (0:Int)<(m.length:Int) by omega)
   have c1:decide ((m.length:Int)≤4)=false:=decide_eq_false (by omega)
   simp (maxSteps:=10000000) only [go_sem,seval,reduceCtorEq,bv,cB,ey,Option.isSome_none,d,d4,c0,c1]
   repeat' with_reducible first |apply And.intro |apply condP<;>intro _
   all_goals first |(show be _ _=true;kernel_rfl)|assumption |rfl |(simp only [go_sem, *]<;>rfl)
  ·have hi4:i=m.length:=by omega
   have d:decide ((i:Int)<(m.length:Int))=false:=decide_eq_false (by omega)
   have d5:(i<m.length)=False:=eq_false (by omega)
   cases c0:decide (0<(m.length:Int)) with
   |true=>
    have c1:decide ((m.length:Int)≤4)=true:=decide_eq_true (by omega)
    simp (maxSteps:=10000000) only [go_sem,seval,reduceCtorEq,bv,cB,ey,Option.isSome_none,d,d5,c0,c1]
    repeat' with_reducible first |apply And.intro |apply condP<;>intro _
    all_goals first |(show be _ _=true;kernel_rfl)|assumption |rfl |(simp only [go_sem, *]<;>rfl)
   |false=>
    simp (maxSteps:=10000000) only [go_sem,seval,reduceCtorEq,bv,cB,ey,Option.isSome_none,d,d5,c0]
    repeat' with_reducible first |apply And.intro |apply condP<;>intro _
    all_goals first |(show be _ _=true;kernel_rfl)|assumption |rfl |(simp only [go_sem, *]<;>rfl)
noncomputable def cp:fR:=one 61 (gA vN fun m=>gE (m.length≤40∧∀ r∈m,r.length≤40,bA (gK m)))
theorem oH:TbOK Tryz.prog cp:=fM (ew Tryz.func61 (by kernel_rfl) rfl) (.a kq fun m=>.e fun h=>Km m h.1 h.2)
end Go.Proofs.YtpacpmmdjmnamaaGreatDoor
