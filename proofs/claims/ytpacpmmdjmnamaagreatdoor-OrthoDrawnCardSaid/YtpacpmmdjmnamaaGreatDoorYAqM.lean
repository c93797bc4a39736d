/- The document's numbers reckoned, all kinds; its dot products. -/
import Derived.Test.YtpacpmmdjmnamaaGreatDoorYAmC
import Derived.Test.YtpacpmmdjmnamaaGreatDoorYAq2
namespace Go.Proofs.YtpacpmmdjmnamaaGreatDoor
open Go.RowKit Nx
set_option linter.unusedVariables false
set_option linter.unusedSimpArgs false
set_option maxRecDepth 100000
set_option maxHeartbeats 4000000
attribute [local go_sem] run dX X.L J.L vL X.eta J.eta Q.eta List.cons_append List.nil_append iH dU dV bW bX da nc dA iE eq aG bj aL aR bi cL cQ cR cM kZ jh hd1 pick bD inL aS bE dom fH kU nD evd okeys look dN di co cV lenOf fw jb qK jw qQ fv He qf np qh qg nL Ja pF eX jF eY jG bu nV keysOf aD ir jp jg olA olL ot nU mS nT dh jx one cT fi cu bq gG eO jf iO cH decide_true decide_false List.all_cons List.all_nil Bool.and_true Bool.and_self true_and and_true and_self List.length_cons List.length_nil List.drop_succ_cons List.drop_zero List.take_succ_cons List.take_zero List.getElem?_cons_zero List.getElem?_cons_succ List.map_cons List.map_nil false_implies true_implies Option.bind_some List.getElem?_toArray Bool.false_eq_true List.append_nil List.flatMap_cons List.flatMap_nil true_or or_true forall_const List.reverse_cons List.reverse_nil Option.isSome_some Option.any_some Nat.lt_irrefl not_true_eq_false Bool.not_true Bool.not_false imp_self implies_true Bool.not_eq_true' Bool.not_eq_false' Bool.true_eq_false fL jo lQ lV oq pR qo cO qw iJ fB sy Int.toNat_zero decide_eq_true_eq fW fX so sr BEq.rfl beq_self_eq_true Int.natCast_zero ge_iff_le gt_iff_lt Int.le_refl Nat.zero_mul Nat.one_mul Nat.zero_add Nat.zero_lt_succ Nat.lt_add_one Nat.le_refl List.append_eq Int.toNat_natCast gN pP pO gI ek kc gJ su sv ka ss cK cS cN cD pN fN okO je pT gH outPs ep outL fT rD aT aE aY aF jY iU bne_self_eq_false wr2 nM nN nO nP nQ nR gB gP nF nG nH gu yE ny qb re nS sn cG bw cJ aN nE Lc.up Jb pU Bi List.replicate_succ List.replicate_zero List.flatten_cons List.flatten_nil Int.ofNat_lt Int.cast_ofNat_Int Int.ofNat_eq_natCast List.isEmpty_nil List.isEmpty_cons and_false false_and List.cons_ne_nil Nat.add_zero ite_true ite_false if_true if_false Nat.le_zero_eq eq_self Bool.and_false Bool.false_and Bool.true_and AV.s cond_true cond_false Bool.or_true Bool.true_or Bool.or_false Bool.false_or
attribute [local go_sem ↓] cond_true cond_false cw aW aX bI bJ bR bS aU aV bT bU bK bL bP bQ bG bH bM bN
attribute [local irreducible] be
theorem ug {a b:Q} (ha:aH a) (hb:aH b):Vb (times a b):=by
 have:=Bt ha ha hb hb
 rcases least_in a a b b with h |h |h |h<;>rw [h] at this<;>exact this
theorem Jn (q q1:Q) (h:Vw q) (h1:Vw q1):Ct Tryz.prog 167 [iA 2,.v true (vL q),.v true (vL q1)] (·= .v true (vL (times q q1))):=by
 refine bF (O:=aD qZ) (by kernel_rfl) fQ (fun w=>ao uw _ w) [] 1500 21 [.cell 6 127] Tryz.func167 rfl Tryz.ntmps167 (by rw [Tryz.results167]) (by simp) rfl (fun hsm=>?_)
 simp (maxSteps:=10000000) only [go_sem,seval,reduceCtorEq,qZ,ym]
 repeat' with_reducible first |apply And.intro |apply condP<;>intro _
 all_goals first |(show be _ _=true;kernel_rfl)|assumption |(simp only [go_sem, *]<;>rfl)|rfl |(exfalso;simp_all only [Bool.true_eq_false,Bool.false_eq_true,reduceCtorEq];done)
noncomputable def kl:fR:=one 167 (uS fun k q q1=>(k=2∧Vw q∧Vw q1,.v true (vL (times q q1))))
theorem oM:TbOK Tryz.prog kl:=cC (ew Tryz.func167 (by kernel_rfl) rfl) fun args e h hp=>by
 obtain ⟨k,q,q1,rfl,rfl⟩:=wc h
 obtain ⟨rfl,h1,h2⟩:=hp
 exact Jn q q1 h1 h2
theorem GQ (x x1:X) (z:Int) (b:Bool) (h:iG z x x1=true):Ct Tryz.prog 111 [iA 2,xA x,xA x1,iA z,bA b] (·=lP (q0,1)):=by
 refine bF (O:=aD cg) (by kernel_rfl) fQ (fun w=>ao dj _ w) [] 1500 49 [.cell 10 30,.tmp 11] Tryz.func111 rfl Tryz.ntmps111 (by rw [Tryz.results111]) (by simp) rfl (fun hsm=>?_)
 simp (maxSteps:=10000000) only [go_sem,seval,reduceCtorEq,cg,oU,h,zX]
 repeat' with_reducible first |apply And.intro |apply condP<;>intro _
 all_goals first |(show be _ _=true;kernel_rfl)|assumption |(simp only [go_sem, *,um,zX,lP]<;>rfl)|rfl |(exfalso;simp_all only [Bool.true_eq_false,Bool.false_eq_true,reduceCtorEq];done)
theorem GT (x x1:X) (z:Int) (b:Bool) (h:iG z x x1=true):Ct Tryz.prog 111 [iA 3,xA x,xA x1,iA z,bA b] (·=lP (q0,1)):=by
 refine bF (O:=aD cg) (by kernel_rfl) fQ (fun w=>ao dj _ w) [] 1500 49 [.cell 10 30,.tmp 11] Tryz.func111 rfl Tryz.ntmps111 (by rw [Tryz.results111]) (by simp) rfl (fun hsm=>?_)
 simp (maxSteps:=10000000) only [go_sem,seval,reduceCtorEq,cg,oU,h,zX]
 repeat' with_reducible first |apply And.intro |apply condP<;>intro _
 all_goals first |(show be _ _=true;kernel_rfl)|assumption |(simp only [go_sem, *,um,zX,lP]<;>rfl)|rfl |(exfalso;simp_all only [Bool.true_eq_false,Bool.false_eq_true,reduceCtorEq];done)
theorem GS (x x1:X) (z:Int) (b:Bool) (h:iG z x x1=false):Ct Tryz.prog 111 [iA 2,xA x,xA x1,iA z,bA b] (·=lP (res (dP z.toNat b (times x.q x1.q)))):=by
 refine bF (O:=aD (dh cg (dh fE (dh kl (dh fd cU))))) (by kernel_rfl) fQ (fun w=>ao (av dj (av io (av oM (av iY fa)))) _ w) [] 1500 49 [.cell 10 30,.tmp 11] Tryz.func111 rfl Tryz.ntmps111 (by rw [Tryz.results111]) (by simp) rfl (fun hsm=>?_)
 obtain ⟨hx,hx1,hz⟩:=badB_not.1 h
 have v0:=eQ hx hsm.2.1.2.2.1.1
 have v1:=eQ hx1 hsm.2.2.1.2.2.1.1
 have b0:=qT v0
 have b1:=qT v1
 have hp:=tF hz
 have w0:=Bu (Ek (ug v0 v1))
 have w1:=vw hp b (Ek (ug v0 v1))
 simp (maxSteps:=10000000) only [go_sem,seval,reduceCtorEq,cg,fE,kl,fd,cU,oU,uS,h,qa,gV]
 repeat' with_reducible first |apply And.intro |apply condP<;>intro _
 all_goals first |(show be _ _=true;kernel_rfl)|assumption |(simp only [go_sem, *,lP]<;>rfl)|rfl |(exfalso;simp_all only [Bool.true_eq_false,Bool.false_eq_true,reduceCtorEq];done)
theorem GV (x x1:X) (z:Int) (b:Bool) (h:iG z x x1=false) (h0:x1.q.m=0):Ct Tryz.prog 111 [iA 3,xA x,xA x1,iA z,bA b] (·=lP (q0,3)):=by
 refine bF (O:=aD (dh cg fE)) (by kernel_rfl) fQ (fun w=>ao (av dj io) _ w) [] 1500 49 [.cell 10 30,.tmp 11] Tryz.func111 rfl Tryz.ntmps111 (by rw [Tryz.results111]) (by simp) rfl (fun hsm=>?_)
 obtain ⟨hx,hx1,hz⟩:=badB_not.1 h
 have v0:=eQ hx hsm.2.1.2.2.1.1
 have v1:=eQ hx1 hsm.2.2.1.2.2.1.1
 have b0:=qT v0
 have b1:=qT v1
 have hp:=tF hz
 simp (maxSteps:=10000000) only [go_sem,seval,reduceCtorEq,cg,fE,oU,h,zX,h0,aq]
 repeat' with_reducible first |apply And.intro |apply condP<;>intro _
 all_goals first |(show be _ _=true;kernel_rfl)|assumption |(simp only [go_sem, *,um,zX,lP]<;>rfl)|rfl |(exfalso;simp_all only [Bool.true_eq_false,Bool.false_eq_true,reduceCtorEq];done)
theorem GU (x x1:X) (z:Int) (b:Bool) (h:iG z x x1=false) (h0:x1.q.m≠0):Ct Tryz.prog 111 [iA 3,xA x,xA x1,iA z,bA b] (·=lP (res (ib z.toNat b x.q x1.q))):=by
 refine bF (O:=aD (dh cg (dh fE (dh lI cU)))) (by kernel_rfl) fQ (fun w=>ao (av dj (av io (av pW fa))) _ w) [] 1500 49 [.cell 10 30,.tmp 11] Tryz.func111 rfl Tryz.ntmps111 (by rw [Tryz.results111]) (by simp) rfl (fun hsm=>?_)
 obtain ⟨hx,hx1,hz⟩:=badB_not.1 h
 have v0:=eQ hx hsm.2.1.2.2.1.1
 have v1:=eQ hx1 hsm.2.2.1.2.2.1.1
 have b0:=qT v0
 have b1:=qT v1
 have hp:=tF hz
 have w1:=CK hp b v0 v1 h0
 have hl:(((digs B32 x1.q.m).length:Int)==0)=false:=by
  have:(digs B32 x1.q.m).length≠0:=fun e=>h0 (by have:=ae ah x1.q.m;rw [List.eq_nil_of_length_eq_zero e] at this;exact this.symm)
  exact beq_eq_false_iff_ne.2 (by omega)
 simp (maxSteps:=10000000) only [go_sem,seval,reduceCtorEq,cg,fE,lI,cU,oU,h,nI,gV,hl]
 repeat' with_reducible first |apply And.intro |apply condP<;>intro _
 all_goals first |(show be _ _=true;kernel_rfl)|assumption |(simp only [go_sem, *,lP]<;>rfl)|rfl |(exfalso;simp_all only [Bool.true_eq_false,Bool.false_eq_true,reduceCtorEq];done)
theorem Jq (x x1:X) (z:Int) (b:Bool):Ct Tryz.prog 111 [iA 2,xA x,xA x1,iA z,bA b] (·=lP (an (gk 2 z b) z x x1)):=by
 cases h:iG z x x1 with
 |true=>rw [kI h];exact GQ x x1 z b h
 |false=>
  obtain ⟨hx,hx1,hz⟩:=badB_not.1 h
  rw [gp hx hx1 (by rw [←jU];exact hz),uT]
  exact GS x x1 z b h
theorem Jr (x x1:X) (z:Int) (b:Bool):Ct Tryz.prog 111 [iA 3,xA x,xA x1,iA z,bA b] (·=lP (an (gk 3 z b) z x x1)):=by
 cases h:iG z x x1 with
 |true=>rw [kI h];exact GT x x1 z b h
 |false=>
  obtain ⟨hx,hx1,hz⟩:=badB_not.1 h
  rw [gp hx hx1 (by rw [←jU];exact hz),show gk 3 z b x.q x1.q=if x1.q.m=0 then (q0,3) else res (ib z.toNat b x.q x1.q) from rfl]
  by_cases h0:x1.q.m=0
  ·rw [if_pos h0];exact GV x x1 z b h h0
  ·rw [if_neg h0];exact GU x x1 z b h h0
noncomputable def aI:fR:=one 111 (jd fun kd x x1 z b=>(kd=0∨kd=1∨kd=2∨kd=3,lP (an (gk kd z b) z x x1)))
theorem dG:TbOK Tryz.prog aI:=cC (ew Tryz.func111 (by kernel_rfl) rfl) fun args e h hp=>by
 obtain ⟨kd,x,x1,z,b,rfl,rfl⟩:=xi h
 rcases hp with rfl |rfl |rfl |rfl
 ·exact Jo x x1 z b
 ·exact Jp x x1 z b
 ·exact Jq x x1 z b
 ·exact Jr x x1 z b
end Go.Proofs.YtpacpmmdjmnamaaGreatDoor
