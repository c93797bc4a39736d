/- Decks, with the types of numbers alone; what is known of package ortho. -/
import Derived.Test.YtpacpmmdjmnamaaGreatDoorYAq2
namespace Go.Proofs.YtpacpmmdjmnamaaGreatDoor
open Go.RowKit Nx
set_option linter.unusedVariables false
set_option linter.unusedSimpArgs false
set_option maxRecDepth 100000
set_option maxHeartbeats 4000000
attribute [local go_sem] run dX X.L J.L vL X.eta J.eta Q.eta List.cons_append List.nil_append iH dU dV bW bX da nc dA iE eq aG bj aL aR bi cL cQ cR cM kZ jh hd1 pick bD inL aS bE dom fH kU nD evd okeys look dN di co cV lenOf fw jb qK jw qQ fv qf np qh qg nL pF eX jF eY jG bu nV keysOf aD ir jp jg olA olL ot nU mS nT dh jx one cT fi cu bq gG eO jf iO cH decide_true decide_false List.all_cons List.all_nil Bool.and_true Bool.and_self true_and and_true and_self List.length_cons List.length_nil List.drop_succ_cons List.drop_zero List.take_succ_cons List.take_zero List.getElem?_cons_zero List.getElem?_cons_succ List.map_cons List.map_nil false_implies true_implies Option.bind_some List.getElem?_toArray Bool.false_eq_true List.append_nil List.flatMap_cons List.flatMap_nil true_or or_true forall_const List.reverse_cons List.reverse_nil Option.isSome_some Option.any_some Nat.lt_irrefl not_true_eq_false Bool.not_true Bool.not_false imp_self implies_true Bool.not_eq_true' Bool.not_eq_false' Bool.true_eq_false fL jo lQ lV oq pR qo cO qw iJ fB sy Int.toNat_zero decide_eq_true_eq fW fX so sr BEq.rfl beq_self_eq_true Int.natCast_zero ge_iff_le gt_iff_lt Int.le_refl Nat.zero_mul Nat.one_mul Nat.zero_add Nat.zero_lt_succ Nat.lt_add_one Nat.le_refl List.append_eq ic sT rK tH Int.toNat_natCast gN pP pO gI ek kc gJ su sv ka ss cK cS cN cD pN fN okO je pT gH outPs ep outL fT rD pU List.isEmpty_nil AV.s cond_true cond_false Bool.true_and Bool.and_false Bool.false_and Bool.or_true Bool.true_or Bool.or_false Bool.false_or
attribute [local go_sem ↓] cond_true cond_false cw
attribute [local irreducible] be
theorem Ak (xs:List Nat) (k:Nat) (hk:k≤900):lW 41 xs [] k (nA (res (nm (bits .and .u64 ((dk xs k:Nat):Int) 1==1) (nval B64 [(bits .and .u64 ((((dk xs k:Nat):Int)).fdiv (2^min 1 64)) 63).toNat]) (IntKind.i64.wrap (IntKind.i64.wrap (((((dk xs k:Nat):Int)).fdiv (2^min 7 64)).tmod 9) - 6)))).1) (k+1):=by
 refine fY (O:=fun A n c=>fB (ic 98 A n c (rK fun k=>(k≤1000,.s (.lit (.int .u64 (dk xs k:Int))),k+1))) (aD (kN))) (by kernel_rfl) az (fun A n c F w hA hn=>dv cZ (cY (xs:=xs) (ew Tryz.func98 (by kernel_rfl) rfl) (lE fun k hp=>zL hp) hA hn) (ao (rb) _ _) (fun d st args=>by simp [fB,ic,aD,dh,jx,one,kN])) [] 1000 19 [.cell 2 30] Tryz.func41 rfl Tryz.ntmps41 (by decide) (by rw [Tryz.results41]) (by simp) rfl (fun A n c hsm hs=>?_)
 have hk0:k≤1000:=by omega
 simp (maxSteps:=10000000) only [go_sem,seval,bv,reduceCtorEq,kN,gV,ym,qa,nI,DN,Ch,Ci,uR,we,rr,JC,JA,gC,Jz,uH,SX.L,SX.eta,wa,ub,wP,↓od,↓oB,Bool.not_eq_true,JD,Int.natCast_nonneg,Ht,Ha]
 repeat' with_reducible first |apply And.intro |apply condP<;>intro _
 all_goals first |(show be _ _=true;kernel_rfl)|with_reducible assumption |(simp only [go_sem, *]<;>rfl)|rfl |(exfalso;simp_all only [Bool.true_eq_false,Bool.false_eq_true,reduceCtorEq];done)
theorem nd {xs:List Nat} {k:Nat} (hs:Small B64 xs) (hk:k≤900):∃ q:Q,Few q∧lW 41 xs [] k (nA q) (k+1):=by
 refine ⟨_,?_,Ak xs k hk⟩
 have hv:=Hu hs k
 obtain ⟨v,hv0⟩:∃ v,v=dk xs k:=⟨_,rfl⟩
 rw [←hv0] at hv ⊢
 rw [wF v 1 (by omega),wF v 7 (by omega),ET (v / 2^1) (Nat.lt_of_le_of_lt (Nat.div_le_self _ _) hv),Int.toNat_natCast,DU]
 have e1:IntKind.i64.wrap (IntKind.i64.wrap ((((v / 2^7:Nat):Int)).tmod 9) - 6)=((v / 2^7%9:Nat):Int) - 6:=by
  rw [Int.tmod_eq_emod_of_nonneg (Int.natCast_nonneg _),IntKind.wrap_i64,IntKind.wrap_i64]
  omega
 rw [e1]
 have hf:=Fh (s:=(bits .and .u64 (v:Int) 1==1)) (M:=v / 2^1%64) (e:=((v / 2^7%9:Nat):Int) - 6) (Nat.mod_lt _ (by omega)) (by omega) (by omega)
 rw [eF hf.valid.2];exact hf
open Classical in
noncomputable def ak (xs:List Nat) (k:Nat):Q:=if h:Small B64 xs∧k≤900 then (nd h.1 h.2).choose else q0
theorem tB (xs:List Nat) (k:Nat):Few (ak xs k):=by
 unfold ak
 split
 ·rename_i h;exact (nd h.1 h.2).choose_spec.1
 ·exact ⟨fm,by decide,by decide,by decide⟩
theorem eE {xs:List Nat} {k:Nat} (h:Small B64 xs∧k≤900):lW 41 xs [] k (nA (ak xs k)) (k+1):=by
 unfold ak
 rw [dif_pos h];exact (nd h.1 h.2).choose_spec.2
theorem Ab (xs:List Nat) (k:Nat) (hk:k≤900) (h0:(((dk xs k%6:Nat):Int)==0)=true):lW 12 xs [] k (iA 8) (k+1):=by
 refine fY (O:=fun A n c=>fB (ic 38 A n c (tH fun k z=>(k≤1000∧0<z∧z≤1000,iA ((dk xs k%z.toNat:Nat):Int),k+1))) (aD jx)) (by kernel_rfl) az (fun A n c F w hA hn=>dv cZ (cY (xs:=xs) (ew Tryz.func38 (by kernel_rfl) rfl) (ge fun k z hp=>oT hp) hA hn) (ao fZ _ _) (fun d st args=>by simp [fB,ic,aD,dh,jx,one])) [] 1000 12 [.tmp 2] Tryz.func12 rfl Tryz.ntmps12 (by decide) (by rw [Tryz.results12]) (by simp) rfl (fun A n c hsm hs=>?_)
 have hk0:k≤1000:=by omega
 have hk1:k+1≤1000:=by omega
 simp (maxSteps:=10000000) only [go_sem,seval,bv,reduceCtorEq,gV,ym,qa,nI,DN,Ch,Ci,uR,we,rr,JC,JA,gC,Jz,uH,SX.L,SX.eta,wa,ub,wP,↓od,↓oB,Bool.not_eq_true,JD,Int.natCast_nonneg,Ht,h0]
 repeat' with_reducible first |apply And.intro |apply condP<;>intro _
 all_goals first |(show be _ _=true;kernel_rfl)|with_reducible assumption |(simp only [go_sem, *]<;>rfl)|rfl |(exfalso;simp_all only [Bool.true_eq_false,Bool.false_eq_true,reduceCtorEq];done)
theorem Ac (xs:List Nat) (k:Nat) (hk:k≤900) (h0:(((dk xs k%6:Nat):Int)==0)=false) (h1:(((dk xs k%6:Nat):Int)==1)=true):lW 12 xs [] k (iA 256) (k+1):=by
 refine fY (O:=fun A n c=>fB (ic 38 A n c (tH fun k z=>(k≤1000∧0<z∧z≤1000,iA ((dk xs k%z.toNat:Nat):Int),k+1))) (aD jx)) (by kernel_rfl) az (fun A n c F w hA hn=>dv cZ (cY (xs:=xs) (ew Tryz.func38 (by kernel_rfl) rfl) (ge fun k z hp=>oT hp) hA hn) (ao fZ _ _) (fun d st args=>by simp [fB,ic,aD,dh,jx,one])) [] 1000 12 [.tmp 2] Tryz.func12 rfl Tryz.ntmps12 (by decide) (by rw [Tryz.results12]) (by simp) rfl (fun A n c hsm hs=>?_)
 have hk0:k≤1000:=by omega
 have hk1:k+1≤1000:=by omega
 simp (maxSteps:=10000000) only [go_sem,seval,bv,reduceCtorEq,gV,ym,qa,nI,DN,Ch,Ci,uR,we,rr,JC,JA,gC,Jz,uH,SX.L,SX.eta,wa,ub,wP,↓od,↓oB,Bool.not_eq_true,JD,Int.natCast_nonneg,Ht,h0,h1]
 repeat' with_reducible first |apply And.intro |apply condP<;>intro _
 all_goals first |(show be _ _=true;kernel_rfl)|with_reducible assumption |(simp only [go_sem, *]<;>rfl)|rfl |(exfalso;simp_all only [Bool.true_eq_false,Bool.false_eq_true,reduceCtorEq];done)
theorem Ad (xs:List Nat) (k:Nat) (hk:k≤900) (h0:(((dk xs k%6:Nat):Int)==0)=false) (h1:(((dk xs k%6:Nat):Int)==1)=false):lW 12 xs [] k (iA (IntKind.i64.wrap (12+((dk xs (k+1)%60:Nat):Int)))) (k+1+1):=by
 refine fY (O:=fun A n c=>fB (ic 38 A n c (tH fun k z=>(k≤1000∧0<z∧z≤1000,iA ((dk xs k%z.toNat:Nat):Int),k+1))) (aD jx)) (by kernel_rfl) az (fun A n c F w hA hn=>dv cZ (cY (xs:=xs) (ew Tryz.func38 (by kernel_rfl) rfl) (ge fun k z hp=>oT hp) hA hn) (ao fZ _ _) (fun d st args=>by simp [fB,ic,aD,dh,jx,one])) [] 1000 12 [.tmp 2] Tryz.func12 rfl Tryz.ntmps12 (by decide) (by rw [Tryz.results12]) (by simp) rfl (fun A n c hsm hs=>?_)
 have hk0:k≤1000:=by omega
 have hk1:k+1≤1000:=by omega
 simp (maxSteps:=10000000) only [go_sem,seval,bv,reduceCtorEq,gV,ym,qa,nI,DN,Ch,Ci,uR,we,rr,JC,JA,gC,Jz,uH,SX.L,SX.eta,wa,ub,wP,↓od,↓oB,Bool.not_eq_true,JD,Int.natCast_nonneg,Ht,h0,h1]
 repeat' with_reducible first |apply And.intro |apply condP<;>intro _
 all_goals first |(show be _ _=true;kernel_rfl)|with_reducible assumption |omega |(simp only [go_sem, *]<;>rfl)|rfl |(exfalso;simp_all only [Bool.true_eq_false,Bool.false_eq_true,reduceCtorEq];done)
theorem pi {xs:List Nat} {k:Nat} (hk:k≤900):∃ (p:Int) (k':Nat),pQ p=true∧k≤k'∧k'≤k+2∧lW 12 xs [] k (iA p) k':=by
 cases h0:((((dk xs k%6:Nat):Int)==0))
 ·cases h1:((((dk xs k%6:Nat):Int)==1))
  ·refine ⟨_,_,?_,?_,?_,Ad xs k hk h0 h1⟩
   ·have:dk xs (k+1)%60<60:=Nat.mod_lt _ (by omega)
    rw [IntKind.wrap_i64];unfold pQ
    simp only [Bool.and_eq_true,decide_eq_true_eq];omega
   ·omega
   ·omega
  ·exact ⟨_,_,by decide,by omega,by omega,Ac xs k hk h0 h1⟩
 ·exact ⟨_,_,by decide,by omega,by omega,Ab xs k hk h0⟩
open Classical in
noncomputable def oprecD (xs:List Nat) (k:Nat):Int×Nat:=if h:k≤900 then ((pi (xs:=xs) h).choose,(pi (xs:=xs) h).choose_spec.choose) else (8,k)
theorem tA {xs:List Nat} {k:Nat} (h:k≤900):pQ (oprecD xs k).1=true∧k≤(oprecD xs k).2∧(oprecD xs k).2≤k+2∧lW 12 xs [] k (iA (oprecD xs k).1) (oprecD xs k).2:=by
 have:=(pi (xs:=xs) h).choose_spec.choose_spec
 unfold oprecD
 rw [dif_pos h];exact this
theorem FR (xs:List Nat) (k:Nat) (hk:k≤900):lW 8 xs [] k (iA ((dk xs k%4+1:Nat):Int)) (k+1):=by
 have hk0:k≤1000:=by omega
 have hw:IntKind.i64.wrap (1+((dk xs k%4:Nat):Int))=((dk xs k%4+1:Nat):Int):=by rw [IntKind.wrap_i64];omega
 refine fY (O:=fun A n c=>ic 38 A n c (tH fun k z=>(k≤1000∧0<z∧z≤1000,iA ((dk xs k%z.toNat:Nat):Int),k+1))) (by kernel_rfl) az (fun A n c F w hA hn=>cY (xs:=xs) (ew Tryz.func38 (by kernel_rfl) rfl) (ge fun k z hp=>oT hp) hA hn) [] 600 6 [.tmp 2] Tryz.func8 rfl Tryz.ntmps8 (by decide) (by rw [Tryz.results8]) (by simp) rfl (fun A n c hsm hs=>?_)
 simp (maxSteps:=10000000) only [go_sem,seval,reduceCtorEq,aT,aE,aY,aF,↓aW,↓aX,↓bI,↓bJ,↓bR,↓bS,↓aU,↓aV,↓bT,↓bU,↓bK,↓bL,↓bP,↓bQ,↓bG,↓bH,↓bM,↓bN,bne_self_eq_false,wr2,nM,nN,nO,nP,nQ,nR,gB,gP,nF,nG,nH,gu,cG,bw,cJ,aN,nE,Lc.up,List.replicate_succ,List.replicate_zero,List.flatten_cons,List.flatten_nil,Int.ofNat_lt,Int.cast_ofNat_Int,Int.ofNat_eq_natCast,List.isEmpty_cons,and_false,false_and,List.cons_ne_nil,Nat.add_zero,ite_true,ite_false,if_true,if_false,Nat.le_zero_eq,eq_self,Bool.and_false,Bool.false_and,Bool.true_and,nY,gA,gE,kg,oO,ip,fF,ed,ef,eA,eg,ite_self,bv,hw,hk0,jY,iU,go,iI,dE,gW,fx]
 repeat' with_reducible first |apply And.intro |apply condP<;>intro _
 all_goals first |(show be _ _=true;kernel_rfl)|with_reducible assumption |rfl |omega |(simp only [go_sem, *];done)
theorem lR (xs:List Nat) (k:Nat) (hk:k≤900):lW 39 xs [iA 9] k (bA (((dk xs k%9:Nat):Int)==8)) (k+1):=by
 have hk0:k≤1000:=by omega
 refine fY (O:=fun A n c=>fB (ic 38 A n c (tH fun k z=>(k≤1000∧0<z∧z≤1000,iA ((dk xs k%z.toNat:Nat):Int),k+1))) (aD jx)) (by kernel_rfl) az (fun A n c F w hA hn=>dv cZ (cY (xs:=xs) (ew Tryz.func38 (by kernel_rfl) rfl) (ge fun k z hp=>oT hp) hA hn) (ao fZ _ _) (fun d st args=>by simp [fB,ic,aD,dh,jx,one])) [] 600 11 [.tmp 4] Tryz.func39 rfl Tryz.ntmps39 (by decide) (by rw [Tryz.results39]) (by simp) rfl (fun A n c hsm hs=>?_)
 simp (maxSteps:=10000000) only [go_sem,seval,reduceCtorEq,aT,aE,aY,aF,↓aW,↓aX,↓bI,↓bJ,↓bR,↓bS,↓aU,↓aV,↓bT,↓bU,↓bK,↓bL,↓bP,↓bQ,↓bG,↓bH,↓bM,↓bN,bne_self_eq_false,wr2,nM,nN,nO,nP,nQ,nR,gB,gP,nF,nG,nH,gu,cG,bw,cJ,aN,nE,Lc.up,List.replicate_succ,List.replicate_zero,List.flatten_cons,List.flatten_nil,Int.ofNat_lt,Int.cast_ofNat_Int,Int.ofNat_eq_natCast,List.isEmpty_cons,and_false,false_and,List.cons_ne_nil,Nat.add_zero,ite_true,ite_false,if_true,if_false,Nat.le_zero_eq,eq_self,Bool.and_false,Bool.false_and,Bool.true_and,nY,gA,gE,kg,oO,ip,fF,ed,ef,eA,eg,ite_self,bv,hk0,jY,iU,go,iI,dE,gW,fx]
 repeat' with_reducible first |apply And.intro |apply condP<;>intro _
 all_goals first |(show be _ _=true;kernel_rfl)|with_reducible assumption |rfl |omega |(simp only [go_sem, *];done)
theorem Cy (xs:List Nat) (k:Nat) (hs2:Small B64 xs) (hk:k+20≤900):lW 25 xs [iA 1] k (.s (qL [[qx (ak xs k)]])) (k+1):=by
 have a1:k+1≤900:=by omega
 have a0:k≤900:=by omega
 refine fY (O:=fun A n c=>fB (ic 41 A n c (rK fun k=>(Small B64 xs∧k≤900,nA (ak xs k),k+1))) (ic 39 A n c (tH fun k z=>(z=9∧k≤900,bA (((dk xs k%9:Nat):Int)==8),k+1)))) (by kernel_rfl) az (fun A n c F w hA hn=>dv cZ (cY (xs:=xs) (ew Tryz.func41 (by kernel_rfl) rfl) (lE fun k hp=>eE hp) hA hn) (cY (xs:=xs) (ew Tryz.func39 (by kernel_rfl) rfl) (ge fun k z hp=>by obtain ⟨rfl,hp⟩:=hp;exact lR xs k hp) hA hn) (fun d st args=>by simp [ic])) [9999997,26,10,9999998,23,9999999,0,2,10,12,55,47,2001,9999999,0,2,10,12,14,16,55,47,2001] 1600 42 [.tmp 4] Tryz.func25 rfl Tryz.ntmps25 (by decide) (by rw [Tryz.results25]) (by simp) rfl (fun A n c hsm hs=>?_)
 simp (maxSteps:=10000000) only [go_sem,seval,reduceCtorEq,aT,aE,aY,aF,↓aW,↓aX,↓bI,↓bJ,↓bR,↓bS,↓aU,↓aV,↓bT,↓bU,↓bK,↓bL,↓bP,↓bQ,↓bG,↓bH,↓bM,↓bN,bne_self_eq_false,wr2,nM,nN,nO,nP,nQ,nR,gB,gP,nF,nG,nH,gu,cG,bw,cJ,aN,nE,Lc.up,List.replicate_succ,List.replicate_zero,List.flatten_cons,List.flatten_nil,Int.ofNat_lt,Int.cast_ofNat_Int,Int.ofNat_eq_natCast,List.isEmpty_cons,and_false,false_and,List.cons_ne_nil,Nat.add_zero,ite_true,ite_false,if_true,if_false,Nat.le_zero_eq,eq_self,Bool.and_false,Bool.false_and,Bool.true_and,nY,gA,gE,kg,oO,ip,fF,ed,ef,eA,eg,ite_self,bv,aA,ey,Option.isSome_none,eh,jc,Nat.add_assoc,hs2,a0,a1,jY,iU,go,iI,dE,gW,fx]
 repeat' with_reducible first |apply And.intro |apply condP<;>intro _
 all_goals first |(show be _ _=true;kernel_rfl)|with_reducible assumption |rfl |omega |(simp only [go_sem, *];done)
theorem Af (xs:List Nat) (k:Nat) (hs2:Small B64 xs) (hk:k+20≤900) (hy:(((dk xs (k+4)%9:Nat):Int)==8)=true):lW 25 xs [iA 2] k (.s (qL [[qx (ak xs k),qx (ak xs (k+1))],[qx (ak xs k),qx (ak xs (k+1))]])) (k+4+1):=by
 have a1:k+1≤900:=by omega
 have a2:k+2≤900:=by omega
 have a3:k+3≤900:=by omega
 have a4:k+4≤900:=by omega
 have a0:k≤900:=by omega
 refine fY (O:=fun A n c=>fB (ic 41 A n c (rK fun k=>(Small B64 xs∧k≤900,nA (ak xs k),k+1))) (ic 39 A n c (tH fun k z=>(z=9∧k≤900,bA (((dk xs k%9:Nat):Int)==8),k+1)))) (by kernel_rfl) az (fun A n c F w hA hn=>dv cZ (cY (xs:=xs) (ew Tryz.func41 (by kernel_rfl) rfl) (lE fun k hp=>eE hp) hA hn) (cY (xs:=xs) (ew Tryz.func39 (by kernel_rfl) rfl) (ge fun k z hp=>by obtain ⟨rfl,hp⟩:=hp;exact lR xs k hp) hA hn) (fun d st args=>by simp [ic])) [9999997,26,10,9999998,23,9999999,0,2,10,12,55,47,2001,9999999,0,2,10,12,14,16,55,47,2001] 3700 42 [.tmp 4] Tryz.func25 rfl Tryz.ntmps25 (by decide) (by rw [Tryz.results25]) (by simp) rfl (fun A n c hsm hs=>?_)
 simp (maxSteps:=10000000) only [go_sem,seval,reduceCtorEq,aT,aE,aY,aF,↓aW,↓aX,↓bI,↓bJ,↓bR,↓bS,↓aU,↓aV,↓bT,↓bU,↓bK,↓bL,↓bP,↓bQ,↓bG,↓bH,↓bM,↓bN,bne_self_eq_false,wr2,nM,nN,nO,nP,nQ,nR,gB,gP,nF,nG,nH,gu,cG,bw,cJ,aN,nE,Lc.up,List.replicate_succ,List.replicate_zero,List.flatten_cons,List.flatten_nil,Int.ofNat_lt,Int.cast_ofNat_Int,Int.ofNat_eq_natCast,List.isEmpty_cons,and_false,false_and,List.cons_ne_nil,Nat.add_zero,ite_true,ite_false,if_true,if_false,Nat.le_zero_eq,eq_self,Bool.and_false,Bool.false_and,Bool.true_and,nY,gA,gE,kg,oO,ip,fF,ed,ef,eA,eg,ite_self,bv,aA,ey,Option.isSome_none,eh,jc,Nat.add_assoc,hs2,hy,a0,a1,a2,a3,a4,jY,iU,go,iI,dE,gW,fx]
 repeat' with_reducible first |apply And.intro |apply condP<;>intro _
 all_goals first |(show be _ _=true;kernel_rfl)|with_reducible assumption |rfl |omega |(simp only [go_sem, *];done)
theorem Ae (xs:List Nat) (k:Nat) (hs2:Small B64 xs) (hk:k+20≤900) (hy:(((dk xs (k+4)%9:Nat):Int)==8)=false):lW 25 xs [iA 2] k (.s (qL [[qx (ak xs k),qx (ak xs (k+1))],[qx (ak xs (k+2)),qx (ak xs (k+3))]])) (k+4+1):=by
 have a1:k+1≤900:=by omega
 have a2:k+2≤900:=by omega
 have a3:k+3≤900:=by omega
 have a4:k+4≤900:=by omega
 have a0:k≤900:=by omega
 refine fY (O:=fun A n c=>fB (ic 41 A n c (rK fun k=>(Small B64 xs∧k≤900,nA (ak xs k),k+1))) (ic 39 A n c (tH fun k z=>(z=9∧k≤900,bA (((dk xs k%9:Nat):Int)==8),k+1)))) (by kernel_rfl) az (fun A n c F w hA hn=>dv cZ (cY (xs:=xs) (ew Tryz.func41 (by kernel_rfl) rfl) (lE fun k hp=>eE hp) hA hn) (cY (xs:=xs) (ew Tryz.func39 (by kernel_rfl) rfl) (ge fun k z hp=>by obtain ⟨rfl,hp⟩:=hp;exact lR xs k hp) hA hn) (fun d st args=>by simp [ic])) [9999997,26,10,9999998,23,9999999,0,2,10,12,55,47,2001,9999999,0,2,10,12,14,16,55,47,2001] 3700 42 [.tmp 4] Tryz.func25 rfl Tryz.ntmps25 (by decide) (by rw [Tryz.results25]) (by simp) rfl (fun A n c hsm hs=>?_)
 simp (maxSteps:=10000000) only [go_sem,seval,reduceCtorEq,aT,aE,aY,aF,↓aW,↓aX,↓bI,↓bJ,↓bR,↓bS,↓aU,↓aV,↓bT,↓bU,↓bK,↓bL,↓bP,↓bQ,↓bG,↓bH,↓bM,↓bN,bne_self_eq_false,wr2,nM,nN,nO,nP,nQ,nR,gB,gP,nF,nG,nH,gu,cG,bw,cJ,aN,nE,Lc.up,List.replicate_succ,List.replicate_zero,List.flatten_cons,List.flatten_nil,Int.ofNat_lt,Int.cast_ofNat_Int,Int.ofNat_eq_natCast,List.isEmpty_cons,and_false,false_and,List.cons_ne_nil,Nat.add_zero,ite_true,ite_false,if_true,if_false,Nat.le_zero_eq,eq_self,Bool.and_false,Bool.false_and,Bool.true_and,nY,gA,gE,kg,oO,ip,fF,ed,ef,eA,eg,ite_self,bv,aA,ey,Option.isSome_none,eh,jc,Nat.add_assoc,hs2,hy,a0,a1,a2,a3,a4,jY,iU,go,iI,dE,gW,fx]
 repeat' with_reducible first |apply And.intro |apply condP<;>intro _
 all_goals first |(show be _ _=true;kernel_rfl)|with_reducible assumption |rfl |omega |(simp only [go_sem, *];done)
theorem Ah (xs:List Nat) (k:Nat) (hs2:Small B64 xs) (hk:k+20≤900) (hy:(((dk xs (k+9)%9:Nat):Int)==8)=true):lW 25 xs [iA 3] k (.s (qL [[qx (ak xs k),qx (ak xs (k+1)),qx (ak xs (k+2))],[qx (ak xs (k+3)),qx (ak xs (k+4)),qx (ak xs (k+5))],[qx (ak xs k),qx (ak xs (k+1)),qx (ak xs (k+2))]])) (k+9+1):=by
 have a1:k+1≤900:=by omega
 have a2:k+2≤900:=by omega
 have a3:k+3≤900:=by omega
 have a4:k+4≤900:=by omega
 have a5:k+5≤900:=by omega
 have a6:k+6≤900:=by omega
 have a7:k+7≤900:=by omega
 have a8:k+8≤900:=by omega
 have a9:k+9≤900:=by omega
 have a0:k≤900:=by omega
 refine fY (O:=fun A n c=>fB (ic 41 A n c (rK fun k=>(Small B64 xs∧k≤900,nA (ak xs k),k+1))) (ic 39 A n c (tH fun k z=>(z=9∧k≤900,bA (((dk xs k%9:Nat):Int)==8),k+1)))) (by kernel_rfl) az (fun A n c F w hA hn=>dv cZ (cY (xs:=xs) (ew Tryz.func41 (by kernel_rfl) rfl) (lE fun k hp=>eE hp) hA hn) (cY (xs:=xs) (ew Tryz.func39 (by kernel_rfl) rfl) (ge fun k z hp=>by obtain ⟨rfl,hp⟩:=hp;exact lR xs k hp) hA hn) (fun d st args=>by simp [ic])) [9999997,26,10,9999998,23,9999999,0,2,10,12,55,47,2001,9999999,0,2,10,12,14,16,55,47,2001] 7200 42 [.tmp 4] Tryz.func25 rfl Tryz.ntmps25 (by decide) (by rw [Tryz.results25]) (by simp) rfl (fun A n c hsm hs=>?_)
 simp (maxSteps:=10000000) only [go_sem,seval,reduceCtorEq,aT,aE,aY,aF,↓aW,↓aX,↓bI,↓bJ,↓bR,↓bS,↓aU,↓aV,↓bT,↓bU,↓bK,↓bL,↓bP,↓bQ,↓bG,↓bH,↓bM,↓bN,bne_self_eq_false,wr2,nM,nN,nO,nP,nQ,nR,gB,gP,nF,nG,nH,gu,cG,bw,cJ,aN,nE,Lc.up,List.replicate_succ,List.replicate_zero,List.flatten_cons,List.flatten_nil,Int.ofNat_lt,Int.cast_ofNat_Int,Int.ofNat_eq_natCast,List.isEmpty_cons,and_false,false_and,List.cons_ne_nil,Nat.add_zero,ite_true,ite_false,if_true,if_false,Nat.le_zero_eq,eq_self,Bool.and_false,Bool.false_and,Bool.true_and,nY,gA,gE,kg,oO,ip,fF,ed,ef,eA,eg,ite_self,bv,aA,ey,Option.isSome_none,eh,jc,Nat.add_assoc,hs2,hy,a0,a1,a2,a3,a4,a5,a6,a7,a8,a9,jY,iU,go,iI,dE,gW,fx]
 repeat' with_reducible first |apply And.intro |apply condP<;>intro _
 all_goals first |(show be _ _=true;kernel_rfl)|with_reducible assumption |rfl |omega |(simp only [go_sem, *];done)
theorem Ag (xs:List Nat) (k:Nat) (hs2:Small B64 xs) (hk:k+20≤900) (hy:(((dk xs (k+9)%9:Nat):Int)==8)=false):lW 25 xs [iA 3] k (.s (qL [[qx (ak xs k),qx (ak xs (k+1)),qx (ak xs (k+2))],[qx (ak xs (k+3)),qx (ak xs (k+4)),qx (ak xs (k+5))],[qx (ak xs (k+6)),qx (ak xs (k+7)),qx (ak xs (k+8))]])) (k+9+1):=by
 have a1:k+1≤900:=by omega
 have a2:k+2≤900:=by omega
 have a3:k+3≤900:=by omega
 have a4:k+4≤900:=by omega
 have a5:k+5≤900:=by omega
 have a6:k+6≤900:=by omega
 have a7:k+7≤900:=by omega
 have a8:k+8≤900:=by omega
 have a9:k+9≤900:=by omega
 have a0:k≤900:=by omega
 refine fY (O:=fun A n c=>fB (ic 41 A n c (rK fun k=>(Small B64 xs∧k≤900,nA (ak xs k),k+1))) (ic 39 A n c (tH fun k z=>(z=9∧k≤900,bA (((dk xs k%9:Nat):Int)==8),k+1)))) (by kernel_rfl) az (fun A n c F w hA hn=>dv cZ (cY (xs:=xs) (ew Tryz.func41 (by kernel_rfl) rfl) (lE fun k hp=>eE hp) hA hn) (cY (xs:=xs) (ew Tryz.func39 (by kernel_rfl) rfl) (ge fun k z hp=>by obtain ⟨rfl,hp⟩:=hp;exact lR xs k hp) hA hn) (fun d st args=>by simp [ic])) [9999997,26,10,9999998,23,9999999,0,2,10,12,55,47,2001,9999999,0,2,10,12,14,16,55,47,2001] 7200 42 [.tmp 4] Tryz.func25 rfl Tryz.ntmps25 (by decide) (by rw [Tryz.results25]) (by simp) rfl (fun A n c hsm hs=>?_)
 simp (maxSteps:=10000000) only [go_sem,seval,reduceCtorEq,aT,aE,aY,aF,↓aW,↓aX,↓bI,↓bJ,↓bR,↓bS,↓aU,↓aV,↓bT,↓bU,↓bK,↓bL,↓bP,↓bQ,↓bG,↓bH,↓bM,↓bN,bne_self_eq_false,wr2,nM,nN,nO,nP,nQ,nR,gB,gP,nF,nG,nH,gu,cG,bw,cJ,aN,nE,Lc.up,List.replicate_succ,List.replicate_zero,List.flatten_cons,List.flatten_nil,Int.ofNat_lt,Int.cast_ofNat_Int,Int.ofNat_eq_natCast,List.isEmpty_cons,and_false,false_and,List.cons_ne_nil,Nat.add_zero,ite_true,ite_false,if_true,if_false,Nat.le_zero_eq,eq_self,Bool.and_false,Bool.false_and,Bool.true_and,nY,gA,gE,kg,oO,ip,fF,ed,ef,eA,eg,ite_self,bv,aA,ey,Option.isSome_none,eh,jc,Nat.add_assoc,hs2,hy,a0,a1,a2,a3,a4,a5,a6,a7,a8,a9,jY,iU,go,iI,dE,gW,fx]
 repeat' with_reducible first |apply And.intro |apply condP<;>intro _
 all_goals first |(show be _ _=true;kernel_rfl)|with_reducible assumption |rfl |omega |(simp only [go_sem, *];done)
theorem Aj (xs:List Nat) (k:Nat) (hs2:Small B64 xs) (hk:k+20≤900) (hy:(((dk xs (k+16)%9:Nat):Int)==8)=true):lW 25 xs [iA 4] k (.s (qL [[qx (ak xs k),qx (ak xs (k+1)),qx (ak xs (k+2)),qx (ak xs (k+3))],[qx (ak xs (k+4)),qx (ak xs (k+5)),qx (ak xs (k+6)),qx (ak xs (k+7))],[qx (ak xs (k+8)),qx (ak xs (k+9)),qx (ak xs (k+10)),qx (ak xs (k+11))],[qx (ak xs k),qx (ak xs (k+1)),qx (ak xs (k+2)),qx (ak xs (k+3))]])) (k+16+1):=by
 have a1:k+1≤900:=by omega
 have a2:k+2≤900:=by omega
 have a3:k+3≤900:=by omega
 have a4:k+4≤900:=by omega
 have a5:k+5≤900:=by omega
 have a6:k+6≤900:=by omega
 have a7:k+7≤900:=by omega
 have a8:k+8≤900:=by omega
 have a9:k+9≤900:=by omega
 have a10:k+10≤900:=by omega
 have a11:k+11≤900:=by omega
 have a12:k+12≤900:=by omega
 have a13:k+13≤900:=by omega
 have a14:k+14≤900:=by omega
 have a15:k+15≤900:=by omega
 have a16:k+16≤900:=by omega
 have a0:k≤900:=by omega
 refine fY (O:=fun A n c=>fB (ic 41 A n c (rK fun k=>(Small B64 xs∧k≤900,nA (ak xs k),k+1))) (ic 39 A n c (tH fun k z=>(z=9∧k≤900,bA (((dk xs k%9:Nat):Int)==8),k+1)))) (by kernel_rfl) az (fun A n c F w hA hn=>dv cZ (cY (xs:=xs) (ew Tryz.func41 (by kernel_rfl) rfl) (lE fun k hp=>eE hp) hA hn) (cY (xs:=xs) (ew Tryz.func39 (by kernel_rfl) rfl) (ge fun k z hp=>by obtain ⟨rfl,hp⟩:=hp;exact lR xs k hp) hA hn) (fun d st args=>by simp [ic])) [9999997,26,10,9999998,23,9999999,0,2,10,12,55,47,2001,9999999,0,2,10,12,14,16,55,47,2001] 12100 42 [.tmp 4] Tryz.func25 rfl Tryz.ntmps25 (by decide) (by rw [Tryz.results25]) (by simp) rfl (fun A n c hsm hs=>?_)
 simp (maxSteps:=10000000) only [go_sem,seval,reduceCtorEq,aT,aE,aY,aF,↓aW,↓aX,↓bI,↓bJ,↓bR,↓bS,↓aU,↓aV,↓bT,↓bU,↓bK,↓bL,↓bP,↓bQ,↓bG,↓bH,↓bM,↓bN,bne_self_eq_false,wr2,nM,nN,nO,nP,nQ,nR,gB,gP,nF,nG,nH,gu,cG,bw,cJ,aN,nE,Lc.up,List.replicate_succ,List.replicate_zero,List.flatten_cons,List.flatten_nil,Int.ofNat_lt,Int.cast_ofNat_Int,Int.ofNat_eq_natCast,List.isEmpty_cons,and_false,false_and,List.cons_ne_nil,Nat.add_zero,ite_true,ite_false,if_true,if_false,Nat.le_zero_eq,eq_self,Bool.and_false,Bool.false_and,Bool.true_and,nY,gA,gE,kg,oO,ip,fF,ed,ef,eA,eg,ite_self,bv,aA,ey,Option.isSome_none,eh,jc,Nat.add_assoc,hs2,hy,a0,a1,a2,a3,a4,a5,a6,a7,a8,a9,a10,a11,a12,a13,a14,a15,a16,jY,iU,go,iI,dE,gW,fx]
 repeat' with_reducible first |apply And.intro |apply condP<;>intro _
 all_goals first |(show be _ _=true;kernel_rfl)|with_reducible assumption |rfl |omega |(simp only [go_sem, *];done)
theorem Ai (xs:List Nat) (k:Nat) (hs2:Small B64 xs) (hk:k+20≤900) (hy:(((dk xs (k+16)%9:Nat):Int)==8)=false):lW 25 xs [iA 4] k (.s (qL [[qx (ak xs k),qx (ak xs (k+1)),qx (ak xs (k+2)),qx (ak xs (k+3))],[qx (ak xs (k+4)),qx (ak xs (k+5)),qx (ak xs (k+6)),qx (ak xs (k+7))],[qx (ak xs (k+8)),qx (ak xs (k+9)),qx (ak xs (k+10)),qx (ak xs (k+11))],[qx (ak xs (k+12)),qx (ak xs (k+13)),qx (ak xs (k+14)),qx (ak xs (k+15))]])) (k+16+1):=by
 have a1:k+1≤900:=by omega
 have a2:k+2≤900:=by omega
 have a3:k+3≤900:=by omega
 have a4:k+4≤900:=by omega
 have a5:k+5≤900:=by omega
 have a6:k+6≤900:=by omega
 have a7:k+7≤900:=by omega
 have a8:k+8≤900:=by omega
 have a9:k+9≤900:=by omega
 have a10:k+10≤900:=by omega
 have a11:k+11≤900:=by omega
 have a12:k+12≤900:=by omega
 have a13:k+13≤900:=by omega
 have a14:k+14≤900:=by omega
 have a15:k+15≤900:=by omega
 have a16:k+16≤900:=by omega
 have a0:k≤900:=by omega
 refine fY (O:=fun A n c=>fB (ic 41 A n c (rK fun k=>(Small B64 xs∧k≤900,nA (ak xs k),k+1))) (ic 39 A n c (tH fun k z=>(z=9∧k≤900,bA (((dk xs k%9:Nat):Int)==8),k+1)))) (by kernel_rfl) az (fun A n c F w hA hn=>dv cZ (cY (xs:=xs) (ew Tryz.func41 (by kernel_rfl) rfl) (lE fun k hp=>eE hp) hA hn) (cY (xs:=xs) (ew Tryz.func39 (by kernel_rfl) rfl) (ge fun k z hp=>by obtain ⟨rfl,hp⟩:=hp;exact lR xs k hp) hA hn) (fun d st args=>by simp [ic])) [9999997,26,10,9999998,23,9999999,0,2,10,12,55,47,2001,9999999,0,2,10,12,14,16,55,47,2001] 12100 42 [.tmp 4] Tryz.func25 rfl Tryz.ntmps25 (by decide) (by rw [Tryz.results25]) (by simp) rfl (fun A n c hsm hs=>?_)
 simp (maxSteps:=10000000) only [go_sem,seval,reduceCtorEq,aT,aE,aY,aF,↓aW,↓aX,↓bI,↓bJ,↓bR,↓bS,↓aU,↓aV,↓bT,↓bU,↓bK,↓bL,↓bP,↓bQ,↓bG,↓bH,↓bM,↓bN,bne_self_eq_false,wr2,nM,nN,nO,nP,nQ,nR,gB,gP,nF,nG,nH,gu,cG,bw,cJ,aN,nE,Lc.up,List.replicate_succ,List.replicate_zero,List.flatten_cons,List.flatten_nil,Int.ofNat_lt,Int.cast_ofNat_Int,Int.ofNat_eq_natCast,List.isEmpty_cons,and_false,false_and,List.cons_ne_nil,Nat.add_zero,ite_true,ite_false,if_true,if_false,Nat.le_zero_eq,eq_self,Bool.and_false,Bool.false_and,Bool.true_and,nY,gA,gE,kg,oO,ip,fF,ed,ef,eA,eg,ite_self,bv,aA,ey,Option.isSome_none,eh,jc,Nat.add_assoc,hs2,hy,a0,a1,a2,a3,a4,a5,a6,a7,a8,a9,a10,a11,a12,a13,a14,a15,a16,jY,iU,go,iI,dE,gW,fx]
 repeat' with_reducible first |apply And.intro |apply condP<;>intro _
 all_goals first |(show be _ _=true;kernel_rfl)|with_reducible assumption |rfl |omega |(simp only [go_sem, *];done)
theorem CG {xs:List Nat} {k n:Nat} (hs2:Small B64 xs) (hk:k+20≤900) (h1:1≤n) (h4:n≤4):∃ (m:List (List X)) (k':Nat),(GW n m∧∀ r∈m,∀ x∈r,∃ q,Few q∧x=qx q)∧k≤k'∧k'≤k+17∧lW 25 xs [iA (n:Int)] k (.s (qL m)) k':=by
 have hf:=tB xs
 have hn:n=1∨n=2∨n=3∨n=4:=by omega
 rcases hn with rfl |rfl |rfl |rfl
 ·refine ⟨_,_,⟨⟨?_,?_⟩,?_⟩,?_,?_,Cy xs k hs2 hk⟩
  case refine_1=>rfl
  case refine_2=>intro r hr;simp only [List.mem_cons,List.not_mem_nil,or_false] at hr;rcases hr with rfl<;>rfl
  case refine_3=>intro r hr x hx;simp only [List.mem_cons,List.not_mem_nil,or_false] at hr;subst hr;simp only [List.mem_cons,List.not_mem_nil,or_false] at hx;subst hx;exact ⟨_,hf _,rfl⟩
  all_goals omega
 ·cases hy:(((dk xs (k+4)%9:Nat):Int)==8) with
  |true=>
   refine ⟨_,_,⟨⟨?_,?_⟩,?_⟩,?_,?_,Af xs k hs2 hk hy⟩
   case refine_1=>rfl
   case refine_2=>intro r hr;simp only [List.mem_cons,List.not_mem_nil,or_false] at hr;rcases hr with rfl |rfl<;>rfl
   case refine_3=>
    intro r hr x hx;simp only [List.mem_cons,List.not_mem_nil,or_false] at hr
    rcases hr with rfl |rfl<;>simp only [List.mem_cons,List.not_mem_nil,or_false] at hx<;>rcases hx with rfl |rfl<;>exact ⟨_,hf _,rfl⟩
   all_goals omega
  |false=>
   refine ⟨_,_,⟨⟨?_,?_⟩,?_⟩,?_,?_,Ae xs k hs2 hk hy⟩
   case refine_1=>rfl
   case refine_2=>intro r hr;simp only [List.mem_cons,List.not_mem_nil,or_false] at hr;rcases hr with rfl |rfl<;>rfl
   case refine_3=>
    intro r hr x hx;simp only [List.mem_cons,List.not_mem_nil,or_false] at hr
    rcases hr with rfl |rfl<;>simp only [List.mem_cons,List.not_mem_nil,or_false] at hx<;>rcases hx with rfl |rfl<;>exact ⟨_,hf _,rfl⟩
   all_goals omega
 ·cases hy:(((dk xs (k+9)%9:Nat):Int)==8) with
  |true=>
   refine ⟨_,_,⟨⟨?_,?_⟩,?_⟩,?_,?_,Ah xs k hs2 hk hy⟩
   case refine_1=>rfl
   case refine_2=>intro r hr;simp only [List.mem_cons,List.not_mem_nil,or_false] at hr;rcases hr with rfl |rfl |rfl<;>rfl
   case refine_3=>
    intro r hr x hx;simp only [List.mem_cons,List.not_mem_nil,or_false] at hr
    rcases hr with rfl |rfl |rfl<;>simp only [List.mem_cons,List.not_mem_nil,or_false] at hx<;>rcases hx with rfl |rfl |rfl<;>exact ⟨_,hf _,rfl⟩
   all_goals omega
  |false=>
   refine ⟨_,_,⟨⟨?_,?_⟩,?_⟩,?_,?_,Ag xs k hs2 hk hy⟩
   case refine_1=>rfl
   case refine_2=>intro r hr;simp only [List.mem_cons,List.not_mem_nil,or_false] at hr;rcases hr with rfl |rfl |rfl<;>rfl
   case refine_3=>
    intro r hr x hx;simp only [List.mem_cons,List.not_mem_nil,or_false] at hr
    rcases hr with rfl |rfl |rfl<;>simp only [List.mem_cons,List.not_mem_nil,or_false] at hx<;>rcases hx with rfl |rfl |rfl<;>exact ⟨_,hf _,rfl⟩
   all_goals omega
 ·cases hy:(((dk xs (k+16)%9:Nat):Int)==8) with
  |true=>
   refine ⟨_,_,⟨⟨?_,?_⟩,?_⟩,?_,?_,Aj xs k hs2 hk hy⟩
   case refine_1=>rfl
   case refine_2=>intro r hr;simp only [List.mem_cons,List.not_mem_nil,or_false] at hr;rcases hr with rfl |rfl |rfl |rfl<;>rfl
   case refine_3=>
    intro r hr x hx;simp only [List.mem_cons,List.not_mem_nil,or_false] at hr
    rcases hr with rfl |rfl |rfl |rfl<;>simp only [List.mem_cons,List.not_mem_nil,or_false] at hx<;>rcases hx with rfl |rfl |rfl |rfl<;>exact ⟨_,hf _,rfl⟩
   all_goals omega
  |false=>
   refine ⟨_,_,⟨⟨?_,?_⟩,?_⟩,?_,?_,Ai xs k hs2 hk hy⟩
   case refine_1=>rfl
   case refine_2=>intro r hr;simp only [List.mem_cons,List.not_mem_nil,or_false] at hr;rcases hr with rfl |rfl |rfl |rfl<;>rfl
   case refine_3=>
    intro r hr x hx;simp only [List.mem_cons,List.not_mem_nil,or_false] at hr
    rcases hr with rfl |rfl |rfl |rfl<;>simp only [List.mem_cons,List.not_mem_nil,or_false] at hx<;>rcases hx with rfl |rfl |rfl |rfl<;>exact ⟨_,hf _,rfl⟩
   all_goals omega
end Go.Proofs.YtpacpmmdjmnamaaGreatDoor
