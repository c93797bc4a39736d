/- The statements' helper parts returns true. -/
import Derived.Test.YthhaelnildaemaaGreatDoorSAl4
import Derived.Test.YthhaelnildaemaaGreatDoorSAi4
import Derived.Test.YthhaelnildaemaaGreatDoorSAl3
import Derived.Test.YthhaelnildaemaaGreatDoorSAj2
namespace Go.Proofs.YthhaelnildaemaaGreatDoor
open Go.RowKit Nx
set_option linter.unusedVariables false
set_option linter.unusedSimpArgs false
attribute [local irreducible] chk
theorem sameB_refl (l : List J) : sameB l l = true := by
  unfold sameB
  induction l with
  | nil => rfl
  | cons a l ih => unfold all2; rw [sameJ_refl, ih]; rfl
section
variable {st : St} {l : List X}
end
end Go.Proofs.YthhaelnildaemaaGreatDoor
namespace Go.Proofs.YthhaelnildaemaaGreatDoor
open Go.RowKit Nx
set_option linter.unusedVariables false
set_option linter.unusedSimpArgs false
attribute [local irreducible] chk
theorem bothP_eq {φ : J → J → X × Int} {l m : List J} (h : (rightB l && rightB m && decide (l.length = m.length)) = true) : bothP φ l m = zipP φ l m := by unfold bothP; rw [h]; rfl
theorem bothB_eq {φ : J → J → J × Int} {l m : List J} (h : (rightB l && rightB m && decide (l.length = m.length)) = true) : bothB φ l m = zipB φ l m := by unfold bothB; rw [h]; rfl
theorem ends_lit6 {a b : Q} (fa : Fits a) (fb : Fits b) : endsQ a b = (⟨qx a, qx b⟩, 0) := by unfold endsQ; rw [res_ok fa, res_ok fb]; rfl
theorem fit6 {s : Bool} {m : Nat} {e : Int} (h1 : nbits m ≤ 256) (h2 : -65536 ≤ e) (h3 : e ≤ 65536) : Fits ⟨s, m, e⟩ := fits_few h1 h2 h3
theorem k6_w1 : wideX (⟨⟨false, 0, []⟩, ⟨false, 0, [1]⟩⟩ : J) 16 = (⟨false, 0, [1]⟩, 0) := by
  rw [wide_eq, show rwide (⟨⟨false, 0, []⟩, ⟨false, 0, [1]⟩⟩ : J) 16 = res ⟨false, 1, 0⟩ by kernel_rfl, res_ok (fit6 (by decide) (by decide) (by decide))]
  kernel_rfl
theorem k6_w2 : wideX (⟨⟨false, 0, []⟩, ⟨false, 2, [1]⟩⟩ : J) 16 = (⟨false, 2, [1]⟩, 0) := by
  rw [wide_eq, show rwide (⟨⟨false, 0, []⟩, ⟨false, 2, [1]⟩⟩ : J) 16 = res ⟨false, 1, 2⟩ by kernel_rfl, res_ok (fit6 (by decide) (by decide) (by decide))]
  kernel_rfl
theorem k6_m1 : midX (⟨⟨false, 0, []⟩, ⟨false, 0, [1]⟩⟩ : J) 16 = (⟨false, -1, [1]⟩, 0) := by
  rw [mid_eq ⟨Small.nil, small1 (by decide)⟩]
  unfold rmid
  rw [show rnd (Int.toNat 16) false (hlf (plus (⟨⟨false, 0, []⟩, ⟨false, 0, [1]⟩⟩ : J).lo.q (⟨⟨false, 0, []⟩, ⟨false, 0, [1]⟩⟩ : J).hi.q)) = ⟨false, 1, -1⟩ by kernel_rfl, res_ok (fit6 (by decide) (by decide) (by decide))]
  kernel_rfl
theorem k6_m2 : midX (⟨⟨false, 0, []⟩, ⟨false, 2, [1]⟩⟩ : J) 16 = (⟨false, 1, [1]⟩, 0) := by
  rw [mid_eq ⟨Small.nil, small1 (by decide)⟩]
  unfold rmid
  rw [show rnd (Int.toNat 16) false (hlf (plus (⟨⟨false, 0, []⟩, ⟨false, 2, [1]⟩⟩ : J).lo.q (⟨⟨false, 0, []⟩, ⟨false, 2, [1]⟩⟩ : J).hi.q)) = ⟨false, 1, 1⟩ by kernel_rfl, res_ok (fit6 (by decide) (by decide) (by decide))]
  kernel_rfl
theorem k6_a1 : addJ (⟨⟨false, 0, []⟩, ⟨false, 0, [1]⟩⟩ : J) (⟨⟨false, 0, []⟩, ⟨false, 0, [1]⟩⟩ : J) 16 = (⟨⟨false, 0, []⟩, ⟨false, 1, [1]⟩⟩, 0) := by
  rw [add_eq, show opQ 0 (⟨⟨false, 0, []⟩, ⟨false, 0, [1]⟩⟩ : J) (⟨⟨false, 0, []⟩, ⟨false, 0, [1]⟩⟩ : J) 16 = endsQ ⟨false, 0, 0⟩ ⟨false, 1, 1⟩ by kernel_rfl, ends_lit6 (fit6 (by decide) (by decide) (by decide)) (fit6 (by decide) (by decide) (by decide))]
  kernel_rfl
theorem k6_a2 : addJ (⟨⟨false, 0, []⟩, ⟨false, 1, [1]⟩⟩ : J) (⟨⟨false, 1, [1]⟩, ⟨false, 2, [1]⟩⟩ : J) 16 = (⟨⟨false, 1, [1]⟩, ⟨false, 1, [3]⟩⟩, 0) := by
  rw [add_eq, show opQ 0 (⟨⟨false, 0, []⟩, ⟨false, 1, [1]⟩⟩ : J) (⟨⟨false, 1, [1]⟩, ⟨false, 2, [1]⟩⟩ : J) 16 = endsQ ⟨false, 1, 1⟩ ⟨false, 3, 1⟩ by kernel_rfl, ends_lit6 (fit6 (by decide) (by decide) (by decide)) (fit6 (by decide) (by decide) (by decide))]
  kernel_rfl
theorem k6_s1 : scalex ⟨false, 0, [1]⟩ (-2) = (⟨false, 1, -2⟩, 0) := by
  rw [scalex_ok (by kernel_rfl) (small1 (by decide)), show scale (⟨false, 0, [1]⟩ : X).q (-2) = ⟨false, 1, -2⟩ by kernel_rfl, res_ok (fit6 (by decide) (by decide) (by decide))]
theorem k6_s2 : scalex ⟨false, 2, [1]⟩ (-2) = (⟨false, 1, 0⟩, 0) := by
  rw [scalex_ok (by kernel_rfl) (small1 (by decide)), show scale (⟨false, 2, [1]⟩ : X).q (-2) = ⟨false, 1, 0⟩ by kernel_rfl, res_ok (fit6 (by decide) (by decide) (by decide))]
theorem k6_b1 : addJ (⟨⟨false, 0, []⟩, ⟨false, 0, [1]⟩⟩ : J) (⟨⟨true, -2, [1]⟩, ⟨false, -2, [1]⟩⟩ : J) 16 = (⟨⟨true, -2, [1]⟩, ⟨false, -2, [5]⟩⟩, 0) := by
  rw [add_eq, show opQ 0 (⟨⟨false, 0, []⟩, ⟨false, 0, [1]⟩⟩ : J) (⟨⟨true, -2, [1]⟩, ⟨false, -2, [1]⟩⟩ : J) 16 = endsQ ⟨true, 1, -2⟩ ⟨false, 5, -2⟩ by kernel_rfl, ends_lit6 (fit6 (by decide) (by decide) (by decide)) (fit6 (by decide) (by decide) (by decide))]
  kernel_rfl
theorem k6_b2 : addJ (⟨⟨false, 0, []⟩, ⟨false, 2, [1]⟩⟩ : J) (⟨⟨true, 0, [1]⟩, ⟨false, 0, [1]⟩⟩ : J) 16 = (⟨⟨true, 0, [1]⟩, ⟨false, 0, [5]⟩⟩, 0) := by
  rw [add_eq, show opQ 0 (⟨⟨false, 0, []⟩, ⟨false, 2, [1]⟩⟩ : J) (⟨⟨true, 0, [1]⟩, ⟨false, 0, [1]⟩⟩ : J) 16 = endsQ ⟨true, 1, 0⟩ ⟨false, 5, 0⟩ by kernel_rfl, ends_lit6 (fit6 (by decide) (by decide) (by decide)) (fit6 (by decide) (by decide) (by decide))]
  kernel_rfl
theorem k6_l1 : blowJ (⟨⟨false, 0, []⟩, ⟨false, 0, [1]⟩⟩ : J) 16 = (⟨⟨true, -2, [1]⟩, ⟨false, -2, [5]⟩⟩, 0) := by
  have e1 : qx (⟨false, 1, -2⟩ : Q) = ⟨false, -2, [1]⟩ := by kernel_rfl
  have e2 : qx (negx ⟨false, -2, [1]⟩) = ⟨true, -2, [1]⟩ := by kernel_rfl
  unfold blowJ
  rw [k6_w1]
  simp only [k6_s1, e1, e2, bne_self_eq_false, cond_false]
  exact k6_b1
theorem k6_l2 : blowJ (⟨⟨false, 0, []⟩, ⟨false, 2, [1]⟩⟩ : J) 16 = (⟨⟨true, 0, [1]⟩, ⟨false, 0, [5]⟩⟩, 0) := by
  have e1 : qx (⟨false, 1, 0⟩ : Q) = ⟨false, 0, [1]⟩ := by kernel_rfl
  have e2 : qx (negx ⟨false, 0, [1]⟩) = ⟨true, 0, [1]⟩ := by kernel_rfl
  unfold blowJ
  rw [k6_w2]
  simp only [k6_s2, e1, e2, bne_self_eq_false, cond_false]
  exact k6_b2
theorem k6_wids : wids [⟨⟨false, 0, []⟩, ⟨false, 0, [1]⟩⟩, ⟨⟨false, 0, []⟩, ⟨false, 2, [1]⟩⟩] 16 = ([⟨false, 0, [1]⟩, ⟨false, 2, [1]⟩], 0) := by
  unfold wids
  rw [bothP_eq (by kernel_rfl)]
  simp only [zipP, k6_w1, k6_w2, bne_self_eq_false, cond_false]
theorem k6_wide : widS [⟨⟨false, 0, []⟩, ⟨false, 0, [1]⟩⟩, ⟨⟨false, 0, []⟩, ⟨false, 2, [1]⟩⟩] 16 = ((1, ⟨false, 2, [1]⟩), 0) := by
  unfold widS
  rw [k6_wids]
  kernel_rfl
theorem k6_half : halfB [⟨⟨false, 0, []⟩, ⟨false, 0, [1]⟩⟩, ⟨⟨false, 0, []⟩, ⟨false, 2, [1]⟩⟩] 16 = (([⟨⟨false, 0, []⟩, ⟨false, 0, [1]⟩⟩, ⟨⟨false, 0, []⟩, ⟨false, 1, [1]⟩⟩], [⟨⟨false, 0, []⟩, ⟨false, 0, [1]⟩⟩, ⟨⟨false, 1, [1]⟩, ⟨false, 2, [1]⟩⟩]), 0) := by
  unfold halfB
  rw [k6_wide]
  simp only [bne_self_eq_false, cond_false, show List.getD [⟨⟨false, 0, []⟩, ⟨false, 0, [1]⟩⟩, ⟨⟨false, 0, []⟩, ⟨false, 2, [1]⟩⟩] (Int.toNat 1) zJ = (⟨⟨false, 0, []⟩, ⟨false, 2, [1]⟩⟩ : J) from rfl, k6_m2]
  kernel_rfl
theorem k6_hull : bothB hullJ [⟨⟨false, 0, []⟩, ⟨false, 0, [1]⟩⟩, ⟨⟨false, 0, []⟩, ⟨false, 1, [1]⟩⟩] [⟨⟨false, 0, []⟩, ⟨false, 0, [1]⟩⟩, ⟨⟨false, 1, [1]⟩, ⟨false, 2, [1]⟩⟩] = ([⟨⟨false, 0, []⟩, ⟨false, 0, [1]⟩⟩, ⟨⟨false, 0, []⟩, ⟨false, 2, [1]⟩⟩], 0) := by kernel_rfl
theorem k6_add : bothB (fun a b => addJ a b 16) [⟨⟨false, 0, []⟩, ⟨false, 0, [1]⟩⟩, ⟨⟨false, 0, []⟩, ⟨false, 1, [1]⟩⟩] [⟨⟨false, 0, []⟩, ⟨false, 0, [1]⟩⟩, ⟨⟨false, 1, [1]⟩, ⟨false, 2, [1]⟩⟩] = ([⟨⟨false, 0, []⟩, ⟨false, 1, [1]⟩⟩, ⟨⟨false, 1, [1]⟩, ⟨false, 1, [3]⟩⟩], 0) := by
  rw [bothB_eq (by kernel_rfl)]
  simp only [zipB, k6_a1, k6_a2, bne_self_eq_false, cond_false]
theorem k6_mid : bothP (fun a _ => midX a 16) [⟨⟨false, 0, []⟩, ⟨false, 0, [1]⟩⟩, ⟨⟨false, 0, []⟩, ⟨false, 2, [1]⟩⟩] [⟨⟨false, 0, []⟩, ⟨false, 0, [1]⟩⟩, ⟨⟨false, 0, []⟩, ⟨false, 2, [1]⟩⟩] = ([⟨false, -1, [1]⟩, ⟨false, 1, [1]⟩], 0) := by
  rw [bothP_eq (by kernel_rfl)]
  simp only [zipP, k6_m1, k6_m2, bne_self_eq_false, cond_false]
theorem k6_blow : bothB (fun a _ => blowJ a 16) [⟨⟨false, 0, []⟩, ⟨false, 0, [1]⟩⟩, ⟨⟨false, 0, []⟩, ⟨false, 2, [1]⟩⟩] [⟨⟨false, 0, []⟩, ⟨false, 0, [1]⟩⟩, ⟨⟨false, 0, []⟩, ⟨false, 2, [1]⟩⟩] = ([⟨⟨true, -2, [1]⟩, ⟨false, -2, [5]⟩⟩, ⟨⟨true, 0, [1]⟩, ⟨false, 0, [5]⟩⟩], 0) := by
  rw [bothB_eq (by kernel_rfl)]
  simp only [zipB, k6_l1, k6_l2, bne_self_eq_false, cond_false]
theorem k6_same : sameB [⟨⟨false, 0, []⟩, ⟨false, 0, [1]⟩⟩, ⟨⟨false, 0, []⟩, ⟨false, 2, [1]⟩⟩] [⟨⟨false, 0, []⟩, ⟨false, 0, [1]⟩⟩, ⟨⟨false, 0, []⟩, ⟨false, 2, [1]⟩⟩] = true := by kernel_rfl
theorem k6_right : rightB [⟨⟨false, 0, []⟩, ⟨false, 1, [1]⟩⟩, ⟨⟨false, 1, [1]⟩, ⟨false, 1, [3]⟩⟩] = true := by kernel_rfl
theorem k6_samex : samex ⟨false, 2, [1]⟩ ⟨false, 2, [1]⟩ = true := by kernel_rfl
theorem k6_has : hasB [⟨⟨false, 0, []⟩, ⟨false, 0, [1]⟩⟩, ⟨⟨false, 0, []⟩, ⟨false, 2, [1]⟩⟩] [⟨false, -1, [1]⟩, ⟨false, 1, [1]⟩] = true := by kernel_rfl
theorem k6_in : inB [⟨⟨false, 0, []⟩, ⟨false, 0, [1]⟩⟩, ⟨⟨false, 0, []⟩, ⟨false, 2, [1]⟩⟩] [⟨⟨true, -2, [1]⟩, ⟨false, -2, [5]⟩⟩, ⟨⟨true, 0, [1]⟩, ⟨false, 0, [5]⟩⟩] = true := by kernel_rfl
theorem k6_rightB : rightB [⟨⟨false, 0, []⟩, ⟨false, 0, [1]⟩⟩, ⟨⟨false, 0, []⟩, ⟨false, 2, [1]⟩⟩] = true := by kernel_rfl
set_option maxRecDepth 100000 in
set_option maxHeartbeats 4000000 in
theorem l6_known  : Ct Tryz.prog 8 [] (· = bA true) := by
  refine ct_of (O := tblO (orT Tbox_Halve (orT Tbox_Hull (orT Tbox_Add (orT Tbox_Wide (orT Tbox_Mid (orT Tbox_Blow (orT Tbox_Same (orT Tbox_Right (orT Tref_Same (orT Tbox_Has (orT Tbox_In Tbox_Of)))))))))))) (by kernel_rfl) tyB_ok (fun w => tblO_ok (orT_ok Tbox_Halve_ok (orT_ok Tbox_Hull_ok (orT_ok Tbox_Add_ok (orT_ok Tbox_Wide_ok (orT_ok Tbox_Mid_ok (orT_ok Tbox_Blow_ok (orT_ok Tbox_Same_ok (orT_ok Tbox_Right_ok (orT_ok Tref_Same_ok (orT_ok Tbox_Has_ok (orT_ok Tbox_In_ok Tbox_Of_ok))))))))))) _ w) [] 1500 128 [.tmp 0] Tryz.func8 rfl Tryz.ntmps8 (by rw [Tryz.results8]) (by simp) rfl (fun hsm => ?_)
  simp (maxSteps := 10000000) only [run, init, X.L, J.L, vL, X.eta, J.eta, Q.eta, List.cons_append, List.nil_append, brkK, brkf_b, brkf_t, exef_some, exif_some, condf_b, opf, bodyE, addR, skipE, stepOp, stepLoad, stepStore, stepField, stepCall, stepBS, stepB0, stepMk, stepSl, stepAp, apY, optI, okO, nilV, slT, stepBi, stepCv, stepIx, lpf, hdS, pick, forget, inL, mentA, ment, dom, evs, evl, evp, evd, okeys, look, fillA, capsOf, wordsOf, rowsOf, lenOf, convK, binV, shV, intV, unV, boolT, tyT, tiB, tiI, tiW, tiD, tiF, tiR, tiU, tiNum, tiIv, tiVal, tiSc, okLf, okD, keysOf, tblO, cvA, cvL, dnL, olA, olL, noO, noA, cbL, cbA, orT, ↓cond_true, ↓cond_false, ↓not_cond, noT, one, asNum, asIv, asVal, postf_some, resA, resB, outPs, outLs, outL, dnT, tupA, clA, clL, dropTo, ↓reduceIte, Nat.reduceMul, Nat.reduceDiv, Nat.reduceAdd, Nat.reduceEqDiff, Nat.reduceLeDiff, Nat.reduceLT, decide_true, decide_false, reduceCtorEq, List.all_cons, List.all_nil, Bool.and_true, Bool.and_self, true_and, and_true, and_self, List.length_cons, List.length_nil, List.drop_succ_cons, List.drop_zero, List.take_succ_cons, List.take_zero, List.getElem?_cons_zero, List.getElem?_cons_succ, List.map_cons, List.map_nil, false_implies, true_implies, Option.bind_some, List.getElem?_toArray, Bool.false_eq_true, List.append_nil, List.flatMap_cons, List.flatMap_nil, true_or, or_true, forall_const, List.reverse_cons, List.reverse_nil, Option.isSome_some, Option.any_some, Nat.lt_irrefl, not_true_eq_false, Bool.not_true, Bool.not_false, imp_self, implies_true, Int.reduceNeg, Bool.not_eq_true', Bool.not_eq_false', Bool.true_eq_false, memOf, cntF, nmL, rnL, nmA, rnA, isV, noE, contsOf, ndB, refO, orO, pin, Int.reduceLT, Int.reduceLE, Int.reduceAdd, Int.reduceToNat, Int.toNat_zero, decide_eq_true_eq, wrap0, wrap1, ci1, ci2, Nat.reduceBEq, BEq.rfl, beq_self_eq_true, Int.natCast_zero, ge_iff_le, gt_iff_lt, Int.le_refl, Nat.zero_mul, Nat.one_mul, Nat.zero_add, Nat.zero_lt_succ, Int.reduceMul, Int.reduceSub, Nat.lt_add_one, Nat.reduceSub, Nat.le_refl, List.append_eq, boxL_nil, boxL_cons, ptsL_nil, ptsL_cons, ↓outL_box, ↓outL_pts, ↓clL_box, ↓clL_pts, ↓okL_box, ↓okL_pts, ↓ment_box, ↓ment_pts, ↓olL_box, ↓olL_pts, ↓cvL_box, ↓cvL_pts, ↓noO_box, ↓noO_pts, ↓asB_box, ↓asP_pts, ↓len_box, ↓len_pts, bxe, pxe, bne_self_eq_false, Int.reduceBNe, Nat.reduceBNe, wr2, wr3, wr4, wr5, wr6, wr7, wr8, gN, gNN, gNI, gI, gNIB, gNNIB, gJ, gJJ, gJN, gJJI, gJI, gB, gP, gBB, gBP, gBZ, gBBZ, asB, asP, nilB, asJs, asXs, wsOf, bC_nil, bC_cons, pC_nil, pC_cons, fvO, Lc.up, tyB, tiS, tiBB, Int.toNat_natCast, List.replicate_succ, List.replicate_zero, List.flatten_cons, List.flatten_nil, Int.ofNat_lt, Int.cast_ofNat_Int, Int.ofNat_eq_natCast, List.isEmpty_nil, List.isEmpty_cons, and_false, false_and, List.cons_ne_nil, Nat.add_zero, ite_true, ite_false, if_true, if_false, Nat.le_zero_eq, eq_self, Bool.and_false, Bool.false_and, Bool.true_and, Tbox_Halve, Tbox_Hull, Tbox_Add, Tbox_Wide, Tbox_Mid, Tbox_Blow, Tbox_Same, Tbox_Right, Tref_Same, Tbox_Has, Tbox_In, Tbox_Of, k6_half, k6_hull, k6_add, k6_wide, k6_mid, k6_blow, k6_same, k6_right, k6_samex, k6_has, k6_in, k6_rightB, bbe, ofL, zX, X.L]
  repeat' first | (with_reducible apply And.intro) | (with_reducible apply condP <;> intro _)
  all_goals try (simp only [inW]; decide)
  all_goals first | (show chk _ _ = true; kernel_rfl) | assumption | (simp only [AV.s, cond_true, cond_false, Bool.and_true, Bool.true_and, Bool.and_false, Bool.false_and, Bool.and_self, Bool.not_true, Bool.not_false, Bool.or_true, Bool.true_or, Bool.or_false, Bool.false_or, *, List.length_cons, List.length_nil, Nat.reduceAdd]; done) | rfl | (simp only [AV.s, cond_true, cond_false, Bool.and_true, Bool.true_and, Bool.and_false, Bool.false_and, Bool.and_self, Bool.not_true, Bool.not_false, Bool.or_true, Bool.true_or, Bool.or_false, Bool.false_or, *, List.length_cons, List.length_nil, Nat.reduceAdd]; rfl) | (exfalso; simp_all only [Bool.true_eq_false, Bool.false_eq_true, reduceCtorEq]; done)
noncomputable def Tlaw6_known : Tbl := one 8 (fun args => match args with
  | [] => some (True, bA true)
  | _ => none)
theorem Tlaw6_known_ok : TbOK Tryz.prog Tlaw6_known := one_ok (ent Tryz.func8 (by kernel_rfl) rfl) fun args e h hp => by
  split at h
  · injection h with h; subst h; exact l6_known
  · cases h
end Go.Proofs.YthhaelnildaemaaGreatDoor
