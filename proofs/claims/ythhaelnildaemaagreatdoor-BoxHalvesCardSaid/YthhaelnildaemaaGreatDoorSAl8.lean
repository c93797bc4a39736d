/- The document's boxes: sums, differences, multiples, middles. -/
import Derived.Test.YthhaelnildaemaaGreatDoorSAl4
import Derived.Test.YthhaelnildaemaaGreatDoorSAi4
import Derived.Test.YthhaelnildaemaaGreatDoorSAl3
namespace Go.Proofs.YthhaelnildaemaaGreatDoor
open Go.RowKit Nx
set_option linter.unusedVariables false
set_option linter.unusedSimpArgs false
attribute [local irreducible] chk
set_option maxRecDepth 100000 in
set_option maxHeartbeats 4000000 in
theorem y_precs (z : Int) : Ct Tryz.prog 111 [iA z] (· = bA (prb z)) := by
  refine ct_of (O := tblO noT) (by kernel_rfl) tyB_ok (fun w => tblO_ok noT_ok _ w) [] 2500 9 [.tmp 2] Tryz.func111 rfl Tryz.ntmps111 (by rw [Tryz.results111]) (by simp) rfl (fun hsm => ?_)
  simp (maxSteps := 10000000) only [run, init, X.L, J.L, vL, X.eta, J.eta, Q.eta, List.cons_append, List.nil_append, brkK, brkf_b, brkf_t, exef_some, exif_some, condf_b, opf, bodyE, addR, skipE, stepOp, stepLoad, stepStore, stepField, stepCall, stepBS, stepB0, stepMk, stepSl, stepAp, apY, optI, okO, nilV, slT, stepBi, stepCv, stepIx, lpf, hdS, pick, forget, inL, mentA, ment, dom, evs, evl, evp, evd, okeys, look, fillA, capsOf, wordsOf, rowsOf, lenOf, convK, binV, shV, intV, unV, boolT, tyT, tiB, tiI, tiW, tiD, tiF, tiR, tiU, tiNum, tiIv, tiVal, tiSc, okLf, okD, keysOf, tblO, cvA, cvL, dnL, olA, olL, noO, noA, cbL, cbA, orT, ↓cond_true, ↓cond_false, ↓not_cond, noT, one, asNum, asIv, asVal, postf_some, resA, resB, outPs, outLs, outL, dnT, tupA, clA, clL, dropTo, ↓reduceIte, Nat.reduceMul, Nat.reduceDiv, Nat.reduceAdd, Nat.reduceEqDiff, Nat.reduceLeDiff, Nat.reduceLT, decide_true, decide_false, reduceCtorEq, List.all_cons, List.all_nil, Bool.and_true, Bool.and_self, true_and, and_true, and_self, List.length_cons, List.length_nil, List.drop_succ_cons, List.drop_zero, List.take_succ_cons, List.take_zero, List.getElem?_cons_zero, List.getElem?_cons_succ, List.map_cons, List.map_nil, false_implies, true_implies, Option.bind_some, List.getElem?_toArray, Bool.false_eq_true, List.append_nil, List.flatMap_cons, List.flatMap_nil, true_or, or_true, forall_const, List.reverse_cons, List.reverse_nil, Option.isSome_some, Option.any_some, Nat.lt_irrefl, not_true_eq_false, Bool.not_true, Bool.not_false, imp_self, implies_true, Int.reduceNeg, Bool.not_eq_true', Bool.not_eq_false', Bool.true_eq_false, memOf, cntF, nmL, rnL, nmA, rnA, isV, noE, contsOf, ndB, refO, orO, pin, Int.reduceLT, Int.reduceLE, Int.reduceAdd, Int.reduceToNat, Int.toNat_zero, decide_eq_true_eq, wrap0, wrap1, ci1, ci2, Nat.reduceBEq, BEq.rfl, beq_self_eq_true, Int.natCast_zero, ge_iff_le, gt_iff_lt, Int.le_refl, Nat.zero_mul, Nat.one_mul, Nat.zero_add, Nat.zero_lt_succ, Int.reduceMul, Int.reduceSub, Nat.lt_add_one, Nat.reduceSub, Nat.le_refl, List.append_eq, boxL_nil, boxL_cons, ptsL_nil, ptsL_cons, ↓outL_box, ↓outL_pts, ↓clL_box, ↓clL_pts, ↓okL_box, ↓okL_pts, ↓ment_box, ↓ment_pts, ↓olL_box, ↓olL_pts, ↓cvL_box, ↓cvL_pts, ↓noO_box, ↓noO_pts, ↓asB_box, ↓asP_pts, ↓len_box, ↓len_pts, bxe, pxe, bne_self_eq_false, Int.reduceBNe, Nat.reduceBNe, wr2, wr3, wr4, wr5, wr6, wr7, wr8, gN, gNN, gNI, gI, gNIB, gNNIB, gJ, gJJ, gJN, gJJI, gJI, gB, gP, gBB, gBP, gBZ, gBBZ, asB, asP, nilB, asJs, asXs, wsOf, bC_nil, bC_cons, pC_nil, pC_cons, fvO, Lc.up, tyB, tiS, tiBB, Int.toNat_natCast, List.replicate_succ, List.replicate_zero, List.flatten_cons, List.flatten_nil, Int.ofNat_lt, Int.cast_ofNat_Int, Int.ofNat_eq_natCast, List.isEmpty_nil, List.isEmpty_cons, and_false, false_and, List.cons_ne_nil, Nat.add_zero, ite_true, ite_false, if_true, if_false, Nat.le_zero_eq, eq_self, Bool.and_false, Bool.false_and, Bool.true_and, zX, zJ]
  repeat' first | (with_reducible apply And.intro) | (with_reducible apply condP <;> intro _)
  all_goals first | (show chk _ _ = true; kernel_rfl) | assumption | (simp only [AV.s, cond_true, cond_false, Bool.and_true, Bool.true_and, Bool.and_false, Bool.false_and, Bool.and_self, Bool.not_true, Bool.not_false, Bool.or_true, Bool.true_or, Bool.or_false, Bool.false_or, *, List.length_cons, List.length_nil, Nat.reduceAdd, decide_true, bC_cons, bC_nil, pC_cons, pC_nil, bne_self_eq_false, boxL_nil, boxL_cons, ptsL_nil, ptsL_cons, bxe, pxe, X.L, J.L, zX, zJ, prb]; done) | rfl | (simp only [AV.s, cond_true, cond_false, Bool.and_true, Bool.true_and, Bool.and_false, Bool.false_and, Bool.and_self, Bool.not_true, Bool.not_false, Bool.or_true, Bool.true_or, Bool.or_false, Bool.false_or, *, List.length_cons, List.length_nil, Nat.reduceAdd, decide_true, bC_cons, bC_nil, pC_cons, pC_nil, bne_self_eq_false, boxL_nil, boxL_cons, ptsL_nil, ptsL_cons, bxe, pxe, X.L, J.L, zX, zJ, prb]; rfl) | (exfalso; simp_all only [Bool.true_eq_false, Bool.false_eq_true, reduceCtorEq]; done)
noncomputable def T6_precs : Tbl := one 111 (gI fun z => (True, bA (prb z)))
theorem T6_precs_ok : TbOK Tryz.prog T6_precs := one_ok (ent Tryz.func111 (by kernel_rfl) rfl) fun args e h hp => by obtain ⟨z, rfl, rfl⟩ := gI_eq h; exact y_precs z
theorem bothP_1 {φ : J → J → X × Int} {l m : List J} (h : ∀ a b, φ a b = (zX, 1)) : bothP φ l m = ([], 1) := by
  unfold bothP
  cases hc : rightB l && rightB m && decide (l.length = m.length) with
  | false => rfl
  | true =>
    rw [Bool.and_eq_true, Bool.and_eq_true, decide_eq_true_eq] at hc
    have := rightB_len hc.1.1
    match l, m, hc.2, this with
    | [], _, _, h => exact absurd h.1 (by simp)
    | a :: l, [], h, _ => exact absurd h (by simp)
    | a :: l, b :: m, _, _ => rw [cond_true]; unfold zipP; rw [h a b]; rfl
end Go.Proofs.YthhaelnildaemaaGreatDoor
namespace Go.Proofs.YthhaelnildaemaaGreatDoor
open Go.RowKit Nx
set_option linter.unusedVariables false
set_option linter.unusedSimpArgs false
set_option maxRecDepth 100000
set_option maxHeartbeats 4000000
attribute [local go_sem] run init X.L J.L vL X.eta J.eta Q.eta List.cons_append List.nil_append brkK brkf_b brkf_t exef_some exif_some condf_b opf bodyE addR skipE stepOp stepLoad stepStore stepField stepCall stepBS stepBi stepCv stepIx lpf hdS pick forget inL mentA ment dom evs evl evp evd okeys look fillA capsOf wordsOf rowsOf lenOf convK binV shV intV unV boolT tyT tiB tiI tiW tiD tiF tiR tiU tiNum tiIv tiVal tiSc okLf okD keysOf tblO cvA cvL dnL olA olL noO noA cbL cbA orT noT one asNum asIv asVal postf_some resA tupA clA clL dropTo decide_true decide_false List.all_cons List.all_nil Bool.and_true Bool.and_self true_and and_true and_self List.length_cons List.length_nil List.drop_succ_cons List.drop_zero List.take_succ_cons List.take_zero List.getElem?_cons_zero List.getElem?_cons_succ List.map_cons List.map_nil false_implies true_implies Option.bind_some List.getElem?_toArray Bool.false_eq_true List.append_nil List.flatMap_cons List.flatMap_nil true_or or_true forall_const List.reverse_cons List.reverse_nil Option.isSome_some Option.any_some Nat.lt_irrefl not_true_eq_false Bool.not_true Bool.not_false imp_self implies_true Bool.not_eq_true' Bool.not_eq_false' Bool.true_eq_false memOf cntF nmL rnL nmA rnA isV contsOf ndB refO orO pin Int.toNat_zero decide_eq_true_eq wrap0 wrap1 ci1 ci2 BEq.rfl beq_self_eq_true Int.natCast_zero ge_iff_le gt_iff_lt Int.le_refl Nat.zero_mul Nat.one_mul Nat.zero_add Nat.zero_lt_succ Nat.lt_add_one Nat.le_refl List.append_eq Int.toNat_natCast gN gNN gNI gI gNNIB gNIB gJ gJJ gJN gJJI gJI stepB0 stepMk stepSl stepAp apY optI okO nilV slT resB outPs outLs outL dnT noE boxL_nil boxL_cons ptsL_nil ptsL_cons bxe pxe bne_self_eq_false wr2 wr3 wr4 wr5 wr6 wr7 wr8 gB gP gBB gBP gBZ gBBZ bC_nil bC_cons pC_nil pC_cons fvO Lc.up tyB tiS tiBB List.replicate_succ List.replicate_zero List.flatten_cons List.flatten_nil Int.ofNat_lt Int.cast_ofNat_Int Int.ofNat_eq_natCast List.isEmpty_nil List.isEmpty_cons and_false false_and List.cons_ne_nil Nat.add_zero ite_true ite_false if_true if_false Nat.le_zero_eq eq_self Bool.and_false Bool.false_and Bool.true_and AV.s cond_true cond_false Bool.or_true Bool.true_or Bool.or_false Bool.false_or
attribute [local go_sem ↓] cond_true cond_false not_cond outL_box outL_pts clL_box clL_pts okL_box okL_pts ment_box ment_pts olL_box olL_pts cvL_box cvL_pts noO_box noO_pts asB_box asP_pts len_box len_pts
attribute [local irreducible] chk
noncomputable def rwids (l : List J) (z : Int) : List X × Int := bothP (fun a _ => prX (rwide a z)) l l
def rwidR (r : List X × Int) : (Int × X) × Int := bif r.2 != 0 then ((0, zX), r.2) else (wgo r.1 0 0 zX, 0)
noncomputable def rwidS (l : List J) (z : Int) : (Int × X) × Int := rwidR (rwids l z)
theorem rwide_1 {z : Int} (h : prb z = false) (a : J) : rwide a z = (q0, 1) := by
  unfold rwide; rw [h]; cases okJ a <;> rfl
theorem prX_1 {z : Int} (h : prb z = false) (a : J) : prX (rwide a z) = (zX, 1) := by rw [rwide_1 h]; kernel_rfl
theorem y_wdz (l : List J) (z : Int) (h0 : prb z = false) : Ct Tryz.prog 94 [bA_ l, iA z] (· = widA (rwidS l z)) := by
  unfold rwidS rwids
  rw [bothP_1 fun a _ => prX_1 h0 a]
  refine ct_of (O := tblO (orT T6_Right T6_precs)) (by kernel_rfl) tyB_ok (fun w => tblO_ok (orT_ok T6_Right_ok T6_precs_ok) _ w) [20, 21] 2500 49 [.tmp 4, .cell 5 28, .tmp 6] Tryz.func94 rfl Tryz.ntmps94 (by rw [Tryz.results94]) (by simp) rfl (fun hsm => ?_)
  simp (maxSteps := 10000000) only [go_sem, ↓reduceIte, Nat.reduceMul, Nat.reduceDiv, Nat.reduceAdd, Nat.reduceEqDiff, Nat.reduceLeDiff, Nat.reduceLT, reduceCtorEq, Int.reduceNeg, Int.reduceLT, Int.reduceLE, Int.reduceAdd, Int.reduceToNat, Nat.reduceBEq, Int.reduceMul, Int.reduceSub, Nat.reduceSub, Int.reduceBNe, Nat.reduceBNe, T6_Right, T6_precs, zX, zJ, h0, asB_b]
  repeat' first | (with_reducible apply And.intro) | (with_reducible apply condP <;> intro _)
  all_goals first | (show chk _ _ = true; kernel_rfl) | assumption | (simp only [go_sem, *, Nat.reduceAdd, zX, zJ, widA, rwidR] <;> rfl) | rfl | (exfalso; simp_all only [Bool.true_eq_false, Bool.false_eq_true, reduceCtorEq]; done)
theorem y_wde (l : List J) (z : Int) (h1 : rightB l = false) : Ct Tryz.prog 94 [bA_ l, iA z] (· = widA (rwidS l z)) := by
  refine ct_of (O := tblO (orT T6_Right T6_precs)) (by kernel_rfl) tyB_ok (fun w => tblO_ok (orT_ok T6_Right_ok T6_precs_ok) _ w) [20, 21] 2500 49 [.tmp 4, .cell 5 28, .tmp 6] Tryz.func94 rfl Tryz.ntmps94 (by rw [Tryz.results94]) (by simp) rfl (fun hsm => ?_)
  simp (maxSteps := 10000000) only [go_sem, ↓reduceIte, Nat.reduceMul, Nat.reduceDiv, Nat.reduceAdd, Nat.reduceEqDiff, Nat.reduceLeDiff, Nat.reduceLT, reduceCtorEq, Int.reduceNeg, Int.reduceLT, Int.reduceLE, Int.reduceAdd, Int.reduceToNat, Nat.reduceBEq, Int.reduceMul, Int.reduceSub, Nat.reduceSub, Int.reduceBNe, Nat.reduceBNe, T6_Right, T6_precs, zX, zJ, h1, asB_b]
  repeat' first | (with_reducible apply And.intro) | (with_reducible apply condP <;> intro _)
  all_goals first | (show chk _ _ = true; kernel_rfl) | assumption | (simp only [go_sem, *, Nat.reduceAdd, zX, zJ, bothP, h1, widA, rwidS, rwids, rwidR] <;> rfl) | rfl | (exfalso; simp_all only [Bool.true_eq_false, Bool.false_eq_true, reduceCtorEq]; done)
theorem y_wd1 (a : J) (z : Int) (h1 : rightB [a] = true) (h0 : prb z = true) : Ct Tryz.prog 94 [bA_ [a], iA z] (· = widA (rwidS [a] z)) := by
  refine ct_of (O := tblO (orT T6_Right (orT T6_precs (orT Tref_Wide Tref_CmpNum)))) (by kernel_rfl) tyB_ok (fun w => tblO_ok (orT_ok T6_Right_ok (orT_ok T6_precs_ok (orT_ok Tref_Wide_ok Tref_CmpNum_ok))) _ w) [20, 21] 2500 49 [.tmp 4, .cell 5 28, .tmp 6] Tryz.func94 rfl Tryz.ntmps94 (by rw [Tryz.results94]) (by simp) rfl (fun hsm => ?_)
  simp (maxSteps := 10000000) only [go_sem, ↓reduceIte, Nat.reduceMul, Nat.reduceDiv, Nat.reduceAdd, Nat.reduceEqDiff, Nat.reduceLeDiff, Nat.reduceLT, reduceCtorEq, Int.reduceNeg, Int.reduceLT, Int.reduceLE, Int.reduceAdd, Int.reduceToNat, Nat.reduceBEq, Int.reduceMul, Int.reduceSub, Nat.reduceSub, Int.reduceBNe, Nat.reduceBNe, asB, asP, nilB, asJs, asXs, wsOf, T6_Right, T6_precs, Tref_Wide, Tref_CmpNum, zX, zJ, h1, h0]
  repeat' first | (with_reducible apply And.intro) | (with_reducible apply condP <;> intro _)
  all_goals first | (show chk _ _ = true; kernel_rfl) | assumption | (simp only [go_sem, *, Nat.reduceAdd, zX, zJ, widA, rwidS, rwids, rwidR, wgo, prX, Int.reduceAdd, bothP, zipP, h1] <;> rfl) | rfl | (exfalso; simp_all only [Bool.true_eq_false, Bool.false_eq_true, reduceCtorEq]; done)
theorem y_wd2 (a b : J) (z : Int) (h1 : rightB [a, b] = true) (h0 : prb z = true) : Ct Tryz.prog 94 [bA_ [a, b], iA z] (· = widA (rwidS [a, b] z)) := by
  refine ct_of (O := tblO (orT T6_Right (orT T6_precs (orT Tref_Wide Tref_CmpNum)))) (by kernel_rfl) tyB_ok (fun w => tblO_ok (orT_ok T6_Right_ok (orT_ok T6_precs_ok (orT_ok Tref_Wide_ok Tref_CmpNum_ok))) _ w) [20, 21] 2500 49 [.tmp 4, .cell 5 28, .tmp 6] Tryz.func94 rfl Tryz.ntmps94 (by rw [Tryz.results94]) (by simp) rfl (fun hsm => ?_)
  simp (maxSteps := 10000000) only [go_sem, ↓reduceIte, Nat.reduceMul, Nat.reduceDiv, Nat.reduceAdd, Nat.reduceEqDiff, Nat.reduceLeDiff, Nat.reduceLT, reduceCtorEq, Int.reduceNeg, Int.reduceLT, Int.reduceLE, Int.reduceAdd, Int.reduceToNat, Nat.reduceBEq, Int.reduceMul, Int.reduceSub, Nat.reduceSub, Int.reduceBNe, Nat.reduceBNe, asB, asP, nilB, asJs, asXs, wsOf, T6_Right, T6_precs, Tref_Wide, Tref_CmpNum, zX, zJ, h1, h0]
  repeat' first | (with_reducible apply And.intro) | (with_reducible apply condP <;> intro _)
  all_goals first | (show chk _ _ = true; kernel_rfl) | assumption | (simp only [go_sem, *, Nat.reduceAdd, zX, zJ, widA, rwidS, rwids, rwidR, wgo, prX, Int.reduceAdd, bothP, zipP, h1] <;> rfl) | rfl | (exfalso; simp_all only [Bool.true_eq_false, Bool.false_eq_true, reduceCtorEq]; done)
theorem y_wd3 (a b c : J) (z : Int) (h1 : rightB [a, b, c] = true) (h0 : prb z = true) : Ct Tryz.prog 94 [bA_ [a, b, c], iA z] (· = widA (rwidS [a, b, c] z)) := by
  refine ct_of (O := tblO (orT T6_Right (orT T6_precs (orT Tref_Wide Tref_CmpNum)))) (by kernel_rfl) tyB_ok (fun w => tblO_ok (orT_ok T6_Right_ok (orT_ok T6_precs_ok (orT_ok Tref_Wide_ok Tref_CmpNum_ok))) _ w) [20, 21] 2500 49 [.tmp 4, .cell 5 28, .tmp 6] Tryz.func94 rfl Tryz.ntmps94 (by rw [Tryz.results94]) (by simp) rfl (fun hsm => ?_)
  simp (maxSteps := 10000000) only [go_sem, ↓reduceIte, Nat.reduceMul, Nat.reduceDiv, Nat.reduceAdd, Nat.reduceEqDiff, Nat.reduceLeDiff, Nat.reduceLT, reduceCtorEq, Int.reduceNeg, Int.reduceLT, Int.reduceLE, Int.reduceAdd, Int.reduceToNat, Nat.reduceBEq, Int.reduceMul, Int.reduceSub, Nat.reduceSub, Int.reduceBNe, Nat.reduceBNe, asB, asP, nilB, asJs, asXs, wsOf, T6_Right, T6_precs, Tref_Wide, Tref_CmpNum, zX, zJ, h1, h0]
  repeat' first | (with_reducible apply And.intro) | (with_reducible apply condP <;> intro _)
  all_goals first | (show chk _ _ = true; kernel_rfl) | assumption | (simp only [go_sem, *, Nat.reduceAdd, zX, zJ, widA, rwidS, rwids, rwidR, wgo, prX, Int.reduceAdd, bothP, zipP, h1] <;> rfl) | rfl | (exfalso; simp_all only [Bool.true_eq_false, Bool.false_eq_true, reduceCtorEq]; done)
theorem y_wd4 (a b c d : J) (z : Int) (h1 : rightB [a, b, c, d] = true) (h0 : prb z = true) : Ct Tryz.prog 94 [bA_ [a, b, c, d], iA z] (· = widA (rwidS [a, b, c, d] z)) := by
  refine ct_of (O := tblO (orT T6_Right (orT T6_precs (orT Tref_Wide Tref_CmpNum)))) (by kernel_rfl) tyB_ok (fun w => tblO_ok (orT_ok T6_Right_ok (orT_ok T6_precs_ok (orT_ok Tref_Wide_ok Tref_CmpNum_ok))) _ w) [20, 21] 2500 49 [.tmp 4, .cell 5 28, .tmp 6] Tryz.func94 rfl Tryz.ntmps94 (by rw [Tryz.results94]) (by simp) rfl (fun hsm => ?_)
  simp (maxSteps := 10000000) only [go_sem, ↓reduceIte, Nat.reduceMul, Nat.reduceDiv, Nat.reduceAdd, Nat.reduceEqDiff, Nat.reduceLeDiff, Nat.reduceLT, reduceCtorEq, Int.reduceNeg, Int.reduceLT, Int.reduceLE, Int.reduceAdd, Int.reduceToNat, Nat.reduceBEq, Int.reduceMul, Int.reduceSub, Nat.reduceSub, Int.reduceBNe, Nat.reduceBNe, asB, asP, nilB, asJs, asXs, wsOf, T6_Right, T6_precs, Tref_Wide, Tref_CmpNum, zX, zJ, h1, h0]
  repeat' first | (with_reducible apply And.intro) | (with_reducible apply condP <;> intro _)
  all_goals first | (show chk _ _ = true; kernel_rfl) | assumption | (simp only [go_sem, *, Nat.reduceAdd, zX, zJ, widA, rwidS, rwids, rwidR, wgo, prX, Int.reduceAdd, bothP, zipP, h1] <;> rfl) | rfl | (exfalso; simp_all only [Bool.true_eq_false, Bool.false_eq_true, reduceCtorEq]; done)
theorem y_wid (l : List J) (z : Int) : Ct Tryz.prog 94 [bA_ l, iA z] (· = widA (rwidS l z)) := by
  cases h0 : prb z with
  | false => exact y_wdz l z h0
  | true =>
    cases h1 : rightB l with
    | false => exact y_wde l z h1
    | true =>
      have h4 := rightB_len h1
      match l, h1, h4 with
      | [], _, h => exact absurd h.1 (by simp)
      | [a], h1, _ => exact y_wd1 a z h1 h0
      | [a, b], h1, _ => exact y_wd2 a b z h1 h0
      | [a, b, c], h1, _ => exact y_wd3 a b c z h1 h0
      | [a, b, c, d], h1, _ => exact y_wd4 a b c d z h1 h0
      | _ :: _ :: _ :: _ :: _ :: _, _, h => exact absurd h.2 (by simp)
noncomputable def T6_widest : Tbl := one 94 (gBZ fun l z => (True, widA (rwidS l z)))
theorem T6_widest_ok : TbOK Tryz.prog T6_widest := one_ok (ent Tryz.func94 (by kernel_rfl) rfl) fun args e h hp => gBZ_ct (fun l z _ => y_wid l z) h hp
end Go.Proofs.YthhaelnildaemaaGreatDoor
namespace Go.Proofs.YthhaelnildaemaaGreatDoor
open Go.RowKit Nx
set_option linter.unusedVariables false
set_option linter.unusedSimpArgs false
set_option maxRecDepth 100000
set_option maxHeartbeats 4000000
attribute [local go_sem] run init X.L J.L vL X.eta J.eta Q.eta List.cons_append List.nil_append brkK brkf_b brkf_t exef_some exif_some condf_b opf bodyE addR skipE stepOp stepLoad stepStore stepField stepCall stepBS stepBi stepCv stepIx lpf hdS pick forget inL mentA ment dom evs evl evp evd okeys look fillA capsOf wordsOf rowsOf lenOf convK binV shV intV unV boolT tyT tiB tiI tiW tiD tiF tiR tiU tiNum tiIv tiVal tiSc okLf okD keysOf tblO cvA cvL dnL olA olL noO noA cbL cbA orT noT one asNum asIv asVal postf_some resA tupA clA clL dropTo decide_true decide_false List.all_cons List.all_nil Bool.and_true Bool.and_self true_and and_true and_self List.length_cons List.length_nil List.drop_succ_cons List.drop_zero List.take_succ_cons List.take_zero List.getElem?_cons_zero List.getElem?_cons_succ List.map_cons List.map_nil false_implies true_implies Option.bind_some List.getElem?_toArray Bool.false_eq_true List.append_nil List.flatMap_cons List.flatMap_nil true_or or_true forall_const List.reverse_cons List.reverse_nil Option.isSome_some Option.any_some Nat.lt_irrefl not_true_eq_false Bool.not_true Bool.not_false imp_self implies_true Bool.not_eq_true' Bool.not_eq_false' Bool.true_eq_false memOf cntF nmL rnL nmA rnA isV contsOf ndB refO orO pin Int.toNat_zero decide_eq_true_eq wrap0 wrap1 ci1 ci2 BEq.rfl beq_self_eq_true Int.natCast_zero ge_iff_le gt_iff_lt Int.le_refl Nat.zero_mul Nat.one_mul Nat.zero_add Nat.zero_lt_succ Nat.lt_add_one Nat.le_refl List.append_eq Int.toNat_natCast gN gNN gNI gI gNNIB gNIB gJ gJJ gJN gJJI gJI stepB0 stepMk stepSl stepAp apY optI okO nilV slT resB outPs outLs outL dnT noE boxL_nil boxL_cons ptsL_nil ptsL_cons bxe pxe bne_self_eq_false wr2 wr3 wr4 wr5 wr6 wr7 wr8 gB gP gBB gBP gBZ gBBZ bC_nil bC_cons pC_nil pC_cons fvO Lc.up tyB tiS tiBB List.replicate_succ List.replicate_zero List.flatten_cons List.flatten_nil Int.ofNat_lt Int.cast_ofNat_Int Int.ofNat_eq_natCast List.isEmpty_nil List.isEmpty_cons and_false false_and List.cons_ne_nil Nat.add_zero ite_true ite_false if_true if_false Nat.le_zero_eq eq_self Bool.and_false Bool.false_and Bool.true_and AV.s cond_true cond_false Bool.or_true Bool.true_or Bool.or_false Bool.false_or
attribute [local go_sem ↓] cond_true cond_false not_cond outL_box outL_pts clL_box clL_pts okL_box okL_pts ment_box ment_pts olL_box olL_pts cvL_box cvL_pts noO_box noO_pts asB_box asP_pts len_box len_pts
attribute [local irreducible] chk
noncomputable def rhalfB (l : List J) (z : Int) : (List J × List J) × Int := bif (rwidS l z).2 != 0 then (([], []), (rwidS l z).2) else bif (rmid (l.getD (rwidS l z).1.1.toNat zJ) z).2 != 0 then (([], []), (rmid (l.getD (rwidS l z).1.1.toNat zJ) z).2) else
  ((l.set (rwidS l z).1.1.toNat ⟨(l.getD (rwidS l z).1.1.toNat zJ).lo, (rmid (l.getD (rwidS l z).1.1.toNat zJ) z).1⟩, l.set (rwidS l z).1.1.toNat ⟨(rmid (l.getD (rwidS l z).1.1.toNat zJ) z).1, (l.getD (rwidS l z).1.1.toNat zJ).hi⟩), 0)
theorem y_hfe (l : List J) (z : Int) (he : ((rwidS l z).2 != 0) = true) : Ct Tryz.prog 33 [bA_ l, iA z] (· = bbe (rhalfB l z)) := by
  refine ct_of (O := tblO (orT T6_widest Tref_Mid)) (by kernel_rfl) tyB_ok (fun w => tblO_ok (orT_ok T6_widest_ok Tref_Mid_ok) _ w) [] 2500 53 [.tmp 4, .tmp 5, .tmp 6] Tryz.func33 rfl Tryz.ntmps33 (by rw [Tryz.results33]) (by simp) rfl (fun hsm => ?_)
  simp (maxSteps := 10000000) only [go_sem, ↓reduceIte, Nat.reduceMul, Nat.reduceDiv, Nat.reduceAdd, Nat.reduceEqDiff, Nat.reduceLeDiff, Nat.reduceLT, reduceCtorEq, Int.reduceNeg, Int.reduceLT, Int.reduceLE, Int.reduceAdd, Int.reduceToNat, Nat.reduceBEq, Int.reduceMul, Int.reduceSub, Nat.reduceSub, Int.reduceBNe, Nat.reduceBNe, T6_widest, Tref_Mid, zX, zJ, widA, he, asB_b]
  repeat' first | (with_reducible apply And.intro) | (with_reducible apply condP <;> intro _)
  all_goals first | (show chk _ _ = true; kernel_rfl) | assumption | (simp only [go_sem, *, Nat.reduceAdd, zX, zJ, he, rhalfB, bbe] <;> rfl) | rfl | (exfalso; simp_all only [Bool.true_eq_false, Bool.false_eq_true, reduceCtorEq]; done)
theorem y_hf10 (a : J) (z : Int) (w : X) (hw : rwidS [a] z = ((0, w), 0)) : Ct Tryz.prog 33 [bA_ [a], iA z] (· = bbe (rhalfB [a] z)) := by
  refine ct_of (O := tblO (orT T6_widest Tref_Mid)) (by kernel_rfl) tyB_ok (fun w => tblO_ok (orT_ok T6_widest_ok Tref_Mid_ok) _ w) [] 2500 53 [.tmp 4, .tmp 5, .tmp 6] Tryz.func33 rfl Tryz.ntmps33 (by rw [Tryz.results33]) (by simp) rfl (fun hsm => ?_)
  simp (maxSteps := 10000000) only [go_sem, ↓reduceIte, Nat.reduceMul, Nat.reduceDiv, Nat.reduceAdd, Nat.reduceEqDiff, Nat.reduceLeDiff, Nat.reduceLT, reduceCtorEq, Int.reduceNeg, Int.reduceLT, Int.reduceLE, Int.reduceAdd, Int.reduceToNat, Nat.reduceBEq, Int.reduceMul, Int.reduceSub, Nat.reduceSub, Int.reduceBNe, Nat.reduceBNe, asB, asP, nilB, asJs, asXs, wsOf, T6_widest, Tref_Mid, zX, zJ, widA, hw]
  repeat' first | (with_reducible apply And.intro) | (with_reducible apply condP <;> intro _)
  all_goals first | (show chk _ _ = true; kernel_rfl) | assumption | (simp only [go_sem, *, Nat.reduceAdd, zX, zJ, hw, rhalfB, bbe, List.getD_cons_zero, List.getD_cons_succ, Int.reduceToNat, Int.toNat_one, List.set_cons_zero, List.set_cons_succ] <;> rfl) | rfl | (exfalso; simp_all only [Bool.true_eq_false, Bool.false_eq_true, reduceCtorEq]; done)
theorem y_hf20 (a b : J) (z : Int) (w : X) (hw : rwidS [a, b] z = ((0, w), 0)) : Ct Tryz.prog 33 [bA_ [a, b], iA z] (· = bbe (rhalfB [a, b] z)) := by
  refine ct_of (O := tblO (orT T6_widest Tref_Mid)) (by kernel_rfl) tyB_ok (fun w => tblO_ok (orT_ok T6_widest_ok Tref_Mid_ok) _ w) [] 2500 53 [.tmp 4, .tmp 5, .tmp 6] Tryz.func33 rfl Tryz.ntmps33 (by rw [Tryz.results33]) (by simp) rfl (fun hsm => ?_)
  simp (maxSteps := 10000000) only [go_sem, ↓reduceIte, Nat.reduceMul, Nat.reduceDiv, Nat.reduceAdd, Nat.reduceEqDiff, Nat.reduceLeDiff, Nat.reduceLT, reduceCtorEq, Int.reduceNeg, Int.reduceLT, Int.reduceLE, Int.reduceAdd, Int.reduceToNat, Nat.reduceBEq, Int.reduceMul, Int.reduceSub, Nat.reduceSub, Int.reduceBNe, Nat.reduceBNe, asB, asP, nilB, asJs, asXs, wsOf, T6_widest, Tref_Mid, zX, zJ, widA, hw]
  repeat' first | (with_reducible apply And.intro) | (with_reducible apply condP <;> intro _)
  all_goals first | (show chk _ _ = true; kernel_rfl) | assumption | (simp only [go_sem, *, Nat.reduceAdd, zX, zJ, hw, rhalfB, bbe, List.getD_cons_zero, List.getD_cons_succ, Int.reduceToNat, Int.toNat_one, List.set_cons_zero, List.set_cons_succ] <;> rfl) | rfl | (exfalso; simp_all only [Bool.true_eq_false, Bool.false_eq_true, reduceCtorEq]; done)
theorem y_hf21 (a b : J) (z : Int) (w : X) (hw : rwidS [a, b] z = ((1, w), 0)) : Ct Tryz.prog 33 [bA_ [a, b], iA z] (· = bbe (rhalfB [a, b] z)) := by
  refine ct_of (O := tblO (orT T6_widest Tref_Mid)) (by kernel_rfl) tyB_ok (fun w => tblO_ok (orT_ok T6_widest_ok Tref_Mid_ok) _ w) [] 2500 53 [.tmp 4, .tmp 5, .tmp 6] Tryz.func33 rfl Tryz.ntmps33 (by rw [Tryz.results33]) (by simp) rfl (fun hsm => ?_)
  simp (maxSteps := 10000000) only [go_sem, ↓reduceIte, Nat.reduceMul, Nat.reduceDiv, Nat.reduceAdd, Nat.reduceEqDiff, Nat.reduceLeDiff, Nat.reduceLT, reduceCtorEq, Int.reduceNeg, Int.reduceLT, Int.reduceLE, Int.reduceAdd, Int.reduceToNat, Nat.reduceBEq, Int.reduceMul, Int.reduceSub, Nat.reduceSub, Int.reduceBNe, Nat.reduceBNe, asB, asP, nilB, asJs, asXs, wsOf, T6_widest, Tref_Mid, zX, zJ, widA, hw]
  repeat' first | (with_reducible apply And.intro) | (with_reducible apply condP <;> intro _)
  all_goals first | (show chk _ _ = true; kernel_rfl) | assumption | (simp only [go_sem, *, Nat.reduceAdd, zX, zJ, hw, rhalfB, bbe, List.getD_cons_zero, List.getD_cons_succ, Int.reduceToNat, Int.toNat_one, List.set_cons_zero, List.set_cons_succ] <;> rfl) | rfl | (exfalso; simp_all only [Bool.true_eq_false, Bool.false_eq_true, reduceCtorEq]; done)
theorem y_hf30 (a b c : J) (z : Int) (w : X) (hw : rwidS [a, b, c] z = ((0, w), 0)) : Ct Tryz.prog 33 [bA_ [a, b, c], iA z] (· = bbe (rhalfB [a, b, c] z)) := by
  refine ct_of (O := tblO (orT T6_widest Tref_Mid)) (by kernel_rfl) tyB_ok (fun w => tblO_ok (orT_ok T6_widest_ok Tref_Mid_ok) _ w) [] 2500 53 [.tmp 4, .tmp 5, .tmp 6] Tryz.func33 rfl Tryz.ntmps33 (by rw [Tryz.results33]) (by simp) rfl (fun hsm => ?_)
  simp (maxSteps := 10000000) only [go_sem, ↓reduceIte, Nat.reduceMul, Nat.reduceDiv, Nat.reduceAdd, Nat.reduceEqDiff, Nat.reduceLeDiff, Nat.reduceLT, reduceCtorEq, Int.reduceNeg, Int.reduceLT, Int.reduceLE, Int.reduceAdd, Int.reduceToNat, Nat.reduceBEq, Int.reduceMul, Int.reduceSub, Nat.reduceSub, Int.reduceBNe, Nat.reduceBNe, asB, asP, nilB, asJs, asXs, wsOf, T6_widest, Tref_Mid, zX, zJ, widA, hw]
  repeat' first | (with_reducible apply And.intro) | (with_reducible apply condP <;> intro _)
  all_goals first | (show chk _ _ = true; kernel_rfl) | assumption | (simp only [go_sem, *, Nat.reduceAdd, zX, zJ, hw, rhalfB, bbe, List.getD_cons_zero, List.getD_cons_succ, Int.reduceToNat, Int.toNat_one, List.set_cons_zero, List.set_cons_succ] <;> rfl) | rfl | (exfalso; simp_all only [Bool.true_eq_false, Bool.false_eq_true, reduceCtorEq]; done)
theorem y_hf31 (a b c : J) (z : Int) (w : X) (hw : rwidS [a, b, c] z = ((1, w), 0)) : Ct Tryz.prog 33 [bA_ [a, b, c], iA z] (· = bbe (rhalfB [a, b, c] z)) := by
  refine ct_of (O := tblO (orT T6_widest Tref_Mid)) (by kernel_rfl) tyB_ok (fun w => tblO_ok (orT_ok T6_widest_ok Tref_Mid_ok) _ w) [] 2500 53 [.tmp 4, .tmp 5, .tmp 6] Tryz.func33 rfl Tryz.ntmps33 (by rw [Tryz.results33]) (by simp) rfl (fun hsm => ?_)
  simp (maxSteps := 10000000) only [go_sem, ↓reduceIte, Nat.reduceMul, Nat.reduceDiv, Nat.reduceAdd, Nat.reduceEqDiff, Nat.reduceLeDiff, Nat.reduceLT, reduceCtorEq, Int.reduceNeg, Int.reduceLT, Int.reduceLE, Int.reduceAdd, Int.reduceToNat, Nat.reduceBEq, Int.reduceMul, Int.reduceSub, Nat.reduceSub, Int.reduceBNe, Nat.reduceBNe, asB, asP, nilB, asJs, asXs, wsOf, T6_widest, Tref_Mid, zX, zJ, widA, hw]
  repeat' first | (with_reducible apply And.intro) | (with_reducible apply condP <;> intro _)
  all_goals first | (show chk _ _ = true; kernel_rfl) | assumption | (simp only [go_sem, *, Nat.reduceAdd, zX, zJ, hw, rhalfB, bbe, List.getD_cons_zero, List.getD_cons_succ, Int.reduceToNat, Int.toNat_one, List.set_cons_zero, List.set_cons_succ] <;> rfl) | rfl | (exfalso; simp_all only [Bool.true_eq_false, Bool.false_eq_true, reduceCtorEq]; done)
theorem y_hf32 (a b c : J) (z : Int) (w : X) (hw : rwidS [a, b, c] z = ((2, w), 0)) : Ct Tryz.prog 33 [bA_ [a, b, c], iA z] (· = bbe (rhalfB [a, b, c] z)) := by
  refine ct_of (O := tblO (orT T6_widest Tref_Mid)) (by kernel_rfl) tyB_ok (fun w => tblO_ok (orT_ok T6_widest_ok Tref_Mid_ok) _ w) [] 2500 53 [.tmp 4, .tmp 5, .tmp 6] Tryz.func33 rfl Tryz.ntmps33 (by rw [Tryz.results33]) (by simp) rfl (fun hsm => ?_)
  simp (maxSteps := 10000000) only [go_sem, ↓reduceIte, Nat.reduceMul, Nat.reduceDiv, Nat.reduceAdd, Nat.reduceEqDiff, Nat.reduceLeDiff, Nat.reduceLT, reduceCtorEq, Int.reduceNeg, Int.reduceLT, Int.reduceLE, Int.reduceAdd, Int.reduceToNat, Nat.reduceBEq, Int.reduceMul, Int.reduceSub, Nat.reduceSub, Int.reduceBNe, Nat.reduceBNe, asB, asP, nilB, asJs, asXs, wsOf, T6_widest, Tref_Mid, zX, zJ, widA, hw]
  repeat' first | (with_reducible apply And.intro) | (with_reducible apply condP <;> intro _)
  all_goals first | (show chk _ _ = true; kernel_rfl) | assumption | (simp only [go_sem, *, Nat.reduceAdd, zX, zJ, hw, rhalfB, bbe, List.getD_cons_zero, List.getD_cons_succ, Int.reduceToNat, Int.toNat_one, List.set_cons_zero, List.set_cons_succ] <;> rfl) | rfl | (exfalso; simp_all only [Bool.true_eq_false, Bool.false_eq_true, reduceCtorEq]; done)
theorem y_hf40 (a b c d : J) (z : Int) (w : X) (hw : rwidS [a, b, c, d] z = ((0, w), 0)) : Ct Tryz.prog 33 [bA_ [a, b, c, d], iA z] (· = bbe (rhalfB [a, b, c, d] z)) := by
  refine ct_of (O := tblO (orT T6_widest Tref_Mid)) (by kernel_rfl) tyB_ok (fun w => tblO_ok (orT_ok T6_widest_ok Tref_Mid_ok) _ w) [] 2500 53 [.tmp 4, .tmp 5, .tmp 6] Tryz.func33 rfl Tryz.ntmps33 (by rw [Tryz.results33]) (by simp) rfl (fun hsm => ?_)
  simp (maxSteps := 10000000) only [go_sem, ↓reduceIte, Nat.reduceMul, Nat.reduceDiv, Nat.reduceAdd, Nat.reduceEqDiff, Nat.reduceLeDiff, Nat.reduceLT, reduceCtorEq, Int.reduceNeg, Int.reduceLT, Int.reduceLE, Int.reduceAdd, Int.reduceToNat, Nat.reduceBEq, Int.reduceMul, Int.reduceSub, Nat.reduceSub, Int.reduceBNe, Nat.reduceBNe, asB, asP, nilB, asJs, asXs, wsOf, T6_widest, Tref_Mid, zX, zJ, widA, hw]
  repeat' first | (with_reducible apply And.intro) | (with_reducible apply condP <;> intro _)
  all_goals first | (show chk _ _ = true; kernel_rfl) | assumption | (simp only [go_sem, *, Nat.reduceAdd, zX, zJ, hw, rhalfB, bbe, List.getD_cons_zero, List.getD_cons_succ, Int.reduceToNat, Int.toNat_one, List.set_cons_zero, List.set_cons_succ] <;> rfl) | rfl | (exfalso; simp_all only [Bool.true_eq_false, Bool.false_eq_true, reduceCtorEq]; done)
theorem y_hf41 (a b c d : J) (z : Int) (w : X) (hw : rwidS [a, b, c, d] z = ((1, w), 0)) : Ct Tryz.prog 33 [bA_ [a, b, c, d], iA z] (· = bbe (rhalfB [a, b, c, d] z)) := by
  refine ct_of (O := tblO (orT T6_widest Tref_Mid)) (by kernel_rfl) tyB_ok (fun w => tblO_ok (orT_ok T6_widest_ok Tref_Mid_ok) _ w) [] 2500 53 [.tmp 4, .tmp 5, .tmp 6] Tryz.func33 rfl Tryz.ntmps33 (by rw [Tryz.results33]) (by simp) rfl (fun hsm => ?_)
  simp (maxSteps := 10000000) only [go_sem, ↓reduceIte, Nat.reduceMul, Nat.reduceDiv, Nat.reduceAdd, Nat.reduceEqDiff, Nat.reduceLeDiff, Nat.reduceLT, reduceCtorEq, Int.reduceNeg, Int.reduceLT, Int.reduceLE, Int.reduceAdd, Int.reduceToNat, Nat.reduceBEq, Int.reduceMul, Int.reduceSub, Nat.reduceSub, Int.reduceBNe, Nat.reduceBNe, asB, asP, nilB, asJs, asXs, wsOf, T6_widest, Tref_Mid, zX, zJ, widA, hw]
  repeat' first | (with_reducible apply And.intro) | (with_reducible apply condP <;> intro _)
  all_goals first | (show chk _ _ = true; kernel_rfl) | assumption | (simp only [go_sem, *, Nat.reduceAdd, zX, zJ, hw, rhalfB, bbe, List.getD_cons_zero, List.getD_cons_succ, Int.reduceToNat, Int.toNat_one, List.set_cons_zero, List.set_cons_succ] <;> rfl) | rfl | (exfalso; simp_all only [Bool.true_eq_false, Bool.false_eq_true, reduceCtorEq]; done)
theorem y_hf42 (a b c d : J) (z : Int) (w : X) (hw : rwidS [a, b, c, d] z = ((2, w), 0)) : Ct Tryz.prog 33 [bA_ [a, b, c, d], iA z] (· = bbe (rhalfB [a, b, c, d] z)) := by
  refine ct_of (O := tblO (orT T6_widest Tref_Mid)) (by kernel_rfl) tyB_ok (fun w => tblO_ok (orT_ok T6_widest_ok Tref_Mid_ok) _ w) [] 2500 53 [.tmp 4, .tmp 5, .tmp 6] Tryz.func33 rfl Tryz.ntmps33 (by rw [Tryz.results33]) (by simp) rfl (fun hsm => ?_)
  simp (maxSteps := 10000000) only [go_sem, ↓reduceIte, Nat.reduceMul, Nat.reduceDiv, Nat.reduceAdd, Nat.reduceEqDiff, Nat.reduceLeDiff, Nat.reduceLT, reduceCtorEq, Int.reduceNeg, Int.reduceLT, Int.reduceLE, Int.reduceAdd, Int.reduceToNat, Nat.reduceBEq, Int.reduceMul, Int.reduceSub, Nat.reduceSub, Int.reduceBNe, Nat.reduceBNe, asB, asP, nilB, asJs, asXs, wsOf, T6_widest, Tref_Mid, zX, zJ, widA, hw]
  repeat' first | (with_reducible apply And.intro) | (with_reducible apply condP <;> intro _)
  all_goals first | (show chk _ _ = true; kernel_rfl) | assumption | (simp only [go_sem, *, Nat.reduceAdd, zX, zJ, hw, rhalfB, bbe, List.getD_cons_zero, List.getD_cons_succ, Int.reduceToNat, Int.toNat_one, List.set_cons_zero, List.set_cons_succ] <;> rfl) | rfl | (exfalso; simp_all only [Bool.true_eq_false, Bool.false_eq_true, reduceCtorEq]; done)
theorem y_hf43 (a b c d : J) (z : Int) (w : X) (hw : rwidS [a, b, c, d] z = ((3, w), 0)) : Ct Tryz.prog 33 [bA_ [a, b, c, d], iA z] (· = bbe (rhalfB [a, b, c, d] z)) := by
  refine ct_of (O := tblO (orT T6_widest Tref_Mid)) (by kernel_rfl) tyB_ok (fun w => tblO_ok (orT_ok T6_widest_ok Tref_Mid_ok) _ w) [] 2500 53 [.tmp 4, .tmp 5, .tmp 6] Tryz.func33 rfl Tryz.ntmps33 (by rw [Tryz.results33]) (by simp) rfl (fun hsm => ?_)
  simp (maxSteps := 10000000) only [go_sem, ↓reduceIte, Nat.reduceMul, Nat.reduceDiv, Nat.reduceAdd, Nat.reduceEqDiff, Nat.reduceLeDiff, Nat.reduceLT, reduceCtorEq, Int.reduceNeg, Int.reduceLT, Int.reduceLE, Int.reduceAdd, Int.reduceToNat, Nat.reduceBEq, Int.reduceMul, Int.reduceSub, Nat.reduceSub, Int.reduceBNe, Nat.reduceBNe, asB, asP, nilB, asJs, asXs, wsOf, T6_widest, Tref_Mid, zX, zJ, widA, hw]
  repeat' first | (with_reducible apply And.intro) | (with_reducible apply condP <;> intro _)
  all_goals first | (show chk _ _ = true; kernel_rfl) | assumption | (simp only [go_sem, *, Nat.reduceAdd, zX, zJ, hw, rhalfB, bbe, List.getD_cons_zero, List.getD_cons_succ, Int.reduceToNat, Int.toNat_one, List.set_cons_zero, List.set_cons_succ] <;> rfl) | rfl | (exfalso; simp_all only [Bool.true_eq_false, Bool.false_eq_true, reduceCtorEq]; done)
theorem rwidS_lt {l : List J} {z : Int} (h : (rwidS l z).2 = 0) : rightB l = true ∧ 0 ≤ (rwidS l z).1.1 ∧ (rwidS l z).1.1 < l.length := by
  rcases bothP_len (φ := fun a _ => prX (rwide a z)) l l with h1 | ⟨h1, h2, h3, _⟩
  · have h1 : ((rwids l z).2 != 0) = true := h1
    unfold rwidS rwidR at h
    rw [h1, cond_true] at h
    have h : (rwids l z).2 = 0 := h
    rw [h] at h1; cases h1
  · have h1 : (rwids l z).2 = 0 := h1
    have h2 : (rwids l z).1.length = l.length := h2
    have h4 := rightB_len h3
    refine ⟨h3, ?_⟩
    unfold rwidS rwidR
    rw [h1, show ((0 : Int) != 0) = false from rfl, cond_false]
    exact wgo_lt (Int.le_refl 0) (by omega) (by decide) (by omega)
theorem y_half (l : List J) (z : Int) : Ct Tryz.prog 33 [bA_ l, iA z] (· = bbe (rhalfB l z)) := by
  cases he : (rwidS l z).2 != 0 with
  | true => exact y_hfe l z he
  | false =>
    have he : (rwidS l z).2 = 0 := by simpa using he
    obtain ⟨h1, h2, h3⟩ := rwidS_lt he
    have h4 := rightB_len h1
    obtain ⟨k, hk⟩ := Int.eq_ofNat_of_zero_le h2
    have hw : rwidS l z = (((k : Int), (rwidS l z).1.2), 0) := by rw [← hk, ← he]
    have hkl : k < l.length := by omega
    generalize (rwidS l z).1.2 = w at hw
    clear h1 h2 h3 hk he
    match l, k, h4, hkl, hw with
    | [], _, h, _, _ => exact absurd h.1 (by simp)
    | [a], 0, _, _, hw => exact y_hf10 a z w hw
    | [a], k + 1, _, hk, _ => exact absurd hk (by simp)
    | [a, b], 0, _, _, hw => exact y_hf20 a b z w hw
    | [a, b], 1, _, _, hw => exact y_hf21 a b z w hw
    | [a, b], k + 2, _, hk, _ => exact absurd hk (by simp)
    | [a, b, c], 0, _, _, hw => exact y_hf30 a b c z w hw
    | [a, b, c], 1, _, _, hw => exact y_hf31 a b c z w hw
    | [a, b, c], 2, _, _, hw => exact y_hf32 a b c z w hw
    | [a, b, c], k + 3, _, hk, _ => exact absurd hk (by simp)
    | [a, b, c, d], 0, _, _, hw => exact y_hf40 a b c d z w hw
    | [a, b, c, d], 1, _, _, hw => exact y_hf41 a b c d z w hw
    | [a, b, c, d], 2, _, _, hw => exact y_hf42 a b c d z w hw
    | [a, b, c, d], 3, _, _, hw => exact y_hf43 a b c d z w hw
    | [a, b, c, d], k + 4, _, hk, _ => exact absurd hk (by simp)
    | _ :: _ :: _ :: _ :: _ :: _, _, h, _, _ => exact absurd h.2 (by simp)
noncomputable def T6_Halve : Tbl := one 33 (gBZ fun l z => (True, bbe (rhalfB l z)))
theorem T6_Halve_ok : TbOK Tryz.prog T6_Halve := one_ok (ent Tryz.func33 (by kernel_rfl) rfl) fun args e h hp => gBZ_ct (fun l z _ => y_half l z) h hp
end Go.Proofs.YthhaelnildaemaaGreatDoor
