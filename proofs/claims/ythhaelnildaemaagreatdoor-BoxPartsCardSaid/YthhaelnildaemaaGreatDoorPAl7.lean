/- BoxParts, called with boxes and a point of any kind. -/
import Derived.Test.YthhaelnildaemaaGreatDoorPAlN
import Derived.Test.YthhaelnildaemaaGreatDoorPAlM
import Derived.Test.YthhaelnildaemaaGreatDoorPAlL
import Derived.Test.YthhaelnildaemaaGreatDoorPLift
import Derived.Test.YthhaelnildaemaaGreatDoorPAlK
namespace Go.Proofs.YthhaelnildaemaaGreatDoor
open Go.RowKit Nx
set_option linter.unusedVariables false
set_option linter.unusedSimpArgs false
set_option maxRecDepth 100000
set_option maxHeartbeats 4000000
attribute [local go_sem] run init X.L J.L vL X.eta J.eta Q.eta List.cons_append List.nil_append brkK brkf_b brkf_t exef_some exif_some condf_b opf bodyE addR skipE stepOp stepLoad stepStore stepField stepCall stepBS stepBi stepCv stepIx lpf hdS pick forget inL mentA ment dom evs evl evp evd okeys look fillA capsOf wordsOf rowsOf lenOf convK binV shV intV unV boolT tyT tiB tiI tiW tiD tiF tiR tiU tiNum tiIv tiVal tiSc okLf okD keysOf tblO cvA cvL dnL olA olL noO noA cbL cbA orT noT one asNum asIv asVal postf_some resA tupA clA clL dropTo decide_true decide_false List.all_cons List.all_nil Bool.and_true Bool.and_self true_and and_true and_self List.length_cons List.length_nil List.drop_succ_cons List.drop_zero List.take_succ_cons List.take_zero List.getElem?_cons_zero List.getElem?_cons_succ List.map_cons List.map_nil false_implies true_implies Option.bind_some List.getElem?_toArray Bool.false_eq_true List.append_nil List.flatMap_cons List.flatMap_nil true_or or_true forall_const List.reverse_cons List.reverse_nil Option.isSome_some Option.any_some Nat.lt_irrefl not_true_eq_false Bool.not_true Bool.not_false imp_self implies_true Bool.not_eq_true' Bool.not_eq_false' Bool.true_eq_false memOf cntF nmL rnL nmA rnA isV contsOf ndB refO orO pin Int.toNat_zero decide_eq_true_eq wrap0 wrap1 ci1 ci2 BEq.rfl beq_self_eq_true Int.natCast_zero ge_iff_le gt_iff_lt Int.le_refl Nat.zero_mul Nat.one_mul Nat.zero_add Nat.zero_lt_succ Nat.lt_add_one Nat.le_refl List.append_eq Int.toNat_natCast gN gNN gNI gI gNNIB gNIB gJ gJJ gJN gJJI gJI stepB0 stepMk stepSl stepAp apY optI okO nilV slT resB outPs outLs outL dnT noE boxL_nil boxL_cons ptsL_nil ptsL_cons bxe pxe bne_self_eq_false wr2 wr3 wr4 wr5 wr6 wr7 wr8 gB gP gBB gBP gBZ gBBZ asP nilB asXs wsOf bC_nil bC_cons pC_nil pC_cons fvO Lc.up tyB tiS tiBB List.replicate_succ List.replicate_zero List.flatten_cons List.flatten_nil Int.ofNat_lt Int.cast_ofNat_Int Int.ofNat_eq_natCast List.isEmpty_nil List.isEmpty_cons and_false false_and List.cons_ne_nil Nat.add_zero ite_true ite_false if_true if_false Nat.le_zero_eq eq_self Bool.and_false Bool.false_and Bool.true_and AV.s cond_true cond_false Bool.or_true Bool.true_or Bool.or_false Bool.false_or
attribute [local go_sem ↓] cond_true cond_false not_cond outL_box outL_pts clL_box clL_pts okL_box okL_pts ment_box ment_pts olL_box olL_pts cvL_box cvL_pts noO_box noO_pts asB_box asP_pts len_box len_pts
attribute [local irreducible] chk
theorem asKs_b : ∀ (l : List J), asKs (bC l) = some (l.map J.p) := by
  intro l
  induction l with
  | nil => rfl
  | cons j l ih => rw [bC_cons]; simp only [asKs, lnOf, ih]; rfl
theorem asKs_k : ∀ (l : List K), asKs (kC l) = some (l.map K.p) := by
  intro l
  induction l with
  | nil => rfl
  | cons j l ih => rw [kC_cons]; simp only [asKs, lnOf, ih]; rfl
abbrev kA_ (l : List K) : AV := .s (.sl false 6 l.length (kC l))
theorem v_bp0 (a b : List J)  (la : lightK (a.map J.p) = true) (lb : lightK (b.map J.p) = true) (hl : a.length ≤ 6) : Ct Tryz.prog 3 [bA_ a, bA_ b, pA_ []] (· = bA true) := by
  refine ct_of (O := tblO (orT Tlaw6_known (orT Tlaw6_light Tlaw6_parts))) (by kernel_rfl) tyB_ok (fun w => tblO_ok (orT_ok Tlaw6_known_ok (orT_ok Tlaw6_light_ok Tlaw6_parts_ok)) _ w) [] 1500 37 [.tmp 6] Tryz.func3 rfl Tryz.ntmps3 (by rw [Tryz.results3]) (by simp) rfl (fun hsm => ?_)
  simp (maxSteps := 10000000) only [go_sem, ↓reduceIte, Nat.reduceMul, Nat.reduceDiv, Nat.reduceAdd, Nat.reduceEqDiff, Nat.reduceLeDiff, Nat.reduceLT, reduceCtorEq, Int.reduceNeg, Int.reduceLT, Int.reduceLE, Int.reduceAdd, Int.reduceToNat, Nat.reduceBEq, Int.reduceMul, Int.reduceSub, Nat.reduceSub, Int.reduceBNe, Nat.reduceBNe, Tlaw6_known, Tlaw6_light, Tlaw6_parts, gLt, gBBP, ↓asKs_b, ↓asKs_k, asB_b, asP_b, la, lb]
  repeat' first | (with_reducible apply And.intro) | (with_reducible apply condP <;> intro _)
  all_goals try exact ⟨hl, by simp⟩
  all_goals first | (show chk _ _ = true; kernel_rfl) | assumption | (simp only [go_sem, *, hl, List.length_cons, List.length_nil, Nat.reduceAdd, Nat.reduceLeDiff, and_true, true_and] <;> rfl) | rfl | (exfalso; simp_all only [Bool.true_eq_false, Bool.false_eq_true, reduceCtorEq]; done)
theorem v_bp1 (a b : List J) (xa : X) (ha : decide ((70 : Int) < (xa.xs.length : Int)) = false) (la : lightK (a.map J.p) = true) (lb : lightK (b.map J.p) = true) (hl : a.length ≤ 6) : Ct Tryz.prog 3 [bA_ a, bA_ b, pA_ [xa]] (· = bA true) := by
  refine ct_of (O := tblO (orT Tlaw6_known (orT Tlaw6_light Tlaw6_parts))) (by kernel_rfl) tyB_ok (fun w => tblO_ok (orT_ok Tlaw6_known_ok (orT_ok Tlaw6_light_ok Tlaw6_parts_ok)) _ w) [] 1500 37 [.tmp 6] Tryz.func3 rfl Tryz.ntmps3 (by rw [Tryz.results3]) (by simp) rfl (fun hsm => ?_)
  simp (maxSteps := 10000000) only [go_sem, ↓reduceIte, Nat.reduceMul, Nat.reduceDiv, Nat.reduceAdd, Nat.reduceEqDiff, Nat.reduceLeDiff, Nat.reduceLT, reduceCtorEq, Int.reduceNeg, Int.reduceLT, Int.reduceLE, Int.reduceAdd, Int.reduceToNat, Nat.reduceBEq, Int.reduceMul, Int.reduceSub, Nat.reduceSub, Int.reduceBNe, Nat.reduceBNe, Tlaw6_known, Tlaw6_light, Tlaw6_parts, gLt, gBBP, ↓asKs_b, ↓asKs_k, asB_b, asP_b, la, lb, ha]
  repeat' first | (with_reducible apply And.intro) | (with_reducible apply condP <;> intro _)
  all_goals try exact ⟨hl, by simp⟩
  all_goals first | (show chk _ _ = true; kernel_rfl) | assumption | (simp only [go_sem, *, hl, List.length_cons, List.length_nil, Nat.reduceAdd, Nat.reduceLeDiff, and_true, true_and] <;> rfl) | rfl | (exfalso; simp_all only [Bool.true_eq_false, Bool.false_eq_true, reduceCtorEq]; done)
theorem v_bp2 (a b : List J) (xa xb : X) (ha : decide ((70 : Int) < (xa.xs.length : Int)) = false) (hb : decide ((70 : Int) < (xb.xs.length : Int)) = false) (la : lightK (a.map J.p) = true) (lb : lightK (b.map J.p) = true) (hl : a.length ≤ 6) : Ct Tryz.prog 3 [bA_ a, bA_ b, pA_ [xa, xb]] (· = bA true) := by
  refine ct_of (O := tblO (orT Tlaw6_known (orT Tlaw6_light Tlaw6_parts))) (by kernel_rfl) tyB_ok (fun w => tblO_ok (orT_ok Tlaw6_known_ok (orT_ok Tlaw6_light_ok Tlaw6_parts_ok)) _ w) [] 1500 37 [.tmp 6] Tryz.func3 rfl Tryz.ntmps3 (by rw [Tryz.results3]) (by simp) rfl (fun hsm => ?_)
  simp (maxSteps := 10000000) only [go_sem, ↓reduceIte, Nat.reduceMul, Nat.reduceDiv, Nat.reduceAdd, Nat.reduceEqDiff, Nat.reduceLeDiff, Nat.reduceLT, reduceCtorEq, Int.reduceNeg, Int.reduceLT, Int.reduceLE, Int.reduceAdd, Int.reduceToNat, Nat.reduceBEq, Int.reduceMul, Int.reduceSub, Nat.reduceSub, Int.reduceBNe, Nat.reduceBNe, Tlaw6_known, Tlaw6_light, Tlaw6_parts, gLt, gBBP, ↓asKs_b, ↓asKs_k, asB_b, asP_b, la, lb, ha, hb]
  repeat' first | (with_reducible apply And.intro) | (with_reducible apply condP <;> intro _)
  all_goals try exact ⟨hl, by simp⟩
  all_goals first | (show chk _ _ = true; kernel_rfl) | assumption | (simp only [go_sem, *, hl, List.length_cons, List.length_nil, Nat.reduceAdd, Nat.reduceLeDiff, and_true, true_and] <;> rfl) | rfl | (exfalso; simp_all only [Bool.true_eq_false, Bool.false_eq_true, reduceCtorEq]; done)
theorem v_bp3 (a b : List J) (xa xb xc : X) (ha : decide ((70 : Int) < (xa.xs.length : Int)) = false) (hb : decide ((70 : Int) < (xb.xs.length : Int)) = false) (hc : decide ((70 : Int) < (xc.xs.length : Int)) = false) (la : lightK (a.map J.p) = true) (lb : lightK (b.map J.p) = true) (hl : a.length ≤ 6) : Ct Tryz.prog 3 [bA_ a, bA_ b, pA_ [xa, xb, xc]] (· = bA true) := by
  refine ct_of (O := tblO (orT Tlaw6_known (orT Tlaw6_light Tlaw6_parts))) (by kernel_rfl) tyB_ok (fun w => tblO_ok (orT_ok Tlaw6_known_ok (orT_ok Tlaw6_light_ok Tlaw6_parts_ok)) _ w) [] 1500 37 [.tmp 6] Tryz.func3 rfl Tryz.ntmps3 (by rw [Tryz.results3]) (by simp) rfl (fun hsm => ?_)
  simp (maxSteps := 10000000) only [go_sem, ↓reduceIte, Nat.reduceMul, Nat.reduceDiv, Nat.reduceAdd, Nat.reduceEqDiff, Nat.reduceLeDiff, Nat.reduceLT, reduceCtorEq, Int.reduceNeg, Int.reduceLT, Int.reduceLE, Int.reduceAdd, Int.reduceToNat, Nat.reduceBEq, Int.reduceMul, Int.reduceSub, Nat.reduceSub, Int.reduceBNe, Nat.reduceBNe, Tlaw6_known, Tlaw6_light, Tlaw6_parts, gLt, gBBP, ↓asKs_b, ↓asKs_k, asB_b, asP_b, la, lb, ha, hb, hc]
  repeat' first | (with_reducible apply And.intro) | (with_reducible apply condP <;> intro _)
  all_goals try exact ⟨hl, by simp⟩
  all_goals first | (show chk _ _ = true; kernel_rfl) | assumption | (simp only [go_sem, *, hl, List.length_cons, List.length_nil, Nat.reduceAdd, Nat.reduceLeDiff, and_true, true_and] <;> rfl) | rfl | (exfalso; simp_all only [Bool.true_eq_false, Bool.false_eq_true, reduceCtorEq]; done)
theorem v_bp4 (a b : List J) (xa xb xc xd : X) (ha : decide ((70 : Int) < (xa.xs.length : Int)) = false) (hb : decide ((70 : Int) < (xb.xs.length : Int)) = false) (hc : decide ((70 : Int) < (xc.xs.length : Int)) = false) (hd : decide ((70 : Int) < (xd.xs.length : Int)) = false) (la : lightK (a.map J.p) = true) (lb : lightK (b.map J.p) = true) (hl : a.length ≤ 6) : Ct Tryz.prog 3 [bA_ a, bA_ b, pA_ [xa, xb, xc, xd]] (· = bA true) := by
  refine ct_of (O := tblO (orT Tlaw6_known (orT Tlaw6_light Tlaw6_parts))) (by kernel_rfl) tyB_ok (fun w => tblO_ok (orT_ok Tlaw6_known_ok (orT_ok Tlaw6_light_ok Tlaw6_parts_ok)) _ w) [] 1500 37 [.tmp 6] Tryz.func3 rfl Tryz.ntmps3 (by rw [Tryz.results3]) (by simp) rfl (fun hsm => ?_)
  simp (maxSteps := 10000000) only [go_sem, ↓reduceIte, Nat.reduceMul, Nat.reduceDiv, Nat.reduceAdd, Nat.reduceEqDiff, Nat.reduceLeDiff, Nat.reduceLT, reduceCtorEq, Int.reduceNeg, Int.reduceLT, Int.reduceLE, Int.reduceAdd, Int.reduceToNat, Nat.reduceBEq, Int.reduceMul, Int.reduceSub, Nat.reduceSub, Int.reduceBNe, Nat.reduceBNe, Tlaw6_known, Tlaw6_light, Tlaw6_parts, gLt, gBBP, ↓asKs_b, ↓asKs_k, asB_b, asP_b, la, lb, ha, hb, hc, hd]
  repeat' first | (with_reducible apply And.intro) | (with_reducible apply condP <;> intro _)
  all_goals try exact ⟨hl, by simp⟩
  all_goals first | (show chk _ _ = true; kernel_rfl) | assumption | (simp only [go_sem, *, hl, List.length_cons, List.length_nil, Nat.reduceAdd, Nat.reduceLeDiff, and_true, true_and] <;> rfl) | rfl | (exfalso; simp_all only [Bool.true_eq_false, Bool.false_eq_true, reduceCtorEq]; done)
theorem v_bp5 (a b : List J) (xa xb xc xd xe : X) (ha : decide ((70 : Int) < (xa.xs.length : Int)) = false) (hb : decide ((70 : Int) < (xb.xs.length : Int)) = false) (hc : decide ((70 : Int) < (xc.xs.length : Int)) = false) (hd : decide ((70 : Int) < (xd.xs.length : Int)) = false) (he : decide ((70 : Int) < (xe.xs.length : Int)) = false) (la : lightK (a.map J.p) = true) (lb : lightK (b.map J.p) = true) (hl : a.length ≤ 6) : Ct Tryz.prog 3 [bA_ a, bA_ b, pA_ [xa, xb, xc, xd, xe]] (· = bA true) := by
  refine ct_of (O := tblO (orT Tlaw6_known (orT Tlaw6_light Tlaw6_parts))) (by kernel_rfl) tyB_ok (fun w => tblO_ok (orT_ok Tlaw6_known_ok (orT_ok Tlaw6_light_ok Tlaw6_parts_ok)) _ w) [] 1500 37 [.tmp 6] Tryz.func3 rfl Tryz.ntmps3 (by rw [Tryz.results3]) (by simp) rfl (fun hsm => ?_)
  simp (maxSteps := 10000000) only [go_sem, ↓reduceIte, Nat.reduceMul, Nat.reduceDiv, Nat.reduceAdd, Nat.reduceEqDiff, Nat.reduceLeDiff, Nat.reduceLT, reduceCtorEq, Int.reduceNeg, Int.reduceLT, Int.reduceLE, Int.reduceAdd, Int.reduceToNat, Nat.reduceBEq, Int.reduceMul, Int.reduceSub, Nat.reduceSub, Int.reduceBNe, Nat.reduceBNe, Tlaw6_known, Tlaw6_light, Tlaw6_parts, gLt, gBBP, ↓asKs_b, ↓asKs_k, asB_b, asP_b, la, lb, ha, hb, hc, hd, he]
  repeat' first | (with_reducible apply And.intro) | (with_reducible apply condP <;> intro _)
  all_goals try exact ⟨hl, by simp⟩
  all_goals first | (show chk _ _ = true; kernel_rfl) | assumption | (simp only [go_sem, *, hl, List.length_cons, List.length_nil, Nat.reduceAdd, Nat.reduceLeDiff, and_true, true_and] <;> rfl) | rfl | (exfalso; simp_all only [Bool.true_eq_false, Bool.false_eq_true, reduceCtorEq]; done)
theorem v_bp6 (a b : List J) (xa xb xc xd xe xg : X) (ha : decide ((70 : Int) < (xa.xs.length : Int)) = false) (hb : decide ((70 : Int) < (xb.xs.length : Int)) = false) (hc : decide ((70 : Int) < (xc.xs.length : Int)) = false) (hd : decide ((70 : Int) < (xd.xs.length : Int)) = false) (he : decide ((70 : Int) < (xe.xs.length : Int)) = false) (hg : decide ((70 : Int) < (xg.xs.length : Int)) = false) (la : lightK (a.map J.p) = true) (lb : lightK (b.map J.p) = true) (hl : a.length ≤ 6) : Ct Tryz.prog 3 [bA_ a, bA_ b, pA_ [xa, xb, xc, xd, xe, xg]] (· = bA true) := by
  refine ct_of (O := tblO (orT Tlaw6_known (orT Tlaw6_light Tlaw6_parts))) (by kernel_rfl) tyB_ok (fun w => tblO_ok (orT_ok Tlaw6_known_ok (orT_ok Tlaw6_light_ok Tlaw6_parts_ok)) _ w) [] 1500 37 [.tmp 6] Tryz.func3 rfl Tryz.ntmps3 (by rw [Tryz.results3]) (by simp) rfl (fun hsm => ?_)
  simp (maxSteps := 10000000) only [go_sem, ↓reduceIte, Nat.reduceMul, Nat.reduceDiv, Nat.reduceAdd, Nat.reduceEqDiff, Nat.reduceLeDiff, Nat.reduceLT, reduceCtorEq, Int.reduceNeg, Int.reduceLT, Int.reduceLE, Int.reduceAdd, Int.reduceToNat, Nat.reduceBEq, Int.reduceMul, Int.reduceSub, Nat.reduceSub, Int.reduceBNe, Nat.reduceBNe, Tlaw6_known, Tlaw6_light, Tlaw6_parts, gLt, gBBP, ↓asKs_b, ↓asKs_k, asB_b, asP_b, la, lb, ha, hb, hc, hd, he, hg]
  repeat' first | (with_reducible apply And.intro) | (with_reducible apply condP <;> intro _)
  all_goals try exact ⟨hl, by simp⟩
  all_goals first | (show chk _ _ = true; kernel_rfl) | assumption | (simp only [go_sem, *, hl, List.length_cons, List.length_nil, Nat.reduceAdd, Nat.reduceLeDiff, and_true, true_and] <;> rfl) | rfl | (exfalso; simp_all only [Bool.true_eq_false, Bool.false_eq_true, reduceCtorEq]; done)
theorem v_bp_h (a b : List K) (p : Value) (h : (lightK (a.map K.p) && lightK (b.map K.p)) = false) : Ct Tryz.prog 3 [kA_ a, kA_ b, .s (.lit p)] (· = bA true) := by
  refine ct_of (O := tblO (orT Tlaw6_known Tlaw6_light)) (by kernel_rfl) tyB_ok (fun w => tblO_ok (orT_ok Tlaw6_known_ok Tlaw6_light_ok) _ w) [] 1500 37 [.tmp 6] Tryz.func3 rfl Tryz.ntmps3 (by rw [Tryz.results3]) (by simp) rfl (fun hsm => ?_)
  simp (maxSteps := 10000000) only [go_sem, ↓reduceIte, Nat.reduceMul, Nat.reduceDiv, Nat.reduceAdd, Nat.reduceEqDiff, Nat.reduceLeDiff, Nat.reduceLT, reduceCtorEq, Int.reduceNeg, Int.reduceLT, Int.reduceLE, Int.reduceAdd, Int.reduceToNat, Nat.reduceBEq, Int.reduceMul, Int.reduceSub, Nat.reduceSub, Int.reduceBNe, Nat.reduceBNe, Tlaw6_known, Tlaw6_light, gLt, gBBP, ↓asKs_b, ↓asKs_k, asB_b, asP_b, h]
  repeat' first | (with_reducible apply And.intro) | (with_reducible apply condP <;> intro _)
  all_goals first | (show chk _ _ = true; kernel_rfl) | assumption | (simp only [go_sem, *] <;> rfl) | rfl | (exfalso; simp_all only [Bool.true_eq_false, Bool.false_eq_true, reduceCtorEq]; done)
theorem v_bp_i (a b : List K) (A : Option Addr) (n c : Nat) (h : (lightK (a.map K.p) && lightK (b.map K.p)) = true) (h6 : decide ((6 : Int) < (n : Int)) = true) : Ct Tryz.prog 3 [kA_ a, kA_ b, .s (.lit (.slice A n c))] (· = bA true) := by
  refine ct_of (O := tblO (orT Tlaw6_known Tlaw6_light)) (by kernel_rfl) tyB_ok (fun w => tblO_ok (orT_ok Tlaw6_known_ok Tlaw6_light_ok) _ w) [] 1500 37 [.tmp 6] Tryz.func3 rfl Tryz.ntmps3 (by rw [Tryz.results3]) (by simp) rfl (fun hsm => ?_)
  simp (maxSteps := 10000000) only [go_sem, ↓reduceIte, Nat.reduceMul, Nat.reduceDiv, Nat.reduceAdd, Nat.reduceEqDiff, Nat.reduceLeDiff, Nat.reduceLT, reduceCtorEq, Int.reduceNeg, Int.reduceLT, Int.reduceLE, Int.reduceAdd, Int.reduceToNat, Nat.reduceBEq, Int.reduceMul, Int.reduceSub, Nat.reduceSub, Int.reduceBNe, Nat.reduceBNe, Tlaw6_known, Tlaw6_light, gLt, gBBP, ↓asKs_b, ↓asKs_k, asB_b, asP_b, h, h6]
  repeat' first | (with_reducible apply And.intro) | (with_reducible apply condP <;> intro _)
  all_goals first | (show chk _ _ = true; kernel_rfl) | assumption | (simp only [go_sem, *] <;> rfl) | rfl | (exfalso; simp_all only [Bool.true_eq_false, Bool.false_eq_true, reduceCtorEq]; done)
theorem v_bp_j0 (a b : List K) (qa : Kp) (l : List Kp) (n : Nat) (ha : decide ((70 : Int) < (qa.n : Int)) = true) (d0 : decide ((0 : Int) < (n : Int)) = true) (g0 : (0 < n) = True) (h : (lightK (a.map K.p) && lightK (b.map K.p)) = true) (h6 : decide ((6 : Int) < (n : Int)) = false) : Ct Tryz.prog 3 [kA_ a, kA_ b, .s (.sl false 3 n (rC (qa :: l)))] (· = bA true) := by
  refine ct_of (O := tblO (orT Tlaw6_known Tlaw6_light)) (by kernel_rfl) tyB_ok (fun w => tblO_ok (orT_ok Tlaw6_known_ok Tlaw6_light_ok) _ w) [] 1500 37 [.tmp 6] Tryz.func3 rfl Tryz.ntmps3 (by rw [Tryz.results3]) (by simp) rfl (fun hsm => ?_)
  simp (maxSteps := 10000000) only [go_sem, ↓reduceIte, Nat.reduceMul, Nat.reduceDiv, Nat.reduceAdd, Nat.reduceEqDiff, Nat.reduceLeDiff, Nat.reduceLT, reduceCtorEq, Int.reduceNeg, Int.reduceLT, Int.reduceLE, Int.reduceAdd, Int.reduceToNat, Nat.reduceBEq, Int.reduceMul, Int.reduceSub, Nat.reduceSub, Int.reduceBNe, Nat.reduceBNe, Tlaw6_known, Tlaw6_light, gLt, gBBP, ↓asKs_b, ↓asKs_k, asB_b, asP_b, rC_cons, h, h6, ha, d0, g0]
  repeat' first | (with_reducible apply And.intro) | (with_reducible apply condP <;> intro _)
  all_goals first | (show chk _ _ = true; kernel_rfl) | assumption | (simp only [go_sem, *] <;> rfl) | rfl | (exfalso; simp_all only [Bool.true_eq_false, Bool.false_eq_true, reduceCtorEq]; done)
theorem v_bp_j1 (a b : List K) (qa qb : Kp) (l : List Kp) (n : Nat) (ha : decide ((70 : Int) < (qa.n : Int)) = false) (hb : decide ((70 : Int) < (qb.n : Int)) = true) (d0 : decide ((0 : Int) < (n : Int)) = true) (g0 : (0 < n) = True) (d1 : decide ((1 : Int) < (n : Int)) = true) (g1 : (1 < n) = True) (h : (lightK (a.map K.p) && lightK (b.map K.p)) = true) (h6 : decide ((6 : Int) < (n : Int)) = false) : Ct Tryz.prog 3 [kA_ a, kA_ b, .s (.sl false 3 n (rC (qa :: qb :: l)))] (· = bA true) := by
  refine ct_of (O := tblO (orT Tlaw6_known Tlaw6_light)) (by kernel_rfl) tyB_ok (fun w => tblO_ok (orT_ok Tlaw6_known_ok Tlaw6_light_ok) _ w) [] 1500 37 [.tmp 6] Tryz.func3 rfl Tryz.ntmps3 (by rw [Tryz.results3]) (by simp) rfl (fun hsm => ?_)
  simp (maxSteps := 10000000) only [go_sem, ↓reduceIte, Nat.reduceMul, Nat.reduceDiv, Nat.reduceAdd, Nat.reduceEqDiff, Nat.reduceLeDiff, Nat.reduceLT, reduceCtorEq, Int.reduceNeg, Int.reduceLT, Int.reduceLE, Int.reduceAdd, Int.reduceToNat, Nat.reduceBEq, Int.reduceMul, Int.reduceSub, Nat.reduceSub, Int.reduceBNe, Nat.reduceBNe, Tlaw6_known, Tlaw6_light, gLt, gBBP, ↓asKs_b, ↓asKs_k, asB_b, asP_b, rC_cons, h, h6, ha, hb, d0, d1, g0, g1]
  repeat' first | (with_reducible apply And.intro) | (with_reducible apply condP <;> intro _)
  all_goals first | (show chk _ _ = true; kernel_rfl) | assumption | (simp only [go_sem, *] <;> rfl) | rfl | (exfalso; simp_all only [Bool.true_eq_false, Bool.false_eq_true, reduceCtorEq]; done)
theorem v_bp_j2 (a b : List K) (qa qb qc : Kp) (l : List Kp) (n : Nat) (ha : decide ((70 : Int) < (qa.n : Int)) = false) (hb : decide ((70 : Int) < (qb.n : Int)) = false) (hc : decide ((70 : Int) < (qc.n : Int)) = true) (d0 : decide ((0 : Int) < (n : Int)) = true) (g0 : (0 < n) = True) (d1 : decide ((1 : Int) < (n : Int)) = true) (g1 : (1 < n) = True) (d2 : decide ((2 : Int) < (n : Int)) = true) (g2 : (2 < n) = True) (h : (lightK (a.map K.p) && lightK (b.map K.p)) = true) (h6 : decide ((6 : Int) < (n : Int)) = false) : Ct Tryz.prog 3 [kA_ a, kA_ b, .s (.sl false 3 n (rC (qa :: qb :: qc :: l)))] (· = bA true) := by
  refine ct_of (O := tblO (orT Tlaw6_known Tlaw6_light)) (by kernel_rfl) tyB_ok (fun w => tblO_ok (orT_ok Tlaw6_known_ok Tlaw6_light_ok) _ w) [] 1500 37 [.tmp 6] Tryz.func3 rfl Tryz.ntmps3 (by rw [Tryz.results3]) (by simp) rfl (fun hsm => ?_)
  simp (maxSteps := 10000000) only [go_sem, ↓reduceIte, Nat.reduceMul, Nat.reduceDiv, Nat.reduceAdd, Nat.reduceEqDiff, Nat.reduceLeDiff, Nat.reduceLT, reduceCtorEq, Int.reduceNeg, Int.reduceLT, Int.reduceLE, Int.reduceAdd, Int.reduceToNat, Nat.reduceBEq, Int.reduceMul, Int.reduceSub, Nat.reduceSub, Int.reduceBNe, Nat.reduceBNe, Tlaw6_known, Tlaw6_light, gLt, gBBP, ↓asKs_b, ↓asKs_k, asB_b, asP_b, rC_cons, h, h6, ha, hb, hc, d0, d1, d2, g0, g1, g2]
  repeat' first | (with_reducible apply And.intro) | (with_reducible apply condP <;> intro _)
  all_goals first | (show chk _ _ = true; kernel_rfl) | assumption | (simp only [go_sem, *] <;> rfl) | rfl | (exfalso; simp_all only [Bool.true_eq_false, Bool.false_eq_true, reduceCtorEq]; done)
theorem v_bp_j3 (a b : List K) (qa qb qc qd : Kp) (l : List Kp) (n : Nat) (ha : decide ((70 : Int) < (qa.n : Int)) = false) (hb : decide ((70 : Int) < (qb.n : Int)) = false) (hc : decide ((70 : Int) < (qc.n : Int)) = false) (hd : decide ((70 : Int) < (qd.n : Int)) = true) (d0 : decide ((0 : Int) < (n : Int)) = true) (g0 : (0 < n) = True) (d1 : decide ((1 : Int) < (n : Int)) = true) (g1 : (1 < n) = True) (d2 : decide ((2 : Int) < (n : Int)) = true) (g2 : (2 < n) = True) (d3 : decide ((3 : Int) < (n : Int)) = true) (g3 : (3 < n) = True) (h : (lightK (a.map K.p) && lightK (b.map K.p)) = true) (h6 : decide ((6 : Int) < (n : Int)) = false) : Ct Tryz.prog 3 [kA_ a, kA_ b, .s (.sl false 3 n (rC (qa :: qb :: qc :: qd :: l)))] (· = bA true) := by
  refine ct_of (O := tblO (orT Tlaw6_known Tlaw6_light)) (by kernel_rfl) tyB_ok (fun w => tblO_ok (orT_ok Tlaw6_known_ok Tlaw6_light_ok) _ w) [] 1500 37 [.tmp 6] Tryz.func3 rfl Tryz.ntmps3 (by rw [Tryz.results3]) (by simp) rfl (fun hsm => ?_)
  simp (maxSteps := 10000000) only [go_sem, ↓reduceIte, Nat.reduceMul, Nat.reduceDiv, Nat.reduceAdd, Nat.reduceEqDiff, Nat.reduceLeDiff, Nat.reduceLT, reduceCtorEq, Int.reduceNeg, Int.reduceLT, Int.reduceLE, Int.reduceAdd, Int.reduceToNat, Nat.reduceBEq, Int.reduceMul, Int.reduceSub, Nat.reduceSub, Int.reduceBNe, Nat.reduceBNe, Tlaw6_known, Tlaw6_light, gLt, gBBP, ↓asKs_b, ↓asKs_k, asB_b, asP_b, rC_cons, h, h6, ha, hb, hc, hd, d0, d1, d2, d3, g0, g1, g2, g3]
  repeat' first | (with_reducible apply And.intro) | (with_reducible apply condP <;> intro _)
  all_goals first | (show chk _ _ = true; kernel_rfl) | assumption | (simp only [go_sem, *] <;> rfl) | rfl | (exfalso; simp_all only [Bool.true_eq_false, Bool.false_eq_true, reduceCtorEq]; done)
theorem v_bp_j4 (a b : List K) (qa qb qc qd qe : Kp) (l : List Kp) (n : Nat) (ha : decide ((70 : Int) < (qa.n : Int)) = false) (hb : decide ((70 : Int) < (qb.n : Int)) = false) (hc : decide ((70 : Int) < (qc.n : Int)) = false) (hd : decide ((70 : Int) < (qd.n : Int)) = false) (he : decide ((70 : Int) < (qe.n : Int)) = true) (d0 : decide ((0 : Int) < (n : Int)) = true) (g0 : (0 < n) = True) (d1 : decide ((1 : Int) < (n : Int)) = true) (g1 : (1 < n) = True) (d2 : decide ((2 : Int) < (n : Int)) = true) (g2 : (2 < n) = True) (d3 : decide ((3 : Int) < (n : Int)) = true) (g3 : (3 < n) = True) (d4 : decide ((4 : Int) < (n : Int)) = true) (g4 : (4 < n) = True) (h : (lightK (a.map K.p) && lightK (b.map K.p)) = true) (h6 : decide ((6 : Int) < (n : Int)) = false) : Ct Tryz.prog 3 [kA_ a, kA_ b, .s (.sl false 3 n (rC (qa :: qb :: qc :: qd :: qe :: l)))] (· = bA true) := by
  refine ct_of (O := tblO (orT Tlaw6_known Tlaw6_light)) (by kernel_rfl) tyB_ok (fun w => tblO_ok (orT_ok Tlaw6_known_ok Tlaw6_light_ok) _ w) [] 1500 37 [.tmp 6] Tryz.func3 rfl Tryz.ntmps3 (by rw [Tryz.results3]) (by simp) rfl (fun hsm => ?_)
  simp (maxSteps := 10000000) only [go_sem, ↓reduceIte, Nat.reduceMul, Nat.reduceDiv, Nat.reduceAdd, Nat.reduceEqDiff, Nat.reduceLeDiff, Nat.reduceLT, reduceCtorEq, Int.reduceNeg, Int.reduceLT, Int.reduceLE, Int.reduceAdd, Int.reduceToNat, Nat.reduceBEq, Int.reduceMul, Int.reduceSub, Nat.reduceSub, Int.reduceBNe, Nat.reduceBNe, Tlaw6_known, Tlaw6_light, gLt, gBBP, ↓asKs_b, ↓asKs_k, asB_b, asP_b, rC_cons, h, h6, ha, hb, hc, hd, he, d0, d1, d2, d3, d4, g0, g1, g2, g3, g4]
  repeat' first | (with_reducible apply And.intro) | (with_reducible apply condP <;> intro _)
  all_goals first | (show chk _ _ = true; kernel_rfl) | assumption | (simp only [go_sem, *] <;> rfl) | rfl | (exfalso; simp_all only [Bool.true_eq_false, Bool.false_eq_true, reduceCtorEq]; done)
theorem v_bp_j5 (a b : List K) (qa qb qc qd qe qg : Kp) (l : List Kp) (n : Nat) (ha : decide ((70 : Int) < (qa.n : Int)) = false) (hb : decide ((70 : Int) < (qb.n : Int)) = false) (hc : decide ((70 : Int) < (qc.n : Int)) = false) (hd : decide ((70 : Int) < (qd.n : Int)) = false) (he : decide ((70 : Int) < (qe.n : Int)) = false) (hg : decide ((70 : Int) < (qg.n : Int)) = true) (d0 : decide ((0 : Int) < (n : Int)) = true) (g0 : (0 < n) = True) (d1 : decide ((1 : Int) < (n : Int)) = true) (g1 : (1 < n) = True) (d2 : decide ((2 : Int) < (n : Int)) = true) (g2 : (2 < n) = True) (d3 : decide ((3 : Int) < (n : Int)) = true) (g3 : (3 < n) = True) (d4 : decide ((4 : Int) < (n : Int)) = true) (g4 : (4 < n) = True) (d5 : decide ((5 : Int) < (n : Int)) = true) (g5 : (5 < n) = True) (h : (lightK (a.map K.p) && lightK (b.map K.p)) = true) (h6 : decide ((6 : Int) < (n : Int)) = false) : Ct Tryz.prog 3 [kA_ a, kA_ b, .s (.sl false 3 n (rC (qa :: qb :: qc :: qd :: qe :: qg :: l)))] (· = bA true) := by
  refine ct_of (O := tblO (orT Tlaw6_known Tlaw6_light)) (by kernel_rfl) tyB_ok (fun w => tblO_ok (orT_ok Tlaw6_known_ok Tlaw6_light_ok) _ w) [] 1500 37 [.tmp 6] Tryz.func3 rfl Tryz.ntmps3 (by rw [Tryz.results3]) (by simp) rfl (fun hsm => ?_)
  simp (maxSteps := 10000000) only [go_sem, ↓reduceIte, Nat.reduceMul, Nat.reduceDiv, Nat.reduceAdd, Nat.reduceEqDiff, Nat.reduceLeDiff, Nat.reduceLT, reduceCtorEq, Int.reduceNeg, Int.reduceLT, Int.reduceLE, Int.reduceAdd, Int.reduceToNat, Nat.reduceBEq, Int.reduceMul, Int.reduceSub, Nat.reduceSub, Int.reduceBNe, Nat.reduceBNe, Tlaw6_known, Tlaw6_light, gLt, gBBP, ↓asKs_b, ↓asKs_k, asB_b, asP_b, rC_cons, h, h6, ha, hb, hc, hd, he, hg, d0, d1, d2, d3, d4, d5, g0, g1, g2, g3, g4, g5]
  repeat' first | (with_reducible apply And.intro) | (with_reducible apply condP <;> intro _)
  all_goals first | (show chk _ _ = true; kernel_rfl) | assumption | (simp only [go_sem, *] <;> rfl) | rfl | (exfalso; simp_all only [Bool.true_eq_false, Bool.false_eq_true, reduceCtorEq]; done)
end Go.Proofs.YthhaelnildaemaaGreatDoor
namespace Go.Proofs.YthhaelnildaemaaGreatDoor
open Go.ChangeShapes Go.WideShapes Go.ChangeAt Go.RowKit Go.Joins Nx
def JL (W : World) : List J → List Value → Prop
  | [], us => us = []
  | j :: l, us => ∃ (A : Option Addr) (n c : Nat) (B : Option Addr) (m d : Nat) (r : List Value), us = .bool j.lo.s :: .int .i64 j.lo.e :: .slice A n c :: .bool j.hi.s :: .int .i64 j.hi.e :: .slice B m d :: r ∧ Arg W A n c j.lo.xs ∧ Arg W B m d j.hi.xs ∧ JL W l r
def XL (W : World) : List X → List Value → Prop
  | [], us => us = []
  | x :: l, us => ∃ (A : Option Addr) (n c : Nat) (r : List Value), us = .bool x.s :: .int .i64 x.e :: .slice A n c :: r ∧ Arg W A n c x.xs ∧ XL W l r
theorem JL.len {W : World} : ∀ {l : List J} {us : List Value}, JL W l us → us.length = l.length * 6 := by
  intro l
  induction l with
  | nil => intro us h; rw [show us = [] from h]; rfl
  | cons j l ih => rintro us ⟨A, n, c, B, m, d, r, rfl, _, _, h⟩; simp only [List.length_cons, ih h]; omega
theorem XL.len {W : World} : ∀ {l : List X} {us : List Value}, XL W l us → us.length = l.length * 3 := by
  intro l
  induction l with
  | nil => intro us h; rw [show us = [] from h]; rfl
  | cons j l ih => rintro us ⟨A, n, c, r, rfl, _, h⟩; simp only [List.length_cons, ih h]; omega
def SlV (W : World) (v : Value) (n sz : Nat) (R : List Value → Prop) : Prop := ∃ (A : Option Addr) (c : Nat), v = .slice A n c ∧ n ≤ c ∧ (n = 0 ∨ ∃ (ad : Addr) (T : TypeId) (cs : Array Value), A = some ad ∧ ad.spot = none ∧ Wb W ad.block T cs ∧ ad.off + n * sz ≤ cs.size ∧ R ((cs.toList.drop ad.off).take (n * sz)))
def BoxV (W : World) (v : Value) (l : List J) : Prop := SlV W v l.length 6 (JL W l)
def PtsV (W : World) (v : Value) (l : List X) : Prop := SlV W v l.length 3 (XL W l)
section
variable {S : Nat → Prop} {W : World} {v : Value}
theorem JL.ws : ∀ {l : List J} {us : List Value}, JL W l us → (∀ j ∈ l, j.lo.xs.length ≤ 100000 ∧ j.hi.xs.length ≤ 100000) → LcL S W (bC l) us := by
  intro l
  induction l with
  | nil => intro us h _; exact h
  | cons j l ih =>
    rintro us ⟨A, n, c, B, m, d, r, rfl, hA, hB, h⟩ hs
    have h1 := hs j (List.mem_cons_self ..)
    exact ⟨_, _, rfl, rfl, _, _, rfl, rfl, _, _, rfl, ⟨A, n, c, rfl, hA, by rw [← hA.1.1]; exact h1.1⟩, _, _, rfl, rfl, _, _, rfl, rfl, _, _, rfl, ⟨B, m, d, rfl, hB, by rw [← hB.1.1]; exact h1.2⟩, ih h fun j hj => hs j (List.mem_cons_of_mem _ hj)⟩
theorem JL.raw : ∀ {l : List J} {us : List Value}, JL W l us → ∃ ks : List K, LcL S W (kC ks) us ∧ ks.map K.p = l.map J.p := by
  intro l
  induction l with
  | nil => intro us h; exact ⟨[], h, rfl⟩
  | cons j l ih =>
    rintro us ⟨A, n, c, B, m, d, r, rfl, hA, hB, h⟩
    obtain ⟨ks, h1, h2⟩ := ih h
    exact ⟨⟨.bool j.lo.s, .int .i64 j.lo.e, A, n, c, .bool j.hi.s, .int .i64 j.hi.e, B, m, d⟩ :: ks, ⟨_, _, rfl, rfl, _, _, rfl, rfl, _, _, rfl, rfl, _, _, rfl, rfl, _, _, rfl, rfl, _, _, rfl, rfl, h1⟩, by
      rw [List.map_cons, List.map_cons, h2]
      show (n, m) :: _ = (j.lo.xs.length, j.hi.xs.length) :: _
      rw [hA.1.1, hB.1.1]⟩
theorem XL.ws : ∀ {l : List X} {us : List Value}, XL W l us → (∀ j ∈ l, j.xs.length ≤ 100000) → LcL S W (pC l) us := by
  intro l
  induction l with
  | nil => intro us h _; exact h
  | cons j l ih =>
    rintro us ⟨A, n, c, r, rfl, hA, h⟩ hs
    have h1 := hs j (List.mem_cons_self ..)
    exact ⟨_, _, rfl, rfl, _, _, rfl, rfl, _, _, rfl, ⟨A, n, c, rfl, hA, by rw [← hA.1.1]; exact h1⟩, ih h fun j hj => hs j (List.mem_cons_of_mem _ hj)⟩
theorem XL.raw : ∀ {l : List X} {us : List Value}, XL W l us → ∃ ks : List Kp, LcL S W (rC ks) us ∧ ks.map Kp.n = l.map fun x => x.xs.length := by
  intro l
  induction l with
  | nil => intro us h; exact ⟨[], h, rfl⟩
  | cons j l ih =>
    rintro us ⟨A, n, c, r, rfl, hA, h⟩
    obtain ⟨ks, h1, h2⟩ := ih h
    exact ⟨⟨.bool j.s, .int .i64 j.e, A, n, c⟩ :: ks, ⟨_, _, rfl, rfl, _, _, rfl, rfl, _, _, rfl, rfl, h1⟩, by
      rw [List.map_cons, List.map_cons, h2]
      show n :: _ = j.xs.length :: _
      rw [hA.1.1]⟩
theorem SlV.R {n sz : Nat} {R : List Value → Prop} {ls : List Lc} (h : SlV W v n sz R) (hS : ∀ g, S g) (hl : ls.length = n * sz) (hR : ∀ us, R us → LcL S W ls us) : (Lc.sl sz n ls).R S W v := by
  obtain ⟨A, c, e, hc, h⟩ := h
  refine ⟨hl, A, c, e, hc, ?_⟩
  rcases h with rfl | ⟨ad, T, cs, e1, e2, hB, h3, h4⟩
  · exact .inl (List.eq_nil_of_length_eq_zero (by rw [hl]; exact Nat.zero_mul _))
  · exact .inr ⟨ad, T, cs, e1, e2, hS _, hB, by rw [hl]; exact h3, by rw [hl]; exact hR _ h4⟩
end
abbrev noD : Nat → Bool := fun _ => false
theorem noSep (g : Nat) : SepF false envA noD g := ⟨⟨fun b h => (by cases h), fun b h => (by cases h)⟩, fun h => (by cases h)⟩
section
variable {W : World} {v : Value}
theorem BoxV.ws {l : List J} (h : BoxV W v l) (hs : ∀ j ∈ l, j.lo.xs.length ≤ 100000 ∧ j.hi.xs.length ≤ 100000) : (bA_ l).R envA noD W v := RL.one.2 (h.R noSep (bC_len l) fun _ h => h.ws hs)
theorem PtsV.ws {l : List X} (h : PtsV W v l) (hs : ∀ j ∈ l, j.xs.length ≤ 100000) : (pA_ l).R envA noD W v := RL.one.2 (h.R noSep (pC_len l) fun _ h => h.ws hs)
theorem BoxV.raw {l : List J} (h : BoxV W v l) : ∃ ks : List K, (AV.s (.sl false 6 ks.length (kC ks))).R envA noD W v ∧ ks.map K.p = l.map J.p := by
  obtain ⟨A, c, e, hc, h⟩ := h
  rcases h with h | ⟨ad, T, cs, e1, e2, hB, h3, h4⟩
  · have : l = [] := List.eq_nil_of_length_eq_zero h
    subst this
    exact ⟨[], RL.one.2 ⟨rfl, A, c, e, hc, .inl rfl⟩, rfl⟩
  · obtain ⟨ks, h5, h6⟩ := JL.raw (S := SepF false envA noD) h4
    have hk : ks.length = l.length := by have := congrArg List.length h6; simpa using this
    exact ⟨ks, RL.one.2 ⟨kC_len ks, A, c, by rw [hk]; exact e, by rw [hk]; exact hc, .inr ⟨ad, T, cs, e1, e2, noSep _, hB, by rw [kC_len, hk]; exact h3, by rw [kC_len, hk]; exact h5⟩⟩, h6⟩
theorem PtsV.raw {l : List X} (h : PtsV W v l) : ∃ ks : List Kp, (AV.s (.sl false 3 ks.length (rC ks))).R envA noD W v ∧ ks.map Kp.n = l.map fun x => x.xs.length := by
  obtain ⟨A, c, e, hc, h⟩ := h
  rcases h with h | ⟨ad, T, cs, e1, e2, hB, h3, h4⟩
  · have : l = [] := List.eq_nil_of_length_eq_zero h
    subst this
    exact ⟨[], RL.one.2 ⟨rfl, A, c, e, hc, .inl rfl⟩, rfl⟩
  · obtain ⟨ks, h5, h6⟩ := XL.raw (S := SepF false envA noD) h4
    have hk : ks.length = l.length := by have := congrArg List.length h6; simpa using this
    exact ⟨ks, RL.one.2 ⟨rC_len ks, A, c, by rw [hk]; exact e, by rw [hk]; exact hc, .inr ⟨ad, T, cs, e1, e2, noSep _, hB, by rw [rC_len, hk]; exact h3, by rw [rC_len, hk]; exact h5⟩⟩, h6⟩
end
section
variable {H : Type} {enc : TypeId × Value → H} {W : World}
set_option maxRecDepth 100000 in
theorem num_cells {fuel : Nat} {cs : List Value} {y : DataW H × List MemPlace} (hl : cs.length = 3) (hf : DataW.trod enc Tryz.prog W 0 (fun _ => true) true fuel 28 cs = some y) :
    ∃ (x : X) (A : Option Addr) (n c : Nat), cs = [.bool x.s, .int .i64 x.e, .slice A n c] ∧ Arg W A n c x.xs := by
  match cs, hl with
  | [a0, a1, a2], _ =>
    obtain ⟨z0, z1, z2, m, _, _, g0, g1, g2⟩ := Go.Deep.trod_struct3 Tryz.underlying28 hf
    have g0 : DataW.trod enc Tryz.prog W 0 (fun _ => true) true m 4 [a0] = some z0 := g0
    have g1 : DataW.trod enc Tryz.prog W 0 (fun _ => true) true m 2 [a1] = some z1 := g1
    have g2 : DataW.trod enc Tryz.prog W 0 (fun _ => true) true m 26 [a2] = some z2 := g2
    obtain ⟨b, e0, rfl⟩ := DataW.trod_bool Tryz.underlying4 g0
    obtain ⟨i, e1, rfl, _⟩ := DataW.trod_int Tryz.underlying2 g1
    obtain ⟨A, n, c, xs, rfl, hx⟩ := view_cell g2
    simp at e0 e1
    subst e0 e1
    exact ⟨⟨b, i, xs⟩, A, n, c, rfl, hx⟩
set_option maxRecDepth 100000 in
theorem iv_cells {fuel : Nat} {cs : List Value} {y : DataW H × List MemPlace} (hl : cs.length = 6) (hf : DataW.trod enc Tryz.prog W 0 (fun _ => true) true fuel 40 cs = some y) :
    ∃ (j : J) (A : Option Addr) (n c : Nat) (B : Option Addr) (m d : Nat), cs = [.bool j.lo.s, .int .i64 j.lo.e, .slice A n c, .bool j.hi.s, .int .i64 j.hi.e, .slice B m d] ∧ Arg W A n c j.lo.xs ∧ Arg W B m d j.hi.xs := by
  match cs, hl with
  | [c0, c1, c2, c3, c4, c5], _ =>
    obtain ⟨y0, y1, n, hx, _, h0, h1⟩ := trod_struct2 Tryz.underlying40 hf
    have h0 : DataW.trod enc Tryz.prog W 0 (fun _ => true) true n 28 [c0, c1, c2] = some y0 := by
      have := h0
      simpa [cellsNum, Value.cells] using this
    have h1 : DataW.trod enc Tryz.prog W 0 (fun _ => true) true n 28 [c3, c4, c5] = some y1 := by
      have := h1
      simpa [cellsNum, Value.cells] using this
    obtain ⟨x, A, n1, k1, e1, ha⟩ := num_cells rfl h0
    obtain ⟨z, B, n2, k2, e2, hb⟩ := num_cells rfl h1
    injection e1 with e3 e1; injection e1 with e4 e1; injection e1 with e5 e1
    injection e2 with e6 e2; injection e2 with e7 e2; injection e2 with e8 e2
    subst e3; subst e4; subst e5; subst e6; subst e7; subst e8
    exact ⟨⟨x, z⟩, A, n1, k1, B, n2, k2, rfl, ha, hb⟩
theorem jl_of : ∀ (n : Nat) (c : List Value), (∀ i, i < n → ∃ (j : J) (A : Option Addr) (n c' : Nat) (B : Option Addr) (m d : Nat), (c.drop (i * 6)).take 6 = [.bool j.lo.s, .int .i64 j.lo.e, .slice A n c', .bool j.hi.s, .int .i64 j.hi.e, .slice B m d] ∧ Arg W A n c' j.lo.xs ∧ Arg W B m d j.hi.xs) → ∃ l : List J, l.length = n ∧ JL W l (c.take (n * 6)) := by
  intro n
  induction n with
  | zero => intro c _; exact ⟨[], rfl, by rw [Nat.zero_mul]; rfl⟩
  | succ n ih =>
    intro c h
    obtain ⟨j, A, a, b, B, m, d, e, h1, h2⟩ := h 0 (by omega)
    obtain ⟨l, h3, h4⟩ := ih (c.drop 6) fun i hi => by
      have := h (i + 1) (by omega)
      rwa [show (i + 1) * 6 = 6 + i * 6 by omega, ← List.drop_drop] at this
    rw [Nat.zero_mul, List.drop_zero] at e
    refine ⟨j :: l, by simp [h3], A, a, b, B, m, d, (c.drop 6).take (n * 6), ?_, h1, h2, h4⟩
    rw [show (n + 1) * 6 = 6 + n * 6 by omega, List.take_add, e]; rfl
theorem xl_of : ∀ (n : Nat) (c : List Value), (∀ i, i < n → ∃ (j : X) (A : Option Addr) (n c' : Nat), (c.drop (i * 3)).take 3 = [.bool j.s, .int .i64 j.e, .slice A n c'] ∧ Arg W A n c' j.xs) → ∃ l : List X, l.length = n ∧ XL W l (c.take (n * 3)) := by
  intro n
  induction n with
  | zero => intro c _; exact ⟨[], rfl, by rw [Nat.zero_mul]; rfl⟩
  | succ n ih =>
    intro c h
    obtain ⟨j, A, a, b, e, h1⟩ := h 0 (by omega)
    obtain ⟨l, h3, h4⟩ := ih (c.drop 3) fun i hi => by
      have := h (i + 1) (by omega)
      rwa [show (i + 1) * 3 = 3 + i * 3 by omega, ← List.drop_drop] at this
    rw [Nat.zero_mul, List.drop_zero] at e
    refine ⟨j :: l, by simp [h3], A, a, b, (c.drop 3).take (n * 3), ?_, h1, h4⟩
    rw [show (n + 1) * 3 = 3 + n * 3 by omega, List.take_add, e]; rfl
theorem blk_of {a : Addr} {n sz : Nat} (hn : 0 < n) (hz : 0 < sz) (h : ∀ i, i < n → ∃ cs : List Value, cs.length = sz ∧ ∀ k, k < sz → W.cell? ((a.add (i * sz)).add k) = cs[k]?) :
    a.spot = none ∧ ∃ (T : TypeId) (c : Array Value), Wb W a.block T c ∧ a.off + n * sz ≤ c.size ∧ ∀ i, i < n → ∀ cs : List Value, cs.length = sz → (∀ k, k < sz → W.cell? ((a.add (i * sz)).add k) = cs[k]?) → ((c.toList.drop a.off).drop (i * sz)).take sz = cs := by
  obtain ⟨g, o, sp⟩ := a
  have hsp : sp = none := by
    obtain ⟨cs, hl, h1⟩ := h 0 hn
    have h2 := h1 0 hz
    rw [Nat.zero_mul, List.getElem?_eq_getElem (by omega)] at h2
    have h2 : W.cell? ⟨g, o, sp⟩ = some (cs[0]'(by omega)) := h2
    cases sp with
    | none => rfl
    | some x =>
      unfold World.cell? at h2
      split at h2
      · simp at h2
      · cases h2
  subst hsp
  have hsome : ∀ i, i < n → ∀ k, k < sz → ∃ u, W.cell? ⟨g, o + i * sz + k, none⟩ = some u := fun i hi k hk => by
    obtain ⟨cs, hl, h1⟩ := h i hi
    have := h1 k hk
    rw [addr_add, addr_add, List.getElem?_eq_getElem (by omega)] at this
    exact ⟨_, this⟩
  obtain ⟨u, hu⟩ := hsome 0 hn 0 hz
  obtain ⟨c, T, hB⟩ : ∃ (c : Array Value) (T : TypeId), Wb W g T c := by
    unfold World.cell? at hu
    split at hu
    · rename_i c T fr hh; exact ⟨c, T, fr, hh⟩
    · cases hu
  have hsz : o + n * sz ≤ c.size := by
    obtain ⟨u, hu⟩ := hsome (n - 1) (by omega) (sz - 1) (by omega)
    rw [hB.cell] at hu
    have := (Array.getElem?_eq_some_iff.1 hu).1
    have h2 : (n - 1) * sz + sz = n * sz := by rw [← Nat.succ_mul]; congr 1; omega
    omega
  refine ⟨rfl, T, c, hB, hsz, fun i hi cs hl h1 => ?_⟩
  apply List.ext_getElem?
  intro k
  have h2 : (i + 1) * sz ≤ n * sz := Nat.mul_le_mul_right _ hi
  rw [Nat.succ_mul] at h2
  rcases Nat.lt_or_ge k sz with hk | hk
  · have h3 := h1 k hk
    rw [addr_add, addr_add, hB.cell] at h3
    rw [List.getElem?_take_of_lt hk, List.getElem?_drop, List.getElem?_drop, ← h3, ← Array.getElem?_toList]
    show c.toList[o + (i * sz + k)]? = _
    rw [Nat.add_assoc]
  · rw [List.getElem?_eq_none (by rw [List.length_take]; omega), List.getElem?_eq_none (by omega)]
set_option maxRecDepth 100000 in
theorem view_box {base : Nat} {v : Value} {d : DataW H} {p : List MemPlace} (hv : Value.okWide Tryz.prog W .any base 22 v) (h : DataW.Trod enc Tryz.prog W 0 (fun _ => true) true 22 v d p) : ∃ l : List J, BoxV W v l := by
  obtain ⟨A, n, c, rfl⟩ := okWide_slice Tryz.underlying22 hv
  obtain ⟨fuel, hf⟩ := h
  rcases DataW.trod_slice Tryz.underlying22 hf with ⟨hcs, _⟩ | ⟨a, len, cap, elems, rest, n', _, hcs, _, hb, hle, _, hlen, hel, _, _⟩
  · simp [Value.cells] at hcs
    obtain ⟨rfl, rfl, rfl⟩ := hcs
    exact ⟨[], none, 0, rfl, Nat.le_refl _, .inl rfl⟩
  · simp [Value.cells] at hcs
    obtain ⟨rfl, rfl, rfl⟩ := hcs
    rw [cellsIv] at hel
    have each : ∀ i, i < n → ∃ cs : List Value, cs.length = 6 ∧ (∀ k, k < 6 → W.cell? ((a.add (i * 6)).add k) = cs[k]?) ∧ ∃ (j : J) (A : Option Addr) (n c' : Nat) (B : Option Addr) (m d : Nat), cs = [.bool j.lo.s, .int .i64 j.lo.e, .slice A n c', .bool j.hi.s, .int .i64 j.hi.e, .slice B m d] ∧ Arg W A n c' j.lo.xs ∧ Arg W B m d j.hi.xs := fun i hi => by
      have := hel i hi
      rw [List.getElem?_eq_getElem (by omega)] at this
      obtain ⟨cs, h1, h2⟩ := Option.bind_eq_some_iff.1 this
      obtain ⟨_, h3, h4⟩ := World.cells?_some h1
      exact ⟨cs, h3, h4, iv_cells h3 h2⟩
    rcases Nat.eq_zero_or_pos n with rfl | hn
    · exact ⟨[], some a, c, rfl, Nat.zero_le _, .inl rfl⟩
    · obtain ⟨hsp, T, cs, hB, hsz, hcs⟩ := blk_of hn (by decide) fun i hi => (each i hi).imp fun cs h => ⟨h.1, h.2.1⟩
      obtain ⟨l, hl, hJ⟩ := jl_of (W := W) n (cs.toList.drop a.off) fun i hi => by
        obtain ⟨cs', h1, h2, j, A, n1, c1, B, m, d1, e, h3⟩ := each i hi
        exact ⟨j, A, n1, c1, B, m, d1, by rw [hcs i hi cs' h1 h2, e], h3⟩
      subst hl
      exact ⟨l, some a, c, rfl, hle, .inr ⟨a, T, cs, rfl, hsp, hB, hsz, hJ⟩⟩
set_option maxRecDepth 100000 in
theorem view_pts {base : Nat} {v : Value} {d : DataW H} {p : List MemPlace} (hv : Value.okWide Tryz.prog W .any base 23 v) (h : DataW.Trod enc Tryz.prog W 0 (fun _ => true) true 23 v d p) : ∃ l : List X, PtsV W v l := by
  obtain ⟨A, n, c, rfl⟩ := okWide_slice Tryz.underlying23 hv
  obtain ⟨fuel, hf⟩ := h
  rcases DataW.trod_slice Tryz.underlying23 hf with ⟨hcs, _⟩ | ⟨a, len, cap, elems, rest, n', _, hcs, _, hb, hle, _, hlen, hel, _, _⟩
  · simp [Value.cells] at hcs
    obtain ⟨rfl, rfl, rfl⟩ := hcs
    exact ⟨[], none, 0, rfl, Nat.le_refl _, .inl rfl⟩
  · simp [Value.cells] at hcs
    obtain ⟨rfl, rfl, rfl⟩ := hcs
    rw [cellsNum] at hel
    have each : ∀ i, i < n → ∃ cs : List Value, cs.length = 3 ∧ (∀ k, k < 3 → W.cell? ((a.add (i * 3)).add k) = cs[k]?) ∧ ∃ (j : X) (A : Option Addr) (n c' : Nat), cs = [.bool j.s, .int .i64 j.e, .slice A n c'] ∧ Arg W A n c' j.xs := fun i hi => by
      have := hel i hi
      rw [List.getElem?_eq_getElem (by omega)] at this
      obtain ⟨cs, h1, h2⟩ := Option.bind_eq_some_iff.1 this
      obtain ⟨_, h3, h4⟩ := World.cells?_some h1
      exact ⟨cs, h3, h4, num_cells h3 h2⟩
    rcases Nat.eq_zero_or_pos n with rfl | hn
    · exact ⟨[], some a, c, rfl, Nat.zero_le _, .inl rfl⟩
    · obtain ⟨hsp, T, cs, hB, hsz, hcs⟩ := blk_of hn (by decide) fun i hi => (each i hi).imp fun cs h => ⟨h.1, h.2.1⟩
      obtain ⟨l, hl, hJ⟩ := xl_of (W := W) n (cs.toList.drop a.off) fun i hi => by
        obtain ⟨cs', h1, h2, j, A, n1, c1, e, h3⟩ := each i hi
        exact ⟨j, A, n1, c1, by rw [hcs i hi cs' h1 h2, e], h3⟩
      subst hl
      exact ⟨l, some a, c, rfl, hle, .inr ⟨a, T, cs, rfl, hsp, hB, hsz, hJ⟩⟩
end
end Go.Proofs.YthhaelnildaemaaGreatDoor
namespace Go.Proofs.YthhaelnildaemaaGreatDoor
open Go.RowKit Nx
set_option linter.unusedVariables false
set_option linter.unusedSimpArgs false
theorem oldE (w : World) : Old envA noD w := ⟨fun b h => (by cases h), fun b g h => (by cases h), Nat.zero_le _⟩
theorem bool_of {f : FuncId} {args : List AV} {w : World} {us : List Value} (h : Ct Tryz.prog f args (· = bA true)) (ht : Tab w) (hA : RA envA noD w args us) : Calls Tryz.prog f us.toArray w fun e w' => e = .returned (.bool true) ∧ Below w.heap.size w w' := by
  refine (h _ _ _ _ ht hA).mono ?_
  rintro e w' ⟨u, r, rfl, rfl, _, hR, hb⟩
  have : u = .bool true := RL.one.1 (hR _ _ (oldE w))
  rw [this]; exact ⟨rfl, hb⟩
theorem lk_true {x y : Nat} (h : lk x y = true) : x ≤ 70 ∧ y ≤ 70 := by
  unfold lk at h
  cases h1 : decide ((70 : Int) < (x : Int)) with
  | true => rw [h1] at h; cases h
  | false =>
    cases h2 : decide ((70 : Int) < (y : Int)) with
    | true => rw [h1, h2] at h; cases h
    | false =>
      have := of_decide_eq_false h1; have := of_decide_eq_false h2
      omega
theorem lks_true : ∀ {l : List (Nat × Nat)}, lks l = true → ∀ p ∈ l, p.1 ≤ 70 ∧ p.2 ≤ 70 := by
  intro l
  induction l with
  | nil => intro _ p hp; cases hp
  | cons a l ih =>
    intro h p hp
    unfold lks at h
    rw [Bool.and_eq_true] at h
    rcases List.mem_cons.1 hp with rfl | hp
    · exact lk_true h.1
    · exact ih h.2 p hp
theorem lightK_true {l : List J} (h : lightK (l.map J.p) = true) : l.length ≤ 6 ∧ ∀ j ∈ l, j.lo.xs.length ≤ 70 ∧ j.hi.xs.length ≤ 70 := by
  unfold lightK at h
  rw [List.length_map] at h
  cases h1 : decide ((6 : Int) < (l.length : Int)) with
  | true => rw [h1] at h; cases h
  | false =>
    rw [h1] at h
    have h2 := of_decide_eq_false h1
    exact ⟨by omega, fun j hj => lks_true h (J.p j) (List.mem_map.2 ⟨j, hj, rfl⟩)⟩
theorem first_long : ∀ {ks : List Kp}, (∃ k ∈ ks, 70 < k.n) → ∃ pre q rest, ks = pre ++ q :: rest ∧ (∀ k ∈ pre, k.n ≤ 70) ∧ 70 < q.n := by
  intro ks
  induction ks with
  | nil => rintro ⟨k, h, _⟩; cases h
  | cons a l ih =>
    rintro ⟨k, hk, h⟩
    rcases Nat.lt_or_ge 70 a.n with ha | ha
    · exact ⟨[], a, l, rfl, fun k h => (by cases h), ha⟩
    · rcases List.mem_cons.1 hk with rfl | hk
      · omega
      · obtain ⟨pre, q, rest, rfl, h1, h2⟩ := ih ⟨k, hk, h⟩
        exact ⟨a :: pre, q, rest, rfl, fun k hk => by
          rcases List.mem_cons.1 hk with rfl | hk
          · exact ha
          · exact h1 k hk, h2⟩
theorem boxparts_walk (W : World) (v0 v1 v2 : Value) {a b : List J} {p : List X} (ha : BoxV W v0 a) (hb : BoxV W v1 b) (hp : PtsV W v2 p) (ht : Tab W) : Calls Tryz.prog 3 #[v0, v1, v2] W fun e w' => e = .returned (.bool true) ∧ Below W.heap.size W w' := by
  obtain ⟨ka, h1, e1⟩ := ha.raw
  obtain ⟨kb, h2, e2⟩ := hb.raw
  cases hl : lightK (a.map J.p) && lightK (b.map J.p) with
  | false => exact bool_of (v_bp_h ka kb v2 (by rw [e1, e2]; exact hl)) ht ⟨_, _, rfl, h1, _, _, rfl, h2, _, _, rfl, RL.one.2 rfl, rfl⟩
  | true =>
    have hk : (lightK (ka.map K.p) && lightK (kb.map K.p)) = true := by rw [e1, e2]; exact hl
    rcases Nat.lt_or_ge 6 p.length with h6 | h6
    · obtain ⟨A, c, rfl, _⟩ := hp
      exact bool_of (v_bp_i ka kb A p.length c hk (decide_eq_true (by omega))) ht ⟨_, _, rfl, h1, _, _, rfl, h2, _, _, rfl, RL.one.2 rfl, rfl⟩
    · by_cases hs : ∀ x ∈ p, x.xs.length ≤ 70
      · rw [Bool.and_eq_true] at hl
        obtain ⟨l1, l2⟩ := lightK_true hl.1
        obtain ⟨_, l3⟩ := lightK_true hl.2
        have r1 := ha.ws fun j hj => by have := l2 j hj; omega
        have r2 := hb.ws fun j hj => by have := l3 j hj; omega
        have r3 := hp.ws fun j hj => by have := hs j hj; omega
        have hA : RA envA noD W [bA_ a, bA_ b, pA_ p] [v0, v1, v2] := ⟨_, _, rfl, r1, _, _, rfl, r2, _, _, rfl, r3, rfl⟩
        clear r1 r2 r3 hk hp
        match p, h6, hs, hA with
        | [], _, _, hA => exact bool_of (v_bp0 a b   hl.1 hl.2 l1) ht hA
        | [xa], _, hs, hA => exact bool_of (v_bp1 a b xa (decide_eq_false (by have := hs xa (by simp); omega)) hl.1 hl.2 l1) ht hA
        | [xa, xb], _, hs, hA => exact bool_of (v_bp2 a b xa xb (decide_eq_false (by have := hs xa (by simp); omega)) (decide_eq_false (by have := hs xb (by simp); omega)) hl.1 hl.2 l1) ht hA
        | [xa, xb, xc], _, hs, hA => exact bool_of (v_bp3 a b xa xb xc (decide_eq_false (by have := hs xa (by simp); omega)) (decide_eq_false (by have := hs xb (by simp); omega)) (decide_eq_false (by have := hs xc (by simp); omega)) hl.1 hl.2 l1) ht hA
        | [xa, xb, xc, xd], _, hs, hA => exact bool_of (v_bp4 a b xa xb xc xd (decide_eq_false (by have := hs xa (by simp); omega)) (decide_eq_false (by have := hs xb (by simp); omega)) (decide_eq_false (by have := hs xc (by simp); omega)) (decide_eq_false (by have := hs xd (by simp); omega)) hl.1 hl.2 l1) ht hA
        | [xa, xb, xc, xd, xe], _, hs, hA => exact bool_of (v_bp5 a b xa xb xc xd xe (decide_eq_false (by have := hs xa (by simp); omega)) (decide_eq_false (by have := hs xb (by simp); omega)) (decide_eq_false (by have := hs xc (by simp); omega)) (decide_eq_false (by have := hs xd (by simp); omega)) (decide_eq_false (by have := hs xe (by simp); omega)) hl.1 hl.2 l1) ht hA
        | [xa, xb, xc, xd, xe, xg], _, hs, hA => exact bool_of (v_bp6 a b xa xb xc xd xe xg (decide_eq_false (by have := hs xa (by simp); omega)) (decide_eq_false (by have := hs xb (by simp); omega)) (decide_eq_false (by have := hs xc (by simp); omega)) (decide_eq_false (by have := hs xd (by simp); omega)) (decide_eq_false (by have := hs xe (by simp); omega)) (decide_eq_false (by have := hs xg (by simp); omega)) hl.1 hl.2 l1) ht hA
        | _ :: _ :: _ :: _ :: _ :: _ :: _ :: _, h, _, _ => exact absurd h (by simp)
      · obtain ⟨kp, h3, e3⟩ := hp.raw
        have hn : kp.length = p.length := by have := congrArg List.length e3; simpa using this
        have hx : ∃ k ∈ kp, 70 < k.n := by
          refine Classical.byContradiction fun hc => hs fun x hx => ?_
          have hm : x.xs.length ∈ kp.map Kp.n := by rw [e3]; exact List.mem_map.2 ⟨x, hx, rfl⟩
          obtain ⟨k, hk1, hk2⟩ := List.mem_map.1 hm
          rcases Nat.lt_or_ge 70 k.n with h | h
          · exact absurd ⟨k, hk1, h⟩ hc
          · omega
        obtain ⟨pre, q, rest, rfl, h7, h8⟩ := first_long hx
        have hlen : (pre ++ q :: rest).length ≤ 6 := by omega
        have hlp : pre.length < (pre ++ q :: rest).length := by simp
        have hA : RA envA noD W [kA_ ka, kA_ kb, .s (.sl false 3 (pre ++ q :: rest).length (rC (pre ++ q :: rest)))] [v0, v1, v2] := ⟨_, _, rfl, h1, _, _, rfl, h2, _, _, rfl, h3, rfl⟩
        clear h1 h2 h3 e3 hx hn
        have h9 : decide ((6 : Int) < ((pre ++ q :: rest).length : Int)) = false := decide_eq_false (by omega)
        have hq : decide ((70 : Int) < (q.n : Int)) = true := decide_eq_true (by omega)
        match pre, h7, hlen, hlp, hA, h9 with
        | [], _, _, hlp, hA, h9 => exact bool_of (v_bp_j0 ka kb  q rest _  hq (decide_eq_true (by simp only [List.length_cons, List.length_append, List.length_nil] at hlp ⊢; omega)) (eq_true (by simp only [List.length_cons, List.length_append, List.length_nil] at hlp ⊢; omega)) hk h9) ht hA
        | [qa], h7, _, hlp, hA, h9 => exact bool_of (v_bp_j1 ka kb qa q rest _ (decide_eq_false (by have := h7 qa (by simp); omega)) hq (decide_eq_true (by simp only [List.length_cons, List.length_append, List.length_nil] at hlp ⊢; omega)) (eq_true (by simp only [List.length_cons, List.length_append, List.length_nil] at hlp ⊢; omega)) (decide_eq_true (by simp only [List.length_cons, List.length_append, List.length_nil] at hlp ⊢; omega)) (eq_true (by simp only [List.length_cons, List.length_append, List.length_nil] at hlp ⊢; omega)) hk h9) ht hA
        | [qa, qb], h7, _, hlp, hA, h9 => exact bool_of (v_bp_j2 ka kb qa qb q rest _ (decide_eq_false (by have := h7 qa (by simp); omega)) (decide_eq_false (by have := h7 qb (by simp); omega)) hq (decide_eq_true (by simp only [List.length_cons, List.length_append, List.length_nil] at hlp ⊢; omega)) (eq_true (by simp only [List.length_cons, List.length_append, List.length_nil] at hlp ⊢; omega)) (decide_eq_true (by simp only [List.length_cons, List.length_append, List.length_nil] at hlp ⊢; omega)) (eq_true (by simp only [List.length_cons, List.length_append, List.length_nil] at hlp ⊢; omega)) (decide_eq_true (by simp only [List.length_cons, List.length_append, List.length_nil] at hlp ⊢; omega)) (eq_true (by simp only [List.length_cons, List.length_append, List.length_nil] at hlp ⊢; omega)) hk h9) ht hA
        | [qa, qb, qc], h7, _, hlp, hA, h9 => exact bool_of (v_bp_j3 ka kb qa qb qc q rest _ (decide_eq_false (by have := h7 qa (by simp); omega)) (decide_eq_false (by have := h7 qb (by simp); omega)) (decide_eq_false (by have := h7 qc (by simp); omega)) hq (decide_eq_true (by simp only [List.length_cons, List.length_append, List.length_nil] at hlp ⊢; omega)) (eq_true (by simp only [List.length_cons, List.length_append, List.length_nil] at hlp ⊢; omega)) (decide_eq_true (by simp only [List.length_cons, List.length_append, List.length_nil] at hlp ⊢; omega)) (eq_true (by simp only [List.length_cons, List.length_append, List.length_nil] at hlp ⊢; omega)) (decide_eq_true (by simp only [List.length_cons, List.length_append, List.length_nil] at hlp ⊢; omega)) (eq_true (by simp only [List.length_cons, List.length_append, List.length_nil] at hlp ⊢; omega)) (decide_eq_true (by simp only [List.length_cons, List.length_append, List.length_nil] at hlp ⊢; omega)) (eq_true (by simp only [List.length_cons, List.length_append, List.length_nil] at hlp ⊢; omega)) hk h9) ht hA
        | [qa, qb, qc, qd], h7, _, hlp, hA, h9 => exact bool_of (v_bp_j4 ka kb qa qb qc qd q rest _ (decide_eq_false (by have := h7 qa (by simp); omega)) (decide_eq_false (by have := h7 qb (by simp); omega)) (decide_eq_false (by have := h7 qc (by simp); omega)) (decide_eq_false (by have := h7 qd (by simp); omega)) hq (decide_eq_true (by simp only [List.length_cons, List.length_append, List.length_nil] at hlp ⊢; omega)) (eq_true (by simp only [List.length_cons, List.length_append, List.length_nil] at hlp ⊢; omega)) (decide_eq_true (by simp only [List.length_cons, List.length_append, List.length_nil] at hlp ⊢; omega)) (eq_true (by simp only [List.length_cons, List.length_append, List.length_nil] at hlp ⊢; omega)) (decide_eq_true (by simp only [List.length_cons, List.length_append, List.length_nil] at hlp ⊢; omega)) (eq_true (by simp only [List.length_cons, List.length_append, List.length_nil] at hlp ⊢; omega)) (decide_eq_true (by simp only [List.length_cons, List.length_append, List.length_nil] at hlp ⊢; omega)) (eq_true (by simp only [List.length_cons, List.length_append, List.length_nil] at hlp ⊢; omega)) (decide_eq_true (by simp only [List.length_cons, List.length_append, List.length_nil] at hlp ⊢; omega)) (eq_true (by simp only [List.length_cons, List.length_append, List.length_nil] at hlp ⊢; omega)) hk h9) ht hA
        | [qa, qb, qc, qd, qe], h7, _, hlp, hA, h9 => exact bool_of (v_bp_j5 ka kb qa qb qc qd qe q rest _ (decide_eq_false (by have := h7 qa (by simp); omega)) (decide_eq_false (by have := h7 qb (by simp); omega)) (decide_eq_false (by have := h7 qc (by simp); omega)) (decide_eq_false (by have := h7 qd (by simp); omega)) (decide_eq_false (by have := h7 qe (by simp); omega)) hq (decide_eq_true (by simp only [List.length_cons, List.length_append, List.length_nil] at hlp ⊢; omega)) (eq_true (by simp only [List.length_cons, List.length_append, List.length_nil] at hlp ⊢; omega)) (decide_eq_true (by simp only [List.length_cons, List.length_append, List.length_nil] at hlp ⊢; omega)) (eq_true (by simp only [List.length_cons, List.length_append, List.length_nil] at hlp ⊢; omega)) (decide_eq_true (by simp only [List.length_cons, List.length_append, List.length_nil] at hlp ⊢; omega)) (eq_true (by simp only [List.length_cons, List.length_append, List.length_nil] at hlp ⊢; omega)) (decide_eq_true (by simp only [List.length_cons, List.length_append, List.length_nil] at hlp ⊢; omega)) (eq_true (by simp only [List.length_cons, List.length_append, List.length_nil] at hlp ⊢; omega)) (decide_eq_true (by simp only [List.length_cons, List.length_append, List.length_nil] at hlp ⊢; omega)) (eq_true (by simp only [List.length_cons, List.length_append, List.length_nil] at hlp ⊢; omega)) (decide_eq_true (by simp only [List.length_cons, List.length_append, List.length_nil] at hlp ⊢; omega)) (eq_true (by simp only [List.length_cons, List.length_append, List.length_nil] at hlp ⊢; omega)) hk h9) ht hA
        | _ :: _ :: _ :: _ :: _ :: _ :: _, _, h, _, _, _ => exact absurd h (by simp only [List.length_cons, List.length_append]; omega)
end Go.Proofs.YthhaelnildaemaaGreatDoor
