/- The document's boxes: right, points, same, has, in, hull, meet. -/
import Derived.Test.YtcpfepjdeikchaaGreatDoorUAl2
import Derived.Test.YtcpfepjdeikchaaGreatDoorUAi2
namespace Go.Proofs.YtcpfepjdeikchaaGreatDoor
open Go.RowKit Nx
set_option linter.unusedVariables false
set_option linter.unusedSimpArgs false
set_option maxRecDepth 100000
set_option maxHeartbeats 4000000
attribute [local go_sem] run init X.L J.L vL X.eta J.eta Q.eta List.cons_append List.nil_append brkK brkf_b brkf_t exef_some exif_some condf_b opf bodyE addR skipE stepOp stepLoad stepStore stepField stepCall stepBS stepBi stepCv stepIx lpf hdS hd1 pick forget inL mentA ment dom evs evl evp evd okeys look fillA capsOf wordsOf rowsOf lenOf convK binV shV intV unV boolT tyT tiB tiI tiW tiD tiF tiR tiU tiNum tiIv tiVal tiSc okLf okD keysOf tblO cvA cvL dnL olA olL noO noA cbL cbA orT noT one asNum asIv asVal postf_some resA tupA clA clL dropTo decide_true decide_false List.all_cons List.all_nil Bool.and_true Bool.and_self true_and and_true and_self List.length_cons List.length_nil List.drop_succ_cons List.drop_zero List.take_succ_cons List.take_zero List.getElem?_cons_zero List.getElem?_cons_succ List.map_cons List.map_nil false_implies true_implies Option.bind_some List.getElem?_toArray Bool.false_eq_true List.append_nil List.flatMap_cons List.flatMap_nil true_or or_true forall_const List.reverse_cons List.reverse_nil Option.isSome_some Option.any_some Nat.lt_irrefl not_true_eq_false Bool.not_true Bool.not_false imp_self implies_true Bool.not_eq_true' Bool.not_eq_false' Bool.true_eq_false memOf cntF nmL rnL nmA rnA isV contsOf ndB refO orO pin Int.toNat_zero decide_eq_true_eq wrap0 wrap1 ci1 ci2 BEq.rfl beq_self_eq_true Int.natCast_zero ge_iff_le gt_iff_lt Int.le_refl Nat.zero_mul Nat.one_mul Nat.zero_add Nat.zero_lt_succ Nat.lt_add_one Nat.le_refl Int.toNat_natCast gN gNN gNI gI gNNIB gNIB gJ gJJ gJN gJJI gJI stepB0 stepMk stepSl stepAp apY optI okO nilV slT resB outPs outLs outL dnT noE boxL_nil boxL_cons ptsL_nil ptsL_cons bxe pxe bne_self_eq_false wr2 wr3 wr4 wr5 wr6 wr7 wr8 gB gP gBB gBP gBZ gBBZ asB asP nilB asJs asXs wsOf bC_nil bC_cons pC_nil pC_cons fvO Lc.up tyB tiS tiBB List.replicate_succ List.replicate_zero List.flatten_cons List.flatten_nil Int.ofNat_lt Int.cast_ofNat_Int Int.ofNat_eq_natCast List.isEmpty_nil List.isEmpty_cons and_false false_and List.cons_ne_nil Nat.add_zero ite_true ite_false if_true if_false Nat.le_zero_eq eq_self Bool.and_false Bool.false_and Bool.true_and AV.s cond_true cond_false Bool.or_true Bool.true_or Bool.or_false Bool.false_or
attribute [local go_sem ↓] cond_true cond_false not_cond outL_box outL_pts clL_box clL_pts okL_box okL_pts ment_box ment_pts olL_box olL_pts cvL_box cvL_pts noO_box noO_pts asB_box asP_pts len_box len_pts
attribute [local irreducible] chk
theorem y_right0  : Ct Tryz.prog 51 [bA_ []] (· = bA (rightB [])) := by
  refine ct_of (O := tblO Tref_RightIv) (by kernel_rfl) tyB_ok (fun w => tblO_ok Tref_RightIv_ok _ w) [] 2000 28 [.tmp 2] Tryz.func51 rfl Tryz.ntmps51 (by rw [Tryz.results51]) (by simp) rfl (fun hsm => ?_)
  simp (maxSteps := 10000000) only [go_sem, ↓reduceIte, Nat.reduceMul, Nat.reduceDiv, Nat.reduceAdd, Nat.reduceEqDiff, Nat.reduceLeDiff, Nat.reduceLT, reduceCtorEq, Int.reduceNeg, Int.reduceLT, Int.reduceLE, Int.reduceAdd, Int.reduceToNat, Nat.reduceBEq, Int.reduceMul, Int.reduceSub, Nat.reduceSub, Int.reduceBNe, Nat.reduceBNe, Tref_RightIv]
  repeat' first | (with_reducible apply And.intro) | (with_reducible apply condP <;> intro _)
  all_goals first | (show chk _ _ = true; kernel_rfl) | assumption | (simp only [go_sem, *, Nat.reduceAdd, rightB, Nat.reduceLeDiff, Bool.and_comm] <;> rfl) | rfl | (exfalso; simp_all only [Bool.true_eq_false, Bool.false_eq_true, reduceCtorEq]; done)
theorem y_right1 (a : J) : Ct Tryz.prog 51 [bA_ [a]] (· = bA (rightB [a])) := by
  refine ct_of (O := tblO Tref_RightIv) (by kernel_rfl) tyB_ok (fun w => tblO_ok Tref_RightIv_ok _ w) [] 2000 28 [.tmp 2] Tryz.func51 rfl Tryz.ntmps51 (by rw [Tryz.results51]) (by simp) rfl (fun hsm => ?_)
  simp (maxSteps := 10000000) only [go_sem, ↓reduceIte, Nat.reduceMul, Nat.reduceDiv, Nat.reduceAdd, Nat.reduceEqDiff, Nat.reduceLeDiff, Nat.reduceLT, reduceCtorEq, Int.reduceNeg, Int.reduceLT, Int.reduceLE, Int.reduceAdd, Int.reduceToNat, Nat.reduceBEq, Int.reduceMul, Int.reduceSub, Nat.reduceSub, Int.reduceBNe, Nat.reduceBNe, Tref_RightIv]
  repeat' first | (with_reducible apply And.intro) | (with_reducible apply condP <;> intro _)
  all_goals first | (show chk _ _ = true; kernel_rfl) | assumption | (simp only [go_sem, *, Nat.reduceAdd, rightB, Nat.reduceLeDiff, Bool.and_comm] <;> rfl) | rfl | (exfalso; simp_all only [Bool.true_eq_false, Bool.false_eq_true, reduceCtorEq]; done)
theorem y_right2 (a b : J) : Ct Tryz.prog 51 [bA_ [a, b]] (· = bA (rightB [a, b])) := by
  refine ct_of (O := tblO Tref_RightIv) (by kernel_rfl) tyB_ok (fun w => tblO_ok Tref_RightIv_ok _ w) [] 2000 28 [.tmp 2] Tryz.func51 rfl Tryz.ntmps51 (by rw [Tryz.results51]) (by simp) rfl (fun hsm => ?_)
  simp (maxSteps := 10000000) only [go_sem, ↓reduceIte, Nat.reduceMul, Nat.reduceDiv, Nat.reduceAdd, Nat.reduceEqDiff, Nat.reduceLeDiff, Nat.reduceLT, reduceCtorEq, Int.reduceNeg, Int.reduceLT, Int.reduceLE, Int.reduceAdd, Int.reduceToNat, Nat.reduceBEq, Int.reduceMul, Int.reduceSub, Nat.reduceSub, Int.reduceBNe, Nat.reduceBNe, Tref_RightIv]
  repeat' first | (with_reducible apply And.intro) | (with_reducible apply condP <;> intro _)
  all_goals first | (show chk _ _ = true; kernel_rfl) | assumption | (simp only [go_sem, *, Nat.reduceAdd, rightB, Nat.reduceLeDiff, Bool.and_comm] <;> rfl) | rfl | (exfalso; simp_all only [Bool.true_eq_false, Bool.false_eq_true, reduceCtorEq]; done)
theorem y_right3 (a b c : J) : Ct Tryz.prog 51 [bA_ [a, b, c]] (· = bA (rightB [a, b, c])) := by
  refine ct_of (O := tblO Tref_RightIv) (by kernel_rfl) tyB_ok (fun w => tblO_ok Tref_RightIv_ok _ w) [] 2000 28 [.tmp 2] Tryz.func51 rfl Tryz.ntmps51 (by rw [Tryz.results51]) (by simp) rfl (fun hsm => ?_)
  simp (maxSteps := 10000000) only [go_sem, ↓reduceIte, Nat.reduceMul, Nat.reduceDiv, Nat.reduceAdd, Nat.reduceEqDiff, Nat.reduceLeDiff, Nat.reduceLT, reduceCtorEq, Int.reduceNeg, Int.reduceLT, Int.reduceLE, Int.reduceAdd, Int.reduceToNat, Nat.reduceBEq, Int.reduceMul, Int.reduceSub, Nat.reduceSub, Int.reduceBNe, Nat.reduceBNe, Tref_RightIv]
  repeat' first | (with_reducible apply And.intro) | (with_reducible apply condP <;> intro _)
  all_goals first | (show chk _ _ = true; kernel_rfl) | assumption | (simp only [go_sem, *, Nat.reduceAdd, rightB, Nat.reduceLeDiff, Bool.and_comm] <;> rfl) | rfl | (exfalso; simp_all only [Bool.true_eq_false, Bool.false_eq_true, reduceCtorEq]; done)
theorem y_right4 (a b c d : J) : Ct Tryz.prog 51 [bA_ [a, b, c, d]] (· = bA (rightB [a, b, c, d])) := by
  refine ct_of (O := tblO Tref_RightIv) (by kernel_rfl) tyB_ok (fun w => tblO_ok Tref_RightIv_ok _ w) [] 2000 28 [.tmp 2] Tryz.func51 rfl Tryz.ntmps51 (by rw [Tryz.results51]) (by simp) rfl (fun hsm => ?_)
  simp (maxSteps := 10000000) only [go_sem, ↓reduceIte, Nat.reduceMul, Nat.reduceDiv, Nat.reduceAdd, Nat.reduceEqDiff, Nat.reduceLeDiff, Nat.reduceLT, reduceCtorEq, Int.reduceNeg, Int.reduceLT, Int.reduceLE, Int.reduceAdd, Int.reduceToNat, Nat.reduceBEq, Int.reduceMul, Int.reduceSub, Nat.reduceSub, Int.reduceBNe, Nat.reduceBNe, Tref_RightIv]
  repeat' first | (with_reducible apply And.intro) | (with_reducible apply condP <;> intro _)
  all_goals first | (show chk _ _ = true; kernel_rfl) | assumption | (simp only [go_sem, *, Nat.reduceAdd, rightB, Nat.reduceLeDiff, Bool.and_comm] <;> rfl) | rfl | (exfalso; simp_all only [Bool.true_eq_false, Bool.false_eq_true, reduceCtorEq]; done)
theorem y_right5 (a b c d e : J) (l : List J) (n : Nat) (h0 : decide ((0 : Int) < (n : Int)) = true) (g0 : (0 < n) = True) (h1 : decide ((1 : Int) < (n : Int)) = true) (g1 : (1 < n) = True) (h2 : decide ((2 : Int) < (n : Int)) = true) (g2 : (2 < n) = True) (h3 : decide ((3 : Int) < (n : Int)) = true) (g3 : (3 < n) = True) (h4 : decide ((n : Int) ≤ 4) = false) : Ct Tryz.prog 51 [.s (.sl false 6 n (bC (a :: b :: c :: d :: e :: l)))] (· = bA false) := by
  refine ct_of (O := tblO Tref_RightIv) (by kernel_rfl) tyB_ok (fun w => tblO_ok Tref_RightIv_ok _ w) [] 2000 28 [.tmp 2] Tryz.func51 rfl Tryz.ntmps51 (by rw [Tryz.results51]) (by simp) rfl (fun hsm => ?_)
  simp (maxSteps := 10000000) only [go_sem, ↓reduceIte, Nat.reduceMul, Nat.reduceDiv, Nat.reduceAdd, Nat.reduceEqDiff, Nat.reduceLeDiff, Nat.reduceLT, reduceCtorEq, Int.reduceNeg, Int.reduceLT, Int.reduceLE, Int.reduceAdd, Int.reduceToNat, Nat.reduceBEq, Int.reduceMul, Int.reduceSub, Nat.reduceSub, Int.reduceBNe, Nat.reduceBNe, Tref_RightIv, h0, h1, h2, h3, h4, g0, g1, g2, g3]
  repeat' first | (with_reducible apply And.intro) | (with_reducible apply condP <;> intro _)
  all_goals first | (show chk _ _ = true; kernel_rfl) | assumption | (simp only [go_sem, *, Nat.reduceAdd] <;> rfl) | rfl | (exfalso; simp_all only [Bool.true_eq_false, Bool.false_eq_true, reduceCtorEq]; done)
theorem y_right (l : List J) : Ct Tryz.prog 51 [bA_ l] (· = bA (rightB l)) := match l with
  | [] => y_right0
  | [a] => y_right1 a
  | [a, b] => y_right2 a b
  | [a, b, c] => y_right3 a b c
  | [a, b, c, d] => y_right4 a b c d
  | a :: b :: c :: d :: e :: l => by
    have hr : rightB (a :: b :: c :: d :: e :: l) = false := by
      unfold rightB
      rw [show decide ((a :: b :: c :: d :: e :: l).length ≤ 4) = false from decide_eq_false (by simp)]
      simp
    rw [hr]
    have hn : 5 ≤ (a :: b :: c :: d :: e :: l).length := by simp
    exact y_right5 a b c d e l _ (decide_eq_true (by omega)) (eq_true (by omega)) (decide_eq_true (by omega)) (eq_true (by omega)) (decide_eq_true (by omega)) (eq_true (by omega)) (decide_eq_true (by omega)) (eq_true (by omega)) (decide_eq_false (by omega))
noncomputable def T6_Right : Tbl := one 51 (gB fun l => (True, bA (rightB l)))
theorem T6_Right_ok : TbOK Tryz.prog T6_Right := one_ok (ent Tryz.func51 (by kernel_rfl) rfl) fun args e h hp => gB_ct (fun l _ => y_right l) h hp
def pts (l : List X) : List J := l.map fun x => ⟨x, x⟩
theorem y_points0  : Ct Tryz.prog 58 [pA_ []] (· = .s (boxL (pts []))) := by
  refine ct_of (O := tblO Tref_Point) (by kernel_rfl) tyB_ok (fun w => tblO_ok Tref_Point_ok _ w) [34, 35] 2000 20 [.tmp 2] Tryz.func58 rfl Tryz.ntmps58 (by rw [Tryz.results58]) (by simp) rfl (fun hsm => ?_)
  simp (maxSteps := 10000000) only [go_sem, ↓reduceIte, Nat.reduceMul, Nat.reduceDiv, Nat.reduceAdd, Nat.reduceEqDiff, Nat.reduceLeDiff, Nat.reduceLT, reduceCtorEq, Int.reduceNeg, Int.reduceLT, Int.reduceLE, Int.reduceAdd, Int.reduceToNat, Nat.reduceBEq, Int.reduceMul, Int.reduceSub, Nat.reduceSub, Int.reduceBNe, Nat.reduceBNe, Tref_Point]
  repeat' first | (with_reducible apply And.intro) | (with_reducible apply condP <;> intro _)
  all_goals first | (show chk _ _ = true; kernel_rfl) | assumption | (simp only [go_sem, *, Nat.reduceAdd, pts] <;> rfl) | rfl | (exfalso; simp_all only [Bool.true_eq_false, Bool.false_eq_true, reduceCtorEq]; done)
theorem y_points1 (a : X) : Ct Tryz.prog 58 [pA_ [a]] (· = .s (boxL (pts [a]))) := by
  refine ct_of (O := tblO Tref_Point) (by kernel_rfl) tyB_ok (fun w => tblO_ok Tref_Point_ok _ w) [34, 35] 2000 20 [.tmp 2] Tryz.func58 rfl Tryz.ntmps58 (by rw [Tryz.results58]) (by simp) rfl (fun hsm => ?_)
  simp (maxSteps := 10000000) only [go_sem, ↓reduceIte, Nat.reduceMul, Nat.reduceDiv, Nat.reduceAdd, Nat.reduceEqDiff, Nat.reduceLeDiff, Nat.reduceLT, reduceCtorEq, Int.reduceNeg, Int.reduceLT, Int.reduceLE, Int.reduceAdd, Int.reduceToNat, Nat.reduceBEq, Int.reduceMul, Int.reduceSub, Nat.reduceSub, Int.reduceBNe, Nat.reduceBNe, Tref_Point]
  repeat' first | (with_reducible apply And.intro) | (with_reducible apply condP <;> intro _)
  all_goals first | (show chk _ _ = true; kernel_rfl) | assumption | (simp only [go_sem, *, Nat.reduceAdd, pts] <;> rfl) | rfl | (exfalso; simp_all only [Bool.true_eq_false, Bool.false_eq_true, reduceCtorEq]; done)
theorem y_points2 (a b : X) : Ct Tryz.prog 58 [pA_ [a, b]] (· = .s (boxL (pts [a, b]))) := by
  refine ct_of (O := tblO Tref_Point) (by kernel_rfl) tyB_ok (fun w => tblO_ok Tref_Point_ok _ w) [34, 35] 2000 20 [.tmp 2] Tryz.func58 rfl Tryz.ntmps58 (by rw [Tryz.results58]) (by simp) rfl (fun hsm => ?_)
  simp (maxSteps := 10000000) only [go_sem, ↓reduceIte, Nat.reduceMul, Nat.reduceDiv, Nat.reduceAdd, Nat.reduceEqDiff, Nat.reduceLeDiff, Nat.reduceLT, reduceCtorEq, Int.reduceNeg, Int.reduceLT, Int.reduceLE, Int.reduceAdd, Int.reduceToNat, Nat.reduceBEq, Int.reduceMul, Int.reduceSub, Nat.reduceSub, Int.reduceBNe, Nat.reduceBNe, Tref_Point]
  repeat' first | (with_reducible apply And.intro) | (with_reducible apply condP <;> intro _)
  all_goals first | (show chk _ _ = true; kernel_rfl) | assumption | (simp only [go_sem, *, Nat.reduceAdd, pts] <;> rfl) | rfl | (exfalso; simp_all only [Bool.true_eq_false, Bool.false_eq_true, reduceCtorEq]; done)
theorem y_points3 (a b c : X) : Ct Tryz.prog 58 [pA_ [a, b, c]] (· = .s (boxL (pts [a, b, c]))) := by
  refine ct_of (O := tblO Tref_Point) (by kernel_rfl) tyB_ok (fun w => tblO_ok Tref_Point_ok _ w) [34, 35] 2000 20 [.tmp 2] Tryz.func58 rfl Tryz.ntmps58 (by rw [Tryz.results58]) (by simp) rfl (fun hsm => ?_)
  simp (maxSteps := 10000000) only [go_sem, ↓reduceIte, Nat.reduceMul, Nat.reduceDiv, Nat.reduceAdd, Nat.reduceEqDiff, Nat.reduceLeDiff, Nat.reduceLT, reduceCtorEq, Int.reduceNeg, Int.reduceLT, Int.reduceLE, Int.reduceAdd, Int.reduceToNat, Nat.reduceBEq, Int.reduceMul, Int.reduceSub, Nat.reduceSub, Int.reduceBNe, Nat.reduceBNe, Tref_Point]
  repeat' first | (with_reducible apply And.intro) | (with_reducible apply condP <;> intro _)
  all_goals first | (show chk _ _ = true; kernel_rfl) | assumption | (simp only [go_sem, *, Nat.reduceAdd, pts] <;> rfl) | rfl | (exfalso; simp_all only [Bool.true_eq_false, Bool.false_eq_true, reduceCtorEq]; done)
theorem y_points4 (a b c d : X) : Ct Tryz.prog 58 [pA_ [a, b, c, d]] (· = .s (boxL (pts [a, b, c, d]))) := by
  refine ct_of (O := tblO Tref_Point) (by kernel_rfl) tyB_ok (fun w => tblO_ok Tref_Point_ok _ w) [34, 35] 2000 20 [.tmp 2] Tryz.func58 rfl Tryz.ntmps58 (by rw [Tryz.results58]) (by simp) rfl (fun hsm => ?_)
  simp (maxSteps := 10000000) only [go_sem, ↓reduceIte, Nat.reduceMul, Nat.reduceDiv, Nat.reduceAdd, Nat.reduceEqDiff, Nat.reduceLeDiff, Nat.reduceLT, reduceCtorEq, Int.reduceNeg, Int.reduceLT, Int.reduceLE, Int.reduceAdd, Int.reduceToNat, Nat.reduceBEq, Int.reduceMul, Int.reduceSub, Nat.reduceSub, Int.reduceBNe, Nat.reduceBNe, Tref_Point]
  repeat' first | (with_reducible apply And.intro) | (with_reducible apply condP <;> intro _)
  all_goals first | (show chk _ _ = true; kernel_rfl) | assumption | (simp only [go_sem, *, Nat.reduceAdd, pts] <;> rfl) | rfl | (exfalso; simp_all only [Bool.true_eq_false, Bool.false_eq_true, reduceCtorEq]; done)
theorem y_points5 (a b c d e : X) : Ct Tryz.prog 58 [pA_ [a, b, c, d, e]] (· = .s (boxL (pts [a, b, c, d, e]))) := by
  refine ct_of (O := tblO Tref_Point) (by kernel_rfl) tyB_ok (fun w => tblO_ok Tref_Point_ok _ w) [34, 35] 2000 20 [.tmp 2] Tryz.func58 rfl Tryz.ntmps58 (by rw [Tryz.results58]) (by simp) rfl (fun hsm => ?_)
  simp (maxSteps := 10000000) only [go_sem, ↓reduceIte, Nat.reduceMul, Nat.reduceDiv, Nat.reduceAdd, Nat.reduceEqDiff, Nat.reduceLeDiff, Nat.reduceLT, reduceCtorEq, Int.reduceNeg, Int.reduceLT, Int.reduceLE, Int.reduceAdd, Int.reduceToNat, Nat.reduceBEq, Int.reduceMul, Int.reduceSub, Nat.reduceSub, Int.reduceBNe, Nat.reduceBNe, Tref_Point]
  repeat' first | (with_reducible apply And.intro) | (with_reducible apply condP <;> intro _)
  all_goals first | (show chk _ _ = true; kernel_rfl) | assumption | (simp only [go_sem, *, Nat.reduceAdd, pts] <;> rfl) | rfl | (exfalso; simp_all only [Bool.true_eq_false, Bool.false_eq_true, reduceCtorEq]; done)
theorem y_points6 (a b c d e g : X) : Ct Tryz.prog 58 [pA_ [a, b, c, d, e, g]] (· = .s (boxL (pts [a, b, c, d, e, g]))) := by
  refine ct_of (O := tblO Tref_Point) (by kernel_rfl) tyB_ok (fun w => tblO_ok Tref_Point_ok _ w) [34, 35] 2000 20 [.tmp 2] Tryz.func58 rfl Tryz.ntmps58 (by rw [Tryz.results58]) (by simp) rfl (fun hsm => ?_)
  simp (maxSteps := 10000000) only [go_sem, ↓reduceIte, Nat.reduceMul, Nat.reduceDiv, Nat.reduceAdd, Nat.reduceEqDiff, Nat.reduceLeDiff, Nat.reduceLT, reduceCtorEq, Int.reduceNeg, Int.reduceLT, Int.reduceLE, Int.reduceAdd, Int.reduceToNat, Nat.reduceBEq, Int.reduceMul, Int.reduceSub, Nat.reduceSub, Int.reduceBNe, Nat.reduceBNe, Tref_Point]
  repeat' first | (with_reducible apply And.intro) | (with_reducible apply condP <;> intro _)
  all_goals first | (show chk _ _ = true; kernel_rfl) | assumption | (simp only [go_sem, *, Nat.reduceAdd, pts] <;> rfl) | rfl | (exfalso; simp_all only [Bool.true_eq_false, Bool.false_eq_true, reduceCtorEq]; done)
theorem y_points (l : List X) (h : l.length ≤ 6) : Ct Tryz.prog 58 [pA_ l] (· = .s (boxL (pts l))) := match l, h with
  | [], _ => y_points0
  | [a], _ => y_points1 a
  | [a, b], _ => y_points2 a b
  | [a, b, c], _ => y_points3 a b c
  | [a, b, c, d], _ => y_points4 a b c d
  | [a, b, c, d, e], _ => y_points5 a b c d e
  | [a, b, c, d, e, g], _ => y_points6 a b c d e g
  | _ :: _ :: _ :: _ :: _ :: _ :: _ :: _, h => absurd h (by simp)
noncomputable def T6_Points : Tbl := one 58 (gP fun l => (l.length ≤ 6, .s (boxL (pts l))))
theorem T6_Points_ok : TbOK Tryz.prog T6_Points := one_ok (ent Tryz.func58 (by kernel_rfl) rfl) fun args e h hp => gP_ct (fun l h => y_points l h) h hp
theorem y_same0  : Ct Tryz.prog 54 [bA_ [], bA_ []] (· = bA (sameB [] [])) := by
  refine ct_of (O := tblO Tref_SameIv) (by kernel_rfl) tyB_ok (fun w => tblO_ok Tref_SameIv_ok _ w) [] 2000 27 [.tmp 4] Tryz.func54 rfl Tryz.ntmps54 (by rw [Tryz.results54]) (by simp) rfl (fun hsm => ?_)
  simp (maxSteps := 10000000) only [go_sem, ↓reduceIte, Nat.reduceMul, Nat.reduceDiv, Nat.reduceAdd, Nat.reduceEqDiff, Nat.reduceLeDiff, Nat.reduceLT, reduceCtorEq, Int.reduceNeg, Int.reduceLT, Int.reduceLE, Int.reduceAdd, Int.reduceToNat, Nat.reduceBEq, Int.reduceMul, Int.reduceSub, Nat.reduceSub, Int.reduceBNe, Nat.reduceBNe, Tref_SameIv]
  repeat' first | (with_reducible apply And.intro) | (with_reducible apply condP <;> intro _)
  all_goals first | (show chk _ _ = true; kernel_rfl) | assumption | (simp only [go_sem, *, Nat.reduceAdd, sameB, all2] <;> rfl) | rfl | (exfalso; simp_all only [Bool.true_eq_false, Bool.false_eq_true, reduceCtorEq]; done)
theorem y_same1 (a : J) (s : J)  : Ct Tryz.prog 54 [bA_ [a], bA_ [s]] (· = bA (sameB [a] [s])) := by
  refine ct_of (O := tblO Tref_SameIv) (by kernel_rfl) tyB_ok (fun w => tblO_ok Tref_SameIv_ok _ w) [] 2000 27 [.tmp 4] Tryz.func54 rfl Tryz.ntmps54 (by rw [Tryz.results54]) (by simp) rfl (fun hsm => ?_)
  simp (maxSteps := 10000000) only [go_sem, ↓reduceIte, Nat.reduceMul, Nat.reduceDiv, Nat.reduceAdd, Nat.reduceEqDiff, Nat.reduceLeDiff, Nat.reduceLT, reduceCtorEq, Int.reduceNeg, Int.reduceLT, Int.reduceLE, Int.reduceAdd, Int.reduceToNat, Nat.reduceBEq, Int.reduceMul, Int.reduceSub, Nat.reduceSub, Int.reduceBNe, Nat.reduceBNe, Tref_SameIv]
  repeat' first | (with_reducible apply And.intro) | (with_reducible apply condP <;> intro _)
  all_goals first | (show chk _ _ = true; kernel_rfl) | assumption | (simp only [go_sem, *, Nat.reduceAdd, sameB, all2] <;> rfl) | rfl | (exfalso; simp_all only [Bool.true_eq_false, Bool.false_eq_true, reduceCtorEq]; done)
theorem y_same2 (a b : J) (s t : J)  : Ct Tryz.prog 54 [bA_ [a, b], bA_ [s, t]] (· = bA (sameB [a, b] [s, t])) := by
  refine ct_of (O := tblO Tref_SameIv) (by kernel_rfl) tyB_ok (fun w => tblO_ok Tref_SameIv_ok _ w) [] 2000 27 [.tmp 4] Tryz.func54 rfl Tryz.ntmps54 (by rw [Tryz.results54]) (by simp) rfl (fun hsm => ?_)
  simp (maxSteps := 10000000) only [go_sem, ↓reduceIte, Nat.reduceMul, Nat.reduceDiv, Nat.reduceAdd, Nat.reduceEqDiff, Nat.reduceLeDiff, Nat.reduceLT, reduceCtorEq, Int.reduceNeg, Int.reduceLT, Int.reduceLE, Int.reduceAdd, Int.reduceToNat, Nat.reduceBEq, Int.reduceMul, Int.reduceSub, Nat.reduceSub, Int.reduceBNe, Nat.reduceBNe, Tref_SameIv]
  repeat' first | (with_reducible apply And.intro) | (with_reducible apply condP <;> intro _)
  all_goals first | (show chk _ _ = true; kernel_rfl) | assumption | (simp only [go_sem, *, Nat.reduceAdd, sameB, all2] <;> rfl) | rfl | (exfalso; simp_all only [Bool.true_eq_false, Bool.false_eq_true, reduceCtorEq]; done)
theorem y_same3 (a b c : J) (s t u : J)  : Ct Tryz.prog 54 [bA_ [a, b, c], bA_ [s, t, u]] (· = bA (sameB [a, b, c] [s, t, u])) := by
  refine ct_of (O := tblO Tref_SameIv) (by kernel_rfl) tyB_ok (fun w => tblO_ok Tref_SameIv_ok _ w) [] 2000 27 [.tmp 4] Tryz.func54 rfl Tryz.ntmps54 (by rw [Tryz.results54]) (by simp) rfl (fun hsm => ?_)
  simp (maxSteps := 10000000) only [go_sem, ↓reduceIte, Nat.reduceMul, Nat.reduceDiv, Nat.reduceAdd, Nat.reduceEqDiff, Nat.reduceLeDiff, Nat.reduceLT, reduceCtorEq, Int.reduceNeg, Int.reduceLT, Int.reduceLE, Int.reduceAdd, Int.reduceToNat, Nat.reduceBEq, Int.reduceMul, Int.reduceSub, Nat.reduceSub, Int.reduceBNe, Nat.reduceBNe, Tref_SameIv]
  repeat' first | (with_reducible apply And.intro) | (with_reducible apply condP <;> intro _)
  all_goals first | (show chk _ _ = true; kernel_rfl) | assumption | (simp only [go_sem, *, Nat.reduceAdd, sameB, all2] <;> rfl) | rfl | (exfalso; simp_all only [Bool.true_eq_false, Bool.false_eq_true, reduceCtorEq]; done)
theorem y_same4 (a b c d : J) (s t u v : J)  : Ct Tryz.prog 54 [bA_ [a, b, c, d], bA_ [s, t, u, v]] (· = bA (sameB [a, b, c, d] [s, t, u, v])) := by
  refine ct_of (O := tblO Tref_SameIv) (by kernel_rfl) tyB_ok (fun w => tblO_ok Tref_SameIv_ok _ w) [] 2000 27 [.tmp 4] Tryz.func54 rfl Tryz.ntmps54 (by rw [Tryz.results54]) (by simp) rfl (fun hsm => ?_)
  simp (maxSteps := 10000000) only [go_sem, ↓reduceIte, Nat.reduceMul, Nat.reduceDiv, Nat.reduceAdd, Nat.reduceEqDiff, Nat.reduceLeDiff, Nat.reduceLT, reduceCtorEq, Int.reduceNeg, Int.reduceLT, Int.reduceLE, Int.reduceAdd, Int.reduceToNat, Nat.reduceBEq, Int.reduceMul, Int.reduceSub, Nat.reduceSub, Int.reduceBNe, Nat.reduceBNe, Tref_SameIv]
  repeat' first | (with_reducible apply And.intro) | (with_reducible apply condP <;> intro _)
  all_goals first | (show chk _ _ = true; kernel_rfl) | assumption | (simp only [go_sem, *, Nat.reduceAdd, sameB, all2] <;> rfl) | rfl | (exfalso; simp_all only [Bool.true_eq_false, Bool.false_eq_true, reduceCtorEq]; done)
theorem y_same5 (a b c d e : J) (s t u v x : J)  : Ct Tryz.prog 54 [bA_ [a, b, c, d, e], bA_ [s, t, u, v, x]] (· = bA (sameB [a, b, c, d, e] [s, t, u, v, x])) := by
  refine ct_of (O := tblO Tref_SameIv) (by kernel_rfl) tyB_ok (fun w => tblO_ok Tref_SameIv_ok _ w) [] 2000 27 [.tmp 4] Tryz.func54 rfl Tryz.ntmps54 (by rw [Tryz.results54]) (by simp) rfl (fun hsm => ?_)
  simp (maxSteps := 10000000) only [go_sem, ↓reduceIte, Nat.reduceMul, Nat.reduceDiv, Nat.reduceAdd, Nat.reduceEqDiff, Nat.reduceLeDiff, Nat.reduceLT, reduceCtorEq, Int.reduceNeg, Int.reduceLT, Int.reduceLE, Int.reduceAdd, Int.reduceToNat, Nat.reduceBEq, Int.reduceMul, Int.reduceSub, Nat.reduceSub, Int.reduceBNe, Nat.reduceBNe, Tref_SameIv]
  repeat' first | (with_reducible apply And.intro) | (with_reducible apply condP <;> intro _)
  all_goals first | (show chk _ _ = true; kernel_rfl) | assumption | (simp only [go_sem, *, Nat.reduceAdd, sameB, all2] <;> rfl) | rfl | (exfalso; simp_all only [Bool.true_eq_false, Bool.false_eq_true, reduceCtorEq]; done)
theorem y_same6 (a b c d e g : J) (s t u v x y : J)  : Ct Tryz.prog 54 [bA_ [a, b, c, d, e, g], bA_ [s, t, u, v, x, y]] (· = bA (sameB [a, b, c, d, e, g] [s, t, u, v, x, y])) := by
  refine ct_of (O := tblO Tref_SameIv) (by kernel_rfl) tyB_ok (fun w => tblO_ok Tref_SameIv_ok _ w) [] 2000 27 [.tmp 4] Tryz.func54 rfl Tryz.ntmps54 (by rw [Tryz.results54]) (by simp) rfl (fun hsm => ?_)
  simp (maxSteps := 10000000) only [go_sem, ↓reduceIte, Nat.reduceMul, Nat.reduceDiv, Nat.reduceAdd, Nat.reduceEqDiff, Nat.reduceLeDiff, Nat.reduceLT, reduceCtorEq, Int.reduceNeg, Int.reduceLT, Int.reduceLE, Int.reduceAdd, Int.reduceToNat, Nat.reduceBEq, Int.reduceMul, Int.reduceSub, Nat.reduceSub, Int.reduceBNe, Nat.reduceBNe, Tref_SameIv]
  repeat' first | (with_reducible apply And.intro) | (with_reducible apply condP <;> intro _)
  all_goals first | (show chk _ _ = true; kernel_rfl) | assumption | (simp only [go_sem, *, Nat.reduceAdd, sameB, all2] <;> rfl) | rfl | (exfalso; simp_all only [Bool.true_eq_false, Bool.false_eq_true, reduceCtorEq]; done)
theorem y_samex (l m : List J) (h : l.length ≠ m.length) : Ct Tryz.prog 54 [bA_ l, bA_ m] (· = bA (sameB l m)) := by
  have h1 : ((l.length : Int) != (m.length : Int)) = true := bne_iff_ne.2 (by omega)
  refine ct_of (O := tblO Tref_SameIv) (by kernel_rfl) tyB_ok (fun w => tblO_ok Tref_SameIv_ok _ w) [] 2000 27 [.tmp 4] Tryz.func54 rfl Tryz.ntmps54 (by rw [Tryz.results54]) (by simp) rfl (fun hsm => ?_)
  simp (maxSteps := 10000000) only [go_sem, ↓reduceIte, Nat.reduceMul, Nat.reduceDiv, Nat.reduceAdd, Nat.reduceEqDiff, Nat.reduceLeDiff, Nat.reduceLT, reduceCtorEq, Int.reduceNeg, Int.reduceLT, Int.reduceLE, Int.reduceAdd, Int.reduceToNat, Nat.reduceBEq, Int.reduceMul, Int.reduceSub, Nat.reduceSub, Int.reduceBNe, Nat.reduceBNe, Tref_SameIv, h1]
  repeat' first | (with_reducible apply And.intro) | (with_reducible apply condP <;> intro _)
  all_goals first | (show chk _ _ = true; kernel_rfl) | assumption | (simp only [go_sem, *, Nat.reduceAdd, sameB, all2_len h] <;> rfl) | rfl | (exfalso; simp_all only [Bool.true_eq_false, Bool.false_eq_true, reduceCtorEq]; done)
theorem y_same (l m : List J) (hl : l.length ≤ 6) : Ct Tryz.prog 54 [bA_ l, bA_ m] (· = bA (sameB l m)) := by
  by_cases h : l.length = m.length
  case neg => exact y_samex l m h
  match l, m, h, hl with
  | [], [], _, _ => exact y_same0
  | [a], [s], _, _ => exact y_same1 a s
  | [a, b], [s, t], _, _ => exact y_same2 a b s t
  | [a, b, c], [s, t, u], _, _ => exact y_same3 a b c s t u
  | [a, b, c, d], [s, t, u, v], _, _ => exact y_same4 a b c d s t u v
  | [a, b, c, d, e], [s, t, u, v, x], _, _ => exact y_same5 a b c d e s t u v x
  | [a, b, c, d, e, g], [s, t, u, v, x, y], _, _ => exact y_same6 a b c d e g s t u v x y
  | _ :: _ :: _ :: _ :: _ :: _ :: _ :: _, _, _, h => simp at h
noncomputable def T6_Same : Tbl := one 54 (gBB fun l m => (l.length ≤ 6, bA (sameB l m)))
theorem T6_Same_ok : TbOK Tryz.prog T6_Same := one_ok (ent Tryz.func54 (by kernel_rfl) rfl) fun args e h hp => gBB_ct (fun l m h => y_same l m h) h hp
end Go.Proofs.YtcpfepjdeikchaaGreatDoor
namespace Go.Proofs.YtcpfepjdeikchaaGreatDoor
open Go.RowKit Nx
set_option linter.unusedVariables false
set_option linter.unusedSimpArgs false
set_option maxRecDepth 100000
set_option maxHeartbeats 4000000
attribute [local go_sem] run init X.L J.L vL X.eta J.eta Q.eta List.cons_append List.nil_append brkK brkf_b brkf_t exef_some exif_some condf_b opf bodyE addR skipE stepOp stepLoad stepStore stepField stepCall stepBS stepBi stepCv stepIx lpf hdS hd1 pick forget inL mentA ment dom evs evl evp evd okeys look fillA capsOf wordsOf rowsOf lenOf convK binV shV intV unV boolT tyT tiB tiI tiW tiD tiF tiR tiU tiNum tiIv tiVal tiSc okLf okD keysOf tblO cvA cvL dnL olA olL noO noA cbL cbA orT noT one asNum asIv asVal postf_some resA tupA clA clL dropTo decide_true decide_false List.all_cons List.all_nil Bool.and_true Bool.and_self true_and and_true and_self List.length_cons List.length_nil List.drop_succ_cons List.drop_zero List.take_succ_cons List.take_zero List.getElem?_cons_zero List.getElem?_cons_succ List.map_cons List.map_nil false_implies true_implies Option.bind_some List.getElem?_toArray Bool.false_eq_true List.append_nil List.flatMap_cons List.flatMap_nil true_or or_true forall_const List.reverse_cons List.reverse_nil Option.isSome_some Option.any_some Nat.lt_irrefl not_true_eq_false Bool.not_true Bool.not_false imp_self implies_true Bool.not_eq_true' Bool.not_eq_false' Bool.true_eq_false memOf cntF nmL rnL nmA rnA isV contsOf ndB refO orO pin Int.toNat_zero decide_eq_true_eq wrap0 wrap1 ci1 ci2 BEq.rfl beq_self_eq_true Int.natCast_zero ge_iff_le gt_iff_lt Int.le_refl Nat.zero_mul Nat.one_mul Nat.zero_add Nat.zero_lt_succ Nat.lt_add_one Nat.le_refl Int.toNat_natCast gN gNN gNI gI gNNIB gNIB gJ gJJ gJN gJJI gJI stepB0 stepMk stepSl stepAp apY optI okO nilV slT resB outPs outLs outL dnT noE boxL_nil boxL_cons ptsL_nil ptsL_cons bxe pxe bne_self_eq_false wr2 wr3 wr4 wr5 wr6 wr7 wr8 gB gP gBB gBP gBZ gBBZ bC_nil bC_cons pC_nil pC_cons fvO Lc.up tyB tiS tiBB List.replicate_succ List.replicate_zero List.flatten_cons List.flatten_nil Int.ofNat_lt Int.cast_ofNat_Int Int.ofNat_eq_natCast List.isEmpty_nil List.isEmpty_cons and_false false_and List.cons_ne_nil Nat.add_zero ite_true ite_false if_true if_false Nat.le_zero_eq eq_self Bool.and_false Bool.false_and Bool.true_and AV.s cond_true cond_false Bool.or_true Bool.true_or Bool.or_false Bool.false_or
attribute [local go_sem ↓] cond_true cond_false not_cond outL_box outL_pts clL_box clL_pts okL_box okL_pts ment_box ment_pts olL_box olL_pts cvL_box cvL_pts noO_box noO_pts asB_box asP_pts len_box len_pts
attribute [local irreducible] chk
theorem y_in1 (a : J) (s : J) (h1 : rightB [a] = true) (h2 : rightB [s] = true) : Ct Tryz.prog 56 [bA_ [a], bA_ [s]] (· = bA (inB [a] [s])) := by
  refine ct_of (O := tblO (orT T6_Right Tref_In)) (by kernel_rfl) tyB_ok (fun w => tblO_ok (orT_ok T6_Right_ok Tref_In_ok) _ w) [] 2000 37 [.tmp 4] Tryz.func56 rfl Tryz.ntmps56 (by rw [Tryz.results56]) (by simp) rfl (fun hsm => ?_)
  simp (maxSteps := 10000000) only [go_sem, ↓reduceIte, Nat.reduceMul, Nat.reduceDiv, Nat.reduceAdd, Nat.reduceEqDiff, Nat.reduceLeDiff, Nat.reduceLT, reduceCtorEq, Int.reduceNeg, Int.reduceLT, Int.reduceLE, Int.reduceAdd, Int.reduceToNat, Nat.reduceBEq, Int.reduceMul, Int.reduceSub, Nat.reduceSub, Int.reduceBNe, Nat.reduceBNe, asB, asP, nilB, asJs, asXs, wsOf, T6_Right, Tref_In, h1, h2]
  repeat' first | (with_reducible apply And.intro) | (with_reducible apply condP <;> intro _)
  all_goals first | (show chk _ _ = true; kernel_rfl) | assumption | (simp only [go_sem, *, Nat.reduceAdd, inB, all2, h1, h2] <;> rfl) | rfl | (exfalso; simp_all only [Bool.true_eq_false, Bool.false_eq_true, reduceCtorEq]; done)
theorem y_in2 (a b : J) (s t : J) (h1 : rightB [a, b] = true) (h2 : rightB [s, t] = true) : Ct Tryz.prog 56 [bA_ [a, b], bA_ [s, t]] (· = bA (inB [a, b] [s, t])) := by
  refine ct_of (O := tblO (orT T6_Right Tref_In)) (by kernel_rfl) tyB_ok (fun w => tblO_ok (orT_ok T6_Right_ok Tref_In_ok) _ w) [] 2000 37 [.tmp 4] Tryz.func56 rfl Tryz.ntmps56 (by rw [Tryz.results56]) (by simp) rfl (fun hsm => ?_)
  simp (maxSteps := 10000000) only [go_sem, ↓reduceIte, Nat.reduceMul, Nat.reduceDiv, Nat.reduceAdd, Nat.reduceEqDiff, Nat.reduceLeDiff, Nat.reduceLT, reduceCtorEq, Int.reduceNeg, Int.reduceLT, Int.reduceLE, Int.reduceAdd, Int.reduceToNat, Nat.reduceBEq, Int.reduceMul, Int.reduceSub, Nat.reduceSub, Int.reduceBNe, Nat.reduceBNe, asB, asP, nilB, asJs, asXs, wsOf, T6_Right, Tref_In, h1, h2]
  repeat' first | (with_reducible apply And.intro) | (with_reducible apply condP <;> intro _)
  all_goals first | (show chk _ _ = true; kernel_rfl) | assumption | (simp only [go_sem, *, Nat.reduceAdd, inB, all2, h1, h2] <;> rfl) | rfl | (exfalso; simp_all only [Bool.true_eq_false, Bool.false_eq_true, reduceCtorEq]; done)
theorem y_in3 (a b c : J) (s t u : J) (h1 : rightB [a, b, c] = true) (h2 : rightB [s, t, u] = true) : Ct Tryz.prog 56 [bA_ [a, b, c], bA_ [s, t, u]] (· = bA (inB [a, b, c] [s, t, u])) := by
  refine ct_of (O := tblO (orT T6_Right Tref_In)) (by kernel_rfl) tyB_ok (fun w => tblO_ok (orT_ok T6_Right_ok Tref_In_ok) _ w) [] 2000 37 [.tmp 4] Tryz.func56 rfl Tryz.ntmps56 (by rw [Tryz.results56]) (by simp) rfl (fun hsm => ?_)
  simp (maxSteps := 10000000) only [go_sem, ↓reduceIte, Nat.reduceMul, Nat.reduceDiv, Nat.reduceAdd, Nat.reduceEqDiff, Nat.reduceLeDiff, Nat.reduceLT, reduceCtorEq, Int.reduceNeg, Int.reduceLT, Int.reduceLE, Int.reduceAdd, Int.reduceToNat, Nat.reduceBEq, Int.reduceMul, Int.reduceSub, Nat.reduceSub, Int.reduceBNe, Nat.reduceBNe, asB, asP, nilB, asJs, asXs, wsOf, T6_Right, Tref_In, h1, h2]
  repeat' first | (with_reducible apply And.intro) | (with_reducible apply condP <;> intro _)
  all_goals first | (show chk _ _ = true; kernel_rfl) | assumption | (simp only [go_sem, *, Nat.reduceAdd, inB, all2, h1, h2] <;> rfl) | rfl | (exfalso; simp_all only [Bool.true_eq_false, Bool.false_eq_true, reduceCtorEq]; done)
theorem y_in4 (a b c d : J) (s t u v : J) (h1 : rightB [a, b, c, d] = true) (h2 : rightB [s, t, u, v] = true) : Ct Tryz.prog 56 [bA_ [a, b, c, d], bA_ [s, t, u, v]] (· = bA (inB [a, b, c, d] [s, t, u, v])) := by
  refine ct_of (O := tblO (orT T6_Right Tref_In)) (by kernel_rfl) tyB_ok (fun w => tblO_ok (orT_ok T6_Right_ok Tref_In_ok) _ w) [] 2000 37 [.tmp 4] Tryz.func56 rfl Tryz.ntmps56 (by rw [Tryz.results56]) (by simp) rfl (fun hsm => ?_)
  simp (maxSteps := 10000000) only [go_sem, ↓reduceIte, Nat.reduceMul, Nat.reduceDiv, Nat.reduceAdd, Nat.reduceEqDiff, Nat.reduceLeDiff, Nat.reduceLT, reduceCtorEq, Int.reduceNeg, Int.reduceLT, Int.reduceLE, Int.reduceAdd, Int.reduceToNat, Nat.reduceBEq, Int.reduceMul, Int.reduceSub, Nat.reduceSub, Int.reduceBNe, Nat.reduceBNe, asB, asP, nilB, asJs, asXs, wsOf, T6_Right, Tref_In, h1, h2]
  repeat' first | (with_reducible apply And.intro) | (with_reducible apply condP <;> intro _)
  all_goals first | (show chk _ _ = true; kernel_rfl) | assumption | (simp only [go_sem, *, Nat.reduceAdd, inB, all2, h1, h2] <;> rfl) | rfl | (exfalso; simp_all only [Bool.true_eq_false, Bool.false_eq_true, reduceCtorEq]; done)
theorem y_ine (l m : List J) (h1 : rightB l = false) : Ct Tryz.prog 56 [bA_ l, bA_ m] (· = bA (inB l m)) := by
  refine ct_of (O := tblO T6_Right) (by kernel_rfl) tyB_ok (fun w => tblO_ok T6_Right_ok _ w) [] 2000 37 [.tmp 4] Tryz.func56 rfl Tryz.ntmps56 (by rw [Tryz.results56]) (by simp) rfl (fun hsm => ?_)
  simp (maxSteps := 10000000) only [go_sem, ↓reduceIte, Nat.reduceMul, Nat.reduceDiv, Nat.reduceAdd, Nat.reduceEqDiff, Nat.reduceLeDiff, Nat.reduceLT, reduceCtorEq, Int.reduceNeg, Int.reduceLT, Int.reduceLE, Int.reduceAdd, Int.reduceToNat, Nat.reduceBEq, Int.reduceMul, Int.reduceSub, Nat.reduceSub, Int.reduceBNe, Nat.reduceBNe, T6_Right, h1, asB_b]
  repeat' first | (with_reducible apply And.intro) | (with_reducible apply condP <;> intro _)
  all_goals first | (show chk _ _ = true; kernel_rfl) | assumption | (simp only [go_sem, *, Nat.reduceAdd, inB, h1] <;> rfl) | rfl | (exfalso; simp_all only [Bool.true_eq_false, Bool.false_eq_true, reduceCtorEq]; done)
theorem y_inf (l m : List J) (h1 : rightB l = true) (h2 : rightB m = false) : Ct Tryz.prog 56 [bA_ l, bA_ m] (· = bA (inB l m)) := by
  refine ct_of (O := tblO T6_Right) (by kernel_rfl) tyB_ok (fun w => tblO_ok T6_Right_ok _ w) [] 2000 37 [.tmp 4] Tryz.func56 rfl Tryz.ntmps56 (by rw [Tryz.results56]) (by simp) rfl (fun hsm => ?_)
  simp (maxSteps := 10000000) only [go_sem, ↓reduceIte, Nat.reduceMul, Nat.reduceDiv, Nat.reduceAdd, Nat.reduceEqDiff, Nat.reduceLeDiff, Nat.reduceLT, reduceCtorEq, Int.reduceNeg, Int.reduceLT, Int.reduceLE, Int.reduceAdd, Int.reduceToNat, Nat.reduceBEq, Int.reduceMul, Int.reduceSub, Nat.reduceSub, Int.reduceBNe, Nat.reduceBNe, T6_Right, h1, h2, asB_b]
  repeat' first | (with_reducible apply And.intro) | (with_reducible apply condP <;> intro _)
  all_goals first | (show chk _ _ = true; kernel_rfl) | assumption | (simp only [go_sem, *, Nat.reduceAdd, inB, h1, h2] <;> rfl) | rfl | (exfalso; simp_all only [Bool.true_eq_false, Bool.false_eq_true, reduceCtorEq]; done)
theorem y_inx (l m : List J) (h1 : rightB l = true) (h2 : rightB m = true) (h : l.length ≠ m.length) : Ct Tryz.prog 56 [bA_ l, bA_ m] (· = bA (inB l m)) := by
  have h3 : ((l.length : Int) != (m.length : Int)) = true := bne_iff_ne.2 (by omega)
  refine ct_of (O := tblO T6_Right) (by kernel_rfl) tyB_ok (fun w => tblO_ok T6_Right_ok _ w) [] 2000 37 [.tmp 4] Tryz.func56 rfl Tryz.ntmps56 (by rw [Tryz.results56]) (by simp) rfl (fun hsm => ?_)
  simp (maxSteps := 10000000) only [go_sem, ↓reduceIte, Nat.reduceMul, Nat.reduceDiv, Nat.reduceAdd, Nat.reduceEqDiff, Nat.reduceLeDiff, Nat.reduceLT, reduceCtorEq, Int.reduceNeg, Int.reduceLT, Int.reduceLE, Int.reduceAdd, Int.reduceToNat, Nat.reduceBEq, Int.reduceMul, Int.reduceSub, Nat.reduceSub, Int.reduceBNe, Nat.reduceBNe, T6_Right, h1, h2, h3, asB_b]
  repeat' first | (with_reducible apply And.intro) | (with_reducible apply condP <;> intro _)
  all_goals first | (show chk _ _ = true; kernel_rfl) | assumption | (simp only [go_sem, *, Nat.reduceAdd, inB, h1, h2, all2_len h] <;> rfl) | rfl | (exfalso; simp_all only [Bool.true_eq_false, Bool.false_eq_true, reduceCtorEq]; done)
theorem y_in (l : List J) (m : List J) : Ct Tryz.prog 56 [bA_ l, bA_ m] (· = bA (inB l m)) := by
  cases h1 : rightB l with
  | false => exact y_ine l m h1
  | true =>
    cases h2 : rightB m with
    | false => exact y_inf l m h1 h2
    | true =>
      by_cases h3 : l.length = m.length
      case neg => exact y_inx l m h1 h2 h3
      have h4 := rightB_len h1
      match l, m, h1, h2, h3, h4 with
      | [], _, _, _, _, h => exact absurd h.1 (by simp)
      | [a], [s], h1, h2, _, _ => exact y_in1 a s h1 h2
      | [a, b], [s, t], h1, h2, _, _ => exact y_in2 a b s t h1 h2
      | [a, b, c], [s, t, u], h1, h2, _, _ => exact y_in3 a b c s t u h1 h2
      | [a, b, c, d], [s, t, u, v], h1, h2, _, _ => exact y_in4 a b c d s t u v h1 h2
      | _ :: _ :: _ :: _ :: _ :: _, _, _, _, _, h => exact absurd h.2 (by simp)
noncomputable def T6_In : Tbl := one 56 (gBB fun l m => (True, bA (inB l m)))
theorem T6_In_ok : TbOK Tryz.prog T6_In := one_ok (ent Tryz.func56 (by kernel_rfl) rfl) fun args e h hp => gBB_ct (fun l m _ => y_in l m) h hp
end Go.Proofs.YtcpfepjdeikchaaGreatDoor
