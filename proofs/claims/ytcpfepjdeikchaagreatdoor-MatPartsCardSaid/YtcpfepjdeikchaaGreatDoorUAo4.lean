/- The document's matrices: right, same, within, points, ones. -/
import Derived.Test.YtcpfepjdeikchaaGreatDoorUAo3
import Derived.Test.YtcpfepjdeikchaaGreatDoorUAl4
import Derived.Test.YtcpfepjdeikchaaGreatDoorUAl5
import Derived.Test.YtcpfepjdeikchaaGreatDoorUAl7
namespace Go.Proofs.YtcpfepjdeikchaaGreatDoor
open Go.RowKit Nx
set_option linter.unusedVariables false
set_option linter.unusedSimpArgs false
set_option maxRecDepth 100000
set_option maxHeartbeats 4000000
attribute [local go_sem] run init X.L J.L vL X.eta J.eta Q.eta List.cons_append List.nil_append brkK brkf_b brkf_t exef_some exif_some condf_b opf bodyE addR skipE stepOp stepLoad stepStore stepField stepCall stepBS stepBi stepCv stepIx inL mentA ment dom evs evl evp evd okeys look fillA capsOf wordsOf rowsOf lenOf convK binV shV intV unV boolT tyT tiB tiI tiW tiD tiF tiR tiU tiNum tiIv tiVal tiSc okLf okD keysOf tblO cvA cvL dnL olA olL noO noA cbL cbA orT noT one asNum asIv asVal postf_some resA tupA clA clL dropTo decide_true decide_false List.all_cons List.all_nil Bool.and_true Bool.and_self true_and and_true and_self List.length_cons List.length_nil List.drop_succ_cons List.drop_zero List.take_succ_cons List.take_zero List.getElem?_cons_zero List.getElem?_cons_succ List.map_cons List.map_nil false_implies true_implies Option.bind_some List.getElem?_toArray Bool.false_eq_true List.append_nil List.flatMap_cons List.flatMap_nil true_or or_true forall_const List.reverse_cons List.reverse_nil Option.isSome_some Option.any_some Nat.lt_irrefl not_true_eq_false Bool.not_true Bool.not_false imp_self implies_true Bool.not_eq_true' Bool.not_eq_false' Bool.true_eq_false memOf cntF nmL rnL nmA rnA isV contsOf ndB refO orO pin Int.toNat_zero decide_eq_true_eq wrap0 wrap1 ci1 ci2 BEq.rfl beq_self_eq_true Int.natCast_zero ge_iff_le gt_iff_lt Int.le_refl Nat.zero_mul Nat.one_mul Nat.zero_add Nat.zero_lt_succ Nat.lt_add_one Nat.le_refl List.append_eq Int.toNat_natCast gN gNN gNI gI gNNIB gNIB gJ gJJ gJN gJJI gJI stepB0 stepMk stepSl stepAp apY optI okO nilV slT resB outPs outLs outL dnT noE boxL_nil boxL_cons ptsL_nil ptsL_cons bne_self_eq_false wr2 wr3 wr4 wr5 wr6 wr7 wr8 gB gP gBB gBP gBZ gBBZ bC_nil bC_cons pC_nil pC_cons fvO Lc.up tyB tiS tiBB List.replicate_zero List.flatten_cons List.flatten_nil Int.ofNat_lt Int.cast_ofNat_Int Int.ofNat_eq_natCast List.isEmpty_nil List.isEmpty_cons and_false false_and List.cons_ne_nil Nat.add_zero ite_true ite_false if_true if_false Nat.le_zero_eq eq_self Bool.and_false Bool.false_and Bool.true_and tyM tiQ tiMM gA gE asZ asT asV1 asN1 asB_b asP_b asM_m asQ_m ite_self hoO hoK hpin hoO2 hoK2 hpin2 AV.s cond_true cond_false Bool.or_true Bool.true_or Bool.or_false Bool.false_or
attribute [local go_sem ↓] cond_true cond_false not_cond outL_box outL_pts clL_box clL_pts okL_box okL_pts ment_box ment_pts olL_box olL_pts cvL_box cvL_pts noO_box noO_pts asB_box asP_pts len_box len_pts
attribute [local irreducible] chk
theorem rightM_long {m : List (List J)} (h : 4 < m.length) : rightM m = false := by
  unfold rightM rng
  rw [decide_eq_true (show (1 : Int) ≤ (m.length : Int) by omega), cond_true, decide_eq_false (show ¬ (m.length : Int) ≤ 4 by omega)]
  rfl
theorem y_rm0  : Ct Tryz.prog 10 [mA_ []] (· = bA false) := by
  refine ct_of (O := tblO T6_Right) (by kernel_rfl) tyM_ok (fun w => tblO_ok T6_Right_ok _ w) [] 600 38 [.tmp 2] Tryz.func10 rfl Tryz.ntmps10 (by rw [Tryz.results10]) (by simp) rfl (fun hsm => ?_)
  simp (maxSteps := 10000000) only [go_sem, ↓reduceIte, Nat.reduceMul, Nat.reduceDiv, Nat.reduceAdd, Nat.reduceEqDiff, Nat.reduceLeDiff, Nat.reduceLT, reduceCtorEq, Int.reduceNeg, Int.reduceLT, Int.reduceLE, Int.reduceAdd, Int.reduceToNat, Nat.reduceBEq, Int.reduceMul, Int.reduceSub, Nat.reduceSub, Int.reduceBNe, Nat.reduceBNe, List.replicate_succ, T6_Right, bxe, pxe, lpf, hdS, hd1, pick, forget, frh, frz, frS, frA, frL]
  repeat' first | (with_reducible apply And.intro) | (with_reducible apply condP <;> intro _)
  all_goals first | (show chk _ _ = true; kernel_rfl) | assumption | rfl | (simp only [AV.s, cond_true, cond_false, Bool.and_true, Bool.true_and, Bool.and_false, Bool.false_and, Bool.not_true, Bool.not_false, *] <;> rfl)
theorem y_rm1 (m : List (List J)) (h : rng m.length 1 4 = true) : Ct Tryz.prog 10 [mA_ m] (· = bA (rightM m)) := by
  have hb := rng_true h
  refine ct_of (O := tblO T6_Right) (by kernel_rfl) tyM_ok (fun w => tblO_ok T6_Right_ok _ w) [9999999, 0, 4, 6] ((m.length + 1) * 400 + 200) 38 [.tmp 2] Tryz.func10 rfl Tryz.ntmps10 (by rw [Tryz.results10]) (by simp) rfl (fun hsm => ?_)
  simp (maxSteps := 10000000) only [go_sem, ↓reduceIte, Nat.reduceMul, Nat.reduceDiv, Nat.reduceAdd, Nat.reduceEqDiff, Nat.reduceLeDiff, Nat.reduceLT, reduceCtorEq, Int.reduceNeg, Int.reduceLT, Int.reduceLE, Int.reduceAdd, Int.reduceToNat, Nat.reduceBEq, Int.reduceMul, Int.reduceSub, Nat.reduceSub, Int.reduceBNe, Nat.reduceBNe, List.replicate_succ, T6_Right]
  refine loop_ind 400 (fun j => [(0, mA_ m), (4, bA false), (6, iA (j : Int))]) m.length (fun j => (m.take j).all (rowOk m.length) = true) 0 (fun j _ => rfl) (fun j mm _ hj hI ih => ?_) (by omega) rfl rfl
  rcases Nat.lt_or_ge j m.length with hlt | hge
  · have hjm : j < m.length := by omega
    have hx := at_get [] hjm
    generalize m.getD j [] = r at hx
    have e1 := rC_at hx
    have d := decide_eq_true (show (j : Int) < (m.length : Int) by omega)
    have d4 := decide_eq_true (show (j : Int) < 4 by omega)
    have g1 : (j < m.length) = True := eq_true hjm
    have g0 : (0 ≤ (j : Int)) = True := eq_true (by omega)
    have hw := wrap_nat (j := j) (by omega)
    have ht : m.take (j + 1) = m.take j ++ [r] := by rw [List.take_add_one, hx]; rfl
    cases hr : rowOk m.length r with
    | false =>
      have hm : rightM m = false := by
        unfold rightM
        rw [h, cond_true, List.all_eq_false]
        exact ⟨r, List.mem_of_getElem? hx, by rw [hr]; simp⟩
      unfold rowOk at hr
      cases hq : ((r.length : Int) != (m.length : Int)) with
      | true =>
        simp (maxSteps := 10000000) only [go_sem, ↓reduceIte, Nat.reduceMul, Nat.reduceDiv, Nat.reduceAdd, Nat.reduceEqDiff, Nat.reduceLeDiff, Nat.reduceLT, reduceCtorEq, Int.reduceNeg, Int.reduceLT, Int.reduceLE, Int.reduceAdd, Int.reduceToNat, Nat.reduceBEq, Int.reduceMul, Int.reduceSub, Nat.reduceSub, Int.reduceBNe, Nat.reduceBNe, List.replicate_succ, d, d4, g0, g1, e1, hw, T6_Right, hq, hm]
        repeat' first | (with_reducible apply And.intro) | (with_reducible apply condP <;> intro _)
        all_goals first | (show chk _ _ = true; kernel_rfl) | assumption | rfl | (simp only [AV.s, cond_true, cond_false, Bool.and_true, Bool.true_and, Bool.and_false, Bool.false_and, Bool.not_true, Bool.not_false, *] <;> rfl)
      | false =>
        rw [hq, cond_false] at hr
        simp (maxSteps := 10000000) only [go_sem, ↓reduceIte, Nat.reduceMul, Nat.reduceDiv, Nat.reduceAdd, Nat.reduceEqDiff, Nat.reduceLeDiff, Nat.reduceLT, reduceCtorEq, Int.reduceNeg, Int.reduceLT, Int.reduceLE, Int.reduceAdd, Int.reduceToNat, Nat.reduceBEq, Int.reduceMul, Int.reduceSub, Nat.reduceSub, Int.reduceBNe, Nat.reduceBNe, List.replicate_succ, d, d4, g0, g1, e1, hw, T6_Right, hq, hr, hm]
        repeat' first | (with_reducible apply And.intro) | (with_reducible apply condP <;> intro _)
        all_goals first | (show chk _ _ = true; kernel_rfl) | assumption | rfl | (simp only [AV.s, cond_true, cond_false, Bool.and_true, Bool.true_and, Bool.and_false, Bool.false_and, Bool.not_true, Bool.not_false, *] <;> rfl)
    | true =>
      replace ih := ih hlt (by rw [ht, List.all_append, hI, List.all_cons, hr]; rfl)
      unfold rowOk at hr
      cases hq : ((r.length : Int) != (m.length : Int)) with
      | true => rw [hq] at hr; cases hr
      | false =>
        rw [hq, cond_false] at hr
        simp (maxSteps := 10000000) only [go_sem, ↓reduceIte, Nat.reduceMul, Nat.reduceDiv, Nat.reduceAdd, Nat.reduceEqDiff, Nat.reduceLeDiff, Nat.reduceLT, reduceCtorEq, Int.reduceNeg, Int.reduceLT, Int.reduceLE, Int.reduceAdd, Int.reduceToNat, Nat.reduceBEq, Int.reduceMul, Int.reduceSub, Nat.reduceSub, Int.reduceBNe, Nat.reduceBNe, List.replicate_succ, d, d4, g0, g1, e1, hw, T6_Right, hq, hr]
        repeat' first | (with_reducible apply And.intro) | (with_reducible apply condP <;> intro _)
        all_goals first | (show chk _ _ = true; kernel_rfl) | (exact ih _ _ rfl) | assumption | rfl
  · have hn : j = m.length := by omega
    subst hn
    have d := decide_eq_false (show ¬ (m.length : Int) < (m.length : Int) by omega)
    have d0 := decide_eq_true (show (0 : Int) < (m.length : Int) by omega)
    have d5 := decide_eq_true (show (m.length : Int) ≤ 4 by omega)
    rw [List.take_length] at hI
    have hm : rightM m = true := by unfold rightM; rw [h, hI]; rfl
    simp (maxSteps := 10000000) only [go_sem, ↓reduceIte, Nat.reduceMul, Nat.reduceDiv, Nat.reduceAdd, Nat.reduceEqDiff, Nat.reduceLeDiff, Nat.reduceLT, reduceCtorEq, Int.reduceNeg, Int.reduceLT, Int.reduceLE, Int.reduceAdd, Int.reduceToNat, Nat.reduceBEq, Int.reduceMul, Int.reduceSub, Nat.reduceSub, Int.reduceBNe, Nat.reduceBNe, List.replicate_succ, d, d0, d5, hm]
    repeat' first | (with_reducible apply And.intro) | (with_reducible apply condP <;> intro _)
    all_goals first | (show chk _ _ = true; kernel_rfl) | assumption | rfl | (simp only [AV.s, cond_true, cond_false, Bool.and_true, Bool.true_and, Bool.and_false, Bool.false_and, Bool.not_true, Bool.not_false, *] <;> rfl)
theorem y_rm5 (m : List (List J)) (h : 4 < m.length) : Ct Tryz.prog 10 [mA_ m] (· = bA false) := by
  refine ct_of (O := tblO T6_Right) (by kernel_rfl) tyM_ok (fun w => tblO_ok T6_Right_ok _ w) [9999999, 0, 4, 6] ((4 + 1) * 400 + 200) 38 [.tmp 2] Tryz.func10 rfl Tryz.ntmps10 (by rw [Tryz.results10]) (by simp) rfl (fun hsm => ?_)
  simp (maxSteps := 10000000) only [go_sem, ↓reduceIte, Nat.reduceMul, Nat.reduceDiv, Nat.reduceAdd, Nat.reduceEqDiff, Nat.reduceLeDiff, Nat.reduceLT, reduceCtorEq, Int.reduceNeg, Int.reduceLT, Int.reduceLE, Int.reduceAdd, Int.reduceToNat, Nat.reduceBEq, Int.reduceMul, Int.reduceSub, Nat.reduceSub, Int.reduceBNe, Nat.reduceBNe, List.replicate_succ, T6_Right]
  refine loop_ind 400 (fun j => [(0, mA_ m), (4, bA false), (6, iA (j : Int))]) 4 (fun j => True) 0 (fun j _ => rfl) (fun j mm _ hj hI ih => ?_) (by omega) trivial rfl
  rcases Nat.lt_or_ge j 4 with hlt | hge
  · have hjm : j < m.length := by omega
    have hx := at_get [] hjm
    generalize m.getD j [] = r at hx
    have e1 := rC_at hx
    have d := decide_eq_true (show (j : Int) < (m.length : Int) by omega)
    have d4 := decide_eq_true (show (j : Int) < 4 by omega)
    have g1 : (j < m.length) = True := eq_true hjm
    have g0 : (0 ≤ (j : Int)) = True := eq_true (by omega)
    have hw := wrap_nat (j := j) (by omega)
    replace ih := ih hlt trivial
    cases hq : ((r.length : Int) != (m.length : Int)) with
    | true =>
      simp (maxSteps := 10000000) only [go_sem, ↓reduceIte, Nat.reduceMul, Nat.reduceDiv, Nat.reduceAdd, Nat.reduceEqDiff, Nat.reduceLeDiff, Nat.reduceLT, reduceCtorEq, Int.reduceNeg, Int.reduceLT, Int.reduceLE, Int.reduceAdd, Int.reduceToNat, Nat.reduceBEq, Int.reduceMul, Int.reduceSub, Nat.reduceSub, Int.reduceBNe, Nat.reduceBNe, List.replicate_succ, d, d4, g0, g1, e1, hw, T6_Right, hq]
      repeat' first | (with_reducible apply And.intro) | (with_reducible apply condP <;> intro _)
      all_goals first | (show chk _ _ = true; kernel_rfl) | assumption | rfl | (simp only [AV.s, cond_true, cond_false, Bool.and_true, Bool.true_and, Bool.and_false, Bool.false_and, Bool.not_true, Bool.not_false, *] <;> rfl)
    | false =>
      cases hr : rightB r with
      | false =>
        simp (maxSteps := 10000000) only [go_sem, ↓reduceIte, Nat.reduceMul, Nat.reduceDiv, Nat.reduceAdd, Nat.reduceEqDiff, Nat.reduceLeDiff, Nat.reduceLT, reduceCtorEq, Int.reduceNeg, Int.reduceLT, Int.reduceLE, Int.reduceAdd, Int.reduceToNat, Nat.reduceBEq, Int.reduceMul, Int.reduceSub, Nat.reduceSub, Int.reduceBNe, Nat.reduceBNe, List.replicate_succ, d, d4, g0, g1, e1, hw, T6_Right, hq, hr]
        repeat' first | (with_reducible apply And.intro) | (with_reducible apply condP <;> intro _)
        all_goals first | (show chk _ _ = true; kernel_rfl) | assumption | rfl | (simp only [AV.s, cond_true, cond_false, Bool.and_true, Bool.true_and, Bool.and_false, Bool.false_and, Bool.not_true, Bool.not_false, *] <;> rfl)
      | true =>
        simp (maxSteps := 10000000) only [go_sem, ↓reduceIte, Nat.reduceMul, Nat.reduceDiv, Nat.reduceAdd, Nat.reduceEqDiff, Nat.reduceLeDiff, Nat.reduceLT, reduceCtorEq, Int.reduceNeg, Int.reduceLT, Int.reduceLE, Int.reduceAdd, Int.reduceToNat, Nat.reduceBEq, Int.reduceMul, Int.reduceSub, Nat.reduceSub, Int.reduceBNe, Nat.reduceBNe, List.replicate_succ, d, d4, g0, g1, e1, hw, T6_Right, hq, hr]
        repeat' first | (with_reducible apply And.intro) | (with_reducible apply condP <;> intro _)
        all_goals first | (show chk _ _ = true; kernel_rfl) | (exact ih _ _ rfl) | assumption | rfl
  · have hn : j = 4 := by omega
    subst hn
    have d := decide_eq_true (show ((4 : Nat) : Int) < (m.length : Int) by omega)
    have d4 : decide (((4 : Nat) : Int) < 4) = false := rfl
    have d0 := decide_eq_true (show (0 : Int) < (m.length : Int) by omega)
    have d5 := decide_eq_false (show ¬ (m.length : Int) ≤ 4 by omega)
    simp (maxSteps := 10000000) only [go_sem, ↓reduceIte, Nat.reduceMul, Nat.reduceDiv, Nat.reduceAdd, Nat.reduceEqDiff, Nat.reduceLeDiff, Nat.reduceLT, reduceCtorEq, Int.reduceNeg, Int.reduceLT, Int.reduceLE, Int.reduceAdd, Int.reduceToNat, Nat.reduceBEq, Int.reduceMul, Int.reduceSub, Nat.reduceSub, Int.reduceBNe, Nat.reduceBNe, List.replicate_succ, d, d4, d0, d5]
    repeat' first | (with_reducible apply And.intro) | (with_reducible apply condP <;> intro _)
    all_goals first | (show chk _ _ = true; kernel_rfl) | assumption | rfl | (simp only [AV.s, cond_true, cond_false, Bool.and_true, Bool.true_and, Bool.and_false, Bool.false_and, Bool.not_true, Bool.not_false, *] <;> rfl)
theorem y_rm (m : List (List J)) : Ct Tryz.prog 10 [mA_ m] (· = bA (rightM m)) := by
  rcases Nat.eq_zero_or_pos m.length with h0 | h0
  · obtain rfl := List.eq_nil_of_length_eq_zero h0; exact y_rm0
  · rcases Nat.lt_or_ge 4 m.length with h4 | h4
    · rw [rightM_long h4]; exact y_rm5 m h4
    · exact y_rm1 m (by unfold rng; rw [decide_eq_true (show (1 : Int) ≤ (m.length : Int) by omega), cond_true]; exact decide_eq_true (by omega))
noncomputable def T7_Right : Tbl := one 10 (gA asM fun m => gE (True, bA (rightM m)))
theorem T7_Right_ok : TbOK Tryz.prog T7_Right := one_t (ent Tryz.func10 (by kernel_rfl) rfl) (.a asM_ok fun m => .e fun _ => y_rm m)
theorem y_sm_e0 (l m : List (List J)) (hl : ((l.length : Int) != (m.length : Int)) = true) : Ct Tryz.prog 12 [mA_ l, mA_ m] (· = bA false) := by
  refine ct_of (O := tblO T6_Same) (by kernel_rfl) tyM_ok (fun w => tblO_ok T6_Same_ok _ w) [] 600 27 [.tmp 4] Tryz.func12 rfl Tryz.ntmps12 (by rw [Tryz.results12]) (by simp) rfl (fun hsm => ?_)
  simp (maxSteps := 10000000) only [go_sem, ↓reduceIte, Nat.reduceMul, Nat.reduceDiv, Nat.reduceAdd, Nat.reduceEqDiff, Nat.reduceLeDiff, Nat.reduceLT, reduceCtorEq, Int.reduceNeg, Int.reduceLT, Int.reduceLE, Int.reduceAdd, Int.reduceToNat, Nat.reduceBEq, Int.reduceMul, Int.reduceSub, Nat.reduceSub, Int.reduceBNe, Nat.reduceBNe, List.replicate_succ, T6_Same, hl, bxe, pxe, lpf, hdS, hd1, pick, forget, frh, frz, frS, frA, frL]
  repeat' first | (with_reducible apply And.intro) | (with_reducible apply condP <;> intro _)
  all_goals first | (show chk _ _ = true; kernel_rfl) | assumption | rfl | (simp only [AV.s, cond_true, cond_false, Bool.and_true, Bool.true_and, Bool.and_false, Bool.false_and, Bool.not_true, Bool.not_false, *] <;> rfl)
theorem y_sm_ok (l m : List (List J)) (hl : ((l.length : Int) != (m.length : Int)) = false) (hb : l.length ≤ 1000) (h3 : ∀ r ∈ l, r.length ≤ 6) : Ct Tryz.prog 12 [mA_ l, mA_ m] (· = bA (all2 sameB l m)) := by
  have hlm : l.length = m.length := by have : (l.length : Int) = (m.length : Int) := by simpa using hl
                                       omega
  refine ct_of (O := tblO T6_Same) (by kernel_rfl) tyM_ok (fun w => tblO_ok T6_Same_ok _ w) [9999999, 0, 2, 8, 10] ((l.length + 1) * 300 + 200) 27 [.tmp 4] Tryz.func12 rfl Tryz.ntmps12 (by rw [Tryz.results12]) (by simp) rfl (fun hsm => ?_)
  simp (maxSteps := 10000000) only [go_sem, ↓reduceIte, Nat.reduceMul, Nat.reduceDiv, Nat.reduceAdd, Nat.reduceEqDiff, Nat.reduceLeDiff, Nat.reduceLT, reduceCtorEq, Int.reduceNeg, Int.reduceLT, Int.reduceLE, Int.reduceAdd, Int.reduceToNat, Nat.reduceBEq, Int.reduceMul, Int.reduceSub, Nat.reduceSub, Int.reduceBNe, Nat.reduceBNe, List.replicate_succ, T6_Same, hl]
  refine loop_ind 300 (fun j => [(0, mA_ l), (2, mA_ m), (8, bA false), (10, iA (j : Int))]) l.length (fun j => all2 sameB (l.take j) (m.take j) = true) 0 (fun j _ => rfl) (fun j mm _ hj hI ih => ?_) (by omega) (by simp [all2]) rfl
  rcases Nat.lt_or_ge j l.length with hlt | hge
  · have hx := at_get [] hlt
    have hy := at_get [] (show j < m.length by omega)
    have hr := h3 _ (List.mem_of_getElem? hx)
    have g4 : ((l.getD j []).length ≤ 6) = True := eq_true hr
    generalize l.getD j [] = x at *
    generalize m.getD j [] = y at *
    have e1 := rC_at hx
    have e2 := rC_at hy
    have d := decide_eq_true (show (j : Int) < (l.length : Int) by omega)
    have g1 : (j < l.length) = True := eq_true hlt
    have g0 : (0 ≤ (j : Int)) = True := eq_true (by omega)
    have hw := wrap_nat (j := j) (by omega)
    have g2 : (j < m.length) = True := eq_true (by omega)
    obtain ⟨s1, s2⟩ := all2_step (φ := sameB) hx hy
    replace ih := ih hlt
    cases hp : sameB x y with
    | false =>
      have s1 := s1 hp
      simp (maxSteps := 10000000) only [go_sem, ↓reduceIte, Nat.reduceMul, Nat.reduceDiv, Nat.reduceAdd, Nat.reduceEqDiff, Nat.reduceLeDiff, Nat.reduceLT, reduceCtorEq, Int.reduceNeg, Int.reduceLT, Int.reduceLE, Int.reduceAdd, Int.reduceToNat, Nat.reduceBEq, Int.reduceMul, Int.reduceSub, Nat.reduceSub, Int.reduceBNe, Nat.reduceBNe, List.replicate_succ, T6_Same, d, g0, g1, hw, g2, e1, e2, hp, s1, g4]
      repeat' first | (with_reducible apply And.intro) | (with_reducible apply condP <;> intro _)
      all_goals first | (show chk _ _ = true; kernel_rfl) | assumption | rfl | (simp only [AV.s, cond_true, cond_false, Bool.and_true, Bool.true_and, Bool.and_false, Bool.false_and, Bool.not_true, Bool.not_false, *] <;> rfl)
    | true =>
      replace ih := ih (s2 hI hp)
      simp (maxSteps := 10000000) only [go_sem, ↓reduceIte, Nat.reduceMul, Nat.reduceDiv, Nat.reduceAdd, Nat.reduceEqDiff, Nat.reduceLeDiff, Nat.reduceLT, reduceCtorEq, Int.reduceNeg, Int.reduceLT, Int.reduceLE, Int.reduceAdd, Int.reduceToNat, Nat.reduceBEq, Int.reduceMul, Int.reduceSub, Nat.reduceSub, Int.reduceBNe, Nat.reduceBNe, List.replicate_succ, T6_Same, d, g0, g1, hw, g2, e1, e2, hp, g4]
      repeat' first | (with_reducible apply And.intro) | (with_reducible apply condP <;> intro _)
      all_goals first | (show chk _ _ = true; kernel_rfl) | (exact ih _ _ rfl) | assumption | rfl
  · have hn : j = l.length := by omega
    subst hn
    have d := decide_eq_false (show ¬ (l.length : Int) < (l.length : Int) by omega)
    rw [List.take_of_length_le (Nat.le_refl _), List.take_of_length_le (by omega)] at hI
    simp (maxSteps := 10000000) only [go_sem, ↓reduceIte, Nat.reduceMul, Nat.reduceDiv, Nat.reduceAdd, Nat.reduceEqDiff, Nat.reduceLeDiff, Nat.reduceLT, reduceCtorEq, Int.reduceNeg, Int.reduceLT, Int.reduceLE, Int.reduceAdd, Int.reduceToNat, Nat.reduceBEq, Int.reduceMul, Int.reduceSub, Nat.reduceSub, Int.reduceBNe, Nat.reduceBNe, List.replicate_succ, d, hI]
    repeat' first | (with_reducible apply And.intro) | (with_reducible apply condP <;> intro _)
    all_goals first | (show chk _ _ = true; kernel_rfl) | assumption | rfl | (simp only [AV.s, cond_true, cond_false, Bool.and_true, Bool.true_and, Bool.and_false, Bool.false_and, Bool.not_true, Bool.not_false, *] <;> rfl)
theorem y_sm (l m : List (List J)) (hb : l.length ≤ 1000 ∧ ∀ r ∈ l, r.length ≤ 6) : Ct Tryz.prog 12 [mA_ l, mA_ m] (· = bA (sameM l m)) := by
  unfold sameM
  cases hl : ((l.length : Int) != (m.length : Int)) with
  | true => rw [all2_ne (fun e => by rw [e, bne_self_eq_false] at hl; cases hl)]; exact y_sm_e0 l m hl
  | false => exact y_sm_ok l m hl hb.1 hb.2
noncomputable def T7_Same : Tbl := one 12 (gA asM fun l => gA asM fun m => gE (l.length ≤ 1000 ∧ ∀ r ∈ l, r.length ≤ 6, bA (sameM l m)))
theorem T7_Same_ok : TbOK Tryz.prog T7_Same := one_t (ent Tryz.func12 (by kernel_rfl) rfl) (.a asM_ok fun l => .a asM_ok fun m => .e fun h => y_sm l m h)
theorem y_im_e0 (l m : List (List J)) (h1 : rightM l = false) : Ct Tryz.prog 14 [mA_ l, mA_ m] (· = bA false) := by
  refine ct_of (O := tblO (orT T7_Right T6_In)) (by kernel_rfl) tyM_ok (fun w => tblO_ok (orT_ok T7_Right_ok T6_In_ok) _ w) [] 600 37 [.tmp 4] Tryz.func14 rfl Tryz.ntmps14 (by rw [Tryz.results14]) (by simp) rfl (fun hsm => ?_)
  simp (maxSteps := 10000000) only [go_sem, ↓reduceIte, Nat.reduceMul, Nat.reduceDiv, Nat.reduceAdd, Nat.reduceEqDiff, Nat.reduceLeDiff, Nat.reduceLT, reduceCtorEq, Int.reduceNeg, Int.reduceLT, Int.reduceLE, Int.reduceAdd, Int.reduceToNat, Nat.reduceBEq, Int.reduceMul, Int.reduceSub, Nat.reduceSub, Int.reduceBNe, Nat.reduceBNe, List.replicate_succ, T7_Right, T6_In, h1, bxe, pxe, lpf, hdS, hd1, pick, forget, frh, frz, frS, frA, frL]
  repeat' first | (with_reducible apply And.intro) | (with_reducible apply condP <;> intro _)
  all_goals first | (show chk _ _ = true; kernel_rfl) | assumption | rfl | (simp only [AV.s, cond_true, cond_false, Bool.and_true, Bool.true_and, Bool.and_false, Bool.false_and, Bool.not_true, Bool.not_false, *] <;> rfl)
theorem y_im_e1 (l m : List (List J)) (h1 : rightM l = true) (h2 : rightM m = false) : Ct Tryz.prog 14 [mA_ l, mA_ m] (· = bA false) := by
  refine ct_of (O := tblO (orT T7_Right T6_In)) (by kernel_rfl) tyM_ok (fun w => tblO_ok (orT_ok T7_Right_ok T6_In_ok) _ w) [] 600 37 [.tmp 4] Tryz.func14 rfl Tryz.ntmps14 (by rw [Tryz.results14]) (by simp) rfl (fun hsm => ?_)
  simp (maxSteps := 10000000) only [go_sem, ↓reduceIte, Nat.reduceMul, Nat.reduceDiv, Nat.reduceAdd, Nat.reduceEqDiff, Nat.reduceLeDiff, Nat.reduceLT, reduceCtorEq, Int.reduceNeg, Int.reduceLT, Int.reduceLE, Int.reduceAdd, Int.reduceToNat, Nat.reduceBEq, Int.reduceMul, Int.reduceSub, Nat.reduceSub, Int.reduceBNe, Nat.reduceBNe, List.replicate_succ, T7_Right, T6_In, h1, h2, bxe, pxe, lpf, hdS, hd1, pick, forget, frh, frz, frS, frA, frL]
  repeat' first | (with_reducible apply And.intro) | (with_reducible apply condP <;> intro _)
  all_goals first | (show chk _ _ = true; kernel_rfl) | assumption | rfl | (simp only [AV.s, cond_true, cond_false, Bool.and_true, Bool.true_and, Bool.and_false, Bool.false_and, Bool.not_true, Bool.not_false, *] <;> rfl)
theorem y_im_e2 (l m : List (List J)) (h1 : rightM l = true) (h2 : rightM m = true) (hl : ((l.length : Int) != (m.length : Int)) = true) : Ct Tryz.prog 14 [mA_ l, mA_ m] (· = bA false) := by
  refine ct_of (O := tblO (orT T7_Right T6_In)) (by kernel_rfl) tyM_ok (fun w => tblO_ok (orT_ok T7_Right_ok T6_In_ok) _ w) [] 600 37 [.tmp 4] Tryz.func14 rfl Tryz.ntmps14 (by rw [Tryz.results14]) (by simp) rfl (fun hsm => ?_)
  simp (maxSteps := 10000000) only [go_sem, ↓reduceIte, Nat.reduceMul, Nat.reduceDiv, Nat.reduceAdd, Nat.reduceEqDiff, Nat.reduceLeDiff, Nat.reduceLT, reduceCtorEq, Int.reduceNeg, Int.reduceLT, Int.reduceLE, Int.reduceAdd, Int.reduceToNat, Nat.reduceBEq, Int.reduceMul, Int.reduceSub, Nat.reduceSub, Int.reduceBNe, Nat.reduceBNe, List.replicate_succ, T7_Right, T6_In, h1, h2, hl, bxe, pxe, lpf, hdS, hd1, pick, forget, frh, frz, frS, frA, frL]
  repeat' first | (with_reducible apply And.intro) | (with_reducible apply condP <;> intro _)
  all_goals first | (show chk _ _ = true; kernel_rfl) | assumption | rfl | (simp only [AV.s, cond_true, cond_false, Bool.and_true, Bool.true_and, Bool.and_false, Bool.false_and, Bool.not_true, Bool.not_false, *] <;> rfl)
theorem y_im_ok (l m : List (List J)) (h1 : rightM l = true) (h2 : rightM m = true) (hl : ((l.length : Int) != (m.length : Int)) = false) : Ct Tryz.prog 14 [mA_ l, mA_ m] (· = bA (all2 inB l m)) := by
  have hlm : l.length = m.length := by have : (l.length : Int) = (m.length : Int) := by simpa using hl
                                       omega
  have hb := (rightM_sq h1).1
  refine ct_of (O := tblO (orT T7_Right T6_In)) (by kernel_rfl) tyM_ok (fun w => tblO_ok (orT_ok T7_Right_ok T6_In_ok) _ w) [9999999, 0, 2, 8, 10] ((l.length + 1) * 300 + 200) 37 [.tmp 4] Tryz.func14 rfl Tryz.ntmps14 (by rw [Tryz.results14]) (by simp) rfl (fun hsm => ?_)
  simp (maxSteps := 10000000) only [go_sem, ↓reduceIte, Nat.reduceMul, Nat.reduceDiv, Nat.reduceAdd, Nat.reduceEqDiff, Nat.reduceLeDiff, Nat.reduceLT, reduceCtorEq, Int.reduceNeg, Int.reduceLT, Int.reduceLE, Int.reduceAdd, Int.reduceToNat, Nat.reduceBEq, Int.reduceMul, Int.reduceSub, Nat.reduceSub, Int.reduceBNe, Nat.reduceBNe, List.replicate_succ, T7_Right, T6_In, h1, h2, hl]
  refine loop_ind 300 (fun j => [(0, mA_ l), (2, mA_ m), (8, bA false), (10, iA (j : Int))]) l.length (fun j => all2 inB (l.take j) (m.take j) = true) 0 (fun j _ => rfl) (fun j mm _ hj hI ih => ?_) (by omega) (by simp [all2]) rfl
  rcases Nat.lt_or_ge j l.length with hlt | hge
  · have hx := at_get [] hlt
    have hy := at_get [] (show j < m.length by omega)
    generalize l.getD j [] = x at *
    generalize m.getD j [] = y at *
    have e1 := rC_at hx
    have e2 := rC_at hy
    have d := decide_eq_true (show (j : Int) < (l.length : Int) by omega)
    have g1 : (j < l.length) = True := eq_true hlt
    have g0 : (0 ≤ (j : Int)) = True := eq_true (by omega)
    have hw := wrap_nat (j := j) (by omega)
    have g2 : (j < m.length) = True := eq_true (by omega)
    obtain ⟨s1, s2⟩ := all2_step (φ := inB) hx hy
    replace ih := ih hlt
    cases hp : inB x y with
    | false =>
      have s1 := s1 hp
      simp (maxSteps := 10000000) only [go_sem, ↓reduceIte, Nat.reduceMul, Nat.reduceDiv, Nat.reduceAdd, Nat.reduceEqDiff, Nat.reduceLeDiff, Nat.reduceLT, reduceCtorEq, Int.reduceNeg, Int.reduceLT, Int.reduceLE, Int.reduceAdd, Int.reduceToNat, Nat.reduceBEq, Int.reduceMul, Int.reduceSub, Nat.reduceSub, Int.reduceBNe, Nat.reduceBNe, List.replicate_succ, T7_Right, T6_In, d, g0, g1, hw, g2, e1, e2, hp, s1]
      repeat' first | (with_reducible apply And.intro) | (with_reducible apply condP <;> intro _)
      all_goals first | (show chk _ _ = true; kernel_rfl) | assumption | rfl | (simp only [AV.s, cond_true, cond_false, Bool.and_true, Bool.true_and, Bool.and_false, Bool.false_and, Bool.not_true, Bool.not_false, *] <;> rfl)
    | true =>
      replace ih := ih (s2 hI hp)
      simp (maxSteps := 10000000) only [go_sem, ↓reduceIte, Nat.reduceMul, Nat.reduceDiv, Nat.reduceAdd, Nat.reduceEqDiff, Nat.reduceLeDiff, Nat.reduceLT, reduceCtorEq, Int.reduceNeg, Int.reduceLT, Int.reduceLE, Int.reduceAdd, Int.reduceToNat, Nat.reduceBEq, Int.reduceMul, Int.reduceSub, Nat.reduceSub, Int.reduceBNe, Nat.reduceBNe, List.replicate_succ, T7_Right, T6_In, d, g0, g1, hw, g2, e1, e2, hp]
      repeat' first | (with_reducible apply And.intro) | (with_reducible apply condP <;> intro _)
      all_goals first | (show chk _ _ = true; kernel_rfl) | (exact ih _ _ rfl) | assumption | rfl
  · have hn : j = l.length := by omega
    subst hn
    have d := decide_eq_false (show ¬ (l.length : Int) < (l.length : Int) by omega)
    rw [List.take_of_length_le (Nat.le_refl _), List.take_of_length_le (by omega)] at hI
    simp (maxSteps := 10000000) only [go_sem, ↓reduceIte, Nat.reduceMul, Nat.reduceDiv, Nat.reduceAdd, Nat.reduceEqDiff, Nat.reduceLeDiff, Nat.reduceLT, reduceCtorEq, Int.reduceNeg, Int.reduceLT, Int.reduceLE, Int.reduceAdd, Int.reduceToNat, Nat.reduceBEq, Int.reduceMul, Int.reduceSub, Nat.reduceSub, Int.reduceBNe, Nat.reduceBNe, List.replicate_succ, d, hI]
    repeat' first | (with_reducible apply And.intro) | (with_reducible apply condP <;> intro _)
    all_goals first | (show chk _ _ = true; kernel_rfl) | assumption | rfl | (simp only [AV.s, cond_true, cond_false, Bool.and_true, Bool.true_and, Bool.and_false, Bool.false_and, Bool.not_true, Bool.not_false, *] <;> rfl)
theorem y_im (l m : List (List J)) : Ct Tryz.prog 14 [mA_ l, mA_ m] (· = bA (inM l m)) := by
  unfold inM
  cases h1 : rightM l with
  | false => exact y_im_e0 l m h1
  | true =>
    cases h2 : rightM m with
    | false => exact y_im_e1 l m h1 h2
    | true =>
      rw [cond_true, cond_true]
      cases hl : ((l.length : Int) != (m.length : Int)) with
      | true => rw [all2_ne (fun e => by rw [e, bne_self_eq_false] at hl; cases hl)]; exact y_im_e2 l m h1 h2 hl
      | false => exact y_im_ok l m h1 h2 hl
noncomputable def T7_In : Tbl := one 14 (gA asM fun l => gA asM fun m => gE (True, bA (inM l m)))
theorem T7_In_ok : TbOK Tryz.prog T7_In := one_t (ent Tryz.func14 (by kernel_rfl) rfl) (.a asM_ok fun l => .a asM_ok fun m => .e fun _ => y_im l m)
def wB (m : List (List J)) : List Lf := m.flatMap fun l => [boxL l]
theorem wB_me (st : St) (m : List (List J)) : (wB m).all (ment st) = true := by
  unfold wB
  induction m with
  | nil => rfl
  | cons l m ih => rw [List.flatMap_cons, List.all_append, ih, List.all_cons, ment_box]; rfl
theorem wB_len (m : List (List J)) : (wB m).length = m.length := by
  unfold wB
  induction m with
  | nil => rfl
  | cons l m ih => rw [List.flatMap_cons, List.length_append, ih]; simp; omega
theorem wB_dn (m : List (List J)) : dnT (wB m) = some (m.map rC0) := by
  unfold wB
  rw [← fm_one]
  exact dnT_fm dnT_box _
def stP (a : List (List X)) : Nat → St
  | 0 => [(0, qA_ a), (4, .s (.lit (.slice none 0 0))), (6, .s (.lit (.slice none 0 0))), (8, iA 0)]
  | j + 1 => [(0, qA_ a), (4, .s (.lit (.slice none 0 0))), (6, .s (.ol 18 (j + 1))), (8, iA ((j + 1 : Nat) : Int)), (37, .pre 41 1 (wB ((a.map poi).take (j + 1))))]
theorem y_pm0  : Ct Tryz.prog 16 [qA_ []] (· = .s (.lit (.slice none 0 0))) := by
  refine ct_of (O := tblO T6_Points) (by kernel_rfl) tyM_ok (fun w => tblO_ok T6_Points_ok _ w) [] 600 20 [.tmp 2] Tryz.func16 rfl Tryz.ntmps16 (by rw [Tryz.results16]) (by simp) rfl (fun hsm => ?_)
  simp (maxSteps := 10000000) only [go_sem, ↓reduceIte, Nat.reduceMul, Nat.reduceDiv, Nat.reduceAdd, Nat.reduceEqDiff, Nat.reduceLeDiff, Nat.reduceLT, reduceCtorEq, Int.reduceNeg, Int.reduceLT, Int.reduceLE, Int.reduceAdd, Int.reduceToNat, Nat.reduceBEq, Int.reduceMul, Int.reduceSub, Nat.reduceSub, Int.reduceBNe, Nat.reduceBNe, List.replicate_succ, T6_Points, bxe, pxe, lpf, hdS, hd1, pick, forget, frh, frz, frS, frA, frL]
  repeat' first | (with_reducible apply And.intro) | (with_reducible apply condP <;> intro _)
  all_goals first | (show chk _ _ = true; kernel_rfl) | assumption | rfl | (simp only [AV.s, cond_true, cond_false, Bool.and_true, Bool.true_and, Bool.and_false, Bool.false_and, Bool.not_true, Bool.not_false, *] <;> rfl)
theorem y_pm1 (a : List (List X)) (n : Nat) (hn : a.length = n + 1) (h2 : n ≤ 100) (h3 : ∀ r ∈ a, r.length ≤ 6) : Ct Tryz.prog 16 [qA_ a] (· = .s (.sl true 1 (n + 1) ((a.map poi).map rC0))) := by
  refine ct_of (O := tblO T6_Points) (by kernel_rfl) tyM_ok (fun w => tblO_ok T6_Points_ok _ w) [9999999, 0, 4, 6, 8, 37] ((n + 1 + 1) * 200 + 100) 20 [.tmp 2] Tryz.func16 rfl Tryz.ntmps16 (by rw [Tryz.results16]) (by simp) rfl (fun hsm => ?_)
  simp (maxSteps := 10000000) only [go_sem, ↓reduceIte, Nat.reduceMul, Nat.reduceDiv, Nat.reduceAdd, Nat.reduceEqDiff, Nat.reduceLeDiff, Nat.reduceLT, reduceCtorEq, Int.reduceNeg, Int.reduceLT, Int.reduceLE, Int.reduceAdd, Int.reduceToNat, Nat.reduceBEq, Int.reduceMul, Int.reduceSub, Nat.reduceSub, Int.reduceBNe, Nat.reduceBNe, List.replicate_succ, T6_Points]
  refine loop_ind 200 (stP a) (n + 1) (fun j => True) 0 (fun j _ => by cases j with
    | zero => rfl
    | succ j => simp only [stP, List.all_cons, List.all_nil, mentA, ment, wB_me, Bool.and_true]; rfl) (fun j mm _ hj _ ih => ?_) (by omega) trivial rfl
  rcases Nat.lt_or_ge j (n + 1) with hlt | hge
  · have hx := at_get [] (show j < a.length by omega)
    have hr := h3 _ (List.mem_of_getElem? hx)
    generalize a.getD j [] = r at hx hr
    have e1 := rP_at hx
    have d := decide_eq_true (show (j : Int) < (a.length : Int) by omega)
    have g1 : (j < a.length) = True := eq_true (by omega)
    have g0 : (0 ≤ (j : Int)) = True := eq_true (by omega)
    have hw := wrap_nat (j := j) (by omega)
    have g4 : (r.length ≤ 6) = True := eq_true hr
    have ht : (a.map poi).take (j + 1) = (a.map poi).take j ++ [poi r] := by rw [List.take_add_one, List.getElem?_map, hx]; rfl
    have es : wB ((a.map poi).take j) ++ [boxL (pts r)] = wB ((a.map poi).take (j + 1)) := by rw [ht]; unfold wB; rw [List.flatMap_append]; rfl
    replace ih := ih hlt trivial
    rcases Nat.eq_zero_or_pos j with hj0 | hj0
    · have hst : stP a j = [(0, qA_ a), (4, .s (.lit (.slice none 0 0))), (6, .s (.lit (.slice none 0 0))), (8, iA (j : Int))] := by subst hj0; rfl
      rw [hst]
      simp (maxSteps := 10000000) only [go_sem, ↓reduceIte, Nat.reduceMul, Nat.reduceDiv, Nat.reduceAdd, Nat.reduceEqDiff, Nat.reduceLeDiff, Nat.reduceLT, reduceCtorEq, Int.reduceNeg, Int.reduceLT, Int.reduceLE, Int.reduceAdd, Int.reduceToNat, Nat.reduceBEq, Int.reduceMul, Int.reduceSub, Nat.reduceSub, Int.reduceBNe, Nat.reduceBNe, List.replicate_succ, T6_Points, e1, g4, hw, g0, g1, d]
      repeat' first | (with_reducible apply And.intro) | (with_reducible apply condP <;> intro _)
      all_goals first | (show chk _ _ = true; kernel_rfl) | (exact ih _ _ (by subst hj0; rw [stP, ← es]; rfl)) | assumption | rfl
    · obtain ⟨j, rfl⟩ : ∃ i, j = i + 1 := ⟨j - 1, by omega⟩
      have hl : (wB ((a.map poi).take (j + 1))).length = (j + 1) * 1 := by rw [wB_len, List.length_take, List.length_map]; omega
      have g5 : (j + 1 ≤ 100000) = True := eq_true (by omega)
      simp (maxSteps := 10000000) only [go_sem, ↓reduceIte, Nat.reduceMul, Nat.reduceDiv, Nat.reduceAdd, Nat.reduceEqDiff, Nat.reduceLeDiff, Nat.reduceLT, reduceCtorEq, Int.reduceNeg, Int.reduceLT, Int.reduceLE, Int.reduceAdd, Int.reduceToNat, Nat.reduceBEq, Int.reduceMul, Int.reduceSub, Nat.reduceSub, Int.reduceBNe, Nat.reduceBNe, List.replicate_succ, T6_Points, stP, e1, g4, hw, g0, g1, d, hl, g5, es]
      repeat' first | (with_reducible apply And.intro) | (with_reducible apply condP <;> intro _)
      all_goals first | (show chk _ _ = true; kernel_rfl) | (exact ih _ _ rfl) | assumption | rfl
  · obtain rfl : j = n + 1 := by omega
    have dn : (n + 1 < a.length) = False := eq_false (by omega)
    have ht : (a.map poi).take (n + 1) = a.map poi := List.take_of_length_le (by rw [List.length_map]; omega)
    have hl : (wB (a.map poi)).length = (n + 1) * 1 := by rw [wB_len, List.length_map]; omega
    have hdn := wB_dn (a.map poi)
    simp (maxSteps := 10000000) only [go_sem, ↓reduceIte, Nat.reduceMul, Nat.reduceDiv, Nat.reduceAdd, Nat.reduceEqDiff, Nat.reduceLeDiff, Nat.reduceLT, reduceCtorEq, Int.reduceNeg, Int.reduceLT, Int.reduceLE, Int.reduceAdd, Int.reduceToNat, Nat.reduceBEq, Int.reduceMul, Int.reduceSub, Nat.reduceSub, Int.reduceBNe, Nat.reduceBNe, List.replicate_succ, stP, dn, ht, hl, hdn]
    repeat' first | (with_reducible apply And.intro) | (with_reducible apply condP <;> intro _)
    all_goals first | (show chk _ _ = true; kernel_rfl) | assumption | rfl | (simp only [AV.s, cond_true, cond_false, Bool.and_true, Bool.true_and, Bool.and_false, Bool.false_and, Bool.not_true, Bool.not_false, *] <;> rfl)
theorem y_pm (a : List (List X)) (h : a.length ≤ 100 ∧ ∀ r ∈ a, r.length ≤ 6) : Ct Tryz.prog 16 [qA_ a] (· = .s (mL (a.map poi))) := by
  cases hn : a.length with
  | zero => obtain rfl := List.eq_nil_of_length_eq_zero hn; exact y_pm0.wk (wk_one (fun _ _ _ _ h => nil_sl h) rfl)
  | succ n =>
    refine (y_pm1 a n hn (by omega) h.2).wk (wk_one (fun _ _ _ _ hR => mL_R ?_) rfl)
    rw [List.length_map, hn]; exact hR
noncomputable def T7_Points : Tbl := one 16 (gA asQ fun a => gE (a.length ≤ 100 ∧ ∀ r ∈ a, r.length ≤ 6, .s (mL (a.map poi))))
theorem T7_Points_ok : TbOK Tryz.prog T7_Points := one_t (ent Tryz.func16 (by kernel_rfl) rfl) (.a asQ_ok fun a => .e fun h => y_pm a h)
abbrev uX : X := ⟨false, 0, [1]⟩
def onR (n j : Nat) : List X := List.replicate j zX ++ uX :: List.replicate (n - 1 - j) zX
def onM (n : Nat) : List (List X) := (List.range n).map (onR n)
theorem onR_len {n j : Nat} (h : j < n) : (onR n j).length = n := by unfold onR; simp; omega
theorem onM_len (n : Nat) : (onM n).length = n := by unfold onM; simp
theorem onM_step {n j : Nat} (h : j < n) : (onM n).take (j + 1) = (onM n).take j ++ [onR n j] := by
  unfold onM
  rw [List.take_add_one, List.getElem?_map, List.getElem?_range h]; rfl
theorem onR_cells {n j : Nat} (h : j < n) : List.take (j * 3) (List.replicate n zX.L).flatten ++ uX.L ++ List.drop (j * 3 + 3) (List.replicate n zX.L).flatten = (onR n j).flatMap X.L := by
  rw [cut_rep (s := 3) rfl h]
  unfold onR
  rw [List.flatMap_append, List.flatMap_cons, fm_rep, fm_rep]
theorem id_on (n : Nat) : idM n = (onM n).map poi := by
  unfold idM onM
  rw [List.map_map]
  refine List.map_congr_left fun j _ => ?_
  show idR n j = poi (onR n j)
  unfold idR onR poi
  rw [List.map_append, List.map_cons, List.map_replicate, List.map_replicate]
  rw [show oJ = (⟨uX, uX⟩ : J) from by kernel_rfl]
  rfl
def wP (m : List (List X)) : List Lf := m.flatMap fun r => [.sl true 3 r.length (pC r)]
theorem wP_no (m : List (List X)) : (wP m).all noN = true := by
  unfold wP
  induction m with
  | nil => rfl
  | cons l m ih => rw [List.flatMap_cons, List.all_append, ih]; rfl
theorem wP_me (st : St) (m : List (List X)) : (wP m).all (ment st) = true := by
  unfold wP
  induction m with
  | nil => rfl
  | cons l m ih => rw [List.flatMap_cons, List.all_append, ih]; rfl
theorem wP_len (m : List (List X)) : (wP m).length = m.length := by
  unfold wP
  induction m with
  | nil => rfl
  | cons l m ih => rw [List.flatMap_cons, List.length_append, ih]; simp; omega
theorem wP_dn (m : List (List X)) : dnT (wP m) = some (m.map rP) := by
  unfold wP
  rw [← fm_one]
  exact dnT_fm (fun _ => rfl) _
def stO (n : Nat) : Nat → St
  | 0 => [(0, iA (n : Int)), (4, .s (.lit (.slice none 0 0))), (6, .s (.lit (.slice none 0 0))), (8, iA 0)]
  | j + 1 => [(0, iA (n : Int)), (4, .s (.lit (.slice none 0 0))), (6, .s (.ol 27 (j + 1))), (8, iA ((j + 1 : Nat) : Int)), (55, .pre 46 1 (wP ((onM n).take (j + 1))))]
theorem on_head {n j k : Nat} (h : j < n) (C : List Lf) (hC : C = wP ((onM n).take j)) : frz 18 [(0, iA (n : Int)), (4, .s (.lit (.slice none 0 0))), (6, .s (.ol 27 k)), (8, iA ((j + 1 : Nat) : Int)), (55, .pre 46 1 (C ++ [.osl 18 n])), (37, .v true ((onR n j).flatMap X.L))] = [(0, iA (n : Int)), (4, .s (.lit (.slice none 0 0))), (6, .s (.ol 27 k)), (8, iA ((j + 1 : Nat) : Int)), (55, .pre 46 1 (wP ((onM n).take (j + 1))))] := by
  have hd : dnT ((onR n j).flatMap X.L) = some (pC (onR n j)) := dnT_fm dnT_X _
  have hl : ((onR n j).flatMap X.L).length = n * 3 := by rw [fm_len (s := 3) (fun _ => rfl), onR_len h]
  have hq : n * 3 / n = 3 := Nat.mul_div_cancel_left _ (by omega)
  unfold frz
  generalize hs : ([(0, iA (n : Int)), (4, .s (.lit (.slice none 0 0))), (6, .s (.ol 27 k)), (8, iA ((j + 1 : Nat) : Int)), (55, .pre 46 1 (C ++ [.osl 18 n])), (37, .v true ((onR n j).flatMap X.L))] : St) = s0
  have hk : look s0 (2 * 18 + 1) = some (.v true ((onR n j).flatMap X.L)) := by rw [← hs]; rfl
  rw [hk]
  simp only [hd]
  have ho : outL s0 (.osl 18 n) = .sl true 3 n (pC (onR n j)) := by
    show (match look s0 (2 * 18 + 1) with
      | some (AV.v true ls) => (match dnT ls with
        | some ls' => if 18 < 1000 ∧ ls.length = n * (ls.length / n) then Lf.sl true (ls.length / n) n ls' else Lf.osl 18 n
        | none => Lf.osl 18 n)
      | _ => Lf.osl 18 n) = _
    rw [hk]
    simp only [hd, hl, hq, Nat.reduceLT, and_self, if_true]
  have f1 := fr_id (b := 18) (st := s0) (wP_no ((onM n).take j))
  have key : frA 18 s0 (.pre 46 1 (C ++ [.osl 18 n])) = .pre 46 1 (wP ((onM n).take (j + 1))) := by
    show AV.pre _ _ (List.map (frL 18 s0) _) = _
    rw [hC, List.map_append, f1, List.map_cons, List.map_nil, frL_osl, onM_step h]
    unfold wP
    rw [List.flatMap_append, show (bif 18 == 18 then outL s0 (Lf.osl 18 n) else Lf.osl 18 n) = outL s0 (.osl 18 n) from rfl, ho]
    rw [List.flatMap_cons, List.flatMap_nil, List.append_nil, onR_len h]
  rw [← hs]
  show (0, _) :: (4, _) :: (6, _) :: (8, _) :: (55, frA 18 _ _) :: [] = _
  rw [hs, key]
  rfl
theorem y_on0 (z : Int) (h1 : decide (z < 1) = true) : Ct Tryz.prog 17 [iA z] (· = .s (.lit (.slice none 0 0))) := by
  refine ct_of (O := tblO noT) (by kernel_rfl) tyM_ok (fun w => tblO_ok noT_ok _ w) [] 600 29 [.tmp 2] Tryz.func17 rfl Tryz.ntmps17 (by rw [Tryz.results17]) (by simp) rfl (fun hsm => ?_)
  simp (maxSteps := 10000000) only [go_sem, ↓reduceIte, Nat.reduceMul, Nat.reduceDiv, Nat.reduceAdd, Nat.reduceEqDiff, Nat.reduceLeDiff, Nat.reduceLT, reduceCtorEq, Int.reduceNeg, Int.reduceLT, Int.reduceLE, Int.reduceAdd, Int.reduceToNat, Nat.reduceBEq, Int.reduceMul, Int.reduceSub, Nat.reduceSub, Int.reduceBNe, Nat.reduceBNe, List.replicate_succ, h1, bxe, pxe, lpf, hdS, hd1, pick, forget, frh, frz, frS, frA, frL]
  repeat' first | (with_reducible apply And.intro) | (with_reducible apply condP <;> intro _)
  all_goals first | (show chk _ _ = true; kernel_rfl) | assumption | rfl | (simp only [AV.s, cond_true, cond_false, Bool.and_true, Bool.true_and, Bool.and_false, Bool.false_and, Bool.not_true, Bool.not_false, *] <;> rfl)
theorem y_on9 (z : Int) (h1 : decide (z < 1) = false) (h2 : decide (4 < z) = true) : Ct Tryz.prog 17 [iA z] (· = .s (.lit (.slice none 0 0))) := by
  refine ct_of (O := tblO noT) (by kernel_rfl) tyM_ok (fun w => tblO_ok noT_ok _ w) [] 600 29 [.tmp 2] Tryz.func17 rfl Tryz.ntmps17 (by rw [Tryz.results17]) (by simp) rfl (fun hsm => ?_)
  simp (maxSteps := 10000000) only [go_sem, ↓reduceIte, Nat.reduceMul, Nat.reduceDiv, Nat.reduceAdd, Nat.reduceEqDiff, Nat.reduceLeDiff, Nat.reduceLT, reduceCtorEq, Int.reduceNeg, Int.reduceLT, Int.reduceLE, Int.reduceAdd, Int.reduceToNat, Nat.reduceBEq, Int.reduceMul, Int.reduceSub, Nat.reduceSub, Int.reduceBNe, Nat.reduceBNe, List.replicate_succ, h1, h2, bxe, pxe, lpf, hdS, hd1, pick, forget, frh, frz, frS, frA, frL]
  repeat' first | (with_reducible apply And.intro) | (with_reducible apply condP <;> intro _)
  all_goals first | (show chk _ _ = true; kernel_rfl) | assumption | rfl | (simp only [AV.s, cond_true, cond_false, Bool.and_true, Bool.true_and, Bool.and_false, Bool.false_and, Bool.not_true, Bool.not_false, *] <;> rfl)
theorem y_on1 (n : Nat) (hn : n + 1 ≤ 4) : Ct Tryz.prog 17 [iA ((n + 1 : Nat) : Int)] (· = .s (.sl true 1 (n + 1) ((onM (n + 1)).map rP))) := by
  have h1 : decide (((n + 1 : Nat) : Int) < 1) = false := decide_eq_false (by omega)
  have h2 : decide (4 < ((n + 1 : Nat) : Int)) = false := decide_eq_false (by omega)
  have c1 : (0 ≤ ((n + 1 : Nat) : Int)) = True := eq_true (by omega)
  have c2 : (((n + 1 : Nat) : Int) ≤ 1000) = True := eq_true (by omega)
  refine ct_of (O := tblO noT) (by kernel_rfl) tyM_ok (fun w => tblO_ok noT_ok _ w) [9999998, 18, 9999999, 0, 4, 6, 8, 55, 37] ((n + 1 + 1) * 300 + 200) 29 [.tmp 2] Tryz.func17 rfl Tryz.ntmps17 (by rw [Tryz.results17]) (by simp) rfl (fun hsm => ?_)
  simp (maxSteps := 10000000) only [go_sem, ↓reduceIte, Nat.reduceMul, Nat.reduceDiv, Nat.reduceAdd, Nat.reduceEqDiff, Nat.reduceLeDiff, Nat.reduceLT, reduceCtorEq, Int.reduceNeg, Int.reduceLT, Int.reduceLE, Int.reduceAdd, Int.reduceToNat, Nat.reduceBEq, Int.reduceMul, Int.reduceSub, Nat.reduceSub, Int.reduceBNe, Nat.reduceBNe, List.replicate_succ, h1, h2]
  refine loop_ind 300 (stO (n + 1)) (n + 1) (fun j => True) 0 (fun j _ => by cases j with
    | zero => rfl
    | succ j => simp only [stO, List.all_cons, List.all_nil, mentA, ment, wP_me, Bool.and_true]; rfl) (fun j mm _ hj _ ih => ?_) (by omega) trivial rfl
  rcases Nat.lt_or_ge j (n + 1) with hlt | hge
  · have d := decide_eq_true (show (j : Int) < ((n + 1 : Nat) : Int) by omega)
    have g1 : (j < n + 1) = True := eq_true (by omega)
    have g0 : (0 ≤ (j : Int)) = True := eq_true (by omega)
    have hw := wrap_nat (j := j) (by omega)
    have g3 : (j * 3 + 3 ≤ (n + 1) * 3) = True := eq_true (by omega)
    have hz : (List.replicate (n + 1) ([.lit (.bool false), .lit (.int .i64 0), .ws []] : List Lf)).flatten.length = (n + 1) * 3 := rep_len rfl (n + 1)
    have ec : List.take (j * 3) (List.replicate (n + 1) ([.lit (.bool false), .lit (.int .i64 0), .ws []] : List Lf)).flatten ++ [.lit (.bool false), .lit (.int .i64 0), .ws [1]] ++ List.drop (j * 3 + 3) (List.replicate (n + 1) ([.lit (.bool false), .lit (.int .i64 0), .ws []] : List Lf)).flatten = (onR (n + 1) j).flatMap X.L := onR_cells hlt
    replace ih := ih hlt trivial
    rcases Nat.eq_zero_or_pos j with hj0 | hj0
    · have hst : stO (n + 1) j = [(0, iA ((n + 1 : Nat) : Int)), (4, .s (.lit (.slice none 0 0))), (6, .s (.lit (.slice none 0 0))), (8, iA (j : Int))] := by subst hj0; rfl
      rw [hst]
      simp (maxSteps := 10000000) only [go_sem, ↓reduceIte, Nat.reduceMul, Nat.reduceDiv, Nat.reduceAdd, Nat.reduceEqDiff, Nat.reduceLeDiff, Nat.reduceLT, reduceCtorEq, Int.reduceNeg, Int.reduceLT, Int.reduceLE, Int.reduceAdd, Int.reduceToNat, Nat.reduceBEq, Int.reduceMul, Int.reduceSub, Nat.reduceSub, Int.reduceBNe, Nat.reduceBNe, c1, c2, hz, g3, ec, d, g0, g1, hw]
      repeat' first | (with_reducible apply And.intro) | (with_reducible apply condP <;> intro _)
      all_goals first | (show chk _ _ = true; kernel_rfl) | (refine ih _ _ ((on_head (k := 1) hlt [] (by subst hj0; rfl)).trans ?_); subst hj0; rfl) | assumption | rfl | (simp only [inW]; decide)
    · obtain ⟨j, rfl⟩ : ∃ i, j = i + 1 := ⟨j - 1, by omega⟩
      have hl : (wP ((onM (n + 1)).take (j + 1))).length = (j + 1) * 1 := by rw [wP_len, List.length_take, onM_len]; omega
      have g5 : (j + 1 ≤ 100000) = True := eq_true (by omega)
      simp (maxSteps := 10000000) only [go_sem, ↓reduceIte, Nat.reduceMul, Nat.reduceDiv, Nat.reduceAdd, Nat.reduceEqDiff, Nat.reduceLeDiff, Nat.reduceLT, reduceCtorEq, Int.reduceNeg, Int.reduceLT, Int.reduceLE, Int.reduceAdd, Int.reduceToNat, Nat.reduceBEq, Int.reduceMul, Int.reduceSub, Nat.reduceSub, Int.reduceBNe, Nat.reduceBNe, c1, c2, stO, hz, g3, ec, d, g0, g1, hw, hl, g5]
      repeat' first | (with_reducible apply And.intro) | (with_reducible apply condP <;> intro _)
      all_goals first | (show chk _ _ = true; kernel_rfl) | (exact ih _ _ (on_head hlt _ rfl)) | assumption | rfl | (simp only [inW]; decide)
  · obtain rfl : j = n + 1 := by omega
    have dn : (n + 1 < n + 1) = False := eq_false (by omega)
    have ht : (onM (n + 1)).take (n + 1) = onM (n + 1) := List.take_of_length_le (by rw [onM_len]; omega)
    have hl : (wP (onM (n + 1))).length = (n + 1) * 1 := by rw [wP_len, onM_len]; omega
    have hdn := wP_dn (onM (n + 1))
    simp (maxSteps := 10000000) only [go_sem, ↓reduceIte, Nat.reduceMul, Nat.reduceDiv, Nat.reduceAdd, Nat.reduceEqDiff, Nat.reduceLeDiff, Nat.reduceLT, reduceCtorEq, Int.reduceNeg, Int.reduceLT, Int.reduceLE, Int.reduceAdd, Int.reduceToNat, Nat.reduceBEq, Int.reduceMul, Int.reduceSub, Nat.reduceSub, Int.reduceBNe, Nat.reduceBNe, List.replicate_succ, stO, dn, ht, hl, hdn]
    repeat' first | (with_reducible apply And.intro) | (with_reducible apply condP <;> intro _)
    all_goals first | (show chk _ _ = true; kernel_rfl) | assumption | rfl | (simp only [AV.s, cond_true, cond_false, Bool.and_true, Bool.true_and, Bool.and_false, Bool.false_and, Bool.not_true, Bool.not_false, *] <;> rfl)
def onZ (z : Int) : List (List X) := bif rng z 1 4 then onM z.toNat else []
theorem y_on (z : Int) : Ct Tryz.prog 17 [iA z] (· = .s (qL (onZ z))) := by
  unfold onZ
  cases h : rng z 1 4 with
  | false =>
    have key : Ct Tryz.prog 17 [iA z] (· = .s (.lit (.slice none 0 0))) := by
      cases h1 : decide (z < 1) with
      | true => exact y_on0 z h1
      | false =>
        refine y_on9 z h1 (decide_eq_true ?_)
        unfold rng at h
        have h1 := of_decide_eq_false h1
        rw [decide_eq_true (show (1 : Int) ≤ z by omega), cond_true] at h
        have h := of_decide_eq_false h
        omega
    exact key.wk (wk_one (fun _ _ _ _ h => nil_sl h) rfl)
  | true =>
    have hr := rng_true h
    obtain ⟨n, rfl⟩ : ∃ n : Nat, z = ((n + 1 : Nat) : Int) := ⟨z.toNat - 1, by omega⟩
    rw [cond_true, show (((n + 1 : Nat) : Int)).toNat = n + 1 from rfl]
    refine (y_on1 n (by omega)).wk (wk_one (fun _ _ _ _ hR => ?_) rfl)
    unfold qL
    rw [onM_len]; exact hR
theorem mId (z : Int) : Ct Tryz.prog 15 [iA z] (· = .s (mL ((onZ z).map poi))) := by
  unfold onZ
  cases h : rng z 1 4 with
  | false => exact mId0 z h
  | true =>
    have hr := rng_true h
    obtain ⟨n, rfl⟩ : ∃ n : Nat, z = (n : Int) := ⟨z.toNat, by omega⟩
    rw [cond_true, show ((n : Int)).toNat = n from rfl, ← id_on]
    exact mId1 n h
noncomputable def T7_One : Tbl := one 17 (gA asZ fun z => gE (True, .s (qL (onZ z))))
theorem T7_One_ok : TbOK Tryz.prog T7_One := one_t (ent Tryz.func17 (by kernel_rfl) rfl) (.a asZ_ok fun z => .e fun _ => y_on z)
noncomputable def TmId : Tbl := one 15 (gA asZ fun z => gE (True, .s (mL ((onZ z).map poi))))
theorem TmId_ok : TbOK Tryz.prog TmId := one_t (ent Tryz.func15 (by kernel_rfl) rfl) (.a asZ_ok fun z => .e fun _ => mId z)
end Go.Proofs.YtcpfepjdeikchaaGreatDoor
namespace Go.Proofs.YtcpfepjdeikchaaGreatDoor
open Go.RowKit Nx
set_option linter.unusedVariables false
set_option linter.unusedSimpArgs false
attribute [local go_sem] run init X.L J.L vL X.eta J.eta Q.eta List.cons_append List.nil_append brkK brkf_b brkf_t exef_some exif_some condf_b opf bodyE addR skipE stepOp stepLoad stepStore stepField stepCall stepBS stepBi stepCv stepIx inL mentA ment dom evs evl evp evd okeys look fillA capsOf wordsOf rowsOf lenOf convK binV shV intV unV boolT tyT tiB tiI tiW tiD tiF tiR tiU tiNum tiIv tiVal tiSc okLf okD keysOf tblO cvA cvL dnL olA olL noO noA cbL cbA orT noT one asNum asIv asVal postf_some resA tupA clA clL dropTo decide_true decide_false List.all_cons List.all_nil Bool.and_true Bool.and_self true_and and_true and_self List.length_cons List.length_nil List.drop_succ_cons List.drop_zero List.take_succ_cons List.take_zero List.getElem?_cons_zero List.getElem?_cons_succ List.map_cons List.map_nil false_implies true_implies Option.bind_some List.getElem?_toArray Bool.false_eq_true List.append_nil List.flatMap_cons List.flatMap_nil true_or or_true forall_const List.reverse_cons List.reverse_nil Option.isSome_some Option.any_some Nat.lt_irrefl not_true_eq_false Bool.not_true Bool.not_false imp_self implies_true Bool.not_eq_true' Bool.not_eq_false' Bool.true_eq_false memOf cntF nmL rnL nmA rnA isV contsOf ndB refO orO pin Int.toNat_zero decide_eq_true_eq wrap0 wrap1 ci1 ci2 BEq.rfl beq_self_eq_true Int.natCast_zero ge_iff_le gt_iff_lt Int.le_refl Nat.zero_mul Nat.one_mul Nat.zero_add Nat.zero_lt_succ Nat.lt_add_one Nat.le_refl List.append_eq Int.toNat_natCast gN gNN gNI gI gNNIB gNIB gJ gJJ gJN gJJI gJI stepB0 stepMk stepSl stepAp apY optI okO nilV slT resB outPs outLs outL dnT noE boxL_nil boxL_cons ptsL_nil ptsL_cons bne_self_eq_false wr2 wr3 wr4 wr5 wr6 wr7 wr8 gB gP gBB gBP gBZ gBBZ bC_nil bC_cons pC_nil pC_cons fvO Lc.up tyB tiS tiBB List.replicate_succ List.replicate_zero List.flatten_cons List.flatten_nil Int.ofNat_lt Int.cast_ofNat_Int Int.ofNat_eq_natCast List.isEmpty_nil List.isEmpty_cons and_false false_and List.cons_ne_nil Nat.add_zero ite_true ite_false if_true if_false Nat.le_zero_eq eq_self Bool.and_false Bool.false_and Bool.true_and tyM tiQ tiMM gA gE asZ asT asV1 asN1 asB_b asP_b asM_m asQ_m ite_self hoO hoK hpin hoO2 hoK2 hpin2 AV.s cond_true cond_false Bool.or_true Bool.true_or Bool.or_false Bool.false_or
attribute [local go_sem ↓] cond_true cond_false not_cond outL_box outL_pts clL_box clL_pts okL_box okL_pts ment_box ment_pts olL_box olL_pts cvL_box cvL_pts noO_box noO_pts asB_box asP_pts len_box len_pts
attribute [local irreducible] chk
theorem kC_at : ∀ {l : List K} {j : Nat} {x : K}, l[j]? = some x → ((kC l).drop (j * 6)).take 6 = [.lit x.u0, .lit x.u1, .lit (.slice x.A x.n x.c), .lit x.u3, .lit x.u4, .lit (.slice x.B x.m x.d)] := by
  intro l
  induction l with
  | nil => intro j x h; simp at h
  | cons a l ih =>
    intro j x h
    cases j with
    | zero => simp at h; subst h; rfl
    | succ j =>
      rw [kC_cons, show (j + 1) * 6 = j * 6 + 6 by omega]
      exact ih (by simpa using h)
theorem loop_any {α : Type} {ty : TypeId → Option TI} {O : Orac} {N : Nat} {Post : St → Prop} {fg : List Nat} {c : Code} {k : List It} (B : Nat) (ST : Nat → α → St) (n : Nat) (I : Nat → Prop) (L : Nat)
    (hm : ∀ j a, j ≤ n → ((ST j a).all fun p => mentA (ST j a) p.2) = true)
    (step : ∀ j a m, L ≤ m → j ≤ n → I j → (j < n → I (j + 1) → ∀ r a' st, hdS fg st = ST (j + 1) a' → lpf (run ty O N Post fg (m + r)) (.code c :: .lp c :: k) (hdS fg st)) → run ty O N Post fg (m + B) (.code c :: .lp c :: k) (ST j a))
    (a : α) {M : Nat} {st : St} (hM : (n + 1) * B + L ≤ M) (hI : I 0) (h0 : hdS fg st = ST 0 a) : lpf (run ty O N Post fg M) (.code c :: .lp c :: k) (hdS fg st) := by
  have key : ∀ d j a, j + d = n → I j → ∀ m, (d + 1) * B + L ≤ m → run ty O N Post fg m (.code c :: .lp c :: k) (ST j a) := by
    intro d
    induction d with
    | zero =>
      intro j a hj hi m hm'
      have hm' : B + L ≤ m := by simpa using hm'
      obtain ⟨m0, rfl⟩ : ∃ m0, m = m0 + B := ⟨m - B, by omega⟩
      exact step j a m0 (by omega) (by omega) hi (fun h => by omega)
    | succ d ih =>
      intro j a hj hi m hm'
      have hm' : (d + 1) * B + B + L ≤ m := by rw [← Nat.succ_mul]; exact hm'
      obtain ⟨m0, rfl⟩ : ∃ m0, m = m0 + B := ⟨m - B, by omega⟩
      refine step j a m0 (by omega) (by omega) hi fun _ hi' r a' st' h' => ?_
      rw [h']
      exact ⟨hm (j + 1) a' (by omega), ih (j + 1) a' (by omega) hi' (m0 + r) (by omega)⟩
  rw [h0]
  exact ⟨hm 0 a (Nat.zero_le _), key n 0 a (by omega) hI M hM⟩
def lkk (k : K) : Bool := bif decide ((20 : Int) < (k.n : Int)) then false else !decide ((20 : Int) < (k.m : Int))
def litR (l : List K) : Bool := bif decide ((6 : Int) < (l.length : Int)) then false else l.all lkk
def litM (m : List (List K)) : Bool := bif decide ((6 : Int) < (m.length : Int)) then false else m.all litR
def kR (l : List K) : Lc := .sl 6 l.length (kC l)
def kM (m : List (List K)) : Lc := .sl 1 m.length (m.map kR)
abbrev kA (ms : List (List (List K))) : AV := .s (.sl false 1 ms.length (ms.map kM))
theorem at_map {α : Type} {f : α → Lc} {m : List α} {j : Nat} {r : α} (h : m[j]? = some r) : List.take 1 (List.drop (j * 1) (List.map f m)) = [f r] := by
  rw [Nat.mul_one, ← List.map_drop, ← List.map_take]
  have hlt : j < m.length := (List.getElem?_eq_some_iff.1 h).1
  rw [List.drop_eq_getElem_cons hlt, List.take_succ_cons, List.take_zero, (List.getElem?_eq_some_iff.1 h).2]
  rfl
theorem take_all {α : Type} {φ : α → Bool} {l : List α} {j : Nat} {x : α} (h : l[j]? = some x) : (φ x = false → l.all φ = false) ∧ ((l.take j).all φ = true → φ x = true → (l.take (j + 1)).all φ = true) := by
  refine ⟨fun h1 => ?_, fun h1 h2 => ?_⟩
  · rw [List.all_eq_false]; exact ⟨x, List.mem_of_getElem? h, by rw [h1]; simp⟩
  · rw [List.take_add_one, h, List.all_append, h1]; simp [h2]
def st1 (ms : List (List (List K))) (i : Nat) : Option (Int × Option Int) → St
  | none => [(0, kA ms), (4, bA false), (6, iA (i : Int))]
  | some (z, none) => [(0, kA ms), (4, bA false), (6, iA (i : Int)), (8, iA z)]
  | some (z, some y) => [(0, kA ms), (4, bA false), (6, iA (i : Int)), (8, iA z), (10, iA y)]
def st2 (ms : List (List (List K))) (i j : Nat) : Option Int → St
  | none => [(0, kA ms), (4, bA false), (6, iA (i : Int)), (8, iA (j : Int))]
  | some y => [(0, kA ms), (4, bA false), (6, iA (i : Int)), (8, iA (j : Int)), (10, iA y)]
set_option maxRecDepth 100000 in
set_option maxHeartbeats 4000000 in
theorem light7 (ms : List (List (List K))) (hb : ms.length ≤ 1000) : Ct Tryz.prog 8 [kA ms] (· = bA (ms.all litM)) := by
  refine ct_of (O := tblO noT) (by kernel_rfl) tyM_ok (fun w => tblO_ok noT_ok _ w) [9999999, 0, 4, 6, 8, 10] ((ms.length + 1) * 40000 + 100) 78 [.tmp 2] Tryz.func8 rfl Tryz.ntmps8 (by rw [Tryz.results8]) (by simp) rfl (fun hsm => ?_)
  simp (maxSteps := 10000000) only [go_sem, ↓reduceIte, Nat.reduceMul, Nat.reduceDiv, Nat.reduceAdd, Nat.reduceEqDiff, Nat.reduceLeDiff, Nat.reduceLT, reduceCtorEq, Int.reduceNeg, Int.reduceLT, Int.reduceLE, Int.reduceAdd, Int.reduceToNat, Nat.reduceBEq, Int.reduceMul, Int.reduceSub, Nat.reduceSub, Int.reduceBNe, Nat.reduceBNe]
  refine loop_any 40000 (st1 ms) ms.length (fun i => (ms.take i).all litM = true) 0 (fun i a _ => by rcases a with _ | ⟨z, _ | y⟩ <;> rfl) (fun i a m1 _ hi hI ih => ?_) none (by omega) rfl rfl
  rcases Nat.lt_or_ge i ms.length with hlt | hge
  · have hx := at_get [] hlt
    generalize ms.getD i [] = m at hx
    have e1 : List.take 1 (List.drop (i * 1) (List.map kM ms)) = [.sl 1 m.length (m.map kR)] := at_map hx
    have d1 := decide_eq_true (show (i : Int) < (ms.length : Int) by omega)
    have g1 : (i < ms.length) = True := eq_true hlt
    have g10 : (0 ≤ (i : Int)) = True := eq_true (by omega)
    have hw1 := wrap_nat (j := i) (by omega)
    obtain ⟨s1, s2⟩ := take_all (φ := litM) hx
    replace ih := ih hlt
    cases h6 : decide ((6 : Int) < (m.length : Int)) with
    | true =>
      have hf := s1 (by unfold litM; rw [h6]; rfl)
      rcases a with _ | ⟨z, _ | y⟩ <;> (simp (maxSteps := 10000000) only [go_sem, ↓reduceIte, Nat.reduceMul, Nat.reduceDiv, Nat.reduceAdd, Nat.reduceEqDiff, Nat.reduceLeDiff, Nat.reduceLT, reduceCtorEq, Int.reduceNeg, Int.reduceLT, Int.reduceLE, Int.reduceAdd, Int.reduceToNat, Nat.reduceBEq, Int.reduceMul, Int.reduceSub, Nat.reduceSub, Int.reduceBNe, Nat.reduceBNe, d1, g1, g10, e1, h6, st1, hf]; repeat' first | (with_reducible apply And.intro) | (with_reducible apply condP <;> intro _)) <;> first | (show chk _ _ = true; kernel_rfl) | assumption | rfl
    | false =>
      have h6' := of_decide_eq_false h6
      have hm6 : litM m = m.all litR := by unfold litM; rw [h6]; rfl
      rcases a with _ | ⟨z, _ | y⟩ <;> simp (maxSteps := 10000000) only [go_sem, ↓reduceIte, Nat.reduceMul, Nat.reduceDiv, Nat.reduceAdd, Nat.reduceEqDiff, Nat.reduceLeDiff, Nat.reduceLT, reduceCtorEq, Int.reduceNeg, Int.reduceLT, Int.reduceLE, Int.reduceAdd, Int.reduceToNat, Nat.reduceBEq, Int.reduceMul, Int.reduceSub, Nat.reduceSub, Int.reduceBNe, Nat.reduceBNe, d1, g1, g10, e1, h6, st1]
      all_goals
        first | refine loop_any 5000 (st2 ms i) m.length (fun j => (m.take j).all litR = true) m1 (fun j a _ => by rcases a with _ | y <;> rfl) (fun j b m2 hL2 hj hJ ihJ => ?_) none (by omega) rfl rfl | refine loop_any 5000 (st2 ms i) m.length (fun j => (m.take j).all litR = true) m1 (fun j a _ => by rcases a with _ | y <;> rfl) (fun j b m2 hL2 hj hJ ihJ => ?_) (some y) (by omega) rfl rfl
        obtain ⟨r2, rfl⟩ := Nat.exists_eq_add_of_le hL2
        rcases Nat.lt_or_ge j m.length with hlt2 | hge2
        · have hy := at_get [] hlt2
          generalize m.getD j [] = l at hy
          have e2 : List.take 1 (List.drop (j * 1) (List.map kR m)) = [.sl 6 l.length (kC l)] := at_map hy
          have d2 := decide_eq_true (show (j : Int) < (m.length : Int) by omega)
          have g2 : (j < m.length) = True := eq_true hlt2
          have g20 : (0 ≤ (j : Int)) = True := eq_true (by omega)
          have hw2 := wrap_nat (j := j) (by omega)
          obtain ⟨t1, t2⟩ := take_all (φ := litR) hy
          replace ihJ := ihJ hlt2
          cases h7 : decide ((6 : Int) < (l.length : Int)) with
          | true =>
            have hf := s1 (by rw [hm6]; exact t1 (by unfold litR; rw [h7]; rfl))
            rcases b with _ | b <;> (simp (maxSteps := 10000000) only [go_sem, ↓reduceIte, Nat.reduceMul, Nat.reduceDiv, Nat.reduceAdd, Nat.reduceEqDiff, Nat.reduceLeDiff, Nat.reduceLT, reduceCtorEq, Int.reduceNeg, Int.reduceLT, Int.reduceLE, Int.reduceAdd, Int.reduceToNat, Nat.reduceBEq, Int.reduceMul, Int.reduceSub, Nat.reduceSub, Int.reduceBNe, Nat.reduceBNe, d1, g1, g10, e1, h6, d2, g2, g20, e2, h7, st2, hf]; repeat' first | (with_reducible apply And.intro) | (with_reducible apply condP <;> intro _)) <;> first | (show chk _ _ = true; kernel_rfl) | assumption | rfl
          | false =>
            have h7' := of_decide_eq_false h7
            have hl6 : litR l = l.all lkk := by unfold litR; rw [h7]; rfl
            rcases b with _ | b <;> simp (maxSteps := 10000000) only [go_sem, ↓reduceIte, Nat.reduceMul, Nat.reduceDiv, Nat.reduceAdd, Nat.reduceEqDiff, Nat.reduceLeDiff, Nat.reduceLT, reduceCtorEq, Int.reduceNeg, Int.reduceLT, Int.reduceLE, Int.reduceAdd, Int.reduceToNat, Nat.reduceBEq, Int.reduceMul, Int.reduceSub, Nat.reduceSub, Int.reduceBNe, Nat.reduceBNe, d1, g1, g10, e1, h6, d2, g2, g20, e2, h7, st2]
            all_goals
              refine loop_ind 500 (fun k => [(0, kA ms), (4, bA false), (6, iA (i : Int)), (8, iA (j : Int)), (10, iA (k : Int))]) l.length (fun k => (l.take k).all lkk = true) (m1 + r2) (fun k _ => rfl) (fun k m3 hL3 hk hK ihK => ?_) (by omega) rfl rfl
              obtain ⟨r3, rfl⟩ := Nat.exists_eq_add_of_le hL3
              rcases Nat.lt_or_ge k l.length with hlt3 | hge3
              · have hz := List.getElem?_eq_getElem hlt3
                generalize l[k] = x at hz
                have e3 := kC_at hz
                have d3 := decide_eq_true (show (k : Int) < (l.length : Int) by omega)
                have g3 : (k < l.length) = True := eq_true hlt3
                have g30 : (0 ≤ (k : Int)) = True := eq_true (by omega)
                have hw3 := wrap_nat (j := k) (by omega)
                obtain ⟨u1, u2⟩ := take_all (φ := lkk) hz
                replace ihK := ihK hlt3
                simp (maxSteps := 10000000) only [go_sem, ↓reduceIte, Nat.reduceMul, Nat.reduceDiv, Nat.reduceAdd, Nat.reduceEqDiff, Nat.reduceLeDiff, Nat.reduceLT, reduceCtorEq, Int.reduceNeg, Int.reduceLT, Int.reduceLE, Int.reduceAdd, Int.reduceToNat, Nat.reduceBEq, Int.reduceMul, Int.reduceSub, Nat.reduceSub, Int.reduceBNe, Nat.reduceBNe, d1, g1, g10, e1, h6, d2, g2, g20, e2, h7, d3, g3, g30, e3, hw3]
                repeat' first | (with_reducible apply And.intro) | (with_reducible apply condP <;> intro _)
                all_goals first | (show chk _ _ = true; kernel_rfl) | (refine ihK (u2 hK ?_) _ _ rfl; simp only [lkk, *, cond_false, Bool.not_false]; done) | (rw [s1 (by rw [hm6]; exact t1 (by rw [hl6]; exact u1 (by simp only [lkk, *, cond_true, cond_false, Bool.not_true])))])
              · have hn : k = l.length := by omega
                subst hn
                rw [List.take_of_length_le (Nat.le_refl _)] at hK
                have d3 := decide_eq_false (show ¬ (l.length : Int) < (l.length : Int) by omega)
                simp (maxSteps := 10000000) only [go_sem, ↓reduceIte, Nat.reduceMul, Nat.reduceDiv, Nat.reduceAdd, Nat.reduceEqDiff, Nat.reduceLeDiff, Nat.reduceLT, reduceCtorEq, Int.reduceNeg, Int.reduceLT, Int.reduceLE, Int.reduceAdd, Int.reduceToNat, Nat.reduceBEq, Int.reduceMul, Int.reduceSub, Nat.reduceSub, Int.reduceBNe, Nat.reduceBNe, d1, g1, g10, e1, h6, d2, g2, g20, e2, h7, d3, hw2]
                rw [Nat.add_assoc (m1 + r2)]
                exact ihJ (t2 hJ (by rw [hl6]; exact hK)) _ (some (l.length : Int)) _ rfl
        · have hn : j = m.length := by omega
          subst hn
          rw [List.take_of_length_le (Nat.le_refl _)] at hJ
          have d2 := decide_eq_false (show ¬ (m.length : Int) < (m.length : Int) by omega)
          rcases b with _ | b <;> simp (maxSteps := 10000000) only [go_sem, ↓reduceIte, Nat.reduceMul, Nat.reduceDiv, Nat.reduceAdd, Nat.reduceEqDiff, Nat.reduceLeDiff, Nat.reduceLT, reduceCtorEq, Int.reduceNeg, Int.reduceLT, Int.reduceLE, Int.reduceAdd, Int.reduceToNat, Nat.reduceBEq, Int.reduceMul, Int.reduceSub, Nat.reduceSub, Int.reduceBNe, Nat.reduceBNe, d1, g1, g10, e1, h6, st2, d2, hw1] <;> simp only [Nat.add_assoc] <;> first | exact ih (s2 hI (by rw [hm6]; exact hJ)) _ (some ((m.length : Int), none)) _ rfl | exact ih (s2 hI (by rw [hm6]; exact hJ)) _ (some ((m.length : Int), some b)) _ rfl
  · have hn : i = ms.length := by omega
    subst hn
    have d1 := decide_eq_false (show ¬ (ms.length : Int) < (ms.length : Int) by omega)
    rw [List.take_of_length_le (Nat.le_refl _)] at hI
    rcases a with _ | ⟨z, _ | y⟩ <;> (simp (maxSteps := 10000000) only [go_sem, ↓reduceIte, Nat.reduceMul, Nat.reduceDiv, Nat.reduceAdd, Nat.reduceEqDiff, Nat.reduceLeDiff, Nat.reduceLT, reduceCtorEq, Int.reduceNeg, Int.reduceLT, Int.reduceLE, Int.reduceAdd, Int.reduceToNat, Nat.reduceBEq, Int.reduceMul, Int.reduceSub, Nat.reduceSub, Int.reduceBNe, Nat.reduceBNe, st1, d1, hI]; repeat' first | (with_reducible apply And.intro) | (with_reducible apply condP <;> intro _)) <;> first | (show chk _ _ = true; kernel_rfl) | assumption | rfl
end Go.Proofs.YtcpfepjdeikchaaGreatDoor
namespace Go.Proofs.YtcpfepjdeikchaaGreatDoor
open Go.ChangeShapes Go.WideShapes Go.ChangeAt Go.RowKit Go.Joins Nx
abbrev P2 := Nat × Nat
def lkp (p : P2) : Bool := bif decide ((20 : Int) < (p.1 : Int)) then false else !decide ((20 : Int) < (p.2 : Int))
def litRp (l : List P2) : Bool := bif decide ((6 : Int) < (l.length : Int)) then false else l.all lkp
def litMp (m : List (List P2)) : Bool := bif decide ((6 : Int) < (m.length : Int)) then false else m.all litRp
abbrev Ks (m : List (List K)) : List (List P2) := m.map fun l => l.map K.p
abbrev Js (m : List (List J)) : List (List P2) := m.map fun l => l.map J.p
theorem litR_p (l : List K) : litR l = litRp (l.map K.p) := by
  unfold litR litRp
  rw [List.length_map, List.all_map]; rfl
theorem litM_p (m : List (List K)) : litM m = litMp (Ks m) := by
  unfold litM litMp
  rw [List.length_map, List.all_map]
  congr 2
  funext l
  exact litR_p l
def asKr : List Lc → Option (List (List P2))
  | [] => some []
  | .sl s _ ls :: r => (match asKs ls, asKr r with
    | some a, some m => if s = 6 then some (a :: m) else none
    | _, _ => none)
  | _ => none
def asKm : List Lc → Option (List (List (List P2)))
  | [] => some []
  | .sl s _ ls :: r => (match asKr ls, asKm r with
    | some a, some m => if s = 1 then some (a :: m) else none
    | _, _ => none)
  | _ => none
theorem asKr_R {S : Nat → Prop} {w : World} : ∀ {ls : List Lc} {m : List (List P2)}, asKr ls = some m → ls.length = m.length ∧ ∀ us, LcL S w ls us → ∃ km : List (List K), LcL S w (km.map kR) us ∧ Ks km = m := by
  intro ls
  induction ls with
  | nil => intro m h; injection h with h; subst h; exact ⟨rfl, fun us h => ⟨[], h, rfl⟩⟩
  | cons l ls ih =>
    intro m h
    unfold asKr at h
    split at h
    · rename_i e; cases e
    · rename_i s n ks r e
      injection e with e1 e2; subst e1; subst e2
      split at h
      · rename_i a m' h1 h2
        split at h
        · rename_i hs
          injection h with h; subst h; subst hs
          obtain ⟨i1, i2⟩ := ih h2
          refine ⟨by simp [i1], ?_⟩
          rintro us ⟨u, r, rfl, h3, h4⟩
          obtain ⟨k, h5, h6⟩ := slK h1 h3
          obtain ⟨km, h7, h8⟩ := i2 r h4
          exact ⟨k :: km, ⟨u, r, rfl, h5, h7⟩, by show List.map K.p k :: Ks km = _; rw [h6, h8]⟩
        · cases h
      · cases h
    · cases h
theorem slKr {S : Nat → Prop} {w : World} {n : Nat} {ls : List Lc} {m : List (List P2)} {v : Value} (h : asKr ls = some m) (hR : (Lc.sl 1 n ls).R S w v) : ∃ km : List (List K), (kM km).R S w v ∧ Ks km = m := by
  obtain ⟨h1, A, c, e, hc, h2⟩ := hR
  obtain ⟨h3, h4⟩ := asKr_R (S := S) (w := w) h
  rcases h2 with rfl | ⟨ad, T, cs, e1, e2, hS, hB, h5, h6⟩
  · injection h with h; subst h
    have : n = 0 := by simp only [List.length_nil] at h1; omega
    subst this
    exact ⟨[], ⟨rfl, A, c, e, hc, .inl rfl⟩, rfl⟩
  · obtain ⟨km, h7, h8⟩ := h4 _ h6
    have hk : km.length = m.length := by rw [← h8, List.length_map]
    have hn : km.length = n := by omega
    have hl : (km.map kR).length = ls.length := by rw [List.length_map, hk, h3]
    exact ⟨km, ⟨by rw [List.length_map]; omega, A, c, by rw [hn]; exact e, by rw [hn]; exact hc, .inr ⟨ad, T, cs, e1, e2, hS, hB, by rw [hl]; exact h5, by rw [hl]; exact h7⟩⟩, h8⟩
theorem asKm_R {S : Nat → Prop} {w : World} : ∀ {ls : List Lc} {m : List (List (List P2))}, asKm ls = some m → ls.length = m.length ∧ ∀ us, LcL S w ls us → ∃ km : List (List (List K)), LcL S w (km.map kM) us ∧ km.map Ks = m := by
  intro ls
  induction ls with
  | nil => intro m h; injection h with h; subst h; exact ⟨rfl, fun us h => ⟨[], h, rfl⟩⟩
  | cons l ls ih =>
    intro m h
    unfold asKm at h
    split at h
    · rename_i e; cases e
    · rename_i s n ks r e
      injection e with e1 e2; subst e1; subst e2
      split at h
      · rename_i a m' h1 h2
        split at h
        · rename_i hs
          injection h with h; subst h; subst hs
          obtain ⟨i1, i2⟩ := ih h2
          refine ⟨by simp [i1], ?_⟩
          rintro us ⟨u, r, rfl, h3, h4⟩
          obtain ⟨k, h5, h6⟩ := slKr h1 h3
          obtain ⟨km, h7, h8⟩ := i2 r h4
          exact ⟨k :: km, ⟨u, r, rfl, h5, h7⟩, by show _ :: _ = _; rw [h6]; exact congrArg _ h8⟩
        · cases h
      · cases h
    · cases h
def gLm : List AV → Option (Prop × AV)
  | [.v false [.sl false s _ ls]] => (match asKm ls with
    | some m => if s = 1 then some (m.length ≤ 1000, bA (m.all litMp)) else none
    | none => none)
  | _ => none
noncomputable def T7_light : Tbl := one 8 gLm
theorem T7_light_ok : TbOK Tryz.prog T7_light := one_ok (ent Tryz.func8 (by kernel_rfl) rfl) fun args e he hp => by
  unfold gLm at he
  split at he
  · rename_i s n ls
    split at he
    · rename_i m hm
      split at he
      · rename_i hs
        injection he with he; subst he; subst hs
        intro ρ D w us ht hA
        obtain ⟨u, r, rfl, h1, h2⟩ := hA
        have h1 : (Lc.sl 1 n ls).R (SepF false ρ D) w u := RL.one.1 h1
        obtain ⟨h3, A, c, e, hc, h4⟩ := h1
        obtain ⟨h5, h6⟩ := asKm_R (S := SepF false ρ D) (w := w) hm
        have key : ∃ km : List (List (List K)), (kA km).R ρ D w u ∧ km.map Ks = m := by
          rcases h4 with rfl | ⟨ad, T, cs, e1, e2, hS, hB, h7, h8⟩
          · injection hm with hm; subst hm
            have : n = 0 := by simp only [List.length_nil] at h3; omega
            subst this
            exact ⟨[], RL.one.2 ⟨rfl, A, c, e, hc, .inl rfl⟩, rfl⟩
          · obtain ⟨km, h9, h10⟩ := h6 _ h8
            have hk : km.length = m.length := by rw [← h10, List.length_map]
            have hn : km.length = n := by omega
            have hl : (km.map kM).length = ls.length := by rw [List.length_map, hk, h5]
            exact ⟨km, RL.one.2 ⟨by rw [List.length_map]; omega, A, c, by rw [hn]; exact e, by rw [hn]; exact hc, .inr ⟨ad, T, cs, e1, e2, hS, hB, by rw [hl]; exact h7, by rw [hl]; exact h9⟩⟩, h10⟩
        obtain ⟨km, hK, rfl⟩ := key
        have hp : (km.map Ks).length ≤ 1000 := hp
        rw [List.length_map] at hp
        have := light7 km hp ρ D w _ ht ⟨u, r, rfl, hK, h2⟩
        have e : (km.map Ks).all litMp = km.all litM := by
          rw [List.all_map]; congr 1; funext m; exact (litM_p m).symm
        show Calls _ _ _ _ _
        rw [e]
        exact this
      · cases he
    · cases he
  · cases he
theorem asKr_C : ∀ (m : List (List J)), asKr (m.map rC) = some (Js m) := by
  intro m
  induction m with
  | nil => rfl
  | cons l m ih =>
    show (match asKs (bC l), asKr (m.map rC) with
      | some a, some m' => if 6 = 6 then some (a :: m') else none
      | _, _ => none) = _
    rw [asKs_b, ih]; rfl
theorem asKr_K : ∀ (m : List (List K)), asKr (m.map kR) = some (Ks m) := by
  intro m
  induction m with
  | nil => rfl
  | cons l m ih =>
    show (match asKs (kC l), asKr (m.map kR) with
      | some a, some m' => if 6 = 6 then some (a :: m') else none
      | _, _ => none) = _
    rw [asKs_k, ih]; rfl
theorem asKm_2 {n n' : Nat} {a b : List Lc} {x y : List (List P2)} (h1 : asKr a = some x) (h2 : asKr b = some y) : asKm [.sl 1 n a, .sl 1 n' b] = some [x, y] := by
  show (match asKr a, (match asKr b, asKm [] with
    | some a, some m => if 1 = 1 then some (a :: m) else none
    | _, _ => none) with
    | some a, some m => if 1 = 1 then some (a :: m) else none
    | _, _ => none) = _
  rw [h1, h2]; rfl
theorem gLm_J (a b : List (List J)) : gLm [.v false [.sl false 1 2 [.sl 1 a.length (a.map rC), .sl 1 b.length (b.map rC)]]] = some (True, bA (litMp (Js a) && litMp (Js b))) := by
  show (match asKm [.sl 1 a.length (a.map rC), .sl 1 b.length (b.map rC)] with
    | some m => if 1 = 1 then some (m.length ≤ 1000, bA (m.all litMp)) else none
    | none => none) = _
  rw [asKm_2 (asKr_C a) (asKr_C b)]
  simp
theorem gLm_K (a b : List (List K)) : gLm [.v false [.sl false 1 2 [.sl 1 a.length (a.map kR), .sl 1 b.length (b.map kR)]]] = some (True, bA (litMp (Ks a) && litMp (Ks b))) := by
  show (match asKm [.sl 1 a.length (a.map kR), .sl 1 b.length (b.map kR)] with
    | some m => if 1 = 1 then some (m.length ≤ 1000, bA (m.all litMp)) else none
    | none => none) = _
  rw [asKm_2 (asKr_K a) (asKr_K b)]
  simp
theorem litRp_J {l : List J} (h : litRp (l.map J.p) = true) : l.length ≤ 6 ∧ ∀ j ∈ l, j.lo.xs.length ≤ 20 ∧ j.hi.xs.length ≤ 20 := by
  unfold litRp at h
  rw [List.length_map] at h
  cases h1 : decide ((6 : Int) < (l.length : Int)) with
  | true => rw [h1] at h; cases h
  | false =>
    rw [h1, cond_false, List.all_map] at h
    have h2 := of_decide_eq_false h1
    refine ⟨by omega, fun j hj => ?_⟩
    have h3 : lkp (J.p j) = true := List.all_eq_true.1 h j hj
    unfold lkp at h3
    cases h4 : decide ((20 : Int) < ((J.p j).1 : Int)) with
    | true => rw [h4] at h3; cases h3
    | false =>
      rw [h4, cond_false] at h3
      have h5 := of_decide_eq_false h4
      have h6 : decide ((20 : Int) < ((J.p j).2 : Int)) = false := by simpa using h3
      have h6 := of_decide_eq_false h6
      have h5 : ¬ (20 : Int) < (j.lo.xs.length : Int) := h5
      have h6 : ¬ (20 : Int) < (j.hi.xs.length : Int) := h6
      omega
theorem litMp_J {m : List (List J)} (h : litMp (Js m) = true) : m.length ≤ 6 ∧ ∀ l ∈ m, l.length ≤ 6 ∧ ∀ j ∈ l, j.lo.xs.length ≤ 20 ∧ j.hi.xs.length ≤ 20 := by
  unfold litMp at h
  rw [List.length_map] at h
  cases h1 : decide ((6 : Int) < (m.length : Int)) with
  | true => rw [h1] at h; cases h
  | false =>
    rw [h1, cond_false, List.all_map] at h
    have h2 := of_decide_eq_false h1
    exact ⟨by omega, fun l hl => litRp_J (List.all_eq_true.1 h l hl)⟩
def ML (W : World) : List (List J) → List Value → Prop
  | [], us => us = []
  | l :: m, us => ∃ (u : Value) (r : List Value), us = u :: r ∧ BoxV W u l ∧ ML W m r
def MatV (W : World) (v : Value) (m : List (List J)) : Prop := SlV W v m.length 1 (ML W m)
section
variable {W : World} {v : Value}
theorem ML.ws : ∀ {m : List (List J)} {us : List Value}, ML W m us → (∀ l ∈ m, ∀ j ∈ l, j.lo.xs.length ≤ 100000 ∧ j.hi.xs.length ≤ 100000) → LcL (SepF false envA noD) W (m.map rC) us := by
  intro m
  induction m with
  | nil => intro us h _; exact h
  | cons l m ih =>
    rintro us ⟨u, r, rfl, h1, h2⟩ hs
    exact ⟨u, r, rfl, h1.R noSep (bC_len l) fun _ h => h.ws (hs l (List.mem_cons_self ..)), ih h2 fun l hl => hs l (List.mem_cons_of_mem _ hl)⟩
theorem MatV.ws {m : List (List J)} (h : MatV W v m) (hs : ∀ l ∈ m, ∀ j ∈ l, j.lo.xs.length ≤ 100000 ∧ j.hi.xs.length ≤ 100000) : (mA_ m).R envA noD W v := RL.one.2 (h.R noSep (by simp) fun _ h => h.ws hs)
theorem ML.raw : ∀ {m : List (List J)} {us : List Value}, ML W m us → ∃ km : List (List K), LcL (SepF false envA noD) W (km.map kR) us ∧ Ks km = Js m := by
  intro m
  induction m with
  | nil => intro us h; exact ⟨[], h, rfl⟩
  | cons l m ih =>
    rintro us ⟨u, r, rfl, h1, h2⟩
    obtain ⟨ks, h3, h4⟩ := h1.raw
    obtain ⟨km, h5, h6⟩ := ih h2
    exact ⟨ks :: km, ⟨u, r, rfl, RL.one.1 h3, h5⟩, by show List.map K.p ks :: Ks km = List.map J.p l :: Js m; rw [h4, h6]⟩
theorem MatV.raw {m : List (List J)} (h : MatV W v m) : ∃ km : List (List K), (AV.s (.sl false 1 km.length (km.map kR))).R envA noD W v ∧ Ks km = Js m := by
  obtain ⟨A, c, e, hc, h⟩ := h
  rcases h with h | ⟨ad, T, cs, e1, e2, hB, h3, h4⟩
  · have : m = [] := List.eq_nil_of_length_eq_zero h
    subst this
    exact ⟨[], RL.one.2 ⟨rfl, A, c, e, hc, .inl rfl⟩, rfl⟩
  · obtain ⟨km, h5, h6⟩ := h4.raw
    have hk : km.length = m.length := by have := congrArg List.length h6; simpa using this
    exact ⟨km, RL.one.2 ⟨by rw [List.length_map]; omega, A, c, by rw [hk]; exact e, by rw [hk]; exact hc, .inr ⟨ad, T, cs, e1, e2, noSep _, hB, by rw [List.length_map, hk]; omega, by rw [List.length_map, hk, ← Nat.mul_one m.length]; exact h5⟩⟩, h6⟩
end
theorem ml_of {W : World} : ∀ (n : Nat) (c : List Value), (∀ i, i < n → ∃ (u : Value) (l : List J), (c.drop (i * 1)).take 1 = [u] ∧ BoxV W u l) → ∃ m : List (List J), m.length = n ∧ ML W m (c.take (n * 1)) := by
  intro n
  induction n with
  | zero => intro c _; exact ⟨[], rfl, by rw [Nat.zero_mul]; rfl⟩
  | succ n ih =>
    intro c h
    obtain ⟨u, l, e, h1⟩ := h 0 (by omega)
    obtain ⟨m, h3, h4⟩ := ih (c.drop 1) fun i hi => by
      have := h (i + 1) (by omega)
      rwa [show (i + 1) * 1 = 1 + i * 1 by omega, ← List.drop_drop] at this
    rw [Nat.zero_mul, List.drop_zero] at e
    refine ⟨l :: m, by simp [h3], u, (c.drop 1).take (n * 1), ?_, h1, h4⟩
    rw [show (n + 1) * 1 = 1 + n * 1 by omega, List.take_add, e]; rfl
section
variable {H : Type} {enc : TypeId × Value → H} {W : World}
set_option maxRecDepth 100000 in
theorem box_cell {fuel : Nat} {cs : List Value} {y : DataW H × List MemPlace} (hl : cs.length = 1) (hf : DataW.trod enc Tryz.prog W 0 (fun _ => true) true fuel 41 cs = some y) : ∃ (u : Value) (l : List J), cs = [u] ∧ BoxV W u l := by
  match cs, hl with
  | [u], _ =>
    refine ⟨u, ?_⟩
    rcases DataW.trod_slice Tryz.underlying41 hf with ⟨hcs, _⟩ | ⟨a, n, c, elems, rest, n', _, hcs, _, hb, hle, _, hlen, hel, _, _⟩
    · simp at hcs
      subst hcs
      exact ⟨[], rfl, none, 0, rfl, Nat.le_refl _, .inl rfl⟩
    · simp at hcs
      subst hcs
      rw [cellsIv] at hel
      have each : ∀ i, i < n → ∃ cs : List Value, cs.length = 6 ∧ (∀ k, k < 6 → W.cell? ((a.add (i * 6)).add k) = cs[k]?) ∧ ∃ (j : J) (A : Option Addr) (n c' : Nat) (B : Option Addr) (m d : Nat), cs = [.bool j.lo.s, .int .i64 j.lo.e, .slice A n c', .bool j.hi.s, .int .i64 j.hi.e, .slice B m d] ∧ Arg W A n c' j.lo.xs ∧ Arg W B m d j.hi.xs := fun i hi => by
        have := hel i hi
        rw [List.getElem?_eq_getElem (by omega)] at this
        obtain ⟨cs, h1, h2⟩ := Option.bind_eq_some_iff.1 this
        obtain ⟨_, h3, h4⟩ := World.cells?_some h1
        exact ⟨cs, h3, h4, iv_cells h3 h2⟩
      rcases Nat.eq_zero_or_pos n with rfl | hn
      · exact ⟨[], rfl, some a, c, rfl, Nat.zero_le _, .inl rfl⟩
      · obtain ⟨hsp, T, cs, hB, hsz, hcs⟩ := blk_of hn (by decide) fun i hi => (each i hi).imp fun cs h => ⟨h.1, h.2.1⟩
        obtain ⟨l, hl, hJ⟩ := jl_of (W := W) n (cs.toList.drop a.off) fun i hi => by
          obtain ⟨cs', h1, h2, j, A, n1, c1, B, m, d1, e, h3⟩ := each i hi
          exact ⟨j, A, n1, c1, B, m, d1, by rw [hcs i hi cs' h1 h2, e], h3⟩
        subst hl
        exact ⟨l, rfl, some a, c, rfl, hle, .inr ⟨a, T, cs, rfl, hsp, hB, hsz, hJ⟩⟩
set_option maxRecDepth 100000 in
theorem view_mat {base : Nat} {v : Value} {d : DataW H} {p : List MemPlace} (hv : Value.okWide Tryz.prog W .any base 22 v) (h : DataW.Trod enc Tryz.prog W 0 (fun _ => true) true 22 v d p) : ∃ m : List (List J), MatV W v m := by
  obtain ⟨A, n, c, rfl⟩ := okWide_slice Tryz.underlying22 hv
  obtain ⟨fuel, hf⟩ := h
  rcases DataW.trod_slice Tryz.underlying22 hf with ⟨hcs, _⟩ | ⟨a, len, cap, elems, rest, n', _, hcs, _, hb, hle, _, hlen, hel, _, _⟩
  · simp [Value.cells] at hcs
    obtain ⟨rfl, rfl, rfl⟩ := hcs
    exact ⟨[], none, 0, rfl, Nat.le_refl _, .inl rfl⟩
  · simp [Value.cells] at hcs
    obtain ⟨rfl, rfl, rfl⟩ := hcs
    rw [show Tryz.prog.cellsOf 41 = 1 from by kernel_rfl] at hel
    have each : ∀ i, i < n → ∃ cs : List Value, cs.length = 1 ∧ (∀ k, k < 1 → W.cell? ((a.add (i * 1)).add k) = cs[k]?) ∧ ∃ (u : Value) (l : List J), cs = [u] ∧ BoxV W u l := fun i hi => by
      have := hel i hi
      rw [List.getElem?_eq_getElem (by omega)] at this
      obtain ⟨cs, h1, h2⟩ := Option.bind_eq_some_iff.1 this
      obtain ⟨_, h3, h4⟩ := World.cells?_some h1
      exact ⟨cs, h3, h4, box_cell h3 h2⟩
    rcases Nat.eq_zero_or_pos n with rfl | hn
    · exact ⟨[], some a, c, rfl, Nat.zero_le _, .inl rfl⟩
    · obtain ⟨hsp, T, cs, hB, hsz, hcs⟩ := blk_of hn (by decide) fun i hi => (each i hi).imp fun cs h => ⟨h.1, h.2.1⟩
      obtain ⟨l, hl, hJ⟩ := ml_of (W := W) n (cs.toList.drop a.off) fun i hi => by
        obtain ⟨cs', h1, h2, u, l, e, h3⟩ := each i hi
        exact ⟨u, l, by rw [hcs i hi cs' h1 h2, e], h3⟩
      subst hl
      exact ⟨l, some a, c, rfl, hle, .inr ⟨a, T, cs, rfl, hsp, hB, hsz, hJ⟩⟩
end
end Go.Proofs.YtcpfepjdeikchaaGreatDoor
