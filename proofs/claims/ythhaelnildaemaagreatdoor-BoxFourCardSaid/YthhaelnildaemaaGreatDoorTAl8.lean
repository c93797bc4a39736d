/- The document's boxes: sums, differences, multiples, middles. -/
import Derived.Test.YthhaelnildaemaaGreatDoorTAl4
import Derived.Test.YthhaelnildaemaaGreatDoorTAmC
import Derived.Test.YthhaelnildaemaaGreatDoorTAl3
namespace Go.Proofs.YthhaelnildaemaaGreatDoor
open Go.RowKit Nx
set_option linter.unusedVariables false
set_option linter.unusedSimpArgs false
set_option maxRecDepth 100000
set_option maxHeartbeats 4000000
attribute [local go_sem] run init X.L J.L vL X.eta J.eta Q.eta List.cons_append List.nil_append brkK brkf_b brkf_t exef_some exif_some condf_b opf bodyE addR skipE stepOp stepLoad stepStore stepField stepCall stepBS stepBi stepCv stepIx lpf hdS pick forget inL mentA ment dom evs evl evp evd okeys look fillA capsOf wordsOf rowsOf lenOf convK binV shV intV unV boolT tyT tiB tiI tiW tiD tiF tiR tiU tiNum tiIv tiVal tiSc okLf okD keysOf tblO cvA cvL dnL olA olL noO noA cbL cbA orT noT one asNum asIv asVal postf_some resA tupA clA clL dropTo decide_true decide_false List.all_cons List.all_nil Bool.and_true Bool.and_self true_and and_true and_self List.length_cons List.length_nil List.drop_succ_cons List.drop_zero List.take_succ_cons List.take_zero List.getElem?_cons_zero List.getElem?_cons_succ List.map_cons List.map_nil false_implies true_implies Option.bind_some List.getElem?_toArray Bool.false_eq_true List.append_nil List.flatMap_cons List.flatMap_nil true_or or_true forall_const List.reverse_cons List.reverse_nil Option.isSome_some Option.any_some Nat.lt_irrefl not_true_eq_false Bool.not_true Bool.not_false imp_self implies_true Bool.not_eq_true' Bool.not_eq_false' Bool.true_eq_false memOf cntF nmL rnL nmA rnA isV contsOf ndB refO orO pin Int.toNat_zero decide_eq_true_eq wrap0 wrap1 ci1 ci2 BEq.rfl beq_self_eq_true Int.natCast_zero ge_iff_le gt_iff_lt Int.le_refl Nat.zero_mul Nat.one_mul Nat.zero_add Nat.zero_lt_succ Nat.lt_add_one Nat.le_refl List.append_eq Int.toNat_natCast gN gNN gNI gI gNNIB gNIB gJ gJJ gJN gJJI gJI stepB0 stepMk stepSl stepAp apY optI okO nilV slT resB outPs outLs outL dnT noE boxL_nil boxL_cons ptsL_nil ptsL_cons bxe pxe bne_self_eq_false wr2 wr3 wr4 wr5 wr6 wr7 wr8 gB gP gBB gBP gBZ gBBZ bC_nil bC_cons pC_nil pC_cons fvO Lc.up tyB tiS tiBB List.replicate_succ List.replicate_zero List.flatten_cons List.flatten_nil Int.ofNat_lt Int.cast_ofNat_Int Int.ofNat_eq_natCast List.isEmpty_nil List.isEmpty_cons and_false false_and List.cons_ne_nil Nat.add_zero ite_true ite_false if_true if_false Nat.le_zero_eq eq_self Bool.and_false Bool.false_and Bool.true_and AV.s cond_true cond_false Bool.or_true Bool.true_or Bool.or_false Bool.false_or
attribute [local go_sem ↓] cond_true cond_false not_cond outL_box outL_pts clL_box clL_pts okL_box okL_pts ment_box ment_pts olL_box olL_pts cvL_box cvL_pts noO_box noO_pts asB_box asP_pts len_box len_pts
attribute [local irreducible] chk
noncomputable def Tref_Scale : Tbl := one 114 (gNI fun x z => (True, neA (scalex x z)))
theorem Tref_Scale_ok : TbOK Tryz.prog Tref_Scale := one_ok (ent Tryz.func114 (by kernel_rfl) rfl) fun args e h hp => by obtain ⟨x, z, rfl, rfl⟩ := gNI_eq h; exact ctNI rfl (fun w Ax cx ht hx hl => (rscale_any w x.s x.e z Ax _ cx x.xs hx hl).mono fun _ _ h => post_ne ans1_fits h)
theorem y_precs (z : Int) : Ct Tryz.prog 111 [iA z] (· = bA (prb z)) := by
  refine ct_of (O := tblO noT) (by kernel_rfl) tyB_ok (fun w => tblO_ok noT_ok _ w) [] 2500 9 [.tmp 2] Tryz.func111 rfl Tryz.ntmps111 (by rw [Tryz.results111]) (by simp) rfl (fun hsm => ?_)
  simp (maxSteps := 10000000) only [go_sem, ↓reduceIte, Nat.reduceMul, Nat.reduceDiv, Nat.reduceAdd, Nat.reduceEqDiff, Nat.reduceLeDiff, Nat.reduceLT, reduceCtorEq, Int.reduceNeg, Int.reduceLT, Int.reduceLE, Int.reduceAdd, Int.reduceToNat, Nat.reduceBEq, Int.reduceMul, Int.reduceSub, Nat.reduceSub, Int.reduceBNe, Nat.reduceBNe, asB, asP, nilB, asJs, asXs, wsOf, zX, zJ]
  repeat' first | (with_reducible apply And.intro) | (with_reducible apply condP <;> intro _)
  all_goals first | (show chk _ _ = true; kernel_rfl) | assumption | (simp only [go_sem, *, Nat.reduceAdd, zX, zJ, prb] <;> rfl) | rfl | (exfalso; simp_all only [Bool.true_eq_false, Bool.false_eq_true, reduceCtorEq]; done)
noncomputable def T6_precs : Tbl := one 111 (gI fun z => (True, bA (prb z)))
theorem T6_precs_ok : TbOK Tryz.prog T6_precs := one_ok (ent Tryz.func111 (by kernel_rfl) rfl) fun args e h hp => by obtain ⟨z, rfl, rfl⟩ := gI_eq h; exact y_precs z
theorem bothB_1 {φ : J → J → J × Int} {l m : List J} (h : ∀ a b, φ a b = (zJ, 1)) : bothB φ l m = ([], 1) := by
  unfold bothB
  cases hc : rightB l && rightB m && decide (l.length = m.length) with
  | false => rfl
  | true =>
    rw [Bool.and_eq_true, Bool.and_eq_true, decide_eq_true_eq] at hc
    have := rightB_len hc.1.1
    match l, m, hc.2, this with
    | [], _, _, h => exact absurd h.1 (by simp)
    | a :: l, [], h, _ => exact absurd h (by simp)
    | a :: l, b :: m, _, _ => rw [cond_true]; unfold zipB; rw [h a b]; rfl
theorem bothP_1 {φ : J → J → X × Int} {l m : List J} (h : ∀ a b, φ a b = (zX, 1)) : bothP φ l m = ([], 1) := by
  unfold bothP
  cases hc : rightB l && rightB m && decide (l.length = m.length) with
  | false => rfl
  | true =>
    rw [Bool.and_eq_true, Bool.and_eq_true, decide_eq_true_eq] at hc
    have := rightB_len hc.1.1
    match l, m, hc.2, this with
    | [], _, _, h => exact absurd h.1 (by simp)
    | a :: l, [], h, _ => exact absurd h (by simp)
    | a :: l, b :: m, _, _ => rw [cond_true]; unfold zipP; rw [h a b]; rfl
theorem opQ_1 {k z : Int} (h : prb z = false) (a b : J) : opQ k a b z = (zJ, 1) := by
  unfold opQ; rw [h]; cases okJ a <;> cases okJ b <;> rfl
theorem opQ_x {k z : Int} {a b : J} (h : okJ a = false) : opQ k a b z = (zJ, 1) := by
  unfold opQ; rw [h]; cases okJ b <;> cases prb z <;> rfl
theorem rmid_1 {z : Int} (h : prb z = false) (a : J) : rmid a z = (zX, 1) := by
  unfold rmid; rw [h]; cases okJ a <;> rfl
theorem y_opz (k : Int) (l m : List J) (z : Int) (h0 : prb z = false) : Ct Tryz.prog 60 [iA k, bA_ l, bA_ m, iA z] (· = bxe (bothB (fun a b => opQ k a b z) l m)) := by
  rw [bothB_1 (opQ_1 h0)]
  refine ct_of (O := tblO (orT T6_Right T6_precs)) (by kernel_rfl) tyB_ok (fun w => tblO_ok (orT_ok T6_Right_ok T6_precs_ok) _ w) [24, 25, 118, 119] 2500 62 [.tmp 8, .tmp 9] Tryz.func60 rfl Tryz.ntmps60 (by rw [Tryz.results60]) (by simp) rfl (fun hsm => ?_)
  simp (maxSteps := 10000000) only [go_sem, ↓reduceIte, Nat.reduceMul, Nat.reduceDiv, Nat.reduceAdd, Nat.reduceEqDiff, Nat.reduceLeDiff, Nat.reduceLT, reduceCtorEq, Int.reduceNeg, Int.reduceLT, Int.reduceLE, Int.reduceAdd, Int.reduceToNat, Nat.reduceBEq, Int.reduceMul, Int.reduceSub, Nat.reduceSub, Int.reduceBNe, Nat.reduceBNe, T6_Right, T6_precs, zX, zJ, h0, asB_b]
  repeat' first | (with_reducible apply And.intro) | (with_reducible apply condP <;> intro _)
  all_goals first | (show chk _ _ = true; kernel_rfl) | assumption | (simp only [go_sem, *, Nat.reduceAdd, zX, zJ, bothB_1 (opQ_1 h0)] <;> rfl) | rfl | (exfalso; simp_all only [Bool.true_eq_false, Bool.false_eq_true, reduceCtorEq]; done)
theorem y_ope (k : Int) (l m : List J) (z : Int) (h1 : rightB l = false) : Ct Tryz.prog 60 [iA k, bA_ l, bA_ m, iA z] (· = bxe (bothB (fun a b => opQ k a b z) l m)) := by
  refine ct_of (O := tblO (orT T6_Right T6_precs)) (by kernel_rfl) tyB_ok (fun w => tblO_ok (orT_ok T6_Right_ok T6_precs_ok) _ w) [24, 25, 118, 119] 2500 62 [.tmp 8, .tmp 9] Tryz.func60 rfl Tryz.ntmps60 (by rw [Tryz.results60]) (by simp) rfl (fun hsm => ?_)
  simp (maxSteps := 10000000) only [go_sem, ↓reduceIte, Nat.reduceMul, Nat.reduceDiv, Nat.reduceAdd, Nat.reduceEqDiff, Nat.reduceLeDiff, Nat.reduceLT, reduceCtorEq, Int.reduceNeg, Int.reduceLT, Int.reduceLE, Int.reduceAdd, Int.reduceToNat, Nat.reduceBEq, Int.reduceMul, Int.reduceSub, Nat.reduceSub, Int.reduceBNe, Nat.reduceBNe, T6_Right, T6_precs, zX, zJ, h1, asB_b]
  repeat' first | (with_reducible apply And.intro) | (with_reducible apply condP <;> intro _)
  all_goals first | (show chk _ _ = true; kernel_rfl) | assumption | (simp only [go_sem, *, Nat.reduceAdd, zX, zJ, bothB, h1] <;> rfl) | rfl | (exfalso; simp_all only [Bool.true_eq_false, Bool.false_eq_true, reduceCtorEq]; done)
theorem y_opf (k : Int) (l m : List J) (z : Int) (h1 : rightB l = true) (h2 : rightB m = false) : Ct Tryz.prog 60 [iA k, bA_ l, bA_ m, iA z] (· = bxe (bothB (fun a b => opQ k a b z) l m)) := by
  refine ct_of (O := tblO (orT T6_Right T6_precs)) (by kernel_rfl) tyB_ok (fun w => tblO_ok (orT_ok T6_Right_ok T6_precs_ok) _ w) [24, 25, 118, 119] 2500 62 [.tmp 8, .tmp 9] Tryz.func60 rfl Tryz.ntmps60 (by rw [Tryz.results60]) (by simp) rfl (fun hsm => ?_)
  simp (maxSteps := 10000000) only [go_sem, ↓reduceIte, Nat.reduceMul, Nat.reduceDiv, Nat.reduceAdd, Nat.reduceEqDiff, Nat.reduceLeDiff, Nat.reduceLT, reduceCtorEq, Int.reduceNeg, Int.reduceLT, Int.reduceLE, Int.reduceAdd, Int.reduceToNat, Nat.reduceBEq, Int.reduceMul, Int.reduceSub, Nat.reduceSub, Int.reduceBNe, Nat.reduceBNe, T6_Right, T6_precs, zX, zJ, h1, h2, asB_b]
  repeat' first | (with_reducible apply And.intro) | (with_reducible apply condP <;> intro _)
  all_goals first | (show chk _ _ = true; kernel_rfl) | assumption | (simp only [go_sem, *, Nat.reduceAdd, zX, zJ, bothB, h1, h2] <;> rfl) | rfl | (exfalso; simp_all only [Bool.true_eq_false, Bool.false_eq_true, reduceCtorEq]; done)
theorem y_opx (k : Int) (l m : List J) (z : Int) (h1 : rightB l = true) (h2 : rightB m = true) (h3 : l.length ≠ m.length) : Ct Tryz.prog 60 [iA k, bA_ l, bA_ m, iA z] (· = bxe (bothB (fun a b => opQ k a b z) l m)) := by
  have h4 : ((l.length : Int) != (m.length : Int)) = true := bne_iff_ne.2 (by omega)
  have h5 : decide (l.length = m.length) = false := decide_eq_false h3
  refine ct_of (O := tblO (orT T6_Right T6_precs)) (by kernel_rfl) tyB_ok (fun w => tblO_ok (orT_ok T6_Right_ok T6_precs_ok) _ w) [24, 25, 118, 119] 2500 62 [.tmp 8, .tmp 9] Tryz.func60 rfl Tryz.ntmps60 (by rw [Tryz.results60]) (by simp) rfl (fun hsm => ?_)
  simp (maxSteps := 10000000) only [go_sem, ↓reduceIte, Nat.reduceMul, Nat.reduceDiv, Nat.reduceAdd, Nat.reduceEqDiff, Nat.reduceLeDiff, Nat.reduceLT, reduceCtorEq, Int.reduceNeg, Int.reduceLT, Int.reduceLE, Int.reduceAdd, Int.reduceToNat, Nat.reduceBEq, Int.reduceMul, Int.reduceSub, Nat.reduceSub, Int.reduceBNe, Nat.reduceBNe, T6_Right, T6_precs, zX, zJ, h1, h2, h4, asB_b]
  repeat' first | (with_reducible apply And.intro) | (with_reducible apply condP <;> intro _)
  all_goals first | (show chk _ _ = true; kernel_rfl) | assumption | (simp only [go_sem, *, Nat.reduceAdd, zX, zJ, bothB, h1, h2, h5] <;> rfl) | rfl | (exfalso; simp_all only [Bool.true_eq_false, Bool.false_eq_true, reduceCtorEq]; done)
theorem y_op1 (k : Int) (a s : J) (z : Int) (h1 : rightB [a] = true) (h2 : rightB [s] = true) (h0 : prb z = true) (hk : k = 0 ∨ k = 1 ∨ k = 2) : Ct Tryz.prog 60 [iA k, bA_ [a], bA_ [s], iA z] (· = bxe (bothB (fun a b => opQ k a b z) [a] [s])) := by
  refine ct_of (O := tblO (orT T6_Right (orT T6_precs Tref_Op3))) (by kernel_rfl) tyB_ok (fun w => tblO_ok (orT_ok T6_Right_ok (orT_ok T6_precs_ok Tref_Op3_ok)) _ w) [24, 25, 118, 119] 2500 62 [.tmp 8, .tmp 9] Tryz.func60 rfl Tryz.ntmps60 (by rw [Tryz.results60]) (by simp) rfl (fun hsm => ?_)
  simp (maxSteps := 10000000) only [go_sem, ↓reduceIte, Nat.reduceMul, Nat.reduceDiv, Nat.reduceAdd, Nat.reduceEqDiff, Nat.reduceLeDiff, Nat.reduceLT, reduceCtorEq, Int.reduceNeg, Int.reduceLT, Int.reduceLE, Int.reduceAdd, Int.reduceToNat, Nat.reduceBEq, Int.reduceMul, Int.reduceSub, Nat.reduceSub, Int.reduceBNe, Nat.reduceBNe, asB, asP, nilB, asJs, asXs, wsOf, T6_Right, T6_precs, Tref_Op3, zX, zJ, h1, h2, h0, gIJJI]
  repeat' first | (with_reducible apply And.intro) | (with_reducible apply condP <;> intro _)
  all_goals first | (show chk _ _ = true; kernel_rfl) | assumption | (simp only [go_sem, *, Nat.reduceAdd, zX, zJ, bothB, zipB, h1, h2, Int.reduceBNe] <;> rfl) | rfl | (exfalso; simp_all only [Bool.true_eq_false, Bool.false_eq_true, reduceCtorEq]; done)
theorem y_op2 (k : Int) (a b s t : J) (z : Int) (h1 : rightB [a, b] = true) (h2 : rightB [s, t] = true) (h0 : prb z = true) (hk : k = 0 ∨ k = 1 ∨ k = 2) : Ct Tryz.prog 60 [iA k, bA_ [a, b], bA_ [s, t], iA z] (· = bxe (bothB (fun a b => opQ k a b z) [a, b] [s, t])) := by
  refine ct_of (O := tblO (orT T6_Right (orT T6_precs Tref_Op3))) (by kernel_rfl) tyB_ok (fun w => tblO_ok (orT_ok T6_Right_ok (orT_ok T6_precs_ok Tref_Op3_ok)) _ w) [24, 25, 118, 119] 2500 62 [.tmp 8, .tmp 9] Tryz.func60 rfl Tryz.ntmps60 (by rw [Tryz.results60]) (by simp) rfl (fun hsm => ?_)
  simp (maxSteps := 10000000) only [go_sem, ↓reduceIte, Nat.reduceMul, Nat.reduceDiv, Nat.reduceAdd, Nat.reduceEqDiff, Nat.reduceLeDiff, Nat.reduceLT, reduceCtorEq, Int.reduceNeg, Int.reduceLT, Int.reduceLE, Int.reduceAdd, Int.reduceToNat, Nat.reduceBEq, Int.reduceMul, Int.reduceSub, Nat.reduceSub, Int.reduceBNe, Nat.reduceBNe, asB, asP, nilB, asJs, asXs, wsOf, T6_Right, T6_precs, Tref_Op3, zX, zJ, h1, h2, h0, gIJJI]
  repeat' first | (with_reducible apply And.intro) | (with_reducible apply condP <;> intro _)
  all_goals first | (show chk _ _ = true; kernel_rfl) | assumption | (simp only [go_sem, *, Nat.reduceAdd, zX, zJ, bothB, zipB, h1, h2, Int.reduceBNe] <;> rfl) | rfl | (exfalso; simp_all only [Bool.true_eq_false, Bool.false_eq_true, reduceCtorEq]; done)
theorem y_op3 (k : Int) (a b c s t u : J) (z : Int) (h1 : rightB [a, b, c] = true) (h2 : rightB [s, t, u] = true) (h0 : prb z = true) (hk : k = 0 ∨ k = 1 ∨ k = 2) : Ct Tryz.prog 60 [iA k, bA_ [a, b, c], bA_ [s, t, u], iA z] (· = bxe (bothB (fun a b => opQ k a b z) [a, b, c] [s, t, u])) := by
  refine ct_of (O := tblO (orT T6_Right (orT T6_precs Tref_Op3))) (by kernel_rfl) tyB_ok (fun w => tblO_ok (orT_ok T6_Right_ok (orT_ok T6_precs_ok Tref_Op3_ok)) _ w) [24, 25, 118, 119] 2500 62 [.tmp 8, .tmp 9] Tryz.func60 rfl Tryz.ntmps60 (by rw [Tryz.results60]) (by simp) rfl (fun hsm => ?_)
  simp (maxSteps := 10000000) only [go_sem, ↓reduceIte, Nat.reduceMul, Nat.reduceDiv, Nat.reduceAdd, Nat.reduceEqDiff, Nat.reduceLeDiff, Nat.reduceLT, reduceCtorEq, Int.reduceNeg, Int.reduceLT, Int.reduceLE, Int.reduceAdd, Int.reduceToNat, Nat.reduceBEq, Int.reduceMul, Int.reduceSub, Nat.reduceSub, Int.reduceBNe, Nat.reduceBNe, asB, asP, nilB, asJs, asXs, wsOf, T6_Right, T6_precs, Tref_Op3, zX, zJ, h1, h2, h0, gIJJI]
  repeat' first | (with_reducible apply And.intro) | (with_reducible apply condP <;> intro _)
  all_goals first | (show chk _ _ = true; kernel_rfl) | assumption | (simp only [go_sem, *, Nat.reduceAdd, zX, zJ, bothB, zipB, h1, h2, Int.reduceBNe] <;> rfl) | rfl | (exfalso; simp_all only [Bool.true_eq_false, Bool.false_eq_true, reduceCtorEq]; done)
theorem y_op4 (k : Int) (a b c d s t u v : J) (z : Int) (h1 : rightB [a, b, c, d] = true) (h2 : rightB [s, t, u, v] = true) (h0 : prb z = true) (hk : k = 0 ∨ k = 1 ∨ k = 2) : Ct Tryz.prog 60 [iA k, bA_ [a, b, c, d], bA_ [s, t, u, v], iA z] (· = bxe (bothB (fun a b => opQ k a b z) [a, b, c, d] [s, t, u, v])) := by
  refine ct_of (O := tblO (orT T6_Right (orT T6_precs Tref_Op3))) (by kernel_rfl) tyB_ok (fun w => tblO_ok (orT_ok T6_Right_ok (orT_ok T6_precs_ok Tref_Op3_ok)) _ w) [24, 25, 118, 119] 2500 62 [.tmp 8, .tmp 9] Tryz.func60 rfl Tryz.ntmps60 (by rw [Tryz.results60]) (by simp) rfl (fun hsm => ?_)
  simp (maxSteps := 10000000) only [go_sem, ↓reduceIte, Nat.reduceMul, Nat.reduceDiv, Nat.reduceAdd, Nat.reduceEqDiff, Nat.reduceLeDiff, Nat.reduceLT, reduceCtorEq, Int.reduceNeg, Int.reduceLT, Int.reduceLE, Int.reduceAdd, Int.reduceToNat, Nat.reduceBEq, Int.reduceMul, Int.reduceSub, Nat.reduceSub, Int.reduceBNe, Nat.reduceBNe, asB, asP, nilB, asJs, asXs, wsOf, T6_Right, T6_precs, Tref_Op3, zX, zJ, h1, h2, h0, gIJJI]
  repeat' first | (with_reducible apply And.intro) | (with_reducible apply condP <;> intro _)
  all_goals first | (show chk _ _ = true; kernel_rfl) | assumption | (simp only [go_sem, *, Nat.reduceAdd, zX, zJ, bothB, zipB, h1, h2, Int.reduceBNe] <;> rfl) | rfl | (exfalso; simp_all only [Bool.true_eq_false, Bool.false_eq_true, reduceCtorEq]; done)
theorem y_op (k : Int) (l m : List J) (z : Int) (hk : k = 0 ∨ k = 1 ∨ k = 2) : Ct Tryz.prog 60 [iA k, bA_ l, bA_ m, iA z] (· = bxe (bothB (fun a b => opQ k a b z) l m)) := by
  cases h0 : prb z with
  | false => exact y_opz k l m z h0
  | true =>
    cases h1 : rightB l with
    | false => exact y_ope k l m z h1
    | true =>
      cases h2 : rightB m with
      | false => exact y_opf k l m z h1 h2
      | true =>
        by_cases h3 : l.length = m.length
        case neg => exact y_opx k l m z h1 h2 h3
        have h4 := rightB_len h1
        match l, m, h1, h2, h3, h4 with
        | [], _, _, _, _, h => exact absurd h.1 (by simp)
        | [a], [s], h1, h2, _, _ => exact y_op1 k a s z h1 h2 h0 hk
        | [a, b], [s, t], h1, h2, _, _ => exact y_op2 k a b s t z h1 h2 h0 hk
        | [a, b, c], [s, t, u], h1, h2, _, _ => exact y_op3 k a b c s t u z h1 h2 h0 hk
        | [a, b, c, d], [s, t, u, v], h1, h2, _, _ => exact y_op4 k a b c d s t u v z h1 h2 h0 hk
        | _ :: _ :: _ :: _ :: _ :: _, _, _, _, _, h => exact absurd h.2 (by simp)
def gIBBI (k : Int → List J → List J → Int → Prop × AV) : List AV → Option (Prop × AV)
  | [.v false [.lit (.int .i64 kd)], x, y, .v false [.lit (.int .i64 z)]] => (match asB x, asB y with
    | some l, some m => some (k kd l m z)
    | _, _ => none)
  | _ => none
theorem gIBBI_ct {P : Program} {f : FuncId} {k : Int → List J → List J → Int → Prop × AV} (h : ∀ kd l m z, (k kd l m z).1 → Ct P f [iA kd, bA_ l, bA_ m, iA z] (· = (k kd l m z).2)) {args : List AV} {e : Prop × AV} (he : gIBBI k args = some e) (hp : e.1) : Ct P f args (· = e.2) := by
  unfold gIBBI at he
  split at he
  · split at he
    · rename_i l m hl hm
      injection he with he; subst he
      exact (h _ l m _ hp).of fun ρ D w => RA.c (fun u h => h) (RA.c (fun u => asB_R hl) (RA.c (fun u => asB_R hm) fun us h => h))
    · cases he
  · cases he
noncomputable def T6_Op : Tbl := one 60 (gIBBI fun k l m z => (k = 0 ∨ k = 1 ∨ k = 2, bxe (bothB (fun a b => opQ k a b z) l m)))
theorem T6_Op_ok : TbOK Tryz.prog T6_Op := one_ok (ent Tryz.func60 (by kernel_rfl) rfl) fun args e h hp => gIBBI_ct (fun k l m z h => y_op k l m z h) h hp
theorem y_tmz (x : J) (l : List J) (z : Int) (h0 : prb z = false) : Ct Tryz.prog 61 [jA x, bA_ l, iA z] (· = bxe (bothB (fun a _ => opQ 2 x a z) l l)) := by
  rw [bothB_1 fun a _ => opQ_1 h0 x a]
  refine ct_of (O := tblO (orT T6_Right (orT T6_precs Tref_RightIv))) (by kernel_rfl) tyB_ok (fun w => tblO_ok (orT_ok T6_Right_ok (orT_ok T6_precs_ok Tref_RightIv_ok)) _ w) [20, 21, 92, 93] 2500 49 [.tmp 6, .tmp 7] Tryz.func61 rfl Tryz.ntmps61 (by rw [Tryz.results61]) (by simp) rfl (fun hsm => ?_)
  simp (maxSteps := 10000000) only [go_sem, ↓reduceIte, Nat.reduceMul, Nat.reduceDiv, Nat.reduceAdd, Nat.reduceEqDiff, Nat.reduceLeDiff, Nat.reduceLT, reduceCtorEq, Int.reduceNeg, Int.reduceLT, Int.reduceLE, Int.reduceAdd, Int.reduceToNat, Nat.reduceBEq, Int.reduceMul, Int.reduceSub, Nat.reduceSub, Int.reduceBNe, Nat.reduceBNe, T6_Right, T6_precs, Tref_RightIv, zX, zJ, h0, asB_b]
  repeat' first | (with_reducible apply And.intro) | (with_reducible apply condP <;> intro _)
  all_goals first | (show chk _ _ = true; kernel_rfl) | assumption | (simp only [go_sem, *, Nat.reduceAdd, zX, zJ] <;> rfl) | rfl | (exfalso; simp_all only [Bool.true_eq_false, Bool.false_eq_true, reduceCtorEq]; done)
theorem y_tmx (x : J) (l : List J) (z : Int) (h0 : okJ x = false) : Ct Tryz.prog 61 [jA x, bA_ l, iA z] (· = bxe (bothB (fun a _ => opQ 2 x a z) l l)) := by
  rw [bothB_1 fun a _ => opQ_x h0]
  refine ct_of (O := tblO (orT T6_Right (orT T6_precs Tref_RightIv))) (by kernel_rfl) tyB_ok (fun w => tblO_ok (orT_ok T6_Right_ok (orT_ok T6_precs_ok Tref_RightIv_ok)) _ w) [20, 21, 92, 93] 2500 49 [.tmp 6, .tmp 7] Tryz.func61 rfl Tryz.ntmps61 (by rw [Tryz.results61]) (by simp) rfl (fun hsm => ?_)
  simp (maxSteps := 10000000) only [go_sem, ↓reduceIte, Nat.reduceMul, Nat.reduceDiv, Nat.reduceAdd, Nat.reduceEqDiff, Nat.reduceLeDiff, Nat.reduceLT, reduceCtorEq, Int.reduceNeg, Int.reduceLT, Int.reduceLE, Int.reduceAdd, Int.reduceToNat, Nat.reduceBEq, Int.reduceMul, Int.reduceSub, Nat.reduceSub, Int.reduceBNe, Nat.reduceBNe, T6_Right, T6_precs, Tref_RightIv, zX, zJ, h0, asB_b]
  repeat' first | (with_reducible apply And.intro) | (with_reducible apply condP <;> intro _)
  all_goals first | (show chk _ _ = true; kernel_rfl) | assumption | (simp only [go_sem, *, Nat.reduceAdd, zX, zJ] <;> rfl) | rfl | (exfalso; simp_all only [Bool.true_eq_false, Bool.false_eq_true, reduceCtorEq]; done)
theorem y_tme (x : J) (l : List J) (z : Int) (h1 : rightB l = false) : Ct Tryz.prog 61 [jA x, bA_ l, iA z] (· = bxe (bothB (fun a _ => opQ 2 x a z) l l)) := by
  refine ct_of (O := tblO (orT T6_Right (orT T6_precs Tref_RightIv))) (by kernel_rfl) tyB_ok (fun w => tblO_ok (orT_ok T6_Right_ok (orT_ok T6_precs_ok Tref_RightIv_ok)) _ w) [20, 21, 92, 93] 2500 49 [.tmp 6, .tmp 7] Tryz.func61 rfl Tryz.ntmps61 (by rw [Tryz.results61]) (by simp) rfl (fun hsm => ?_)
  simp (maxSteps := 10000000) only [go_sem, ↓reduceIte, Nat.reduceMul, Nat.reduceDiv, Nat.reduceAdd, Nat.reduceEqDiff, Nat.reduceLeDiff, Nat.reduceLT, reduceCtorEq, Int.reduceNeg, Int.reduceLT, Int.reduceLE, Int.reduceAdd, Int.reduceToNat, Nat.reduceBEq, Int.reduceMul, Int.reduceSub, Nat.reduceSub, Int.reduceBNe, Nat.reduceBNe, T6_Right, T6_precs, Tref_RightIv, zX, zJ, h1, asB_b]
  repeat' first | (with_reducible apply And.intro) | (with_reducible apply condP <;> intro _)
  all_goals first | (show chk _ _ = true; kernel_rfl) | assumption | (simp only [go_sem, *, Nat.reduceAdd, zX, zJ, bothB, h1] <;> rfl) | rfl | (exfalso; simp_all only [Bool.true_eq_false, Bool.false_eq_true, reduceCtorEq]; done)
theorem y_tm1 (x a : J) (z : Int) (h1 : rightB [a] = true) (h0 : prb z = true) (hx : okJ x = true) : Ct Tryz.prog 61 [jA x, bA_ [a], iA z] (· = bxe (bothB (fun a _ => opQ 2 x a z) [a] [a])) := by
  refine ct_of (O := tblO (orT T6_Right (orT T6_precs (orT Tref_RightIv Tref_Op3)))) (by kernel_rfl) tyB_ok (fun w => tblO_ok (orT_ok T6_Right_ok (orT_ok T6_precs_ok (orT_ok Tref_RightIv_ok Tref_Op3_ok))) _ w) [20, 21, 92, 93] 2500 49 [.tmp 6, .tmp 7] Tryz.func61 rfl Tryz.ntmps61 (by rw [Tryz.results61]) (by simp) rfl (fun hsm => ?_)
  simp (maxSteps := 10000000) only [go_sem, ↓reduceIte, Nat.reduceMul, Nat.reduceDiv, Nat.reduceAdd, Nat.reduceEqDiff, Nat.reduceLeDiff, Nat.reduceLT, reduceCtorEq, Int.reduceNeg, Int.reduceLT, Int.reduceLE, Int.reduceAdd, Int.reduceToNat, Nat.reduceBEq, Int.reduceMul, Int.reduceSub, Nat.reduceSub, Int.reduceBNe, Nat.reduceBNe, asB, asP, nilB, asJs, asXs, wsOf, T6_Right, T6_precs, Tref_RightIv, Tref_Op3, zX, zJ, h1, h0, hx, gIJJI]
  repeat' first | (with_reducible apply And.intro) | (with_reducible apply condP <;> intro _)
  all_goals try decide
  all_goals first | (show chk _ _ = true; kernel_rfl) | assumption | (simp only [go_sem, *, Nat.reduceAdd, zX, zJ, bothB, zipB, h1, Int.reduceBNe] <;> rfl) | rfl | (exfalso; simp_all only [Bool.true_eq_false, Bool.false_eq_true, reduceCtorEq]; done)
theorem y_tm2 (x a b : J) (z : Int) (h1 : rightB [a, b] = true) (h0 : prb z = true) (hx : okJ x = true) : Ct Tryz.prog 61 [jA x, bA_ [a, b], iA z] (· = bxe (bothB (fun a _ => opQ 2 x a z) [a, b] [a, b])) := by
  refine ct_of (O := tblO (orT T6_Right (orT T6_precs (orT Tref_RightIv Tref_Op3)))) (by kernel_rfl) tyB_ok (fun w => tblO_ok (orT_ok T6_Right_ok (orT_ok T6_precs_ok (orT_ok Tref_RightIv_ok Tref_Op3_ok))) _ w) [20, 21, 92, 93] 2500 49 [.tmp 6, .tmp 7] Tryz.func61 rfl Tryz.ntmps61 (by rw [Tryz.results61]) (by simp) rfl (fun hsm => ?_)
  simp (maxSteps := 10000000) only [go_sem, ↓reduceIte, Nat.reduceMul, Nat.reduceDiv, Nat.reduceAdd, Nat.reduceEqDiff, Nat.reduceLeDiff, Nat.reduceLT, reduceCtorEq, Int.reduceNeg, Int.reduceLT, Int.reduceLE, Int.reduceAdd, Int.reduceToNat, Nat.reduceBEq, Int.reduceMul, Int.reduceSub, Nat.reduceSub, Int.reduceBNe, Nat.reduceBNe, asB, asP, nilB, asJs, asXs, wsOf, T6_Right, T6_precs, Tref_RightIv, Tref_Op3, zX, zJ, h1, h0, hx, gIJJI]
  repeat' first | (with_reducible apply And.intro) | (with_reducible apply condP <;> intro _)
  all_goals try decide
  all_goals first | (show chk _ _ = true; kernel_rfl) | assumption | (simp only [go_sem, *, Nat.reduceAdd, zX, zJ, bothB, zipB, h1, Int.reduceBNe] <;> rfl) | rfl | (exfalso; simp_all only [Bool.true_eq_false, Bool.false_eq_true, reduceCtorEq]; done)
theorem y_tm3 (x a b c : J) (z : Int) (h1 : rightB [a, b, c] = true) (h0 : prb z = true) (hx : okJ x = true) : Ct Tryz.prog 61 [jA x, bA_ [a, b, c], iA z] (· = bxe (bothB (fun a _ => opQ 2 x a z) [a, b, c] [a, b, c])) := by
  refine ct_of (O := tblO (orT T6_Right (orT T6_precs (orT Tref_RightIv Tref_Op3)))) (by kernel_rfl) tyB_ok (fun w => tblO_ok (orT_ok T6_Right_ok (orT_ok T6_precs_ok (orT_ok Tref_RightIv_ok Tref_Op3_ok))) _ w) [20, 21, 92, 93] 2500 49 [.tmp 6, .tmp 7] Tryz.func61 rfl Tryz.ntmps61 (by rw [Tryz.results61]) (by simp) rfl (fun hsm => ?_)
  simp (maxSteps := 10000000) only [go_sem, ↓reduceIte, Nat.reduceMul, Nat.reduceDiv, Nat.reduceAdd, Nat.reduceEqDiff, Nat.reduceLeDiff, Nat.reduceLT, reduceCtorEq, Int.reduceNeg, Int.reduceLT, Int.reduceLE, Int.reduceAdd, Int.reduceToNat, Nat.reduceBEq, Int.reduceMul, Int.reduceSub, Nat.reduceSub, Int.reduceBNe, Nat.reduceBNe, asB, asP, nilB, asJs, asXs, wsOf, T6_Right, T6_precs, Tref_RightIv, Tref_Op3, zX, zJ, h1, h0, hx, gIJJI]
  repeat' first | (with_reducible apply And.intro) | (with_reducible apply condP <;> intro _)
  all_goals try decide
  all_goals first | (show chk _ _ = true; kernel_rfl) | assumption | (simp only [go_sem, *, Nat.reduceAdd, zX, zJ, bothB, zipB, h1, Int.reduceBNe] <;> rfl) | rfl | (exfalso; simp_all only [Bool.true_eq_false, Bool.false_eq_true, reduceCtorEq]; done)
theorem y_tm4 (x a b c d : J) (z : Int) (h1 : rightB [a, b, c, d] = true) (h0 : prb z = true) (hx : okJ x = true) : Ct Tryz.prog 61 [jA x, bA_ [a, b, c, d], iA z] (· = bxe (bothB (fun a _ => opQ 2 x a z) [a, b, c, d] [a, b, c, d])) := by
  refine ct_of (O := tblO (orT T6_Right (orT T6_precs (orT Tref_RightIv Tref_Op3)))) (by kernel_rfl) tyB_ok (fun w => tblO_ok (orT_ok T6_Right_ok (orT_ok T6_precs_ok (orT_ok Tref_RightIv_ok Tref_Op3_ok))) _ w) [20, 21, 92, 93] 2500 49 [.tmp 6, .tmp 7] Tryz.func61 rfl Tryz.ntmps61 (by rw [Tryz.results61]) (by simp) rfl (fun hsm => ?_)
  simp (maxSteps := 10000000) only [go_sem, ↓reduceIte, Nat.reduceMul, Nat.reduceDiv, Nat.reduceAdd, Nat.reduceEqDiff, Nat.reduceLeDiff, Nat.reduceLT, reduceCtorEq, Int.reduceNeg, Int.reduceLT, Int.reduceLE, Int.reduceAdd, Int.reduceToNat, Nat.reduceBEq, Int.reduceMul, Int.reduceSub, Nat.reduceSub, Int.reduceBNe, Nat.reduceBNe, asB, asP, nilB, asJs, asXs, wsOf, T6_Right, T6_precs, Tref_RightIv, Tref_Op3, zX, zJ, h1, h0, hx, gIJJI]
  repeat' first | (with_reducible apply And.intro) | (with_reducible apply condP <;> intro _)
  all_goals try decide
  all_goals first | (show chk _ _ = true; kernel_rfl) | assumption | (simp only [go_sem, *, Nat.reduceAdd, zX, zJ, bothB, zipB, h1, Int.reduceBNe] <;> rfl) | rfl | (exfalso; simp_all only [Bool.true_eq_false, Bool.false_eq_true, reduceCtorEq]; done)
theorem y_times (x : J) (l : List J) (z : Int) : Ct Tryz.prog 61 [jA x, bA_ l, iA z] (· = bxe (bothB (fun a _ => opQ 2 x a z) l l)) := by
  cases h0 : prb z with
  | false => exact y_tmz x l z h0
  | true =>
    cases hx : okJ x with
    | false => exact y_tmx x l z hx
    | true =>
      cases h1 : rightB l with
      | false => exact y_tme x l z h1
      | true =>
        have h4 := rightB_len h1
        match l, h1, h4 with
        | [], _, h => exact absurd h.1 (by simp)
        | [a], h1, _ => exact y_tm1 x a z h1 h0 hx
        | [a, b], h1, _ => exact y_tm2 x a b z h1 h0 hx
        | [a, b, c], h1, _ => exact y_tm3 x a b c z h1 h0 hx
        | [a, b, c, d], h1, _ => exact y_tm4 x a b c d z h1 h0 hx
        | _ :: _ :: _ :: _ :: _ :: _, _, h => exact absurd h.2 (by simp)
def gJBI (k : J → List J → Int → Prop × AV) : List AV → Option (Prop × AV)
  | [.v true mj, x, .v false [.lit (.int .i64 z)]] => (match asIv mj, asB x with
    | some j, some l => some (k j l z)
    | _, _ => none)
  | _ => none
theorem gJBI_ct {P : Program} {f : FuncId} {k : J → List J → Int → Prop × AV} (h : ∀ j l z, (k j l z).1 → Ct P f [jA j, bA_ l, iA z] (· = (k j l z).2)) {args : List AV} {e : Prop × AV} (he : gJBI k args = some e) (hp : e.1) : Ct P f args (· = e.2) := by
  unfold gJBI at he
  split at he
  · split at he
    · rename_i j l hj hl
      injection he with he; subst he
      rw [asIv_eq hj]
      exact (h j l _ hp).of fun ρ D w => RA.c (fun u h => h) (RA.c (fun u => asB_R hl) fun us h => h)
    · cases he
  · cases he
noncomputable def T6_Times : Tbl := one 61 (gJBI fun x l z => (True, bxe (bothB (fun a _ => opQ 2 x a z) l l)))
theorem T6_Times_ok : TbOK Tryz.prog T6_Times := one_ok (ent Tryz.func61 (by kernel_rfl) rfl) fun args e h hp => gJBI_ct (fun x l z _ => y_times x l z) h hp
noncomputable def Tbox_Times : Tbl := one 25 (gJBI fun x l z => (True, bxe (bothB (fun a _ => mulJ x a z) l l)))
theorem Tbox_Times_ok : TbOK Tryz.prog Tbox_Times := one_ok (ent Tryz.func25 (by kernel_rfl) rfl) fun args e h hp => gJBI_ct (fun x l z _ => b_times x l z) h hp
theorem y_mdz (l : List J) (z : Int) (h0 : prb z = false) : Ct Tryz.prog 62 [bA_ l, iA z] (· = pxe (bothP (fun a _ => rmid a z) l l)) := by
  rw [bothP_1 fun a _ => rmid_1 h0 a]
  refine ct_of (O := tblO (orT T6_Right T6_precs)) (by kernel_rfl) tyB_ok (fun w => tblO_ok (orT_ok T6_Right_ok T6_precs_ok) _ w) [16, 17, 76, 77] 2500 41 [.tmp 4, .tmp 5] Tryz.func62 rfl Tryz.ntmps62 (by rw [Tryz.results62]) (by simp) rfl (fun hsm => ?_)
  simp (maxSteps := 10000000) only [go_sem, ↓reduceIte, Nat.reduceMul, Nat.reduceDiv, Nat.reduceAdd, Nat.reduceEqDiff, Nat.reduceLeDiff, Nat.reduceLT, reduceCtorEq, Int.reduceNeg, Int.reduceLT, Int.reduceLE, Int.reduceAdd, Int.reduceToNat, Nat.reduceBEq, Int.reduceMul, Int.reduceSub, Nat.reduceSub, Int.reduceBNe, Nat.reduceBNe, T6_Right, T6_precs, zX, zJ, h0, asB_b]
  repeat' first | (with_reducible apply And.intro) | (with_reducible apply condP <;> intro _)
  all_goals first | (show chk _ _ = true; kernel_rfl) | assumption | (simp only [go_sem, *, Nat.reduceAdd, zX, zJ] <;> rfl) | rfl | (exfalso; simp_all only [Bool.true_eq_false, Bool.false_eq_true, reduceCtorEq]; done)
theorem y_mde (l : List J) (z : Int) (h1 : rightB l = false) : Ct Tryz.prog 62 [bA_ l, iA z] (· = pxe (bothP (fun a _ => rmid a z) l l)) := by
  refine ct_of (O := tblO (orT T6_Right T6_precs)) (by kernel_rfl) tyB_ok (fun w => tblO_ok (orT_ok T6_Right_ok T6_precs_ok) _ w) [16, 17, 76, 77] 2500 41 [.tmp 4, .tmp 5] Tryz.func62 rfl Tryz.ntmps62 (by rw [Tryz.results62]) (by simp) rfl (fun hsm => ?_)
  simp (maxSteps := 10000000) only [go_sem, ↓reduceIte, Nat.reduceMul, Nat.reduceDiv, Nat.reduceAdd, Nat.reduceEqDiff, Nat.reduceLeDiff, Nat.reduceLT, reduceCtorEq, Int.reduceNeg, Int.reduceLT, Int.reduceLE, Int.reduceAdd, Int.reduceToNat, Nat.reduceBEq, Int.reduceMul, Int.reduceSub, Nat.reduceSub, Int.reduceBNe, Nat.reduceBNe, T6_Right, T6_precs, zX, zJ, h1, asB_b]
  repeat' first | (with_reducible apply And.intro) | (with_reducible apply condP <;> intro _)
  all_goals first | (show chk _ _ = true; kernel_rfl) | assumption | (simp only [go_sem, *, Nat.reduceAdd, zX, zJ, bothP, h1] <;> rfl) | rfl | (exfalso; simp_all only [Bool.true_eq_false, Bool.false_eq_true, reduceCtorEq]; done)
theorem y_md1 (a : J) (z : Int) (h1 : rightB [a] = true) (h0 : prb z = true) : Ct Tryz.prog 62 [bA_ [a], iA z] (· = pxe (bothP (fun a _ => rmid a z) [a] [a])) := by
  refine ct_of (O := tblO (orT T6_Right (orT T6_precs Tref_Mid))) (by kernel_rfl) tyB_ok (fun w => tblO_ok (orT_ok T6_Right_ok (orT_ok T6_precs_ok Tref_Mid_ok)) _ w) [16, 17, 76, 77] 2500 41 [.tmp 4, .tmp 5] Tryz.func62 rfl Tryz.ntmps62 (by rw [Tryz.results62]) (by simp) rfl (fun hsm => ?_)
  simp (maxSteps := 10000000) only [go_sem, ↓reduceIte, Nat.reduceMul, Nat.reduceDiv, Nat.reduceAdd, Nat.reduceEqDiff, Nat.reduceLeDiff, Nat.reduceLT, reduceCtorEq, Int.reduceNeg, Int.reduceLT, Int.reduceLE, Int.reduceAdd, Int.reduceToNat, Nat.reduceBEq, Int.reduceMul, Int.reduceSub, Nat.reduceSub, Int.reduceBNe, Nat.reduceBNe, asB, asP, nilB, asJs, asXs, wsOf, T6_Right, T6_precs, Tref_Mid, zX, zJ, h1, h0]
  repeat' first | (with_reducible apply And.intro) | (with_reducible apply condP <;> intro _)
  all_goals first | (show chk _ _ = true; kernel_rfl) | assumption | (simp only [go_sem, *, Nat.reduceAdd, zX, zJ, bothP, zipP, h1, Int.reduceBNe] <;> rfl) | rfl | (exfalso; simp_all only [Bool.true_eq_false, Bool.false_eq_true, reduceCtorEq]; done)
theorem y_md2 (a b : J) (z : Int) (h1 : rightB [a, b] = true) (h0 : prb z = true) : Ct Tryz.prog 62 [bA_ [a, b], iA z] (· = pxe (bothP (fun a _ => rmid a z) [a, b] [a, b])) := by
  refine ct_of (O := tblO (orT T6_Right (orT T6_precs Tref_Mid))) (by kernel_rfl) tyB_ok (fun w => tblO_ok (orT_ok T6_Right_ok (orT_ok T6_precs_ok Tref_Mid_ok)) _ w) [16, 17, 76, 77] 2500 41 [.tmp 4, .tmp 5] Tryz.func62 rfl Tryz.ntmps62 (by rw [Tryz.results62]) (by simp) rfl (fun hsm => ?_)
  simp (maxSteps := 10000000) only [go_sem, ↓reduceIte, Nat.reduceMul, Nat.reduceDiv, Nat.reduceAdd, Nat.reduceEqDiff, Nat.reduceLeDiff, Nat.reduceLT, reduceCtorEq, Int.reduceNeg, Int.reduceLT, Int.reduceLE, Int.reduceAdd, Int.reduceToNat, Nat.reduceBEq, Int.reduceMul, Int.reduceSub, Nat.reduceSub, Int.reduceBNe, Nat.reduceBNe, asB, asP, nilB, asJs, asXs, wsOf, T6_Right, T6_precs, Tref_Mid, zX, zJ, h1, h0]
  repeat' first | (with_reducible apply And.intro) | (with_reducible apply condP <;> intro _)
  all_goals first | (show chk _ _ = true; kernel_rfl) | assumption | (simp only [go_sem, *, Nat.reduceAdd, zX, zJ, bothP, zipP, h1, Int.reduceBNe] <;> rfl) | rfl | (exfalso; simp_all only [Bool.true_eq_false, Bool.false_eq_true, reduceCtorEq]; done)
theorem y_md3 (a b c : J) (z : Int) (h1 : rightB [a, b, c] = true) (h0 : prb z = true) : Ct Tryz.prog 62 [bA_ [a, b, c], iA z] (· = pxe (bothP (fun a _ => rmid a z) [a, b, c] [a, b, c])) := by
  refine ct_of (O := tblO (orT T6_Right (orT T6_precs Tref_Mid))) (by kernel_rfl) tyB_ok (fun w => tblO_ok (orT_ok T6_Right_ok (orT_ok T6_precs_ok Tref_Mid_ok)) _ w) [16, 17, 76, 77] 2500 41 [.tmp 4, .tmp 5] Tryz.func62 rfl Tryz.ntmps62 (by rw [Tryz.results62]) (by simp) rfl (fun hsm => ?_)
  simp (maxSteps := 10000000) only [go_sem, ↓reduceIte, Nat.reduceMul, Nat.reduceDiv, Nat.reduceAdd, Nat.reduceEqDiff, Nat.reduceLeDiff, Nat.reduceLT, reduceCtorEq, Int.reduceNeg, Int.reduceLT, Int.reduceLE, Int.reduceAdd, Int.reduceToNat, Nat.reduceBEq, Int.reduceMul, Int.reduceSub, Nat.reduceSub, Int.reduceBNe, Nat.reduceBNe, asB, asP, nilB, asJs, asXs, wsOf, T6_Right, T6_precs, Tref_Mid, zX, zJ, h1, h0]
  repeat' first | (with_reducible apply And.intro) | (with_reducible apply condP <;> intro _)
  all_goals first | (show chk _ _ = true; kernel_rfl) | assumption | (simp only [go_sem, *, Nat.reduceAdd, zX, zJ, bothP, zipP, h1, Int.reduceBNe] <;> rfl) | rfl | (exfalso; simp_all only [Bool.true_eq_false, Bool.false_eq_true, reduceCtorEq]; done)
theorem y_md4 (a b c d : J) (z : Int) (h1 : rightB [a, b, c, d] = true) (h0 : prb z = true) : Ct Tryz.prog 62 [bA_ [a, b, c, d], iA z] (· = pxe (bothP (fun a _ => rmid a z) [a, b, c, d] [a, b, c, d])) := by
  refine ct_of (O := tblO (orT T6_Right (orT T6_precs Tref_Mid))) (by kernel_rfl) tyB_ok (fun w => tblO_ok (orT_ok T6_Right_ok (orT_ok T6_precs_ok Tref_Mid_ok)) _ w) [16, 17, 76, 77] 2500 41 [.tmp 4, .tmp 5] Tryz.func62 rfl Tryz.ntmps62 (by rw [Tryz.results62]) (by simp) rfl (fun hsm => ?_)
  simp (maxSteps := 10000000) only [go_sem, ↓reduceIte, Nat.reduceMul, Nat.reduceDiv, Nat.reduceAdd, Nat.reduceEqDiff, Nat.reduceLeDiff, Nat.reduceLT, reduceCtorEq, Int.reduceNeg, Int.reduceLT, Int.reduceLE, Int.reduceAdd, Int.reduceToNat, Nat.reduceBEq, Int.reduceMul, Int.reduceSub, Nat.reduceSub, Int.reduceBNe, Nat.reduceBNe, asB, asP, nilB, asJs, asXs, wsOf, T6_Right, T6_precs, Tref_Mid, zX, zJ, h1, h0]
  repeat' first | (with_reducible apply And.intro) | (with_reducible apply condP <;> intro _)
  all_goals first | (show chk _ _ = true; kernel_rfl) | assumption | (simp only [go_sem, *, Nat.reduceAdd, zX, zJ, bothP, zipP, h1, Int.reduceBNe] <;> rfl) | rfl | (exfalso; simp_all only [Bool.true_eq_false, Bool.false_eq_true, reduceCtorEq]; done)
theorem y_mid (l : List J) (z : Int) : Ct Tryz.prog 62 [bA_ l, iA z] (· = pxe (bothP (fun a _ => rmid a z) l l)) := by
  cases h0 : prb z with
  | false => exact y_mdz l z h0
  | true =>
    cases h1 : rightB l with
    | false => exact y_mde l z h1
    | true =>
      have h4 := rightB_len h1
      match l, h1, h4 with
      | [], _, h => exact absurd h.1 (by simp)
      | [a], h1, _ => exact y_md1 a z h1 h0
      | [a, b], h1, _ => exact y_md2 a b z h1 h0
      | [a, b, c], h1, _ => exact y_md3 a b c z h1 h0
      | [a, b, c, d], h1, _ => exact y_md4 a b c d z h1 h0
      | _ :: _ :: _ :: _ :: _ :: _, _, h => exact absurd h.2 (by simp)
noncomputable def T6_Mid : Tbl := one 62 (gBZ fun l z => (True, pxe (bothP (fun a _ => rmid a z) l l)))
theorem T6_Mid_ok : TbOK Tryz.prog T6_Mid := one_ok (ent Tryz.func62 (by kernel_rfl) rfl) fun args e h hp => gBZ_ct (fun l z _ => y_mid l z) h hp
end Go.Proofs.YthhaelnildaemaaGreatDoor
namespace Go.Proofs.YthhaelnildaemaaGreatDoor
open Go.RowKit Nx
set_option linter.unusedVariables false
set_option linter.unusedSimpArgs false
set_option maxRecDepth 100000
set_option maxHeartbeats 4000000
attribute [local go_sem] run init X.L J.L vL X.eta J.eta Q.eta List.cons_append List.nil_append brkK brkf_b brkf_t exef_some exif_some condf_b opf bodyE addR skipE stepOp stepLoad stepStore stepField stepCall stepBS stepBi stepCv stepIx lpf hdS pick forget inL mentA ment dom evs evl evp evd okeys look fillA capsOf wordsOf rowsOf lenOf convK binV shV intV unV boolT tyT tiB tiI tiW tiD tiF tiR tiU tiNum tiIv tiVal tiSc okLf okD keysOf tblO cvA cvL dnL olA olL noO noA cbL cbA orT noT one asNum asIv asVal postf_some resA tupA clA clL dropTo decide_true decide_false List.all_cons List.all_nil Bool.and_true Bool.and_self true_and and_true and_self List.length_cons List.length_nil List.drop_succ_cons List.drop_zero List.take_succ_cons List.take_zero List.getElem?_cons_zero List.getElem?_cons_succ List.map_cons List.map_nil false_implies true_implies Option.bind_some List.getElem?_toArray Bool.false_eq_true List.append_nil List.flatMap_cons List.flatMap_nil true_or or_true forall_const List.reverse_cons List.reverse_nil Option.isSome_some Option.any_some Nat.lt_irrefl not_true_eq_false Bool.not_true Bool.not_false imp_self implies_true Bool.not_eq_true' Bool.not_eq_false' Bool.true_eq_false memOf cntF nmL rnL nmA rnA isV contsOf ndB refO orO pin Int.toNat_zero decide_eq_true_eq wrap0 wrap1 ci1 ci2 BEq.rfl beq_self_eq_true Int.natCast_zero ge_iff_le gt_iff_lt Int.le_refl Nat.zero_mul Nat.one_mul Nat.zero_add Nat.zero_lt_succ Nat.lt_add_one Nat.le_refl List.append_eq Int.toNat_natCast gN gNN gNI gI gNNIB gNIB gJ gJJ gJN gJJI gJI stepB0 stepMk stepSl stepAp apY optI okO nilV slT resB outPs outLs outL dnT noE boxL_nil boxL_cons ptsL_nil ptsL_cons bxe pxe bne_self_eq_false wr2 wr3 wr4 wr5 wr6 wr7 wr8 gB gP gBB gBP gBZ gBBZ bC_nil bC_cons pC_nil pC_cons fvO Lc.up tyB tiS tiBB List.replicate_succ List.replicate_zero List.flatten_cons List.flatten_nil Int.ofNat_lt Int.cast_ofNat_Int Int.ofNat_eq_natCast List.isEmpty_nil List.isEmpty_cons and_false false_and List.cons_ne_nil Nat.add_zero ite_true ite_false if_true if_false Nat.le_zero_eq eq_self Bool.and_false Bool.false_and Bool.true_and AV.s cond_true cond_false Bool.or_true Bool.true_or Bool.or_false Bool.false_or
attribute [local go_sem ↓] cond_true cond_false not_cond outL_box outL_pts clL_box clL_pts okL_box okL_pts ment_box ment_pts olL_box olL_pts cvL_box cvL_pts noO_box noO_pts asB_box asP_pts len_box len_pts
attribute [local irreducible] chk
noncomputable def rwids (l : List J) (z : Int) : List X × Int := bothP (fun a _ => prX (rwide a z)) l l
def rwidR (r : List X × Int) : (Int × X) × Int := bif r.2 != 0 then ((0, zX), r.2) else (wgo r.1 0 0 zX, 0)
noncomputable def rwidS (l : List J) (z : Int) : (Int × X) × Int := rwidR (rwids l z)
noncomputable def rblowJ (j : J) (z : Int) : J × Int := bif (rwide j z).2 != 0 then (zJ, (rwide j z).2) else bif (scalex (qx (rwide j z).1) (-2)).2 != 0 then (zJ, (scalex (qx (rwide j z).1) (-2)).2) else
  bif (rtwo (gk 1 z false) z j.lo (qx (scalex (qx (rwide j z).1) (-2)).1)).2 != 0 then (zJ, 2) else bif (rtwo (gk 0 z true) z j.hi (qx (scalex (qx (rwide j z).1) (-2)).1)).2 != 0 then (zJ, 2) else
  (⟨qx (rtwo (gk 1 z false) z j.lo (qx (scalex (qx (rwide j z).1) (-2)).1)).1, qx (rtwo (gk 0 z true) z j.hi (qx (scalex (qx (rwide j z).1) (-2)).1)).1⟩, 0)
theorem rwide_1 {z : Int} (h : prb z = false) (a : J) : rwide a z = (q0, 1) := by
  unfold rwide; rw [h]; cases okJ a <;> rfl
theorem prX_1 {z : Int} (h : prb z = false) (a : J) : prX (rwide a z) = (zX, 1) := by rw [rwide_1 h]; kernel_rfl
theorem rblow_1 {z : Int} (h : prb z = false) (a : J) : rblowJ a z = (zJ, 1) := by
  unfold rblowJ; rw [rwide_1 h]; rfl
theorem y_wdz (l : List J) (z : Int) (h0 : prb z = false) : Ct Tryz.prog 94 [bA_ l, iA z] (· = widA (rwidS l z)) := by
  unfold rwidS rwids
  rw [bothP_1 fun a _ => prX_1 h0 a]
  refine ct_of (O := tblO (orT T6_Right T6_precs)) (by kernel_rfl) tyB_ok (fun w => tblO_ok (orT_ok T6_Right_ok T6_precs_ok) _ w) [20, 21] 2500 49 [.tmp 4, .cell 5 28, .tmp 6] Tryz.func94 rfl Tryz.ntmps94 (by rw [Tryz.results94]) (by simp) rfl (fun hsm => ?_)
  simp (maxSteps := 10000000) only [go_sem, ↓reduceIte, Nat.reduceMul, Nat.reduceDiv, Nat.reduceAdd, Nat.reduceEqDiff, Nat.reduceLeDiff, Nat.reduceLT, reduceCtorEq, Int.reduceNeg, Int.reduceLT, Int.reduceLE, Int.reduceAdd, Int.reduceToNat, Nat.reduceBEq, Int.reduceMul, Int.reduceSub, Nat.reduceSub, Int.reduceBNe, Nat.reduceBNe, T6_Right, T6_precs, zX, zJ, h0, asB_b]
  repeat' first | (with_reducible apply And.intro) | (with_reducible apply condP <;> intro _)
  all_goals first | (show chk _ _ = true; kernel_rfl) | assumption | (simp only [go_sem, *, Nat.reduceAdd, zX, zJ, widA, rwidR] <;> rfl) | rfl | (exfalso; simp_all only [Bool.true_eq_false, Bool.false_eq_true, reduceCtorEq]; done)
theorem y_wde (l : List J) (z : Int) (h1 : rightB l = false) : Ct Tryz.prog 94 [bA_ l, iA z] (· = widA (rwidS l z)) := by
  refine ct_of (O := tblO (orT T6_Right T6_precs)) (by kernel_rfl) tyB_ok (fun w => tblO_ok (orT_ok T6_Right_ok T6_precs_ok) _ w) [20, 21] 2500 49 [.tmp 4, .cell 5 28, .tmp 6] Tryz.func94 rfl Tryz.ntmps94 (by rw [Tryz.results94]) (by simp) rfl (fun hsm => ?_)
  simp (maxSteps := 10000000) only [go_sem, ↓reduceIte, Nat.reduceMul, Nat.reduceDiv, Nat.reduceAdd, Nat.reduceEqDiff, Nat.reduceLeDiff, Nat.reduceLT, reduceCtorEq, Int.reduceNeg, Int.reduceLT, Int.reduceLE, Int.reduceAdd, Int.reduceToNat, Nat.reduceBEq, Int.reduceMul, Int.reduceSub, Nat.reduceSub, Int.reduceBNe, Nat.reduceBNe, T6_Right, T6_precs, zX, zJ, h1, asB_b]
  repeat' first | (with_reducible apply And.intro) | (with_reducible apply condP <;> intro _)
  all_goals first | (show chk _ _ = true; kernel_rfl) | assumption | (simp only [go_sem, *, Nat.reduceAdd, zX, zJ, bothP, h1, widA, rwidS, rwids, rwidR] <;> rfl) | rfl | (exfalso; simp_all only [Bool.true_eq_false, Bool.false_eq_true, reduceCtorEq]; done)
theorem y_wd1 (a : J) (z : Int) (h1 : rightB [a] = true) (h0 : prb z = true) : Ct Tryz.prog 94 [bA_ [a], iA z] (· = widA (rwidS [a] z)) := by
  refine ct_of (O := tblO (orT T6_Right (orT T6_precs (orT Tref_Wide Tref_CmpNum)))) (by kernel_rfl) tyB_ok (fun w => tblO_ok (orT_ok T6_Right_ok (orT_ok T6_precs_ok (orT_ok Tref_Wide_ok Tref_CmpNum_ok))) _ w) [20, 21] 2500 49 [.tmp 4, .cell 5 28, .tmp 6] Tryz.func94 rfl Tryz.ntmps94 (by rw [Tryz.results94]) (by simp) rfl (fun hsm => ?_)
  simp (maxSteps := 10000000) only [go_sem, ↓reduceIte, Nat.reduceMul, Nat.reduceDiv, Nat.reduceAdd, Nat.reduceEqDiff, Nat.reduceLeDiff, Nat.reduceLT, reduceCtorEq, Int.reduceNeg, Int.reduceLT, Int.reduceLE, Int.reduceAdd, Int.reduceToNat, Nat.reduceBEq, Int.reduceMul, Int.reduceSub, Nat.reduceSub, Int.reduceBNe, Nat.reduceBNe, asB, asP, nilB, asJs, asXs, wsOf, T6_Right, T6_precs, Tref_Wide, Tref_CmpNum, zX, zJ, h1, h0]
  repeat' first | (with_reducible apply And.intro) | (with_reducible apply condP <;> intro _)
  all_goals first | (show chk _ _ = true; kernel_rfl) | assumption | (simp only [go_sem, *, Nat.reduceAdd, zX, zJ, widA, rwidS, rwids, rwidR, wgo, prX, Int.reduceAdd, bothP, zipP, h1] <;> rfl) | rfl | (exfalso; simp_all only [Bool.true_eq_false, Bool.false_eq_true, reduceCtorEq]; done)
theorem y_wd2 (a b : J) (z : Int) (h1 : rightB [a, b] = true) (h0 : prb z = true) : Ct Tryz.prog 94 [bA_ [a, b], iA z] (· = widA (rwidS [a, b] z)) := by
  refine ct_of (O := tblO (orT T6_Right (orT T6_precs (orT Tref_Wide Tref_CmpNum)))) (by kernel_rfl) tyB_ok (fun w => tblO_ok (orT_ok T6_Right_ok (orT_ok T6_precs_ok (orT_ok Tref_Wide_ok Tref_CmpNum_ok))) _ w) [20, 21] 2500 49 [.tmp 4, .cell 5 28, .tmp 6] Tryz.func94 rfl Tryz.ntmps94 (by rw [Tryz.results94]) (by simp) rfl (fun hsm => ?_)
  simp (maxSteps := 10000000) only [go_sem, ↓reduceIte, Nat.reduceMul, Nat.reduceDiv, Nat.reduceAdd, Nat.reduceEqDiff, Nat.reduceLeDiff, Nat.reduceLT, reduceCtorEq, Int.reduceNeg, Int.reduceLT, Int.reduceLE, Int.reduceAdd, Int.reduceToNat, Nat.reduceBEq, Int.reduceMul, Int.reduceSub, Nat.reduceSub, Int.reduceBNe, Nat.reduceBNe, asB, asP, nilB, asJs, asXs, wsOf, T6_Right, T6_precs, Tref_Wide, Tref_CmpNum, zX, zJ, h1, h0]
  repeat' first | (with_reducible apply And.intro) | (with_reducible apply condP <;> intro _)
  all_goals first | (show chk _ _ = true; kernel_rfl) | assumption | (simp only [go_sem, *, Nat.reduceAdd, zX, zJ, widA, rwidS, rwids, rwidR, wgo, prX, Int.reduceAdd, bothP, zipP, h1] <;> rfl) | rfl | (exfalso; simp_all only [Bool.true_eq_false, Bool.false_eq_true, reduceCtorEq]; done)
theorem y_wd3 (a b c : J) (z : Int) (h1 : rightB [a, b, c] = true) (h0 : prb z = true) : Ct Tryz.prog 94 [bA_ [a, b, c], iA z] (· = widA (rwidS [a, b, c] z)) := by
  refine ct_of (O := tblO (orT T6_Right (orT T6_precs (orT Tref_Wide Tref_CmpNum)))) (by kernel_rfl) tyB_ok (fun w => tblO_ok (orT_ok T6_Right_ok (orT_ok T6_precs_ok (orT_ok Tref_Wide_ok Tref_CmpNum_ok))) _ w) [20, 21] 2500 49 [.tmp 4, .cell 5 28, .tmp 6] Tryz.func94 rfl Tryz.ntmps94 (by rw [Tryz.results94]) (by simp) rfl (fun hsm => ?_)
  simp (maxSteps := 10000000) only [go_sem, ↓reduceIte, Nat.reduceMul, Nat.reduceDiv, Nat.reduceAdd, Nat.reduceEqDiff, Nat.reduceLeDiff, Nat.reduceLT, reduceCtorEq, Int.reduceNeg, Int.reduceLT, Int.reduceLE, Int.reduceAdd, Int.reduceToNat, Nat.reduceBEq, Int.reduceMul, Int.reduceSub, Nat.reduceSub, Int.reduceBNe, Nat.reduceBNe, asB, asP, nilB, asJs, asXs, wsOf, T6_Right, T6_precs, Tref_Wide, Tref_CmpNum, zX, zJ, h1, h0]
  repeat' first | (with_reducible apply And.intro) | (with_reducible apply condP <;> intro _)
  all_goals first | (show chk _ _ = true; kernel_rfl) | assumption | (simp only [go_sem, *, Nat.reduceAdd, zX, zJ, widA, rwidS, rwids, rwidR, wgo, prX, Int.reduceAdd, bothP, zipP, h1] <;> rfl) | rfl | (exfalso; simp_all only [Bool.true_eq_false, Bool.false_eq_true, reduceCtorEq]; done)
theorem y_wd4 (a b c d : J) (z : Int) (h1 : rightB [a, b, c, d] = true) (h0 : prb z = true) : Ct Tryz.prog 94 [bA_ [a, b, c, d], iA z] (· = widA (rwidS [a, b, c, d] z)) := by
  refine ct_of (O := tblO (orT T6_Right (orT T6_precs (orT Tref_Wide Tref_CmpNum)))) (by kernel_rfl) tyB_ok (fun w => tblO_ok (orT_ok T6_Right_ok (orT_ok T6_precs_ok (orT_ok Tref_Wide_ok Tref_CmpNum_ok))) _ w) [20, 21] 2500 49 [.tmp 4, .cell 5 28, .tmp 6] Tryz.func94 rfl Tryz.ntmps94 (by rw [Tryz.results94]) (by simp) rfl (fun hsm => ?_)
  simp (maxSteps := 10000000) only [go_sem, ↓reduceIte, Nat.reduceMul, Nat.reduceDiv, Nat.reduceAdd, Nat.reduceEqDiff, Nat.reduceLeDiff, Nat.reduceLT, reduceCtorEq, Int.reduceNeg, Int.reduceLT, Int.reduceLE, Int.reduceAdd, Int.reduceToNat, Nat.reduceBEq, Int.reduceMul, Int.reduceSub, Nat.reduceSub, Int.reduceBNe, Nat.reduceBNe, asB, asP, nilB, asJs, asXs, wsOf, T6_Right, T6_precs, Tref_Wide, Tref_CmpNum, zX, zJ, h1, h0]
  repeat' first | (with_reducible apply And.intro) | (with_reducible apply condP <;> intro _)
  all_goals first | (show chk _ _ = true; kernel_rfl) | assumption | (simp only [go_sem, *, Nat.reduceAdd, zX, zJ, widA, rwidS, rwids, rwidR, wgo, prX, Int.reduceAdd, bothP, zipP, h1] <;> rfl) | rfl | (exfalso; simp_all only [Bool.true_eq_false, Bool.false_eq_true, reduceCtorEq]; done)
theorem y_wid (l : List J) (z : Int) : Ct Tryz.prog 94 [bA_ l, iA z] (· = widA (rwidS l z)) := by
  cases h0 : prb z with
  | false => exact y_wdz l z h0
  | true =>
    cases h1 : rightB l with
    | false => exact y_wde l z h1
    | true =>
      have h4 := rightB_len h1
      match l, h1, h4 with
      | [], _, h => exact absurd h.1 (by simp)
      | [a], h1, _ => exact y_wd1 a z h1 h0
      | [a, b], h1, _ => exact y_wd2 a b z h1 h0
      | [a, b, c], h1, _ => exact y_wd3 a b c z h1 h0
      | [a, b, c, d], h1, _ => exact y_wd4 a b c d z h1 h0
      | _ :: _ :: _ :: _ :: _ :: _, _, h => exact absurd h.2 (by simp)
noncomputable def T6_widest : Tbl := one 94 (gBZ fun l z => (True, widA (rwidS l z)))
theorem T6_widest_ok : TbOK Tryz.prog T6_widest := one_ok (ent Tryz.func94 (by kernel_rfl) rfl) fun args e h hp => gBZ_ct (fun l z _ => y_wid l z) h hp
theorem y_wide (l : List J) (z : Int) : Ct Tryz.prog 63 [bA_ l, iA z] (· = xeA ((rwidS l z).1.2, (rwidS l z).2)) := by
  refine ct_of (O := tblO T6_widest) (by kernel_rfl) tyB_ok (fun w => tblO_ok T6_widest_ok _ w) [] 2500 18 [.cell 4 28, .tmp 5] Tryz.func63 rfl Tryz.ntmps63 (by rw [Tryz.results63]) (by simp) rfl (fun hsm => ?_)
  simp (maxSteps := 10000000) only [go_sem, ↓reduceIte, Nat.reduceMul, Nat.reduceDiv, Nat.reduceAdd, Nat.reduceEqDiff, Nat.reduceLeDiff, Nat.reduceLT, reduceCtorEq, Int.reduceNeg, Int.reduceLT, Int.reduceLE, Int.reduceAdd, Int.reduceToNat, Nat.reduceBEq, Int.reduceMul, Int.reduceSub, Nat.reduceSub, Int.reduceBNe, Nat.reduceBNe, T6_widest, zX, zJ, widA, asB_b]
  repeat' first | (with_reducible apply And.intro) | (with_reducible apply condP <;> intro _)
  all_goals first | (show chk _ _ = true; kernel_rfl) | assumption | (simp only [go_sem, *, Nat.reduceAdd, zX, zJ] <;> rfl) | rfl | (exfalso; simp_all only [Bool.true_eq_false, Bool.false_eq_true, reduceCtorEq]; done)
noncomputable def T6_Wide : Tbl := one 63 (gBZ fun l z => (True, xeA ((rwidS l z).1.2, (rwidS l z).2)))
theorem T6_Wide_ok : TbOK Tryz.prog T6_Wide := one_ok (ent Tryz.func63 (by kernel_rfl) rfl) fun args e h hp => gBZ_ct (fun l z _ => y_wide l z) h hp
theorem y_blz (l : List J) (z : Int) (h0 : prb z = false) : Ct Tryz.prog 64 [bA_ l, iA z] (· = bxe (bothB (fun a _ => rblowJ a z) l l)) := by
  rw [bothB_1 fun a _ => rblow_1 h0 a]
  refine ct_of (O := tblO (orT T6_Right T6_precs)) (by kernel_rfl) tyB_ok (fun w => tblO_ok (orT_ok T6_Right_ok T6_precs_ok) _ w) [16, 17, 20, 21, 24, 25, 160, 161] 2500 83 [.tmp 4, .tmp 5] Tryz.func64 rfl Tryz.ntmps64 (by rw [Tryz.results64]) (by simp) rfl (fun hsm => ?_)
  simp (maxSteps := 10000000) only [go_sem, ↓reduceIte, Nat.reduceMul, Nat.reduceDiv, Nat.reduceAdd, Nat.reduceEqDiff, Nat.reduceLeDiff, Nat.reduceLT, reduceCtorEq, Int.reduceNeg, Int.reduceLT, Int.reduceLE, Int.reduceAdd, Int.reduceToNat, Nat.reduceBEq, Int.reduceMul, Int.reduceSub, Nat.reduceSub, Int.reduceBNe, Nat.reduceBNe, T6_Right, T6_precs, zX, zJ, h0, asB_b]
  repeat' first | (with_reducible apply And.intro) | (with_reducible apply condP <;> intro _)
  all_goals first | (show chk _ _ = true; kernel_rfl) | assumption | (simp only [go_sem, *, Nat.reduceAdd, zX, zJ] <;> rfl) | rfl | (exfalso; simp_all only [Bool.true_eq_false, Bool.false_eq_true, reduceCtorEq]; done)
theorem y_ble (l : List J) (z : Int) (h1 : rightB l = false) : Ct Tryz.prog 64 [bA_ l, iA z] (· = bxe (bothB (fun a _ => rblowJ a z) l l)) := by
  refine ct_of (O := tblO (orT T6_Right T6_precs)) (by kernel_rfl) tyB_ok (fun w => tblO_ok (orT_ok T6_Right_ok T6_precs_ok) _ w) [16, 17, 20, 21, 24, 25, 160, 161] 2500 83 [.tmp 4, .tmp 5] Tryz.func64 rfl Tryz.ntmps64 (by rw [Tryz.results64]) (by simp) rfl (fun hsm => ?_)
  simp (maxSteps := 10000000) only [go_sem, ↓reduceIte, Nat.reduceMul, Nat.reduceDiv, Nat.reduceAdd, Nat.reduceEqDiff, Nat.reduceLeDiff, Nat.reduceLT, reduceCtorEq, Int.reduceNeg, Int.reduceLT, Int.reduceLE, Int.reduceAdd, Int.reduceToNat, Nat.reduceBEq, Int.reduceMul, Int.reduceSub, Nat.reduceSub, Int.reduceBNe, Nat.reduceBNe, T6_Right, T6_precs, zX, zJ, h1, asB_b]
  repeat' first | (with_reducible apply And.intro) | (with_reducible apply condP <;> intro _)
  all_goals first | (show chk _ _ = true; kernel_rfl) | assumption | (simp only [go_sem, *, Nat.reduceAdd, zX, zJ, bothB, h1] <;> rfl) | rfl | (exfalso; simp_all only [Bool.true_eq_false, Bool.false_eq_true, reduceCtorEq]; done)
theorem y_bl1 (a : J) (z : Int) (h1 : rightB [a] = true) (h0 : prb z = true) : Ct Tryz.prog 64 [bA_ [a], iA z] (· = bxe (bothB (fun a _ => rblowJ a z) [a] [a])) := by
  refine ct_of (O := tblO (orT T6_Right (orT T6_precs (orT Tref_Wide (orT Tref_Scale Tref_Reckon))))) (by kernel_rfl) tyB_ok (fun w => tblO_ok (orT_ok T6_Right_ok (orT_ok T6_precs_ok (orT_ok Tref_Wide_ok (orT_ok Tref_Scale_ok Tref_Reckon_ok)))) _ w) [16, 17, 20, 21, 24, 25, 160, 161] 2500 83 [.tmp 4, .tmp 5] Tryz.func64 rfl Tryz.ntmps64 (by rw [Tryz.results64]) (by simp) rfl (fun hsm => ?_)
  simp (maxSteps := 10000000) only [go_sem, ↓reduceIte, Nat.reduceMul, Nat.reduceDiv, Nat.reduceAdd, Nat.reduceEqDiff, Nat.reduceLeDiff, Nat.reduceLT, reduceCtorEq, Int.reduceNeg, Int.reduceLT, Int.reduceLE, Int.reduceAdd, Int.reduceToNat, Nat.reduceBEq, Int.reduceMul, Int.reduceSub, Nat.reduceSub, Int.reduceBNe, Nat.reduceBNe, asB, asP, nilB, asJs, asXs, wsOf, T6_Right, T6_precs, Tref_Wide, Tref_Scale, Tref_Reckon, zX, zJ, h1, h0, gINNIB]
  repeat' first | (with_reducible apply And.intro) | (with_reducible apply condP <;> intro _)
  all_goals try decide
  all_goals first | (show chk _ _ = true; kernel_rfl) | assumption | (simp only [go_sem, *, Nat.reduceAdd, zX, zJ, bothB, zipB, rblowJ, h1, Int.reduceBNe] <;> rfl) | rfl | (exfalso; simp_all only [Bool.true_eq_false, Bool.false_eq_true, reduceCtorEq]; done)
theorem y_bl2 (a b : J) (z : Int) (h1 : rightB [a, b] = true) (h0 : prb z = true) : Ct Tryz.prog 64 [bA_ [a, b], iA z] (· = bxe (bothB (fun a _ => rblowJ a z) [a, b] [a, b])) := by
  refine ct_of (O := tblO (orT T6_Right (orT T6_precs (orT Tref_Wide (orT Tref_Scale Tref_Reckon))))) (by kernel_rfl) tyB_ok (fun w => tblO_ok (orT_ok T6_Right_ok (orT_ok T6_precs_ok (orT_ok Tref_Wide_ok (orT_ok Tref_Scale_ok Tref_Reckon_ok)))) _ w) [16, 17, 20, 21, 24, 25, 160, 161] 2500 83 [.tmp 4, .tmp 5] Tryz.func64 rfl Tryz.ntmps64 (by rw [Tryz.results64]) (by simp) rfl (fun hsm => ?_)
  simp (maxSteps := 10000000) only [go_sem, ↓reduceIte, Nat.reduceMul, Nat.reduceDiv, Nat.reduceAdd, Nat.reduceEqDiff, Nat.reduceLeDiff, Nat.reduceLT, reduceCtorEq, Int.reduceNeg, Int.reduceLT, Int.reduceLE, Int.reduceAdd, Int.reduceToNat, Nat.reduceBEq, Int.reduceMul, Int.reduceSub, Nat.reduceSub, Int.reduceBNe, Nat.reduceBNe, asB, asP, nilB, asJs, asXs, wsOf, T6_Right, T6_precs, Tref_Wide, Tref_Scale, Tref_Reckon, zX, zJ, h1, h0, gINNIB]
  repeat' first | (with_reducible apply And.intro) | (with_reducible apply condP <;> intro _)
  all_goals try decide
  all_goals first | (show chk _ _ = true; kernel_rfl) | assumption | (simp only [go_sem, *, Nat.reduceAdd, zX, zJ, bothB, zipB, rblowJ, h1, Int.reduceBNe] <;> rfl) | rfl | (exfalso; simp_all only [Bool.true_eq_false, Bool.false_eq_true, reduceCtorEq]; done)
theorem y_bl3 (a b c : J) (z : Int) (h1 : rightB [a, b, c] = true) (h0 : prb z = true) : Ct Tryz.prog 64 [bA_ [a, b, c], iA z] (· = bxe (bothB (fun a _ => rblowJ a z) [a, b, c] [a, b, c])) := by
  refine ct_of (O := tblO (orT T6_Right (orT T6_precs (orT Tref_Wide (orT Tref_Scale Tref_Reckon))))) (by kernel_rfl) tyB_ok (fun w => tblO_ok (orT_ok T6_Right_ok (orT_ok T6_precs_ok (orT_ok Tref_Wide_ok (orT_ok Tref_Scale_ok Tref_Reckon_ok)))) _ w) [16, 17, 20, 21, 24, 25, 160, 161] 2500 83 [.tmp 4, .tmp 5] Tryz.func64 rfl Tryz.ntmps64 (by rw [Tryz.results64]) (by simp) rfl (fun hsm => ?_)
  simp (maxSteps := 10000000) only [go_sem, ↓reduceIte, Nat.reduceMul, Nat.reduceDiv, Nat.reduceAdd, Nat.reduceEqDiff, Nat.reduceLeDiff, Nat.reduceLT, reduceCtorEq, Int.reduceNeg, Int.reduceLT, Int.reduceLE, Int.reduceAdd, Int.reduceToNat, Nat.reduceBEq, Int.reduceMul, Int.reduceSub, Nat.reduceSub, Int.reduceBNe, Nat.reduceBNe, asB, asP, nilB, asJs, asXs, wsOf, T6_Right, T6_precs, Tref_Wide, Tref_Scale, Tref_Reckon, zX, zJ, h1, h0, gINNIB]
  repeat' first | (with_reducible apply And.intro) | (with_reducible apply condP <;> intro _)
  all_goals try decide
  all_goals first | (show chk _ _ = true; kernel_rfl) | assumption | (simp only [go_sem, *, Nat.reduceAdd, zX, zJ, bothB, zipB, rblowJ, h1, Int.reduceBNe] <;> rfl) | rfl | (exfalso; simp_all only [Bool.true_eq_false, Bool.false_eq_true, reduceCtorEq]; done)
theorem y_bl4 (a b c d : J) (z : Int) (h1 : rightB [a, b, c, d] = true) (h0 : prb z = true) : Ct Tryz.prog 64 [bA_ [a, b, c, d], iA z] (· = bxe (bothB (fun a _ => rblowJ a z) [a, b, c, d] [a, b, c, d])) := by
  refine ct_of (O := tblO (orT T6_Right (orT T6_precs (orT Tref_Wide (orT Tref_Scale Tref_Reckon))))) (by kernel_rfl) tyB_ok (fun w => tblO_ok (orT_ok T6_Right_ok (orT_ok T6_precs_ok (orT_ok Tref_Wide_ok (orT_ok Tref_Scale_ok Tref_Reckon_ok)))) _ w) [16, 17, 20, 21, 24, 25, 160, 161] 2500 83 [.tmp 4, .tmp 5] Tryz.func64 rfl Tryz.ntmps64 (by rw [Tryz.results64]) (by simp) rfl (fun hsm => ?_)
  simp (maxSteps := 10000000) only [go_sem, ↓reduceIte, Nat.reduceMul, Nat.reduceDiv, Nat.reduceAdd, Nat.reduceEqDiff, Nat.reduceLeDiff, Nat.reduceLT, reduceCtorEq, Int.reduceNeg, Int.reduceLT, Int.reduceLE, Int.reduceAdd, Int.reduceToNat, Nat.reduceBEq, Int.reduceMul, Int.reduceSub, Nat.reduceSub, Int.reduceBNe, Nat.reduceBNe, asB, asP, nilB, asJs, asXs, wsOf, T6_Right, T6_precs, Tref_Wide, Tref_Scale, Tref_Reckon, zX, zJ, h1, h0, gINNIB]
  repeat' first | (with_reducible apply And.intro) | (with_reducible apply condP <;> intro _)
  all_goals try decide
  all_goals first | (show chk _ _ = true; kernel_rfl) | assumption | (simp only [go_sem, *, Nat.reduceAdd, zX, zJ, bothB, zipB, rblowJ, h1, Int.reduceBNe] <;> rfl) | rfl | (exfalso; simp_all only [Bool.true_eq_false, Bool.false_eq_true, reduceCtorEq]; done)
theorem y_blow (l : List J) (z : Int) : Ct Tryz.prog 64 [bA_ l, iA z] (· = bxe (bothB (fun a _ => rblowJ a z) l l)) := by
  cases h0 : prb z with
  | false => exact y_blz l z h0
  | true =>
    cases h1 : rightB l with
    | false => exact y_ble l z h1
    | true =>
      have h4 := rightB_len h1
      match l, h1, h4 with
      | [], _, h => exact absurd h.1 (by simp)
      | [a], h1, _ => exact y_bl1 a z h1 h0
      | [a, b], h1, _ => exact y_bl2 a b z h1 h0
      | [a, b, c], h1, _ => exact y_bl3 a b c z h1 h0
      | [a, b, c, d], h1, _ => exact y_bl4 a b c d z h1 h0
      | _ :: _ :: _ :: _ :: _ :: _, _, h => exact absurd h.2 (by simp)
noncomputable def T6_Blow : Tbl := one 64 (gBZ fun l z => (True, bxe (bothB (fun a _ => rblowJ a z) l l)))
theorem T6_Blow_ok : TbOK Tryz.prog T6_Blow := one_ok (ent Tryz.func64 (by kernel_rfl) rfl) fun args e h hp => gBZ_ct (fun l z _ => y_blow l z) h hp
end Go.Proofs.YthhaelnildaemaaGreatDoor
namespace Go.Proofs.YthhaelnildaemaaGreatDoor
open Go.RowKit Nx
set_option linter.unusedVariables false
set_option linter.unusedSimpArgs false
attribute [local irreducible] chk
end Go.Proofs.YthhaelnildaemaaGreatDoor
