/- Package box: equal, pairs, each, for any function handed over. -/
import Derived.Test.YthhaelnildaemaaGreatDoorTAl1
namespace Go.Proofs.YthhaelnildaemaaGreatDoor
open Go.RowKit Nx
set_option linter.unusedVariables false
set_option linter.unusedSimpArgs false
attribute [local go_sem] run init X.L J.L vL X.eta J.eta Q.eta List.cons_append List.nil_append brkK brkf_b brkf_t exef_some exif_some condf_b opf bodyE addR skipE stepOp stepLoad stepStore stepField stepCall stepBS stepBi stepCv stepIx lpf hdS pick forget inL mentA ment dom evs evl evp evd okeys look fillA capsOf wordsOf rowsOf lenOf convK binV shV intV unV boolT tyT tiB tiI tiW tiD tiF tiR tiU tiNum tiIv tiVal tiSc okLf okD keysOf tblO cvA cvL dnL olA olL noO noA cbL cbA orT noT one asNum asIv asVal postf_some resA tupA clA clL dropTo decide_true decide_false List.all_cons List.all_nil Bool.and_true Bool.and_self true_and and_true and_self List.length_cons List.length_nil List.drop_succ_cons List.drop_zero List.take_succ_cons List.take_zero List.getElem?_cons_zero List.getElem?_cons_succ List.map_cons List.map_nil false_implies true_implies Option.bind_some List.getElem?_toArray Bool.false_eq_true List.append_nil List.flatMap_cons List.flatMap_nil true_or or_true forall_const List.reverse_cons List.reverse_nil Option.isSome_some Option.any_some Nat.lt_irrefl not_true_eq_false Bool.not_true Bool.not_false imp_self implies_true Bool.not_eq_true' Bool.not_eq_false' Bool.true_eq_false memOf cntF nmL rnL nmA rnA isV contsOf ndB refO orO pin Int.toNat_zero decide_eq_true_eq wrap0 wrap1 ci1 ci2 BEq.rfl beq_self_eq_true Int.natCast_zero ge_iff_le gt_iff_lt Int.le_refl Nat.zero_mul Nat.one_mul Nat.zero_add Nat.zero_lt_succ Nat.lt_add_one Nat.le_refl Int.toNat_natCast gN gNN gNI gI gNNIB gNIB gJ gJJ gJN gJJI gJI stepB0 stepMk stepSl stepAp apY optI okO nilV slT resB outPs outLs outL dnT noE boxL_nil boxL_cons ptsL_nil ptsL_cons bxe pxe bne_self_eq_false wr2 wr3 wr4 wr5 wr6 wr7 wr8 gB gP gBB gBP gBZ gBBZ asB asP nilB asJs asXs wsOf bC_nil bC_cons pC_nil pC_cons fvO Lc.up tyB tiS tiBB List.replicate_succ List.replicate_zero List.flatten_cons List.flatten_nil Int.ofNat_lt Int.cast_ofNat_Int Int.ofNat_eq_natCast List.isEmpty_nil List.isEmpty_cons and_false false_and List.cons_ne_nil Nat.add_zero ite_true ite_false if_true if_false Nat.le_zero_eq eq_self Bool.and_false Bool.false_and Bool.true_and AV.s cond_true cond_false Bool.or_true Bool.true_or Bool.or_false Bool.false_or
attribute [local go_sem ↓] cond_true cond_false not_cond outL_box outL_pts clL_box clL_pts okL_box okL_pts ment_box ment_pts olL_box olL_pts cvL_box cvL_pts noO_box noO_pts asB_box asP_pts len_box len_pts
attribute [local irreducible] chk
theorem tbl1 {g : FuncId} {d : Nat} {st : St} {args : List AV} (h : 2 ≤ args.length) : tblO Tbox_Right g d st args = none := by
  have : Tbox_Right g (args.map (cvA st)) = none := by
    unfold Tbox_Right one
    split
    · match args, h with
      | _ :: _ :: _, _ => rfl
    · rfl
  unfold tblO
  rw [this]
theorem tbl0 {g : FuncId} {d : Nat} {st : St} {args : List AV} : tblO noT g d st args = none := rfl
theorem all2_len {α β : Type} {φ : α → β → Bool} : ∀ {l : List α} {m : List β}, l.length ≠ m.length → all2 φ l m = false := by
  intro l
  induction l with
  | nil => intro m h; cases m with
    | nil => exact absurd rfl h
    | cons _ _ => rfl
  | cons a l ih => intro m h; cases m with
    | nil => rfl
    | cons b m =>
      unfold all2
      rw [ih (by simpa using h), Bool.and_false]
set_option maxRecDepth 100000 in
set_option maxHeartbeats 4000000 in
theorem eqfJ2 {w : World} {f : FuncId} {caps : List Value} (a b : J) (s t : J) {φ : J → J → Bool} (ht : Tab w) (hf : Fv Tryz.prog w f caps (gJJ fun a b => (True, bA (φ a b)))) : Hc Tryz.prog w 52 [bA_ [a, b], bA_ [s, t], fvA f caps] (bA (all2 φ [a, b] [s, t])) := by
  refine hc_of (O := orO (fvO 2 f caps (gJJ fun a b => (True, bA (φ a b)))) (tblO noT)) (by kernel_rfl) tyB_ok (fvO_or (fvO_ok hf) (tblO_ok noT_ok _ w) (fun g d st args h => tbl0)) ht [16, 17, 18, 19] 1500 32 [.tmp 6] Tryz.func52 rfl Tryz.ntmps52 (by rw [Tryz.results52]) (by simp) rfl (fun hsm => ?_)
  simp (maxSteps := 10000000) only [go_sem, ↓reduceIte, Nat.reduceMul, Nat.reduceDiv, Nat.reduceAdd, Nat.reduceEqDiff, Nat.reduceLeDiff, Nat.reduceLT, reduceCtorEq, Int.reduceNeg, Int.reduceLT, Int.reduceLE, Int.reduceAdd, Int.reduceToNat, Nat.reduceBEq, Int.reduceMul, Int.reduceSub, Nat.reduceSub, Int.reduceBNe, Nat.reduceBNe]
  repeat' first | (with_reducible apply And.intro) | (with_reducible apply condP <;> intro _)
  all_goals first | (show chk _ _ = true; kernel_rfl) | assumption | (simp only [go_sem, *, all2] <;> rfl) | rfl | (exfalso; simp_all only [Bool.true_eq_false, Bool.false_eq_true, reduceCtorEq]; done)
set_option maxRecDepth 100000 in
set_option maxHeartbeats 4000000 in
theorem eqfX2 {w : World} {f : FuncId} {caps : List Value} (a b : J) (s t : X) {φ : J → X → Bool} (ht : Tab w) (hf : Fv Tryz.prog w f caps (gJN fun a b => (True, bA (φ a b)))) : Hc Tryz.prog w 51 [bA_ [a, b], pA_ [s, t], fvA f caps] (bA (all2 φ [a, b] [s, t])) := by
  refine hc_of (O := orO (fvO 2 f caps (gJN fun a b => (True, bA (φ a b)))) (tblO noT)) (by kernel_rfl) tyB_ok (fvO_or (fvO_ok hf) (tblO_ok noT_ok _ w) (fun g d st args h => tbl0)) ht [16, 17, 18, 19] 1500 32 [.tmp 6] Tryz.func51 rfl Tryz.ntmps51 (by rw [Tryz.results51]) (by simp) rfl (fun hsm => ?_)
  simp (maxSteps := 10000000) only [go_sem, ↓reduceIte, Nat.reduceMul, Nat.reduceDiv, Nat.reduceAdd, Nat.reduceEqDiff, Nat.reduceLeDiff, Nat.reduceLT, reduceCtorEq, Int.reduceNeg, Int.reduceLT, Int.reduceLE, Int.reduceAdd, Int.reduceToNat, Nat.reduceBEq, Int.reduceMul, Int.reduceSub, Nat.reduceSub, Int.reduceBNe, Nat.reduceBNe]
  repeat' first | (with_reducible apply And.intro) | (with_reducible apply condP <;> intro _)
  all_goals first | (show chk _ _ = true; kernel_rfl) | assumption | (simp only [go_sem, *, all2] <;> rfl) | rfl | (exfalso; simp_all only [Bool.true_eq_false, Bool.false_eq_true, reduceCtorEq]; done)
end Go.Proofs.YthhaelnildaemaaGreatDoor
namespace Go.Proofs.YthhaelnildaemaaGreatDoor
open Go.RowKit Nx
set_option linter.unusedVariables false
set_option linter.unusedSimpArgs false
set_option maxRecDepth 100000
set_option maxHeartbeats 4000000
attribute [local go_sem] run init X.L J.L vL X.eta J.eta Q.eta List.cons_append List.nil_append brkK brkf_b brkf_t exef_some exif_some condf_b opf bodyE addR skipE stepOp stepLoad stepStore stepField stepCall stepBS stepBi stepCv stepIx lpf hdS pick forget inL mentA ment dom evs evl evp evd okeys look fillA capsOf wordsOf rowsOf lenOf convK binV shV intV unV boolT tyT tiB tiI tiW tiD tiF tiR tiU tiNum tiIv tiVal tiSc okLf okD keysOf tblO cvA cvL dnL olA olL noO noA cbL cbA orT noT one asNum asIv asVal postf_some resA tupA clA clL dropTo decide_true decide_false List.all_cons List.all_nil Bool.and_true Bool.and_self true_and and_true and_self List.length_cons List.length_nil List.drop_succ_cons List.drop_zero List.take_succ_cons List.take_zero List.getElem?_cons_zero List.getElem?_cons_succ List.map_cons List.map_nil false_implies true_implies Option.bind_some List.getElem?_toArray Bool.false_eq_true List.append_nil List.flatMap_cons List.flatMap_nil true_or or_true forall_const List.reverse_cons List.reverse_nil Option.isSome_some Option.any_some Nat.lt_irrefl not_true_eq_false Bool.not_true Bool.not_false imp_self implies_true Bool.not_eq_true' Bool.not_eq_false' Bool.true_eq_false memOf cntF nmL rnL nmA rnA isV contsOf ndB refO orO pin Int.toNat_zero decide_eq_true_eq wrap0 wrap1 ci1 ci2 BEq.rfl beq_self_eq_true Int.natCast_zero ge_iff_le gt_iff_lt Int.le_refl Nat.zero_mul Nat.one_mul Nat.zero_add Nat.zero_lt_succ Nat.lt_add_one Nat.le_refl Int.toNat_natCast gN gNN gNI gI gNNIB gNIB gJ gJJ gJN gJJI gJI stepB0 stepMk stepSl stepAp apY optI okO nilV slT resB outPs outLs outL dnT noE boxL_nil boxL_cons ptsL_nil ptsL_cons bxe pxe bne_self_eq_false wr2 wr3 wr4 wr5 wr6 wr7 wr8 gB gP gBB gBP gBZ gBBZ bC_nil bC_cons pC_nil pC_cons fvO Lc.up tyB tiS tiBB List.replicate_succ List.replicate_zero List.flatten_cons List.flatten_nil Int.ofNat_lt Int.cast_ofNat_Int Int.ofNat_eq_natCast List.isEmpty_nil List.isEmpty_cons and_false false_and List.cons_ne_nil Nat.add_zero ite_true ite_false if_true if_false Nat.le_zero_eq eq_self Bool.and_false Bool.false_and Bool.true_and AV.s cond_true cond_false Bool.or_true Bool.true_or Bool.or_false Bool.false_or
attribute [local go_sem ↓] cond_true cond_false not_cond outL_box outL_pts clL_box clL_pts okL_box okL_pts ment_box ment_pts olL_box olL_pts cvL_box cvL_pts noO_box noO_pts asB_box asP_pts len_box len_pts
attribute [local irreducible] chk
theorem rightB_len {l : List J} (h : rightB l = true) : 1 ≤ l.length ∧ l.length ≤ 4 := by
  unfold rightB at h
  simp only [Bool.and_eq_true, decide_eq_true_eq] at h
  exact h.1
def hpin (L : List (List Lf)) (c0 : FuncId) (A : List AV) (r : AV) : HK := fun ls c xs => some (ls = L ∧ c = c0 ∧ xs = A, r)
theorem prsJ1 {w : World} {f : FuncId} {caps : List Value} (a s : J) (h1 : rightB [a] = true) (h2 : rightB [s] = true) {φ : J → J → J × Int} (ht : Tab w) (hf : Fv Tryz.prog w f caps (gJJ fun a b => (True, jeA (φ a b))))  : Hc Tryz.prog w 67 [bA_ [a], bA_ [s], fvA f caps] (bxe (bothB φ [a] [s])) := by
  refine hc_of (O := orO (fvO 2 f caps (gJJ fun a b => (True, jeA (φ a b)))) (tblO Tbox_Right)) (by kernel_rfl) tyB_ok (fvO_or (fvO_ok hf) (tblO_ok Tbox_Right_ok _ w) (fun g d st args h => tbl1 h)) ht [20, 21] 2000 57 [.tmp 6, .tmp 7] Tryz.func67 rfl Tryz.ntmps67 (by rw [Tryz.results67]) (by simp) rfl (fun hsm => ?_)
  simp (maxSteps := 10000000) only [go_sem, ↓reduceIte, Nat.reduceMul, Nat.reduceDiv, Nat.reduceAdd, Nat.reduceEqDiff, Nat.reduceLeDiff, Nat.reduceLT, reduceCtorEq, Int.reduceNeg, Int.reduceLT, Int.reduceLE, Int.reduceAdd, Int.reduceToNat, Nat.reduceBEq, Int.reduceMul, Int.reduceSub, Nat.reduceSub, Int.reduceBNe, Nat.reduceBNe, asB, asP, nilB, asJs, asXs, wsOf, Tbox_Right, h1, h2]
  repeat' first | (with_reducible apply And.intro) | (with_reducible apply condP <;> intro _)
  all_goals first | (show chk _ _ = true; kernel_rfl) | assumption | (simp only [go_sem, *, Int.reduceBNe, Nat.reduceEqDiff, bothB, zipB, Nat.reduceAdd] <;> rfl) | rfl | (exfalso; simp_all only [Bool.true_eq_false, Bool.false_eq_true, reduceCtorEq]; done)
theorem prsJ2 {w : World} {f : FuncId} {caps : List Value} (a b s t : J) (h1 : rightB [a, b] = true) (h2 : rightB [s, t] = true) {φ : J → J → J × Int} (ht : Tab w) (hf : Fv Tryz.prog w f caps (gJJ fun a b => (True, jeA (φ a b))))  : Hc Tryz.prog w 67 [bA_ [a, b], bA_ [s, t], fvA f caps] (bxe (bothB φ [a, b] [s, t])) := by
  refine hc_of (O := orO (fvO 2 f caps (gJJ fun a b => (True, jeA (φ a b)))) (tblO Tbox_Right)) (by kernel_rfl) tyB_ok (fvO_or (fvO_ok hf) (tblO_ok Tbox_Right_ok _ w) (fun g d st args h => tbl1 h)) ht [20, 21] 2000 57 [.tmp 6, .tmp 7] Tryz.func67 rfl Tryz.ntmps67 (by rw [Tryz.results67]) (by simp) rfl (fun hsm => ?_)
  simp (maxSteps := 10000000) only [go_sem, ↓reduceIte, Nat.reduceMul, Nat.reduceDiv, Nat.reduceAdd, Nat.reduceEqDiff, Nat.reduceLeDiff, Nat.reduceLT, reduceCtorEq, Int.reduceNeg, Int.reduceLT, Int.reduceLE, Int.reduceAdd, Int.reduceToNat, Nat.reduceBEq, Int.reduceMul, Int.reduceSub, Nat.reduceSub, Int.reduceBNe, Nat.reduceBNe, asB, asP, nilB, asJs, asXs, wsOf, Tbox_Right, h1, h2]
  repeat' first | (with_reducible apply And.intro) | (with_reducible apply condP <;> intro _)
  all_goals first | (show chk _ _ = true; kernel_rfl) | assumption | (simp only [go_sem, *, Int.reduceBNe, Nat.reduceEqDiff, bothB, zipB, Nat.reduceAdd] <;> rfl) | rfl | (exfalso; simp_all only [Bool.true_eq_false, Bool.false_eq_true, reduceCtorEq]; done)
theorem prsJ3 {w : World} {f : FuncId} {caps : List Value} (a b c s t u : J) (h1 : rightB [a, b, c] = true) (h2 : rightB [s, t, u] = true) {φ : J → J → J × Int} (ht : Tab w) (hf : Fv Tryz.prog w f caps (gJJ fun a b => (True, jeA (φ a b))))  : Hc Tryz.prog w 67 [bA_ [a, b, c], bA_ [s, t, u], fvA f caps] (bxe (bothB φ [a, b, c] [s, t, u])) := by
  refine hc_of (O := orO (fvO 2 f caps (gJJ fun a b => (True, jeA (φ a b)))) (tblO Tbox_Right)) (by kernel_rfl) tyB_ok (fvO_or (fvO_ok hf) (tblO_ok Tbox_Right_ok _ w) (fun g d st args h => tbl1 h)) ht [20, 21] 2000 57 [.tmp 6, .tmp 7] Tryz.func67 rfl Tryz.ntmps67 (by rw [Tryz.results67]) (by simp) rfl (fun hsm => ?_)
  simp (maxSteps := 10000000) only [go_sem, ↓reduceIte, Nat.reduceMul, Nat.reduceDiv, Nat.reduceAdd, Nat.reduceEqDiff, Nat.reduceLeDiff, Nat.reduceLT, reduceCtorEq, Int.reduceNeg, Int.reduceLT, Int.reduceLE, Int.reduceAdd, Int.reduceToNat, Nat.reduceBEq, Int.reduceMul, Int.reduceSub, Nat.reduceSub, Int.reduceBNe, Nat.reduceBNe, asB, asP, nilB, asJs, asXs, wsOf, Tbox_Right, h1, h2]
  repeat' first | (with_reducible apply And.intro) | (with_reducible apply condP <;> intro _)
  all_goals first | (show chk _ _ = true; kernel_rfl) | assumption | (simp only [go_sem, *, Int.reduceBNe, Nat.reduceEqDiff, bothB, zipB, Nat.reduceAdd] <;> rfl) | rfl | (exfalso; simp_all only [Bool.true_eq_false, Bool.false_eq_true, reduceCtorEq]; done)
theorem prsJ4 {w : World} {f : FuncId} {caps : List Value} (a b c d s t u v : J) (h1 : rightB [a, b, c, d] = true) (h2 : rightB [s, t, u, v] = true) {φ : J → J → J × Int} (ht : Tab w) (hf : Fv Tryz.prog w f caps (gJJ fun a b => (True, jeA (φ a b))))  : Hc Tryz.prog w 67 [bA_ [a, b, c, d], bA_ [s, t, u, v], fvA f caps] (bxe (bothB φ [a, b, c, d] [s, t, u, v])) := by
  refine hc_of (O := orO (fvO 2 f caps (gJJ fun a b => (True, jeA (φ a b)))) (tblO Tbox_Right)) (by kernel_rfl) tyB_ok (fvO_or (fvO_ok hf) (tblO_ok Tbox_Right_ok _ w) (fun g d st args h => tbl1 h)) ht [20, 21] 2000 57 [.tmp 6, .tmp 7] Tryz.func67 rfl Tryz.ntmps67 (by rw [Tryz.results67]) (by simp) rfl (fun hsm => ?_)
  simp (maxSteps := 10000000) only [go_sem, ↓reduceIte, Nat.reduceMul, Nat.reduceDiv, Nat.reduceAdd, Nat.reduceEqDiff, Nat.reduceLeDiff, Nat.reduceLT, reduceCtorEq, Int.reduceNeg, Int.reduceLT, Int.reduceLE, Int.reduceAdd, Int.reduceToNat, Nat.reduceBEq, Int.reduceMul, Int.reduceSub, Nat.reduceSub, Int.reduceBNe, Nat.reduceBNe, asB, asP, nilB, asJs, asXs, wsOf, Tbox_Right, h1, h2]
  repeat' first | (with_reducible apply And.intro) | (with_reducible apply condP <;> intro _)
  all_goals first | (show chk _ _ = true; kernel_rfl) | assumption | (simp only [go_sem, *, Int.reduceBNe, Nat.reduceEqDiff, bothB, zipB, Nat.reduceAdd] <;> rfl) | rfl | (exfalso; simp_all only [Bool.true_eq_false, Bool.false_eq_true, reduceCtorEq]; done)
theorem prsJe1 {w : World} {f : FuncId} {caps : List Value} (l m : List J) (h1 : rightB l = false) {φ : J → J → J × Int} (ht : Tab w) (hf : Fv Tryz.prog w f caps (gJJ fun a b => (True, jeA (φ a b))))  : Hc Tryz.prog w 67 [bA_ l, bA_ m, fvA f caps] (bxe (bothB φ l m)) := by
  refine hc_of (O := orO (fvO 2 f caps (gJJ fun a b => (True, jeA (φ a b)))) (tblO Tbox_Right)) (by kernel_rfl) tyB_ok (fvO_or (fvO_ok hf) (tblO_ok Tbox_Right_ok _ w) (fun g d st args h => tbl1 h)) ht [20, 21] 2000 57 [.tmp 6, .tmp 7] Tryz.func67 rfl Tryz.ntmps67 (by rw [Tryz.results67]) (by simp) rfl (fun hsm => ?_)
  simp (maxSteps := 10000000) only [go_sem, ↓reduceIte, Nat.reduceMul, Nat.reduceDiv, Nat.reduceAdd, Nat.reduceEqDiff, Nat.reduceLeDiff, Nat.reduceLT, reduceCtorEq, Int.reduceNeg, Int.reduceLT, Int.reduceLE, Int.reduceAdd, Int.reduceToNat, Nat.reduceBEq, Int.reduceMul, Int.reduceSub, Nat.reduceSub, Int.reduceBNe, Nat.reduceBNe, Tbox_Right, h1, asB_b]
  repeat' first | (with_reducible apply And.intro) | (with_reducible apply condP <;> intro _)
  all_goals first | (show chk _ _ = true; kernel_rfl) | assumption | (simp only [go_sem, *, Int.reduceBNe, Nat.reduceEqDiff, bothB, zipB, Nat.reduceAdd] <;> rfl) | rfl | (exfalso; simp_all only [Bool.true_eq_false, Bool.false_eq_true, reduceCtorEq]; done)
theorem prsJe2 {w : World} {f : FuncId} {caps : List Value} (l m : List J) (h1 : rightB l = true) (h2 : rightB m = false) {φ : J → J → J × Int} (ht : Tab w) (hf : Fv Tryz.prog w f caps (gJJ fun a b => (True, jeA (φ a b))))  : Hc Tryz.prog w 67 [bA_ l, bA_ m, fvA f caps] (bxe (bothB φ l m)) := by
  refine hc_of (O := orO (fvO 2 f caps (gJJ fun a b => (True, jeA (φ a b)))) (tblO Tbox_Right)) (by kernel_rfl) tyB_ok (fvO_or (fvO_ok hf) (tblO_ok Tbox_Right_ok _ w) (fun g d st args h => tbl1 h)) ht [20, 21] 2000 57 [.tmp 6, .tmp 7] Tryz.func67 rfl Tryz.ntmps67 (by rw [Tryz.results67]) (by simp) rfl (fun hsm => ?_)
  simp (maxSteps := 10000000) only [go_sem, ↓reduceIte, Nat.reduceMul, Nat.reduceDiv, Nat.reduceAdd, Nat.reduceEqDiff, Nat.reduceLeDiff, Nat.reduceLT, reduceCtorEq, Int.reduceNeg, Int.reduceLT, Int.reduceLE, Int.reduceAdd, Int.reduceToNat, Nat.reduceBEq, Int.reduceMul, Int.reduceSub, Nat.reduceSub, Int.reduceBNe, Nat.reduceBNe, Tbox_Right, h1, h2, asB_b]
  repeat' first | (with_reducible apply And.intro) | (with_reducible apply condP <;> intro _)
  all_goals first | (show chk _ _ = true; kernel_rfl) | assumption | (simp only [go_sem, *, Int.reduceBNe, Nat.reduceEqDiff, bothB, zipB, Nat.reduceAdd] <;> rfl) | rfl | (exfalso; simp_all only [Bool.true_eq_false, Bool.false_eq_true, reduceCtorEq]; done)
theorem prsJe3 {w : World} {f : FuncId} {caps : List Value} (l m : List J) (h1 : rightB l = true) (h2 : rightB m = true) (h3 : l.length ≠ m.length) {φ : J → J → J × Int} (ht : Tab w) (hf : Fv Tryz.prog w f caps (gJJ fun a b => (True, jeA (φ a b))))  : Hc Tryz.prog w 67 [bA_ l, bA_ m, fvA f caps] (bxe (bothB φ l m)) := by
  have h4 : ((l.length : Int) != (m.length : Int)) = true := bne_iff_ne.2 (by omega)
  have h5 : decide (l.length = m.length) = false := decide_eq_false h3
  refine hc_of (O := orO (fvO 2 f caps (gJJ fun a b => (True, jeA (φ a b)))) (tblO Tbox_Right)) (by kernel_rfl) tyB_ok (fvO_or (fvO_ok hf) (tblO_ok Tbox_Right_ok _ w) (fun g d st args h => tbl1 h)) ht [20, 21] 2000 57 [.tmp 6, .tmp 7] Tryz.func67 rfl Tryz.ntmps67 (by rw [Tryz.results67]) (by simp) rfl (fun hsm => ?_)
  simp (maxSteps := 10000000) only [go_sem, ↓reduceIte, Nat.reduceMul, Nat.reduceDiv, Nat.reduceAdd, Nat.reduceEqDiff, Nat.reduceLeDiff, Nat.reduceLT, reduceCtorEq, Int.reduceNeg, Int.reduceLT, Int.reduceLE, Int.reduceAdd, Int.reduceToNat, Nat.reduceBEq, Int.reduceMul, Int.reduceSub, Nat.reduceSub, Int.reduceBNe, Nat.reduceBNe, Tbox_Right, h1, h2, h4, asB_b]
  repeat' first | (with_reducible apply And.intro) | (with_reducible apply condP <;> intro _)
  all_goals first | (show chk _ _ = true; kernel_rfl) | assumption | (simp only [go_sem, *, Int.reduceBNe, Nat.reduceEqDiff, bothB, zipB, Nat.reduceAdd, h5] <;> rfl) | rfl | (exfalso; simp_all only [Bool.true_eq_false, Bool.false_eq_true, reduceCtorEq]; done)
theorem prsJ {w : World} {f : FuncId} {caps : List Value} {φ : J → J → J × Int} (ht : Tab w) (hf : Fv Tryz.prog w f caps (gJJ fun a b => (True, jeA (φ a b)))) (l m : List J) : Hc Tryz.prog w 67 [bA_ l, bA_ m, fvA f caps] (bxe (bothB φ l m)) := by
  cases h1 : rightB l with
  | false => exact prsJe1 l m h1 ht hf
  | true =>
    cases h2 : rightB m with
    | false => exact prsJe2 l m h1 h2 ht hf
    | true =>
      by_cases h3 : l.length = m.length
      case neg => exact prsJe3 l m h1 h2 h3 ht hf
      have h4 := rightB_len h1
      match l, m, h1, h2, h3, h4 with
      | [], _, _, _, _, h => exact absurd h.1 (by simp)
      | [a], [s], h1, h2, _, _ => exact prsJ1 a s h1 h2 ht hf
      | [a, b], [s, t], h1, h2, _, _ => exact prsJ2 a b s t h1 h2 ht hf
      | [a, b, c], [s, t, u], h1, h2, _, _ => exact prsJ3 a b c s t u h1 h2 ht hf
      | [a, b, c, d], [s, t, u, v], h1, h2, _, _ => exact prsJ4 a b c d s t u v h1 h2 ht hf
      | _ :: _ :: _ :: _ :: _ :: _, _, _, _, _, h => exact absurd h.2 (by simp)
theorem echJ1 {w : World} {S : Nat → Prop} {gs : List Nat} {f : FuncId} {caps : List Value} {φ : J → J × Int} (hL : Lent S w gs [[.lit (.func (.func f) #[] caps.toArray)]]) (hf : Fv Tryz.prog w f caps (gJ fun j => (True, jeA (φ j)))) : Fv Tryz.prog w 123 (ptrs gs) (gJJ fun a _ => (True, jeA (φ a))) := by
  refine fv_run hL (ent Tryz.func123 (by kernel_rfl) rfl) (fun args e h => by obtain ⟨j, j1, rfl, rfl⟩ := gJJ_eq h; rfl) (fun args e h hp w' us hb ht' hL' hA => ?_)
  obtain ⟨j, j1, rfl, rfl⟩ := gJJ_eq h
  refine (lent_of (args := [jA j, jA j1, .s (.own 1000 0)]) (O := orO (fvO 1 f caps (gJ fun j => (True, jeA (φ j)))) (tblO noT)) (Pst := (· = jeA (φ j))) (by kernel_rfl) tyB_ok (fvO_or (fvO_ok (hf.mono hb)) (tblO_ok noT_ok _ w') (fun g d st args h => tbl0)) [] 300 12 [.cell 5 40, .tmp 6] Tryz.func123 rfl Tryz.ntmps123 (by rw [Tryz.results123]) (by simp) ht' hL' hA ?_).mono ?_
  case refine_2 => rintro e w'' ⟨u, r, he, rfl, _, hR, hb2⟩; exact ⟨u, he, hR, hb2⟩
  simp (maxSteps := 10000000) only [go_sem, ↓reduceIte, Nat.reduceMul, Nat.reduceDiv, Nat.reduceAdd, Nat.reduceEqDiff, Nat.reduceLeDiff, Nat.reduceLT, reduceCtorEq, Int.reduceNeg, Int.reduceLT, Int.reduceLE, Int.reduceAdd, Int.reduceToNat, Nat.reduceBEq, Int.reduceMul, Int.reduceSub, Nat.reduceSub, Int.reduceBNe, Nat.reduceBNe, asB, asP, nilB, asJs, asXs, wsOf]
  repeat' first | (with_reducible apply And.intro) | (with_reducible apply condP <;> intro _)
  all_goals first | (show chk _ _ = true; kernel_rfl) | assumption | (simp only [go_sem, *] <;> rfl) | rfl | (exfalso; simp_all only [Bool.true_eq_false, Bool.false_eq_true, reduceCtorEq]; done)
theorem echJ {w : World} {f : FuncId} {caps : List Value} {φ : J → J × Int} (ht : Tab w) (hf : Fv Tryz.prog w f caps (gJ fun j => (True, jeA (φ j)))) (l : List J) : Hc Tryz.prog w 72 [bA_ l, fvA f caps] (bxe (bothB (fun a _ => φ a) l l)) := by
  refine hc_of (O := orO (hoO 67 2 (hpin [[.lit (.func (.func f) #[] caps.toArray)]] 123 [bA_ l, bA_ l] (bxe (bothB (fun a _ => φ a) l l)))) (tblO noT)) (by kernel_rfl) tyB_ok (hoO_or (hoO_ok (ent Tryz.func67 (by kernel_rfl) rfl) (fun ls c xs e he hp S w' gs hb ht' hL => by
    injection he with he; subst he
    obtain ⟨rfl, rfl, rfl⟩ := hp
    exact prsJ ht' (echJ1 hL (hf.mono hb)) l l)) (tblO_ok noT_ok _ w) (fun _ _ _ => tbl0)) ht [] 300 12 [.tmp 4, .tmp 5] Tryz.func72 rfl Tryz.ntmps72 (by rw [Tryz.results72]) (by simp) rfl (fun hsm => ?_)
  simp (maxSteps := 10000000) only [go_sem, ↓reduceIte, Nat.reduceMul, Nat.reduceDiv, Nat.reduceAdd, Nat.reduceEqDiff, Nat.reduceLeDiff, Nat.reduceLT, reduceCtorEq, Int.reduceNeg, Int.reduceLT, Int.reduceLE, Int.reduceAdd, Int.reduceToNat, Nat.reduceBEq, Int.reduceMul, Int.reduceSub, Nat.reduceSub, Int.reduceBNe, Nat.reduceBNe, asB, asP, nilB, asJs, asXs, wsOf, hoO, hoK, hpin]
  repeat' first | (with_reducible apply And.intro) | (with_reducible apply condP <;> intro _)
  all_goals first | (show chk _ _ = true; kernel_rfl) | assumption | (simp only [go_sem, *] <;> rfl) | rfl | (exfalso; simp_all only [Bool.true_eq_false, Bool.false_eq_true, reduceCtorEq]; done)
theorem prsX1 {w : World} {f : FuncId} {caps : List Value} (a s : J) (h1 : rightB [a] = true) (h2 : rightB [s] = true) {φ : J → J → X × Int} (ht : Tab w) (hf : Fv Tryz.prog w f caps (gJJ fun a b => (True, xeA (φ a b))))  : Hc Tryz.prog w 165 [bA_ [a], bA_ [s], fvA f caps] (pxe (bothP φ [a] [s])) := by
  refine hc_of (O := orO (fvO 2 f caps (gJJ fun a b => (True, xeA (φ a b)))) (tblO Tbox_Right)) (by kernel_rfl) tyB_ok (fvO_or (fvO_ok hf) (tblO_ok Tbox_Right_ok _ w) (fun g d st args h => tbl1 h)) ht [20, 21] 2000 57 [.tmp 6, .tmp 7] Tryz.func165 rfl Tryz.ntmps165 (by rw [Tryz.results165]) (by simp) rfl (fun hsm => ?_)
  simp (maxSteps := 10000000) only [go_sem, ↓reduceIte, Nat.reduceMul, Nat.reduceDiv, Nat.reduceAdd, Nat.reduceEqDiff, Nat.reduceLeDiff, Nat.reduceLT, reduceCtorEq, Int.reduceNeg, Int.reduceLT, Int.reduceLE, Int.reduceAdd, Int.reduceToNat, Nat.reduceBEq, Int.reduceMul, Int.reduceSub, Nat.reduceSub, Int.reduceBNe, Nat.reduceBNe, asB, asP, nilB, asJs, asXs, wsOf, Tbox_Right, h1, h2]
  repeat' first | (with_reducible apply And.intro) | (with_reducible apply condP <;> intro _)
  all_goals first | (show chk _ _ = true; kernel_rfl) | assumption | (simp only [go_sem, *, Int.reduceBNe, Nat.reduceEqDiff, bothP, zipP, Nat.reduceAdd] <;> rfl) | rfl | (exfalso; simp_all only [Bool.true_eq_false, Bool.false_eq_true, reduceCtorEq]; done)
theorem prsX2 {w : World} {f : FuncId} {caps : List Value} (a b s t : J) (h1 : rightB [a, b] = true) (h2 : rightB [s, t] = true) {φ : J → J → X × Int} (ht : Tab w) (hf : Fv Tryz.prog w f caps (gJJ fun a b => (True, xeA (φ a b))))  : Hc Tryz.prog w 165 [bA_ [a, b], bA_ [s, t], fvA f caps] (pxe (bothP φ [a, b] [s, t])) := by
  refine hc_of (O := orO (fvO 2 f caps (gJJ fun a b => (True, xeA (φ a b)))) (tblO Tbox_Right)) (by kernel_rfl) tyB_ok (fvO_or (fvO_ok hf) (tblO_ok Tbox_Right_ok _ w) (fun g d st args h => tbl1 h)) ht [20, 21] 2000 57 [.tmp 6, .tmp 7] Tryz.func165 rfl Tryz.ntmps165 (by rw [Tryz.results165]) (by simp) rfl (fun hsm => ?_)
  simp (maxSteps := 10000000) only [go_sem, ↓reduceIte, Nat.reduceMul, Nat.reduceDiv, Nat.reduceAdd, Nat.reduceEqDiff, Nat.reduceLeDiff, Nat.reduceLT, reduceCtorEq, Int.reduceNeg, Int.reduceLT, Int.reduceLE, Int.reduceAdd, Int.reduceToNat, Nat.reduceBEq, Int.reduceMul, Int.reduceSub, Nat.reduceSub, Int.reduceBNe, Nat.reduceBNe, asB, asP, nilB, asJs, asXs, wsOf, Tbox_Right, h1, h2]
  repeat' first | (with_reducible apply And.intro) | (with_reducible apply condP <;> intro _)
  all_goals first | (show chk _ _ = true; kernel_rfl) | assumption | (simp only [go_sem, *, Int.reduceBNe, Nat.reduceEqDiff, bothP, zipP, Nat.reduceAdd] <;> rfl) | rfl | (exfalso; simp_all only [Bool.true_eq_false, Bool.false_eq_true, reduceCtorEq]; done)
theorem prsX3 {w : World} {f : FuncId} {caps : List Value} (a b c s t u : J) (h1 : rightB [a, b, c] = true) (h2 : rightB [s, t, u] = true) {φ : J → J → X × Int} (ht : Tab w) (hf : Fv Tryz.prog w f caps (gJJ fun a b => (True, xeA (φ a b))))  : Hc Tryz.prog w 165 [bA_ [a, b, c], bA_ [s, t, u], fvA f caps] (pxe (bothP φ [a, b, c] [s, t, u])) := by
  refine hc_of (O := orO (fvO 2 f caps (gJJ fun a b => (True, xeA (φ a b)))) (tblO Tbox_Right)) (by kernel_rfl) tyB_ok (fvO_or (fvO_ok hf) (tblO_ok Tbox_Right_ok _ w) (fun g d st args h => tbl1 h)) ht [20, 21] 2000 57 [.tmp 6, .tmp 7] Tryz.func165 rfl Tryz.ntmps165 (by rw [Tryz.results165]) (by simp) rfl (fun hsm => ?_)
  simp (maxSteps := 10000000) only [go_sem, ↓reduceIte, Nat.reduceMul, Nat.reduceDiv, Nat.reduceAdd, Nat.reduceEqDiff, Nat.reduceLeDiff, Nat.reduceLT, reduceCtorEq, Int.reduceNeg, Int.reduceLT, Int.reduceLE, Int.reduceAdd, Int.reduceToNat, Nat.reduceBEq, Int.reduceMul, Int.reduceSub, Nat.reduceSub, Int.reduceBNe, Nat.reduceBNe, asB, asP, nilB, asJs, asXs, wsOf, Tbox_Right, h1, h2]
  repeat' first | (with_reducible apply And.intro) | (with_reducible apply condP <;> intro _)
  all_goals first | (show chk _ _ = true; kernel_rfl) | assumption | (simp only [go_sem, *, Int.reduceBNe, Nat.reduceEqDiff, bothP, zipP, Nat.reduceAdd] <;> rfl) | rfl | (exfalso; simp_all only [Bool.true_eq_false, Bool.false_eq_true, reduceCtorEq]; done)
theorem prsX4 {w : World} {f : FuncId} {caps : List Value} (a b c d s t u v : J) (h1 : rightB [a, b, c, d] = true) (h2 : rightB [s, t, u, v] = true) {φ : J → J → X × Int} (ht : Tab w) (hf : Fv Tryz.prog w f caps (gJJ fun a b => (True, xeA (φ a b))))  : Hc Tryz.prog w 165 [bA_ [a, b, c, d], bA_ [s, t, u, v], fvA f caps] (pxe (bothP φ [a, b, c, d] [s, t, u, v])) := by
  refine hc_of (O := orO (fvO 2 f caps (gJJ fun a b => (True, xeA (φ a b)))) (tblO Tbox_Right)) (by kernel_rfl) tyB_ok (fvO_or (fvO_ok hf) (tblO_ok Tbox_Right_ok _ w) (fun g d st args h => tbl1 h)) ht [20, 21] 2000 57 [.tmp 6, .tmp 7] Tryz.func165 rfl Tryz.ntmps165 (by rw [Tryz.results165]) (by simp) rfl (fun hsm => ?_)
  simp (maxSteps := 10000000) only [go_sem, ↓reduceIte, Nat.reduceMul, Nat.reduceDiv, Nat.reduceAdd, Nat.reduceEqDiff, Nat.reduceLeDiff, Nat.reduceLT, reduceCtorEq, Int.reduceNeg, Int.reduceLT, Int.reduceLE, Int.reduceAdd, Int.reduceToNat, Nat.reduceBEq, Int.reduceMul, Int.reduceSub, Nat.reduceSub, Int.reduceBNe, Nat.reduceBNe, asB, asP, nilB, asJs, asXs, wsOf, Tbox_Right, h1, h2]
  repeat' first | (with_reducible apply And.intro) | (with_reducible apply condP <;> intro _)
  all_goals first | (show chk _ _ = true; kernel_rfl) | assumption | (simp only [go_sem, *, Int.reduceBNe, Nat.reduceEqDiff, bothP, zipP, Nat.reduceAdd] <;> rfl) | rfl | (exfalso; simp_all only [Bool.true_eq_false, Bool.false_eq_true, reduceCtorEq]; done)
theorem prsXe1 {w : World} {f : FuncId} {caps : List Value} (l m : List J) (h1 : rightB l = false) {φ : J → J → X × Int} (ht : Tab w) (hf : Fv Tryz.prog w f caps (gJJ fun a b => (True, xeA (φ a b))))  : Hc Tryz.prog w 165 [bA_ l, bA_ m, fvA f caps] (pxe (bothP φ l m)) := by
  refine hc_of (O := orO (fvO 2 f caps (gJJ fun a b => (True, xeA (φ a b)))) (tblO Tbox_Right)) (by kernel_rfl) tyB_ok (fvO_or (fvO_ok hf) (tblO_ok Tbox_Right_ok _ w) (fun g d st args h => tbl1 h)) ht [20, 21] 2000 57 [.tmp 6, .tmp 7] Tryz.func165 rfl Tryz.ntmps165 (by rw [Tryz.results165]) (by simp) rfl (fun hsm => ?_)
  simp (maxSteps := 10000000) only [go_sem, ↓reduceIte, Nat.reduceMul, Nat.reduceDiv, Nat.reduceAdd, Nat.reduceEqDiff, Nat.reduceLeDiff, Nat.reduceLT, reduceCtorEq, Int.reduceNeg, Int.reduceLT, Int.reduceLE, Int.reduceAdd, Int.reduceToNat, Nat.reduceBEq, Int.reduceMul, Int.reduceSub, Nat.reduceSub, Int.reduceBNe, Nat.reduceBNe, Tbox_Right, h1, asB_b]
  repeat' first | (with_reducible apply And.intro) | (with_reducible apply condP <;> intro _)
  all_goals first | (show chk _ _ = true; kernel_rfl) | assumption | (simp only [go_sem, *, Int.reduceBNe, Nat.reduceEqDiff, bothP, zipP, Nat.reduceAdd] <;> rfl) | rfl | (exfalso; simp_all only [Bool.true_eq_false, Bool.false_eq_true, reduceCtorEq]; done)
theorem prsXe2 {w : World} {f : FuncId} {caps : List Value} (l m : List J) (h1 : rightB l = true) (h2 : rightB m = false) {φ : J → J → X × Int} (ht : Tab w) (hf : Fv Tryz.prog w f caps (gJJ fun a b => (True, xeA (φ a b))))  : Hc Tryz.prog w 165 [bA_ l, bA_ m, fvA f caps] (pxe (bothP φ l m)) := by
  refine hc_of (O := orO (fvO 2 f caps (gJJ fun a b => (True, xeA (φ a b)))) (tblO Tbox_Right)) (by kernel_rfl) tyB_ok (fvO_or (fvO_ok hf) (tblO_ok Tbox_Right_ok _ w) (fun g d st args h => tbl1 h)) ht [20, 21] 2000 57 [.tmp 6, .tmp 7] Tryz.func165 rfl Tryz.ntmps165 (by rw [Tryz.results165]) (by simp) rfl (fun hsm => ?_)
  simp (maxSteps := 10000000) only [go_sem, ↓reduceIte, Nat.reduceMul, Nat.reduceDiv, Nat.reduceAdd, Nat.reduceEqDiff, Nat.reduceLeDiff, Nat.reduceLT, reduceCtorEq, Int.reduceNeg, Int.reduceLT, Int.reduceLE, Int.reduceAdd, Int.reduceToNat, Nat.reduceBEq, Int.reduceMul, Int.reduceSub, Nat.reduceSub, Int.reduceBNe, Nat.reduceBNe, Tbox_Right, h1, h2, asB_b]
  repeat' first | (with_reducible apply And.intro) | (with_reducible apply condP <;> intro _)
  all_goals first | (show chk _ _ = true; kernel_rfl) | assumption | (simp only [go_sem, *, Int.reduceBNe, Nat.reduceEqDiff, bothP, zipP, Nat.reduceAdd] <;> rfl) | rfl | (exfalso; simp_all only [Bool.true_eq_false, Bool.false_eq_true, reduceCtorEq]; done)
theorem prsXe3 {w : World} {f : FuncId} {caps : List Value} (l m : List J) (h1 : rightB l = true) (h2 : rightB m = true) (h3 : l.length ≠ m.length) {φ : J → J → X × Int} (ht : Tab w) (hf : Fv Tryz.prog w f caps (gJJ fun a b => (True, xeA (φ a b))))  : Hc Tryz.prog w 165 [bA_ l, bA_ m, fvA f caps] (pxe (bothP φ l m)) := by
  have h4 : ((l.length : Int) != (m.length : Int)) = true := bne_iff_ne.2 (by omega)
  have h5 : decide (l.length = m.length) = false := decide_eq_false h3
  refine hc_of (O := orO (fvO 2 f caps (gJJ fun a b => (True, xeA (φ a b)))) (tblO Tbox_Right)) (by kernel_rfl) tyB_ok (fvO_or (fvO_ok hf) (tblO_ok Tbox_Right_ok _ w) (fun g d st args h => tbl1 h)) ht [20, 21] 2000 57 [.tmp 6, .tmp 7] Tryz.func165 rfl Tryz.ntmps165 (by rw [Tryz.results165]) (by simp) rfl (fun hsm => ?_)
  simp (maxSteps := 10000000) only [go_sem, ↓reduceIte, Nat.reduceMul, Nat.reduceDiv, Nat.reduceAdd, Nat.reduceEqDiff, Nat.reduceLeDiff, Nat.reduceLT, reduceCtorEq, Int.reduceNeg, Int.reduceLT, Int.reduceLE, Int.reduceAdd, Int.reduceToNat, Nat.reduceBEq, Int.reduceMul, Int.reduceSub, Nat.reduceSub, Int.reduceBNe, Nat.reduceBNe, Tbox_Right, h1, h2, h4, asB_b]
  repeat' first | (with_reducible apply And.intro) | (with_reducible apply condP <;> intro _)
  all_goals first | (show chk _ _ = true; kernel_rfl) | assumption | (simp only [go_sem, *, Int.reduceBNe, Nat.reduceEqDiff, bothP, zipP, Nat.reduceAdd, h5] <;> rfl) | rfl | (exfalso; simp_all only [Bool.true_eq_false, Bool.false_eq_true, reduceCtorEq]; done)
theorem prsX {w : World} {f : FuncId} {caps : List Value} {φ : J → J → X × Int} (ht : Tab w) (hf : Fv Tryz.prog w f caps (gJJ fun a b => (True, xeA (φ a b)))) (l m : List J) : Hc Tryz.prog w 165 [bA_ l, bA_ m, fvA f caps] (pxe (bothP φ l m)) := by
  cases h1 : rightB l with
  | false => exact prsXe1 l m h1 ht hf
  | true =>
    cases h2 : rightB m with
    | false => exact prsXe2 l m h1 h2 ht hf
    | true =>
      by_cases h3 : l.length = m.length
      case neg => exact prsXe3 l m h1 h2 h3 ht hf
      have h4 := rightB_len h1
      match l, m, h1, h2, h3, h4 with
      | [], _, _, _, _, h => exact absurd h.1 (by simp)
      | [a], [s], h1, h2, _, _ => exact prsX1 a s h1 h2 ht hf
      | [a, b], [s, t], h1, h2, _, _ => exact prsX2 a b s t h1 h2 ht hf
      | [a, b, c], [s, t, u], h1, h2, _, _ => exact prsX3 a b c s t u h1 h2 ht hf
      | [a, b, c, d], [s, t, u, v], h1, h2, _, _ => exact prsX4 a b c d s t u v h1 h2 ht hf
      | _ :: _ :: _ :: _ :: _ :: _, _, _, _, _, h => exact absurd h.2 (by simp)
theorem echX1 {w : World} {S : Nat → Prop} {gs : List Nat} {f : FuncId} {caps : List Value} {φ : J → X × Int} (hL : Lent S w gs [[.lit (.func (.func f) #[] caps.toArray)]]) (hf : Fv Tryz.prog w f caps (gJ fun j => (True, xeA (φ j)))) : Fv Tryz.prog w 166 (ptrs gs) (gJJ fun a _ => (True, xeA (φ a))) := by
  refine fv_run hL (ent Tryz.func166 (by kernel_rfl) rfl) (fun args e h => by obtain ⟨j, j1, rfl, rfl⟩ := gJJ_eq h; rfl) (fun args e h hp w' us hb ht' hL' hA => ?_)
  obtain ⟨j, j1, rfl, rfl⟩ := gJJ_eq h
  refine (lent_of (args := [jA j, jA j1, .s (.own 1000 0)]) (O := orO (fvO 1 f caps (gJ fun j => (True, xeA (φ j)))) (tblO noT)) (Pst := (· = xeA (φ j))) (by kernel_rfl) tyB_ok (fvO_or (fvO_ok (hf.mono hb)) (tblO_ok noT_ok _ w') (fun g d st args h => tbl0)) [] 300 12 [.cell 5 28, .tmp 6] Tryz.func166 rfl Tryz.ntmps166 (by rw [Tryz.results166]) (by simp) ht' hL' hA ?_).mono ?_
  case refine_2 => rintro e w'' ⟨u, r, he, rfl, _, hR, hb2⟩; exact ⟨u, he, hR, hb2⟩
  simp (maxSteps := 10000000) only [go_sem, ↓reduceIte, Nat.reduceMul, Nat.reduceDiv, Nat.reduceAdd, Nat.reduceEqDiff, Nat.reduceLeDiff, Nat.reduceLT, reduceCtorEq, Int.reduceNeg, Int.reduceLT, Int.reduceLE, Int.reduceAdd, Int.reduceToNat, Nat.reduceBEq, Int.reduceMul, Int.reduceSub, Nat.reduceSub, Int.reduceBNe, Nat.reduceBNe, asB, asP, nilB, asJs, asXs, wsOf]
  repeat' first | (with_reducible apply And.intro) | (with_reducible apply condP <;> intro _)
  all_goals first | (show chk _ _ = true; kernel_rfl) | assumption | (simp only [go_sem, *] <;> rfl) | rfl | (exfalso; simp_all only [Bool.true_eq_false, Bool.false_eq_true, reduceCtorEq]; done)
theorem echX {w : World} {f : FuncId} {caps : List Value} {φ : J → X × Int} (ht : Tab w) (hf : Fv Tryz.prog w f caps (gJ fun j => (True, xeA (φ j)))) (l : List J) : Hc Tryz.prog w 99 [bA_ l, fvA f caps] (pxe (bothP (fun a _ => φ a) l l)) := by
  refine hc_of (O := orO (hoO 165 2 (hpin [[.lit (.func (.func f) #[] caps.toArray)]] 166 [bA_ l, bA_ l] (pxe (bothP (fun a _ => φ a) l l)))) (tblO noT)) (by kernel_rfl) tyB_ok (hoO_or (hoO_ok (ent Tryz.func165 (by kernel_rfl) rfl) (fun ls c xs e he hp S w' gs hb ht' hL => by
    injection he with he; subst he
    obtain ⟨rfl, rfl, rfl⟩ := hp
    exact prsX ht' (echX1 hL (hf.mono hb)) l l)) (tblO_ok noT_ok _ w) (fun _ _ _ => tbl0)) ht [] 300 12 [.tmp 4, .tmp 5] Tryz.func99 rfl Tryz.ntmps99 (by rw [Tryz.results99]) (by simp) rfl (fun hsm => ?_)
  simp (maxSteps := 10000000) only [go_sem, ↓reduceIte, Nat.reduceMul, Nat.reduceDiv, Nat.reduceAdd, Nat.reduceEqDiff, Nat.reduceLeDiff, Nat.reduceLT, reduceCtorEq, Int.reduceNeg, Int.reduceLT, Int.reduceLE, Int.reduceAdd, Int.reduceToNat, Nat.reduceBEq, Int.reduceMul, Int.reduceSub, Nat.reduceSub, Int.reduceBNe, Nat.reduceBNe, asB, asP, nilB, asJs, asXs, wsOf, hoO, hoK, hpin]
  repeat' first | (with_reducible apply And.intro) | (with_reducible apply condP <;> intro _)
  all_goals first | (show chk _ _ = true; kernel_rfl) | assumption | (simp only [go_sem, *] <;> rfl) | rfl | (exfalso; simp_all only [Bool.true_eq_false, Bool.false_eq_true, reduceCtorEq]; done)
end Go.Proofs.YthhaelnildaemaaGreatDoor
namespace Go.Proofs.YthhaelnildaemaaGreatDoor
open Go.RowKit Nx
set_option linter.unusedVariables false
set_option linter.unusedSimpArgs false
set_option maxRecDepth 100000
set_option maxHeartbeats 4000000
attribute [local go_sem] run init X.L J.L vL X.eta J.eta Q.eta List.cons_append List.nil_append brkK brkf_b brkf_t exef_some exif_some condf_b opf bodyE addR skipE stepOp stepLoad stepStore stepField stepCall stepBS stepBi stepCv stepIx lpf hdS pick forget inL mentA ment dom evs evl evp evd okeys look fillA capsOf wordsOf rowsOf lenOf convK binV shV intV unV boolT tyT tiB tiI tiW tiD tiF tiR tiU tiNum tiIv tiVal tiSc okLf okD keysOf tblO cvA cvL dnL olA olL noO noA cbL cbA orT noT one asNum asIv asVal postf_some resA tupA clA clL dropTo decide_true decide_false List.all_cons List.all_nil Bool.and_true Bool.and_self true_and and_true and_self List.length_cons List.length_nil List.drop_succ_cons List.drop_zero List.take_succ_cons List.take_zero List.getElem?_cons_zero List.getElem?_cons_succ List.map_cons List.map_nil false_implies true_implies Option.bind_some List.getElem?_toArray Bool.false_eq_true List.append_nil List.flatMap_cons List.flatMap_nil true_or or_true forall_const List.reverse_cons List.reverse_nil Option.isSome_some Option.any_some Nat.lt_irrefl not_true_eq_false Bool.not_true Bool.not_false imp_self implies_true Bool.not_eq_true' Bool.not_eq_false' Bool.true_eq_false memOf cntF nmL rnL nmA rnA isV contsOf ndB refO orO pin Int.toNat_zero decide_eq_true_eq wrap0 wrap1 ci1 ci2 BEq.rfl beq_self_eq_true Int.natCast_zero ge_iff_le gt_iff_lt Int.le_refl Nat.zero_mul Nat.one_mul Nat.zero_add Nat.zero_lt_succ Nat.lt_add_one Nat.le_refl Int.toNat_natCast gN gNN gNI gI gNNIB gNIB gJ gJJ gJN gJJI gJI stepB0 stepMk stepSl stepAp apY optI okO nilV slT resB outPs outLs outL dnT noE boxL_nil boxL_cons ptsL_nil ptsL_cons bxe pxe bne_self_eq_false wr2 wr3 wr4 wr5 wr6 wr7 wr8 gB gP gBB gBP gBZ gBBZ bC_nil bC_cons pC_nil pC_cons fvO Lc.up tyB tiS tiBB List.replicate_succ List.replicate_zero List.flatten_cons List.flatten_nil Int.ofNat_lt Int.cast_ofNat_Int Int.ofNat_eq_natCast List.isEmpty_nil List.isEmpty_cons and_false false_and List.cons_ne_nil Nat.add_zero ite_true ite_false if_true if_false Nat.le_zero_eq eq_self Bool.and_false Bool.false_and Bool.true_and AV.s cond_true cond_false Bool.or_true Bool.true_or Bool.or_false Bool.false_or
attribute [local go_sem ↓] cond_true cond_false not_cond outL_box outL_pts clL_box clL_pts okL_box okL_pts ment_box ment_pts olL_box olL_pts cvL_box cvL_pts noO_box noO_pts asB_box asP_pts len_box len_pts
attribute [local irreducible] chk
theorem tblO_none {T : Tbl} {g : FuncId} {d : Nat} {st : St} {args : List AV} (h : ∀ args, T g args = none) : tblO T g d st args = none := by unfold tblO; rw [h]
theorem one_none {f g : FuncId} {k : List AV → Option (Prop × AV)} {args : List AV} (h : f ≠ g) : one g k f args = none := if_neg h
theorem fvT {f : FuncId} {k : List AV → Option (Prop × AV)} (h : TbOK Tryz.prog (one f k)) (he : ∀ (vs : Array Value) (w : World), (callFunc f vs).run Tryz.prog w = .ok (.enter f vs) w) {w : World} : Fv Tryz.prog w f [] k :=
  fv_of he fun args e h1 h2 => h.2 f args e ((if_pos rfl).trans h1) h2
theorem b_hull (l m : List J) : Ct Tryz.prog 35 [bA_ l, bA_ m] (· = bxe (bothB hullJ l m)) := by
  refine ct_of (O := orO (hoO 67 2 (hpin [] 97 [bA_ l, bA_ m] (bxe (bothB hullJ l m)))) (tblO noT)) (by kernel_rfl) tyB_ok (fun w => hoO_or (hoO_ok (ent Tryz.func67 (by kernel_rfl) rfl) (fun ls c xs e he hp S w' gs hb ht' hL => by
    injection he with he; subst he
    obtain ⟨rfl, rfl, rfl⟩ := hp
    obtain rfl : gs = [] := List.eq_nil_of_length_eq_zero hL.1
    exact prsJ ht' (fvT Tiv_Hull_ok (ent Tryz.func97 (by kernel_rfl) rfl)) l m)) (tblO_ok noT_ok _ w) (fun _ _ _ => tblO_none fun _ => rfl)) [] 600 11 [.tmp 4, .tmp 5] Tryz.func35 rfl Tryz.ntmps35 (by rw [Tryz.results35]) (by simp) rfl (fun hsm => ?_)
  simp (maxSteps := 10000000) only [go_sem, ↓reduceIte, Nat.reduceMul, Nat.reduceDiv, Nat.reduceAdd, Nat.reduceEqDiff, Nat.reduceLeDiff, Nat.reduceLT, reduceCtorEq, Int.reduceNeg, Int.reduceLT, Int.reduceLE, Int.reduceAdd, Int.reduceToNat, Nat.reduceBEq, Int.reduceMul, Int.reduceSub, Nat.reduceSub, Int.reduceBNe, Nat.reduceBNe, hoO, hoK, hpin, asB_b, asP_b]
  repeat' first | (with_reducible apply And.intro) | (with_reducible apply condP <;> intro _)
  all_goals first | (show chk _ _ = true; kernel_rfl) | assumption | (simp only [go_sem, *, hoO, hoK, hpin] <;> rfl) | rfl | (exfalso; simp_all only [Bool.true_eq_false, Bool.false_eq_true, reduceCtorEq]; done)
noncomputable def Tbox_Hull : Tbl := one 35 (gBB fun l m => (True, bxe (bothB hullJ l m)))
theorem Tbox_Hull_ok : TbOK Tryz.prog Tbox_Hull := one_ok (ent Tryz.func35 (by kernel_rfl) rfl) fun args e h hp => gBB_ct (fun l m _ => b_hull l m) h hp
def ofL (l : List X) : Lf := bif l.isEmpty then .sl true 0 0 [] else .sl true 6 l.length (bC (l.map fun x => ⟨x, x⟩))
theorem b_of2 (a b : X) : Ct Tryz.prog 41 [pA_ [a, b]] (· = .s (ofL [a, b])) := by
  refine ct_of (O := tblO Tiv_Of) (by kernel_rfl) tyB_ok (fun w => tblO_ok Tiv_Of_ok _ w) [8, 9, 10, 11] 1500 23 [.tmp 2] Tryz.func41 rfl Tryz.ntmps41 (by rw [Tryz.results41]) (by simp) rfl (fun hsm => ?_)
  simp (maxSteps := 10000000) only [go_sem, ↓reduceIte, Nat.reduceMul, Nat.reduceDiv, Nat.reduceAdd, Nat.reduceEqDiff, Nat.reduceLeDiff, Nat.reduceLT, reduceCtorEq, Int.reduceNeg, Int.reduceLT, Int.reduceLE, Int.reduceAdd, Int.reduceToNat, Nat.reduceBEq, Int.reduceMul, Int.reduceSub, Nat.reduceSub, Int.reduceBNe, Nat.reduceBNe, asB, asP, nilB, asJs, asXs, wsOf, Tiv_Of]
  repeat' first | (with_reducible apply And.intro) | (with_reducible apply condP <;> intro _)
  all_goals first | (show chk _ _ = true; kernel_rfl) | assumption | (simp only [go_sem, *, ofL, Nat.reduceAdd] <;> rfl) | rfl | (exfalso; simp_all only [Bool.true_eq_false, Bool.false_eq_true, reduceCtorEq]; done)
theorem c_add {w : World} {S : Nat → Prop} {gs : List Nat} {z : Int} (hL : Lent S w gs [[.lit (.int .i64 z)]]) : Fv Tryz.prog w 68 (ptrs gs) (gJJ fun a b => (True, jeA (addJ a b z))) := by
  refine fv_run hL (ent Tryz.func68 (by kernel_rfl) rfl) (fun args e h => by obtain ⟨j, j1, rfl, rfl⟩ := gJJ_eq h; rfl) (fun args e h hp w' us hb ht' hL' hA => ?_)
  obtain ⟨j, j1, rfl, rfl⟩ := gJJ_eq h
  refine (lent_of (args := [jA j, jA j1, .s (.own 1000 0)]) (O := tblO Tiv_Add) (Pst := (· = jeA (addJ j j1 z))) (by kernel_rfl) tyB_ok (tblO_ok Tiv_Add_ok _ w') [] 300 13 [.cell 5 40, .tmp 6] Tryz.func68 rfl Tryz.ntmps68 (by rw [Tryz.results68]) (by simp) ht' hL' hA ?_).mono ?_
  case refine_2 => rintro e w'' ⟨u, r, he, rfl, _, hR, hb2⟩; exact ⟨u, he, hR, hb2⟩
  simp (maxSteps := 10000000) only [go_sem, ↓reduceIte, Nat.reduceMul, Nat.reduceDiv, Nat.reduceAdd, Nat.reduceEqDiff, Nat.reduceLeDiff, Nat.reduceLT, reduceCtorEq, Int.reduceNeg, Int.reduceLT, Int.reduceLE, Int.reduceAdd, Int.reduceToNat, Nat.reduceBEq, Int.reduceMul, Int.reduceSub, Nat.reduceSub, Int.reduceBNe, Nat.reduceBNe, asB, asP, nilB, asJs, asXs, wsOf, Tiv_Add]
  repeat' first | (with_reducible apply And.intro) | (with_reducible apply condP <;> intro _)
  all_goals first | (show chk _ _ = true; kernel_rfl) | assumption | (simp only [go_sem, *] <;> rfl) | rfl | (exfalso; simp_all only [Bool.true_eq_false, Bool.false_eq_true, reduceCtorEq]; done)
theorem b_add (l m : List J) (z : Int) : Ct Tryz.prog 23 [bA_ l, bA_ m, iA z] (· = bxe (bothB (fun a b => addJ a b z) l m)) := by
  refine ct_of (O := orO (hoO 67 2 (hpin [[.lit (.int .i64 z)]] 68 [bA_ l, bA_ m] (bxe (bothB (fun a b => addJ a b z) l m)))) (tblO noT)) (by kernel_rfl) tyB_ok (fun w => hoO_or (hoO_ok (ent Tryz.func67 (by kernel_rfl) rfl) (fun ls c xs e he hp S w' gs hb ht' hL => by
    injection he with he; subst he
    obtain ⟨rfl, rfl, rfl⟩ := hp
    exact prsJ ht' (c_add hL) l m)) (tblO_ok noT_ok _ w) (fun _ _ _ => tblO_none fun _ => rfl)) [] 600 14 [.tmp 6, .tmp 7] Tryz.func23 rfl Tryz.ntmps23 (by rw [Tryz.results23]) (by simp) rfl (fun hsm => ?_)
  simp (maxSteps := 10000000) only [go_sem, ↓reduceIte, Nat.reduceMul, Nat.reduceDiv, Nat.reduceAdd, Nat.reduceEqDiff, Nat.reduceLeDiff, Nat.reduceLT, reduceCtorEq, Int.reduceNeg, Int.reduceLT, Int.reduceLE, Int.reduceAdd, Int.reduceToNat, Nat.reduceBEq, Int.reduceMul, Int.reduceSub, Nat.reduceSub, Int.reduceBNe, Nat.reduceBNe, hoO, hoK, hpin, asB_b, asP_b]
  repeat' first | (with_reducible apply And.intro) | (with_reducible apply condP <;> intro _)
  all_goals first | (show chk _ _ = true; kernel_rfl) | assumption | (simp only [go_sem, *, hoO, hoK, hpin] <;> rfl) | rfl | (exfalso; simp_all only [Bool.true_eq_false, Bool.false_eq_true, reduceCtorEq]; done)
noncomputable def Tbox_Add : Tbl := one 23 (gBBZ fun l m z => (True, bxe (bothB (fun a b => addJ a b z) l m)))
theorem Tbox_Add_ok : TbOK Tryz.prog Tbox_Add := one_ok (ent Tryz.func23 (by kernel_rfl) rfl) fun args e h hp => gBBZ_ct (fun l m z _ => b_add l m z) h hp
theorem c_sub {w : World} {S : Nat → Prop} {gs : List Nat} {z : Int} (hL : Lent S w gs [[.lit (.int .i64 z)]]) : Fv Tryz.prog w 70 (ptrs gs) (gJJ fun a b => (True, jeA (subJ a b z))) := by
  refine fv_run hL (ent Tryz.func70 (by kernel_rfl) rfl) (fun args e h => by obtain ⟨j, j1, rfl, rfl⟩ := gJJ_eq h; rfl) (fun args e h hp w' us hb ht' hL' hA => ?_)
  obtain ⟨j, j1, rfl, rfl⟩ := gJJ_eq h
  refine (lent_of (args := [jA j, jA j1, .s (.own 1000 0)]) (O := tblO Tiv_Sub) (Pst := (· = jeA (subJ j j1 z))) (by kernel_rfl) tyB_ok (tblO_ok Tiv_Sub_ok _ w') [] 300 13 [.cell 5 40, .tmp 6] Tryz.func70 rfl Tryz.ntmps70 (by rw [Tryz.results70]) (by simp) ht' hL' hA ?_).mono ?_
  case refine_2 => rintro e w'' ⟨u, r, he, rfl, _, hR, hb2⟩; exact ⟨u, he, hR, hb2⟩
  simp (maxSteps := 10000000) only [go_sem, ↓reduceIte, Nat.reduceMul, Nat.reduceDiv, Nat.reduceAdd, Nat.reduceEqDiff, Nat.reduceLeDiff, Nat.reduceLT, reduceCtorEq, Int.reduceNeg, Int.reduceLT, Int.reduceLE, Int.reduceAdd, Int.reduceToNat, Nat.reduceBEq, Int.reduceMul, Int.reduceSub, Nat.reduceSub, Int.reduceBNe, Nat.reduceBNe, asB, asP, nilB, asJs, asXs, wsOf, Tiv_Sub]
  repeat' first | (with_reducible apply And.intro) | (with_reducible apply condP <;> intro _)
  all_goals first | (show chk _ _ = true; kernel_rfl) | assumption | (simp only [go_sem, *] <;> rfl) | rfl | (exfalso; simp_all only [Bool.true_eq_false, Bool.false_eq_true, reduceCtorEq]; done)
theorem b_sub (l m : List J) (z : Int) : Ct Tryz.prog 24 [bA_ l, bA_ m, iA z] (· = bxe (bothB (fun a b => subJ a b z) l m)) := by
  refine ct_of (O := orO (hoO 67 2 (hpin [[.lit (.int .i64 z)]] 70 [bA_ l, bA_ m] (bxe (bothB (fun a b => subJ a b z) l m)))) (tblO noT)) (by kernel_rfl) tyB_ok (fun w => hoO_or (hoO_ok (ent Tryz.func67 (by kernel_rfl) rfl) (fun ls c xs e he hp S w' gs hb ht' hL => by
    injection he with he; subst he
    obtain ⟨rfl, rfl, rfl⟩ := hp
    exact prsJ ht' (c_sub hL) l m)) (tblO_ok noT_ok _ w) (fun _ _ _ => tblO_none fun _ => rfl)) [] 600 14 [.tmp 6, .tmp 7] Tryz.func24 rfl Tryz.ntmps24 (by rw [Tryz.results24]) (by simp) rfl (fun hsm => ?_)
  simp (maxSteps := 10000000) only [go_sem, ↓reduceIte, Nat.reduceMul, Nat.reduceDiv, Nat.reduceAdd, Nat.reduceEqDiff, Nat.reduceLeDiff, Nat.reduceLT, reduceCtorEq, Int.reduceNeg, Int.reduceLT, Int.reduceLE, Int.reduceAdd, Int.reduceToNat, Nat.reduceBEq, Int.reduceMul, Int.reduceSub, Nat.reduceSub, Int.reduceBNe, Nat.reduceBNe, hoO, hoK, hpin, asB_b, asP_b]
  repeat' first | (with_reducible apply And.intro) | (with_reducible apply condP <;> intro _)
  all_goals first | (show chk _ _ = true; kernel_rfl) | assumption | (simp only [go_sem, *, hoO, hoK, hpin] <;> rfl) | rfl | (exfalso; simp_all only [Bool.true_eq_false, Bool.false_eq_true, reduceCtorEq]; done)
noncomputable def Tbox_Sub : Tbl := one 24 (gBBZ fun l m z => (True, bxe (bothB (fun a b => subJ a b z) l m)))
theorem Tbox_Sub_ok : TbOK Tryz.prog Tbox_Sub := one_ok (ent Tryz.func24 (by kernel_rfl) rfl) fun args e h hp => gBBZ_ct (fun l m z _ => b_sub l m z) h hp
theorem c_times {w : World} {S : Nat → Prop} {gs : List Nat} {x : J} {z : Int} (hL : Lent S w gs [x.L, [.lit (.int .i64 z)]]) : Fv Tryz.prog w 73 (ptrs gs) (gJ fun a => (True, jeA (mulJ x a z))) := by
  refine fv_run hL (ent Tryz.func73 (by kernel_rfl) rfl) (fun args e h => by obtain ⟨j, rfl, rfl⟩ := gJ_eq h; rfl) (fun args e h hp w' us hb ht' hL' hA => ?_)
  obtain ⟨j, rfl, rfl⟩ := gJ_eq h
  refine (lent_of (args := [jA j, .s (.own 1000 0), .s (.own 1001 0)]) (O := tblO Tiv_Mul) (Pst := (· = jeA (mulJ x j z))) (by kernel_rfl) tyB_ok (tblO_ok Tiv_Mul_ok _ w') [] 300 12 [.cell 4 40, .tmp 5] Tryz.func73 rfl Tryz.ntmps73 (by rw [Tryz.results73]) (by simp) ht' hL' hA ?_).mono ?_
  case refine_2 => rintro e w'' ⟨u, r, he, rfl, _, hR, hb2⟩; exact ⟨u, he, hR, hb2⟩
  simp (maxSteps := 10000000) only [go_sem, ↓reduceIte, Nat.reduceMul, Nat.reduceDiv, Nat.reduceAdd, Nat.reduceEqDiff, Nat.reduceLeDiff, Nat.reduceLT, reduceCtorEq, Int.reduceNeg, Int.reduceLT, Int.reduceLE, Int.reduceAdd, Int.reduceToNat, Nat.reduceBEq, Int.reduceMul, Int.reduceSub, Nat.reduceSub, Int.reduceBNe, Nat.reduceBNe, asB, asP, nilB, asJs, asXs, wsOf, Tiv_Mul]
  repeat' first | (with_reducible apply And.intro) | (with_reducible apply condP <;> intro _)
  all_goals first | (show chk _ _ = true; kernel_rfl) | assumption | (simp only [go_sem, *] <;> rfl) | rfl | (exfalso; simp_all only [Bool.true_eq_false, Bool.false_eq_true, reduceCtorEq]; done)
theorem b_times (x : J) (l : List J) (z : Int) : Ct Tryz.prog 25 [jA x, bA_ l, iA z] (· = bxe (bothB (fun a _ => mulJ x a z) l l)) := by
  refine ct_of (O := orO (hoO 72 1 (hpin [x.L, [.lit (.int .i64 z)]] 73 [bA_ l] (bxe (bothB (fun a _ => mulJ x a z) l l)))) (tblO noT)) (by kernel_rfl) tyB_ok (fun w => hoO_or (hoO_ok (ent Tryz.func72 (by kernel_rfl) rfl) (fun ls c xs e he hp S w' gs hb ht' hL => by
    injection he with he; subst he
    obtain ⟨rfl, rfl, rfl⟩ := hp
    exact echJ ht' (c_times hL) l)) (tblO_ok noT_ok _ w) (fun _ _ _ => tblO_none fun _ => rfl)) [] 600 13 [.tmp 6, .tmp 7] Tryz.func25 rfl Tryz.ntmps25 (by rw [Tryz.results25]) (by simp) rfl (fun hsm => ?_)
  simp (maxSteps := 10000000) only [go_sem, ↓reduceIte, Nat.reduceMul, Nat.reduceDiv, Nat.reduceAdd, Nat.reduceEqDiff, Nat.reduceLeDiff, Nat.reduceLT, reduceCtorEq, Int.reduceNeg, Int.reduceLT, Int.reduceLE, Int.reduceAdd, Int.reduceToNat, Nat.reduceBEq, Int.reduceMul, Int.reduceSub, Nat.reduceSub, Int.reduceBNe, Nat.reduceBNe, hoO, hoK, hpin, asB_b, asP_b]
  repeat' first | (with_reducible apply And.intro) | (with_reducible apply condP <;> intro _)
  all_goals first | (show chk _ _ = true; kernel_rfl) | assumption | (simp only [go_sem, *, hoO, hoK, hpin] <;> rfl) | rfl | (exfalso; simp_all only [Bool.true_eq_false, Bool.false_eq_true, reduceCtorEq]; done)
theorem c_mid {w : World} {S : Nat → Prop} {gs : List Nat} {z : Int} (hL : Lent S w gs [[.lit (.int .i64 z)]]) : Fv Tryz.prog w 100 (ptrs gs) (gJ fun a => (True, xeA (midX a z))) := by
  refine fv_run hL (ent Tryz.func100 (by kernel_rfl) rfl) (fun args e h => by obtain ⟨j, rfl, rfl⟩ := gJ_eq h; rfl) (fun args e h hp w' us hb ht' hL' hA => ?_)
  obtain ⟨j, rfl, rfl⟩ := gJ_eq h
  refine (lent_of (args := [jA j, .s (.own 1000 0)]) (O := tblO Tiv_Mid) (Pst := (· = xeA (midX j z))) (by kernel_rfl) tyB_ok (tblO_ok Tiv_Mid_ok _ w') [] 300 10 [.cell 3 28, .tmp 4] Tryz.func100 rfl Tryz.ntmps100 (by rw [Tryz.results100]) (by simp) ht' hL' hA ?_).mono ?_
  case refine_2 => rintro e w'' ⟨u, r, he, rfl, _, hR, hb2⟩; exact ⟨u, he, hR, hb2⟩
  simp (maxSteps := 10000000) only [go_sem, ↓reduceIte, Nat.reduceMul, Nat.reduceDiv, Nat.reduceAdd, Nat.reduceEqDiff, Nat.reduceLeDiff, Nat.reduceLT, reduceCtorEq, Int.reduceNeg, Int.reduceLT, Int.reduceLE, Int.reduceAdd, Int.reduceToNat, Nat.reduceBEq, Int.reduceMul, Int.reduceSub, Nat.reduceSub, Int.reduceBNe, Nat.reduceBNe, asB, asP, nilB, asJs, asXs, wsOf, Tiv_Mid]
  repeat' first | (with_reducible apply And.intro) | (with_reducible apply condP <;> intro _)
  all_goals first | (show chk _ _ = true; kernel_rfl) | assumption | (simp only [go_sem, *] <;> rfl) | rfl | (exfalso; simp_all only [Bool.true_eq_false, Bool.false_eq_true, reduceCtorEq]; done)
theorem b_mid (l : List J) (z : Int) : Ct Tryz.prog 38 [bA_ l, iA z] (· = pxe (bothP (fun a _ => midX a z) l l)) := by
  refine ct_of (O := orO (hoO 99 1 (hpin [[.lit (.int .i64 z)]] 100 [bA_ l] (pxe (bothP (fun a _ => midX a z) l l)))) (tblO noT)) (by kernel_rfl) tyB_ok (fun w => hoO_or (hoO_ok (ent Tryz.func99 (by kernel_rfl) rfl) (fun ls c xs e he hp S w' gs hb ht' hL => by
    injection he with he; subst he
    obtain ⟨rfl, rfl, rfl⟩ := hp
    exact echX ht' (c_mid hL) l)) (tblO_ok noT_ok _ w) (fun _ _ _ => tblO_none fun _ => rfl)) [] 600 11 [.tmp 4, .tmp 5] Tryz.func38 rfl Tryz.ntmps38 (by rw [Tryz.results38]) (by simp) rfl (fun hsm => ?_)
  simp (maxSteps := 10000000) only [go_sem, ↓reduceIte, Nat.reduceMul, Nat.reduceDiv, Nat.reduceAdd, Nat.reduceEqDiff, Nat.reduceLeDiff, Nat.reduceLT, reduceCtorEq, Int.reduceNeg, Int.reduceLT, Int.reduceLE, Int.reduceAdd, Int.reduceToNat, Nat.reduceBEq, Int.reduceMul, Int.reduceSub, Nat.reduceSub, Int.reduceBNe, Nat.reduceBNe, hoO, hoK, hpin, asB_b, asP_b]
  repeat' first | (with_reducible apply And.intro) | (with_reducible apply condP <;> intro _)
  all_goals first | (show chk _ _ = true; kernel_rfl) | assumption | (simp only [go_sem, *, hoO, hoK, hpin] <;> rfl) | rfl | (exfalso; simp_all only [Bool.true_eq_false, Bool.false_eq_true, reduceCtorEq]; done)
noncomputable def Tbox_Mid : Tbl := one 38 (gBZ fun l z => (True, pxe (bothP (fun a _ => midX a z) l l)))
theorem Tbox_Mid_ok : TbOK Tryz.prog Tbox_Mid := one_ok (ent Tryz.func38 (by kernel_rfl) rfl) fun args e h hp => gBZ_ct (fun l z _ => b_mid l z) h hp
end Go.Proofs.YthhaelnildaemaaGreatDoor
