/- BoxFour. -/
import Derived.Test.YthhaelnildaemaaGreatDoorTAlW
import Derived.Test.YthhaelnildaemaaGreatDoorTAm2
import Derived.Test.YthhaelnildaemaaGreatDoorTAmB
namespace Go.Proofs.YthhaelnildaemaaGreatDoor
open Go.RowKit Nx
set_option linter.unusedVariables false
set_option linter.unusedSimpArgs false
set_option maxRecDepth 100000
set_option maxHeartbeats 4000000
attribute [local go_sem] run init X.L J.L vL X.eta J.eta Q.eta List.cons_append List.nil_append brkK brkf_b brkf_t exef_some exif_some condf_b opf bodyE addR skipE stepOp stepLoad stepStore stepField stepCall stepBS stepBi stepCv stepIx lpf hdS pick forget inL mentA ment dom evs evl evp evd okeys look fillA capsOf wordsOf rowsOf lenOf convK binV shV intV unV boolT tyT tiB tiI tiW tiD tiF tiR tiU tiNum tiIv tiVal tiSc okLf okD keysOf tblO cvA cvL dnL olA olL noO noA cbL cbA orT noT one asNum asIv asVal postf_some resA tupA clA clL dropTo decide_true decide_false List.all_cons List.all_nil Bool.and_true Bool.and_self true_and and_true and_self List.length_cons List.length_nil List.drop_succ_cons List.drop_zero List.take_succ_cons List.take_zero List.getElem?_cons_zero List.getElem?_cons_succ List.map_cons List.map_nil false_implies true_implies Option.bind_some List.getElem?_toArray Bool.false_eq_true List.append_nil List.flatMap_cons List.flatMap_nil true_or or_true forall_const List.reverse_cons List.reverse_nil Option.isSome_some Option.any_some Nat.lt_irrefl not_true_eq_false Bool.not_true Bool.not_false imp_self implies_true Bool.not_eq_true' Bool.not_eq_false' Bool.true_eq_false memOf cntF nmL rnL nmA rnA isV contsOf ndB refO orO pin Int.toNat_zero decide_eq_true_eq wrap0 wrap1 ci1 ci2 BEq.rfl beq_self_eq_true Int.natCast_zero ge_iff_le gt_iff_lt Int.le_refl Nat.zero_mul Nat.one_mul Nat.zero_add Nat.zero_lt_succ Nat.lt_add_one Nat.le_refl List.append_eq dkO dpf_some rK rKI rKJ Int.toNat_natCast dk0 gN gNN gNI gI gNNIB gNIB gJ gJJ gJN gJJI gJI stepB0 stepMk stepSl stepAp apY optI okO nilV slT resB outPs outLs outL dnT noE boxL_nil boxL_cons ptsL_nil ptsL_cons bxe pxe bne_self_eq_false wr2 wr3 wr4 wr5 wr6 wr7 wr8 gB gP gBB gBP gBZ gBBZ asB asP nilB asJs asXs wsOf bC_nil bC_cons pC_nil pC_cons fvO Lc.up tyB tiS tiBB List.replicate_succ List.replicate_zero List.flatten_cons List.flatten_nil Int.ofNat_lt Int.cast_ofNat_Int Int.ofNat_eq_natCast List.isEmpty_nil List.isEmpty_cons and_false false_and List.cons_ne_nil Nat.add_zero ite_true ite_false if_true if_false Nat.le_zero_eq eq_self Bool.and_false Bool.false_and Bool.true_and AV.s cond_true cond_false Bool.or_true Bool.true_or Bool.or_false Bool.false_or
attribute [local go_sem ↓] cond_true cond_false not_cond outL_box outL_pts clL_box clL_pts okL_box okL_pts ment_box ment_pts olL_box olL_pts cvL_box cvL_pts noO_box noO_pts asB_box asP_pts len_box len_pts cb_box cb_pts
attribute [local irreducible] chk
theorem v_bf0 (xs : List Nat) (A : Option Addr) (n c : Nat) (hd : ((dk xs 0 % 4 : Nat) : Int) = 0) : LC6 5 A n c xs [.s (.lit (.slice A n c))] := by
  refine lc6_of (O := orO ofO (orO (dkO 12 A n c (rK fun k => (k ≤ 900 ∧ ((dk xs k % 4 : Nat) : Int) = 0, iA 1, k + 1))) (orO (dkO 13 A n c (rKI fun k z => (k ≤ 700 ∧ 0 < z ∧ z ≤ 4, .s (boxL (ivsD xs z.toNat k).1), (ivsD xs z.toNat k).2))) (orO (dkO 18 A n c (rK fun k => (k ≤ 800, jA (ivD xs k).1, (ivD xs k).2))) (orO (dkO 19 A n c (rK fun k => (k ≤ 900, iA (precD xs k).1, (precD xs k).2))) (tblO (orT Tlaw6_known2 Tlaw6_reckons))))))) (by kernel_rfl) tyB_ok (fun w hA hn => only_or ofO_only (ofO_ok _ _) (only_or dkO_only (dkO_ok (xs := xs) (ent Tryz.func12 (by kernel_rfl) rfl) (rK_ok fun k hp => d_dim0 xs k hp.1 hp.2) hA hn) (only_or dkO_only (dkO_ok (xs := xs) (ent Tryz.func13 (by kernel_rfl) rfl) (rKI_ok fun k z hp => d_box hp) hA hn) (only_or dkO_only (dkO_ok (xs := xs) (ent Tryz.func18 (by kernel_rfl) rfl) (rK_ok fun k hp => (ivD_spec hp).2.2.2) hA hn) (only_or dkO_only (dkO_ok (xs := xs) (ent Tryz.func19 (by kernel_rfl) rfl) (rK_ok fun k hp => (precD_spec hp).2.2.2) hA hn) (tblO_ok (orT_ok Tlaw6_known2_ok Tlaw6_reckons_ok) _ w) (fun d st args => by simp [orO, refO, dkO, ofO, tblO, orT, noT, one, Tlaw6_known2, Tlaw6_reckons])) (fun d st args => by simp [orO, refO, dkO, ofO, tblO, orT, noT, one, Tlaw6_known2, Tlaw6_reckons])) (fun d st args => by simp [orO, refO, dkO, ofO, tblO, orT, noT, one, Tlaw6_known2, Tlaw6_reckons])) (fun d st args => by simp [orO, refO, dkO, ofO, tblO, orT, noT, one, Tlaw6_known2, Tlaw6_reckons])) (fun d st args => by simp [orO, refO, dkO, ofO, tblO, orT, noT, one, Tlaw6_known2, Tlaw6_reckons])) [] 2000 40 [.tmp 2] Tryz.func5 rfl Tryz.ntmps5 (by rw [Tryz.results5]) (by simp) rfl (fun hsm hs => ?_)
  obtain ⟨l1, g1, u1, w1⟩ := ivsD_spec (xs := xs) (n := 1) (k := 1) (by omega)
  generalize hp1 : ivsD xs 1 1 = p1 at l1 g1 u1 w1
  obtain ⟨q1, k1⟩ := p1
  have l1 : q1.length = 1 := l1
  have w1 : k1 ≤ 1 + 9 * 1 := w1
  obtain ⟨aa, rfl⟩ := len1 l1
  obtain ⟨l2, g2, u2, w2⟩ := ivsD_spec (xs := xs) (n := 1) (k := k1) (by omega)
  generalize hp2 : ivsD xs 1 k1 = p2 at l2 g2 u2 w2
  obtain ⟨q2, k2⟩ := p2
  have l2 : q2.length = 1 := l2
  have w2 : k2 ≤ k1 + 9 * 1 := w2
  obtain ⟨ba, rfl⟩ := len1 l2
  have w3 := (ivD_spec (xs := xs) (k := k2) (by omega)).2.2.1
  clear l1 l2 u1 u2 g1 g2
  simp (maxSteps := 10000000) only [go_sem, ↓reduceIte, Nat.reduceMul, Nat.reduceDiv, Nat.reduceAdd, Nat.reduceEqDiff, Nat.reduceLeDiff, Nat.reduceLT, reduceCtorEq, Int.reduceNeg, Int.reduceLT, Int.reduceLE, Int.reduceAdd, Int.reduceToNat, Nat.reduceBEq, Int.reduceMul, Int.reduceSub, Nat.reduceSub, Int.reduceBNe, Nat.reduceBNe, Tlaw6_known2, Tlaw6_reckons, rKB, ofO, hp1, hp2, gBBJI, Int.toNat_one]
  repeat' first | (with_reducible apply And.intro) | (with_reducible apply condP <;> intro _)
  all_goals first | omega | (show chk _ _ = true; kernel_rfl) | with_reducible assumption | (simp only [go_sem, *, hd] <;> rfl) | rfl | (exfalso; simp_all only [Bool.true_eq_false, Bool.false_eq_true, reduceCtorEq]; done)
theorem v_bf1 (xs : List Nat) (A : Option Addr) (n c : Nat) (hd : ((dk xs 0 % 4 : Nat) : Int) = 1) : LC6 5 A n c xs [.s (.lit (.slice A n c))] := by
  refine lc6_of (O := orO ofO (orO (dkO 12 A n c (rK fun k => (k ≤ 900 ∧ ((dk xs k % 4 : Nat) : Int) = 1, iA 2, k + 1))) (orO (dkO 13 A n c (rKI fun k z => (k ≤ 700 ∧ 0 < z ∧ z ≤ 4, .s (boxL (ivsD xs z.toNat k).1), (ivsD xs z.toNat k).2))) (orO (dkO 18 A n c (rK fun k => (k ≤ 800, jA (ivD xs k).1, (ivD xs k).2))) (orO (dkO 19 A n c (rK fun k => (k ≤ 900, iA (precD xs k).1, (precD xs k).2))) (tblO (orT Tlaw6_known2 Tlaw6_reckons))))))) (by kernel_rfl) tyB_ok (fun w hA hn => only_or ofO_only (ofO_ok _ _) (only_or dkO_only (dkO_ok (xs := xs) (ent Tryz.func12 (by kernel_rfl) rfl) (rK_ok fun k hp => d_dim1 xs k hp.1 hp.2) hA hn) (only_or dkO_only (dkO_ok (xs := xs) (ent Tryz.func13 (by kernel_rfl) rfl) (rKI_ok fun k z hp => d_box hp) hA hn) (only_or dkO_only (dkO_ok (xs := xs) (ent Tryz.func18 (by kernel_rfl) rfl) (rK_ok fun k hp => (ivD_spec hp).2.2.2) hA hn) (only_or dkO_only (dkO_ok (xs := xs) (ent Tryz.func19 (by kernel_rfl) rfl) (rK_ok fun k hp => (precD_spec hp).2.2.2) hA hn) (tblO_ok (orT_ok Tlaw6_known2_ok Tlaw6_reckons_ok) _ w) (fun d st args => by simp [orO, refO, dkO, ofO, tblO, orT, noT, one, Tlaw6_known2, Tlaw6_reckons])) (fun d st args => by simp [orO, refO, dkO, ofO, tblO, orT, noT, one, Tlaw6_known2, Tlaw6_reckons])) (fun d st args => by simp [orO, refO, dkO, ofO, tblO, orT, noT, one, Tlaw6_known2, Tlaw6_reckons])) (fun d st args => by simp [orO, refO, dkO, ofO, tblO, orT, noT, one, Tlaw6_known2, Tlaw6_reckons])) (fun d st args => by simp [orO, refO, dkO, ofO, tblO, orT, noT, one, Tlaw6_known2, Tlaw6_reckons])) [] 2000 40 [.tmp 2] Tryz.func5 rfl Tryz.ntmps5 (by rw [Tryz.results5]) (by simp) rfl (fun hsm hs => ?_)
  obtain ⟨l1, g1, u1, w1⟩ := ivsD_spec (xs := xs) (n := 2) (k := 1) (by omega)
  generalize hp1 : ivsD xs 2 1 = p1 at l1 g1 u1 w1
  obtain ⟨q1, k1⟩ := p1
  have l1 : q1.length = 2 := l1
  have w1 : k1 ≤ 1 + 9 * 2 := w1
  obtain ⟨aa, ab, rfl⟩ := len2 l1
  obtain ⟨l2, g2, u2, w2⟩ := ivsD_spec (xs := xs) (n := 2) (k := k1) (by omega)
  generalize hp2 : ivsD xs 2 k1 = p2 at l2 g2 u2 w2
  obtain ⟨q2, k2⟩ := p2
  have l2 : q2.length = 2 := l2
  have w2 : k2 ≤ k1 + 9 * 2 := w2
  obtain ⟨ba, bb, rfl⟩ := len2 l2
  have w3 := (ivD_spec (xs := xs) (k := k2) (by omega)).2.2.1
  clear l1 l2 u1 u2 g1 g2
  simp (maxSteps := 10000000) only [go_sem, ↓reduceIte, Nat.reduceMul, Nat.reduceDiv, Nat.reduceAdd, Nat.reduceEqDiff, Nat.reduceLeDiff, Nat.reduceLT, reduceCtorEq, Int.reduceNeg, Int.reduceLT, Int.reduceLE, Int.reduceAdd, Int.reduceToNat, Nat.reduceBEq, Int.reduceMul, Int.reduceSub, Nat.reduceSub, Int.reduceBNe, Nat.reduceBNe, Tlaw6_known2, Tlaw6_reckons, rKB, ofO, hp1, hp2, gBBJI, Int.toNat_one]
  repeat' first | (with_reducible apply And.intro) | (with_reducible apply condP <;> intro _)
  all_goals first | omega | (show chk _ _ = true; kernel_rfl) | with_reducible assumption | (simp only [go_sem, *, hd] <;> rfl) | rfl | (exfalso; simp_all only [Bool.true_eq_false, Bool.false_eq_true, reduceCtorEq]; done)
theorem v_bf2 (xs : List Nat) (A : Option Addr) (n c : Nat) (hd : ((dk xs 0 % 4 : Nat) : Int) = 2) : LC6 5 A n c xs [.s (.lit (.slice A n c))] := by
  refine lc6_of (O := orO ofO (orO (dkO 12 A n c (rK fun k => (k ≤ 900 ∧ ((dk xs k % 4 : Nat) : Int) = 2, iA 3, k + 1))) (orO (dkO 13 A n c (rKI fun k z => (k ≤ 700 ∧ 0 < z ∧ z ≤ 4, .s (boxL (ivsD xs z.toNat k).1), (ivsD xs z.toNat k).2))) (orO (dkO 18 A n c (rK fun k => (k ≤ 800, jA (ivD xs k).1, (ivD xs k).2))) (orO (dkO 19 A n c (rK fun k => (k ≤ 900, iA (precD xs k).1, (precD xs k).2))) (tblO (orT Tlaw6_known2 Tlaw6_reckons))))))) (by kernel_rfl) tyB_ok (fun w hA hn => only_or ofO_only (ofO_ok _ _) (only_or dkO_only (dkO_ok (xs := xs) (ent Tryz.func12 (by kernel_rfl) rfl) (rK_ok fun k hp => d_dim2 xs k hp.1 hp.2) hA hn) (only_or dkO_only (dkO_ok (xs := xs) (ent Tryz.func13 (by kernel_rfl) rfl) (rKI_ok fun k z hp => d_box hp) hA hn) (only_or dkO_only (dkO_ok (xs := xs) (ent Tryz.func18 (by kernel_rfl) rfl) (rK_ok fun k hp => (ivD_spec hp).2.2.2) hA hn) (only_or dkO_only (dkO_ok (xs := xs) (ent Tryz.func19 (by kernel_rfl) rfl) (rK_ok fun k hp => (precD_spec hp).2.2.2) hA hn) (tblO_ok (orT_ok Tlaw6_known2_ok Tlaw6_reckons_ok) _ w) (fun d st args => by simp [orO, refO, dkO, ofO, tblO, orT, noT, one, Tlaw6_known2, Tlaw6_reckons])) (fun d st args => by simp [orO, refO, dkO, ofO, tblO, orT, noT, one, Tlaw6_known2, Tlaw6_reckons])) (fun d st args => by simp [orO, refO, dkO, ofO, tblO, orT, noT, one, Tlaw6_known2, Tlaw6_reckons])) (fun d st args => by simp [orO, refO, dkO, ofO, tblO, orT, noT, one, Tlaw6_known2, Tlaw6_reckons])) (fun d st args => by simp [orO, refO, dkO, ofO, tblO, orT, noT, one, Tlaw6_known2, Tlaw6_reckons])) [] 2000 40 [.tmp 2] Tryz.func5 rfl Tryz.ntmps5 (by rw [Tryz.results5]) (by simp) rfl (fun hsm hs => ?_)
  obtain ⟨l1, g1, u1, w1⟩ := ivsD_spec (xs := xs) (n := 3) (k := 1) (by omega)
  generalize hp1 : ivsD xs 3 1 = p1 at l1 g1 u1 w1
  obtain ⟨q1, k1⟩ := p1
  have l1 : q1.length = 3 := l1
  have w1 : k1 ≤ 1 + 9 * 3 := w1
  obtain ⟨aa, ab, ac, rfl⟩ := len3 l1
  obtain ⟨l2, g2, u2, w2⟩ := ivsD_spec (xs := xs) (n := 3) (k := k1) (by omega)
  generalize hp2 : ivsD xs 3 k1 = p2 at l2 g2 u2 w2
  obtain ⟨q2, k2⟩ := p2
  have l2 : q2.length = 3 := l2
  have w2 : k2 ≤ k1 + 9 * 3 := w2
  obtain ⟨ba, bb, bc, rfl⟩ := len3 l2
  have w3 := (ivD_spec (xs := xs) (k := k2) (by omega)).2.2.1
  clear l1 l2 u1 u2 g1 g2
  simp (maxSteps := 10000000) only [go_sem, ↓reduceIte, Nat.reduceMul, Nat.reduceDiv, Nat.reduceAdd, Nat.reduceEqDiff, Nat.reduceLeDiff, Nat.reduceLT, reduceCtorEq, Int.reduceNeg, Int.reduceLT, Int.reduceLE, Int.reduceAdd, Int.reduceToNat, Nat.reduceBEq, Int.reduceMul, Int.reduceSub, Nat.reduceSub, Int.reduceBNe, Nat.reduceBNe, Tlaw6_known2, Tlaw6_reckons, rKB, ofO, hp1, hp2, gBBJI, Int.toNat_one]
  repeat' first | (with_reducible apply And.intro) | (with_reducible apply condP <;> intro _)
  all_goals first | omega | (show chk _ _ = true; kernel_rfl) | with_reducible assumption | (simp only [go_sem, *, hd] <;> rfl) | rfl | (exfalso; simp_all only [Bool.true_eq_false, Bool.false_eq_true, reduceCtorEq]; done)
theorem v_bf3 (xs : List Nat) (A : Option Addr) (n c : Nat) (hd : ((dk xs 0 % 4 : Nat) : Int) = 3) : LC6 5 A n c xs [.s (.lit (.slice A n c))] := by
  refine lc6_of (O := orO ofO (orO (dkO 12 A n c (rK fun k => (k ≤ 900 ∧ ((dk xs k % 4 : Nat) : Int) = 3, iA 4, k + 1))) (orO (dkO 13 A n c (rKI fun k z => (k ≤ 700 ∧ 0 < z ∧ z ≤ 4, .s (boxL (ivsD xs z.toNat k).1), (ivsD xs z.toNat k).2))) (orO (dkO 18 A n c (rK fun k => (k ≤ 800, jA (ivD xs k).1, (ivD xs k).2))) (orO (dkO 19 A n c (rK fun k => (k ≤ 900, iA (precD xs k).1, (precD xs k).2))) (tblO (orT Tlaw6_known2 Tlaw6_reckons))))))) (by kernel_rfl) tyB_ok (fun w hA hn => only_or ofO_only (ofO_ok _ _) (only_or dkO_only (dkO_ok (xs := xs) (ent Tryz.func12 (by kernel_rfl) rfl) (rK_ok fun k hp => d_dim3 xs k hp.1 hp.2) hA hn) (only_or dkO_only (dkO_ok (xs := xs) (ent Tryz.func13 (by kernel_rfl) rfl) (rKI_ok fun k z hp => d_box hp) hA hn) (only_or dkO_only (dkO_ok (xs := xs) (ent Tryz.func18 (by kernel_rfl) rfl) (rK_ok fun k hp => (ivD_spec hp).2.2.2) hA hn) (only_or dkO_only (dkO_ok (xs := xs) (ent Tryz.func19 (by kernel_rfl) rfl) (rK_ok fun k hp => (precD_spec hp).2.2.2) hA hn) (tblO_ok (orT_ok Tlaw6_known2_ok Tlaw6_reckons_ok) _ w) (fun d st args => by simp [orO, refO, dkO, ofO, tblO, orT, noT, one, Tlaw6_known2, Tlaw6_reckons])) (fun d st args => by simp [orO, refO, dkO, ofO, tblO, orT, noT, one, Tlaw6_known2, Tlaw6_reckons])) (fun d st args => by simp [orO, refO, dkO, ofO, tblO, orT, noT, one, Tlaw6_known2, Tlaw6_reckons])) (fun d st args => by simp [orO, refO, dkO, ofO, tblO, orT, noT, one, Tlaw6_known2, Tlaw6_reckons])) (fun d st args => by simp [orO, refO, dkO, ofO, tblO, orT, noT, one, Tlaw6_known2, Tlaw6_reckons])) [] 2000 40 [.tmp 2] Tryz.func5 rfl Tryz.ntmps5 (by rw [Tryz.results5]) (by simp) rfl (fun hsm hs => ?_)
  obtain ⟨l1, g1, u1, w1⟩ := ivsD_spec (xs := xs) (n := 4) (k := 1) (by omega)
  generalize hp1 : ivsD xs 4 1 = p1 at l1 g1 u1 w1
  obtain ⟨q1, k1⟩ := p1
  have l1 : q1.length = 4 := l1
  have w1 : k1 ≤ 1 + 9 * 4 := w1
  obtain ⟨aa, ab, ac, ad, rfl⟩ := len4 l1
  obtain ⟨l2, g2, u2, w2⟩ := ivsD_spec (xs := xs) (n := 4) (k := k1) (by omega)
  generalize hp2 : ivsD xs 4 k1 = p2 at l2 g2 u2 w2
  obtain ⟨q2, k2⟩ := p2
  have l2 : q2.length = 4 := l2
  have w2 : k2 ≤ k1 + 9 * 4 := w2
  obtain ⟨ba, bb, bc, bd, rfl⟩ := len4 l2
  have w3 := (ivD_spec (xs := xs) (k := k2) (by omega)).2.2.1
  clear l1 l2 u1 u2 g1 g2
  simp (maxSteps := 10000000) only [go_sem, ↓reduceIte, Nat.reduceMul, Nat.reduceDiv, Nat.reduceAdd, Nat.reduceEqDiff, Nat.reduceLeDiff, Nat.reduceLT, reduceCtorEq, Int.reduceNeg, Int.reduceLT, Int.reduceLE, Int.reduceAdd, Int.reduceToNat, Nat.reduceBEq, Int.reduceMul, Int.reduceSub, Nat.reduceSub, Int.reduceBNe, Nat.reduceBNe, Tlaw6_known2, Tlaw6_reckons, rKB, ofO, hp1, hp2, gBBJI, Int.toNat_one]
  repeat' first | (with_reducible apply And.intro) | (with_reducible apply condP <;> intro _)
  all_goals first | omega | (show chk _ _ = true; kernel_rfl) | with_reducible assumption | (simp only [go_sem, *, hd] <;> rfl) | rfl | (exfalso; simp_all only [Bool.true_eq_false, Bool.false_eq_true, reduceCtorEq]; done)
theorem boxfour_walk (W : World) (a : Option Addr) (l c : Nat) (xs : List Nat) (hx : Arg W a l c xs) (ht : Tab W) : Calls Tryz.prog 5 #[.slice a l c] W fun e w' => e = .returned (.bool true) ∧ Below W.heap.size W w' := by
  have hA : RA envA (fun _ => false) W [.s (.lit (.slice a l c))] [.slice a l c] := ⟨_, _, rfl, RL.one.2 rfl, rfl⟩
  have h4 : dk xs 0 % 4 = 0 ∨ dk xs 0 % 4 = 1 ∨ dk xs 0 % 4 = 2 ∨ dk xs 0 % 4 = 3 := by omega
  rcases h4 with h | h | h | h
  · exact v_bf0 xs a l c (by rw [h]; rfl) W _ ht hx hA
  · exact v_bf1 xs a l c (by rw [h]; rfl) W _ ht hx hA
  · exact v_bf2 xs a l c (by rw [h]; rfl) W _ ht hx hA
  · exact v_bf3 xs a l c (by rw [h]; rfl) W _ ht hx hA
end Go.Proofs.YthhaelnildaemaaGreatDoor
