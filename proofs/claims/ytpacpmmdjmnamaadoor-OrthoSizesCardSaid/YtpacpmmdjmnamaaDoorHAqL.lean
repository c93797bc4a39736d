/- OrthoSizes. -/
import Derived.Test.YtpacpmmdjmnamaaDoorHAqJ
namespace Go.Proofs.YtpacpmmdjmnamaaDoor
open Go.RowKit Nx
set_option linter.unusedVariables false
set_option linter.unusedSimpArgs false
attribute [local go_sem] run init X.L J.L vL X.eta J.eta Q.eta List.cons_append List.nil_append brkK brkf_b brkf_t exef_some exif_some condf_b opf bodyE addR skipE stepOp stepLoad stepStore stepField stepCall stepBS stepBi stepCv stepIx inL mentA ment dom evs evl evp evd okeys look fillA capsOf wordsOf rowsOf lenOf convK binV shV intV unV boolT tiB tiI tiW tiD tiF tiU tiNum tiIv tiVal tiSc okLf okD keysOf tblO cvA cvL dnL olA olL noO noA cbL cbA orT noT one asNum asIv asVal postf_some resA tupA clA clL dropTo decide_true decide_false List.all_cons List.all_nil Bool.and_true Bool.and_self true_and and_true and_self List.length_cons List.length_nil List.drop_succ_cons List.drop_zero List.take_succ_cons List.take_zero List.getElem?_cons_zero List.getElem?_cons_succ List.map_cons List.map_nil false_implies true_implies Option.bind_some List.getElem?_toArray Bool.false_eq_true List.append_nil List.flatMap_cons List.flatMap_nil true_or or_true forall_const List.reverse_cons List.reverse_nil Option.isSome_some Option.any_some Nat.lt_irrefl not_true_eq_false Bool.not_true Bool.not_false imp_self implies_true Bool.not_eq_true' Bool.not_eq_false' Bool.true_eq_false memOf cntF nmL rnL nmA rnA isV contsOf ndB refO orO pin Int.toNat_zero decide_eq_true_eq wrap0 wrap1 ci1 ci2 BEq.rfl beq_self_eq_true Int.natCast_zero ge_iff_le gt_iff_lt Int.le_refl Nat.zero_mul Nat.one_mul Nat.zero_add Nat.zero_lt_succ Nat.lt_add_one Nat.le_refl List.append_eq dkO dpf_some rK rKI Int.toNat_natCast dk0 gN gNN gNI gI gNNIB gNIB gJ gJJ gJN gJJI gJI stepB0 stepMk stepSl stepAp apY optI okO nilV slT resB outPs outLs outL dnT noE boxL_nil boxL_cons ptsL_nil ptsL_cons bne_self_eq_false wr2 wr3 wr4 wr5 wr6 wr7 wr8 gB gP gBB gBP gBZ gBBZ bC_nil bC_cons pC_nil pC_cons fvO Lc.up tiS List.replicate_succ List.replicate_zero List.flatten_cons List.flatten_nil Int.ofNat_lt Int.cast_ofNat_Int Int.ofNat_eq_natCast List.isEmpty_nil List.isEmpty_cons and_false false_and List.cons_ne_nil Nat.add_zero ite_true ite_false if_true if_false Nat.le_zero_eq eq_self Bool.and_false Bool.false_and Bool.true_and tiQ gA gE asZ asT asV1 asN1 asB_b asP_b asM_m asQ_m ite_self AV.s cond_true cond_false Bool.or_true Bool.true_or Bool.or_false Bool.false_or
attribute [local go_sem ↓] cond_true cond_false not_cond outL_box outL_pts clL_box clL_pts okL_box okL_pts ment_box ment_pts olL_box olL_pts cvL_box cvL_pts noO_box noO_pts asB_box asP_pts len_box len_pts
attribute [local irreducible] chk
set_option maxRecDepth 100000 in
set_option maxHeartbeats 4000000 in
theorem v_osE (xs : List Nat) (A : Option Addr) (n0 c : Nat) {n k1 k2 : Nat} {m : List (List X)} {p : Int} (hD : DCt 7 xs [] 0 (iA (n : Int)) 1) (hP : DCt 8 xs [iA (n : Int)] 1 (.s (qL m)) k1) (hQ : DCt 9 xs [] k1 (iA p) k2) (hSm : (∀ r ∈ m, ∀ x ∈ r, Small B64 x.xs) = True) {e : Int} (hc : colsS p m = ([], e)) (he : (e != 0) = true) : LO6 3 A n0 c xs [.s (.lit (.slice A n0 c))] := by
  refine lo6_of (O := orO ofO (orO (dkO 7 A n0 c (rK fun k => (k = 0, iA (n : Int), 1))) (orO (dkO 8 A n0 c (rKI fun k z => (k = 1 ∧ z = (n : Int), .s (qL m), k1))) (orO (dkO 9 A n0 c (rK fun k => (k = k1, iA p, k2))) (tblO (orT T9_known (orT Tor_col (orT Tnum_Abs (orT Tnum_Cmp (orT Tnum_Mul Tnum_Same)))))))))) (by kernel_rfl) tyO_ok (fun w hA hn => only_or ofO_only (ofO_ok _ _) (only_or dkO_only (dkO_ok (xs := xs) (ent Tryd.func7 (by kernel_rfl) rfl) (rK_ok fun k hp => by subst hp; exact hD) hA hn) (only_or dkO_only (dkO_ok (xs := xs) (ent Tryd.func8 (by kernel_rfl) rfl) (rKI_ok fun k z hp => by obtain ⟨rfl, rfl⟩ := hp; exact hP) hA hn) (only_or dkO_only (dkO_ok (xs := xs) (ent Tryd.func9 (by kernel_rfl) rfl) (rK_ok fun k hp => by subst hp; exact hQ) hA hn) (tblO_ok (orT_ok T9_known_ok (orT_ok Tor_col_ok (orT_ok Tnum_Abs_ok (orT_ok Tnum_Cmp_ok (orT_ok Tnum_Mul_ok Tnum_Same_ok))))) _ w) (fun d st args => by simp [orO, refO, dkO, ofO, tblO, orT, noT, one, T9_known, Tor_col, Tnum_Abs, Tnum_Cmp, Tnum_Mul, Tnum_Same])) (fun d st args => by simp [orO, refO, dkO, ofO, tblO, orT, noT, one, T9_known, Tor_col, Tnum_Abs, Tnum_Cmp, Tnum_Mul, Tnum_Same])) (fun d st args => by simp [orO, refO, dkO, ofO, tblO, orT, noT, one, T9_known, Tor_col, Tnum_Abs, Tnum_Cmp, Tnum_Mul, Tnum_Same])) (fun d st args => by simp [orO, refO, dkO, ofO, tblO, orT, noT, one, T9_known, Tor_col, Tnum_Abs, Tnum_Cmp, Tnum_Mul, Tnum_Same])) [] 900 138 [.tmp 2] Tryd.func3 rfl Tryd.ntmps3 (by rw [Tryd.results3]) (by simp) rfl (fun hsm hs => ?_)
  simp (maxSteps := 10000000) only [go_sem, ↓reduceIte, Nat.reduceMul, Nat.reduceDiv, Nat.reduceAdd, Nat.reduceEqDiff, Nat.reduceLeDiff, Nat.reduceLT, reduceCtorEq, Int.reduceNeg, Int.reduceLT, Int.reduceLE, Int.reduceAdd, Int.reduceToNat, Nat.reduceBEq, Int.reduceMul, Int.reduceSub, Nat.reduceSub, Int.reduceBNe, Nat.reduceBNe, tyO, T9_known, Tor_col, Tnum_Abs, Tnum_Cmp, Tnum_Mul, Tnum_Same, ofO, hc, he, hSm, bxe, pxe, lpf, hdS, hd1, pick, forget, frh, frz, frS, frA, frL]
  repeat' first | (with_reducible apply And.intro) | (with_reducible apply condP <;> intro _)
  all_goals first | (show chk _ _ = true; kernel_rfl) | (simp only [inW]; decide) | with_reducible assumption | omega | rfl | (simp only [AV.s, cond_true, cond_false, Bool.and_true, Bool.true_and, Bool.and_false, Bool.false_and, Bool.not_true, Bool.not_false, *]; done)
set_option maxRecDepth 100000 in
set_option maxHeartbeats 4000000 in
theorem v_osO (xs : List Nat) (A : Option Addr) (n0 c : Nat) {n k1 k2 : Nat} {m : List (List X)} {p : Int} (hD : DCt 7 xs [] 0 (iA (n : Int)) 1) (hP : DCt 8 xs [iA (n : Int)] 1 (.s (qL m)) k1) (hQ : DCt 9 xs [] k1 (iA p) k2) (hSm : (∀ r ∈ m, ∀ x ∈ r, Small B64 x.xs) = True) (h4 : n ≤ 4) (h1 : 1 ≤ n) (hml : m.length = n) (hmr : ∀ i, i < n → (m.getD i []).length = n) {C : List (List X)} (hCl : C.length = n) (hc : colsS p m = (trn C, 0)) (hsz : ∀ j, j < n → (decide (cmpx (grN (C.getD j []) n) (⟨false, -1, [1]⟩ : X) < 0) = false) ∧ (decide (0 ≤ cmpx (grN (C.getD j []) n) (⟨false, 0, [1]⟩ : X)) = false)) (hfi : ∀ i, i < n → ∃ q, two times ((C.getD 0 []).getD i zX) ((m.getD 0 []).getD 0 zX) = (q, 0) ∧ two times ((C.getD 0 []).getD 0 zX) ((m.getD i []).getD 0 zX) = (q, 0)) : LO6 3 A n0 c xs [.s (.lit (.slice A n0 c))] := by
  refine lo6_of (O := orO ofO (orO (dkO 7 A n0 c (rK fun k => (k = 0, iA (n : Int), 1))) (orO (dkO 8 A n0 c (rKI fun k z => (k = 1 ∧ z = (n : Int), .s (qL m), k1))) (orO (dkO 9 A n0 c (rK fun k => (k = k1, iA p, k2))) (tblO (orT T9_known (orT Tor_col (orT Tnum_Abs (orT Tnum_Cmp (orT Tnum_Mul Tnum_Same)))))))))) (by kernel_rfl) tyO_ok (fun w hA hn => only_or ofO_only (ofO_ok _ _) (only_or dkO_only (dkO_ok (xs := xs) (ent Tryd.func7 (by kernel_rfl) rfl) (rK_ok fun k hp => by subst hp; exact hD) hA hn) (only_or dkO_only (dkO_ok (xs := xs) (ent Tryd.func8 (by kernel_rfl) rfl) (rKI_ok fun k z hp => by obtain ⟨rfl, rfl⟩ := hp; exact hP) hA hn) (only_or dkO_only (dkO_ok (xs := xs) (ent Tryd.func9 (by kernel_rfl) rfl) (rK_ok fun k hp => by subst hp; exact hQ) hA hn) (tblO_ok (orT_ok T9_known_ok (orT_ok Tor_col_ok (orT_ok Tnum_Abs_ok (orT_ok Tnum_Cmp_ok (orT_ok Tnum_Mul_ok Tnum_Same_ok))))) _ w) (fun d st args => by simp [orO, refO, dkO, ofO, tblO, orT, noT, one, T9_known, Tor_col, Tnum_Abs, Tnum_Cmp, Tnum_Mul, Tnum_Same])) (fun d st args => by simp [orO, refO, dkO, ofO, tblO, orT, noT, one, T9_known, Tor_col, Tnum_Abs, Tnum_Cmp, Tnum_Mul, Tnum_Same])) (fun d st args => by simp [orO, refO, dkO, ofO, tblO, orT, noT, one, T9_known, Tor_col, Tnum_Abs, Tnum_Cmp, Tnum_Mul, Tnum_Same])) (fun d st args => by simp [orO, refO, dkO, ofO, tblO, orT, noT, one, T9_known, Tor_col, Tnum_Abs, Tnum_Cmp, Tnum_Mul, Tnum_Same])) [9999997, 108, 9, 9999999, 8, 10, 14, 18, 19, 20, 21, 22, 9999999, 8, 10, 14, 18, 19, 20, 21, 22, 24, 25, 26, 30] ((n + 1) * 5000 + ((n + 1) * 1500 + 500) + 900) 138 [.tmp 2] Tryd.func3 rfl Tryd.ntmps3 (by rw [Tryd.results3]) (by simp) rfl (fun hsm hs => ?_)
  have hT : (trn C).length = n := by rw [trn_len, hCl]
  have hTn : ((trn C).length : Int) = (n : Int) := by rw [hT]
  have hne : ((n : Int) != (n : Int)) = false := bne_self_eq_false _
  simp (maxSteps := 10000000) only [go_sem, ↓reduceIte, Nat.reduceMul, Nat.reduceDiv, Nat.reduceAdd, Nat.reduceEqDiff, Nat.reduceLeDiff, Nat.reduceLT, reduceCtorEq, Int.reduceNeg, Int.reduceLT, Int.reduceLE, Int.reduceAdd, Int.reduceToNat, Nat.reduceBEq, Int.reduceMul, Int.reduceSub, Nat.reduceSub, Int.reduceBNe, Nat.reduceBNe, tyO, T9_known, Tor_col, Tnum_Abs, Tnum_Cmp, Tnum_Mul, Tnum_Same, ofO, hdT, Option.isSome_none, Nat.sub_zero, Nat.zero_le, hc, hSm, hTn, hne, inW]
  refine loop_ind 5000 (fun j => [(8, iA (n : Int)), (10, .s (qL m)), (14, .s (qL (trn C))), (18, .s (.own 9 0)), (19, .v true [.lit (.bool false), .lit (.int .i64 0), .ws [1]]), (20, .s (.own 10 0)), (21, .v true [.lit (.bool false), .lit (.int .i64 (-1)), .ws [1]]), (22, iA (j : Int))]) n (fun _ => True) ((n + 1) * 1500 + 500) (fun j _ => rfl) (fun j m1 hm1 hj _ ih => ?_) (by omega) trivial rfl
  rcases Nat.lt_or_ge j n with hlt | hge
  · replace ih := ih hlt trivial
    obtain ⟨z1, z2⟩ := hsz j hlt
    have d := decide_eq_true (show (j : Int) < (n : Int) by omega)
    have g0 : (0 ≤ (j : Int)) = True := eq_true (by omega)
    have g1 : (j < n) = True := eq_true hlt
    have hw := wrap_nat (j := j) (by omega)
    simp (maxSteps := 10000000) only [go_sem, ↓reduceIte, Nat.reduceMul, Nat.reduceDiv, Nat.reduceAdd, Nat.reduceEqDiff, Nat.reduceLeDiff, Nat.reduceLT, reduceCtorEq, Int.reduceNeg, Int.reduceLT, Int.reduceLE, Int.reduceAdd, Int.reduceToNat, Nat.reduceBEq, Int.reduceMul, Int.reduceSub, Nat.reduceSub, Int.reduceBNe, Nat.reduceBNe, tyO, T9_known, Tor_col, Tnum_Abs, Tnum_Cmp, Tnum_Mul, Tnum_Same, ofO, hdT, Option.isSome_none, Nat.sub_zero, Nat.zero_le, d, g0, g1]
    generalize hG : grN (C.getD j []) = G at *
    refine loop_ind 900 (fun i => [(8, iA (n : Int)), (10, .s (qL m)), (14, .s (qL (trn C))), (18, .s (.own 9 0)), (19, .v true [.lit (.bool false), .lit (.int .i64 0), .ws [1]]), (20, .s (.own 10 0)), (21, .v true [.lit (.bool false), .lit (.int .i64 (-1)), .ws [1]]), (22, iA (j : Int)), (24, .s (.own 12 0)), (25, .v true (G i).L), (26, iA (i : Int))]) n (fun _ => True) m1 (fun i _ => rfl) (fun i m2 hL2 hi _ ihJ => ?_) (by omega) trivial (by rw [← hG]; rfl)
    obtain ⟨r2, rfl⟩ := Nat.exists_eq_add_of_le hL2
    rcases Nat.lt_or_ge i n with hlt2 | hge2
    · replace ihJ := ihJ hlt2 trivial
      have hs : G (i + 1) = bif decide (0 < cmpx (qx (absx ((C.getD j []).getD i zX))) (G i)) then qx (absx ((C.getD j []).getD i zX)) else G i := by rw [← hG]; rfl
      have hr := trn_get (m := C) (i := i) (by omega)
      have hy := row_get (m := C) (i := i) (j := j) (by omega)
      have hRl : ((C.map fun r => r.getD i zX).length : Int) = (n : Int) := by rw [List.length_map, hCl]
      have hRn : (C.map fun r => r.getD i zX).length = n := by rw [List.length_map, hCl]
      generalize (C.getD j []).getD i zX = y at *
      generalize (C.map fun r => r.getD i zX) = R at *
      have e1 := rP_at2 hr
      have e2 := pC_at' hy
      have d2 := decide_eq_true (show (i : Int) < (n : Int) by omega)
      have f0 : (0 ≤ (i : Int)) = True := eq_true (by omega)
      have f1 : (i < (trn C).length) = True := eq_true (by omega)
      have f2 : (j < R.length) = True := eq_true (by omega)
      have f3 : (i < n) = True := eq_true hlt2
      have hw2 := wrap_nat (j := i) (by omega)
      cases hX : decide (0 < cmpx (qx (absx y)) (G i)) with
      | true =>
        rw [hX, cond_true] at hs
        simp (maxSteps := 10000000) only [go_sem, ↓reduceIte, Nat.reduceMul, Nat.reduceDiv, Nat.reduceAdd, Nat.reduceEqDiff, Nat.reduceLeDiff, Nat.reduceLT, reduceCtorEq, Int.reduceNeg, Int.reduceLT, Int.reduceLE, Int.reduceAdd, Int.reduceToNat, Nat.reduceBEq, Int.reduceMul, Int.reduceSub, Nat.reduceSub, Int.reduceBNe, Nat.reduceBNe, tyO, T9_known, Tor_col, Tnum_Abs, Tnum_Cmp, Tnum_Mul, Tnum_Same, ofO, hdT, Option.isSome_none, Nat.sub_zero, Nat.zero_le, d2, f0, f1, f2, f3, g0, e1, e2, hRl, hne, hX, hw2]
        repeat' first | (with_reducible apply And.intro) | (with_reducible apply condP <;> intro _)
        all_goals first | (show chk _ _ = true; kernel_rfl) | (exact ihJ _ _ (by rw [hs]; rfl)) | with_reducible assumption | rfl
      | false =>
        rw [hX, cond_false] at hs
        simp (maxSteps := 10000000) only [go_sem, ↓reduceIte, Nat.reduceMul, Nat.reduceDiv, Nat.reduceAdd, Nat.reduceEqDiff, Nat.reduceLeDiff, Nat.reduceLT, reduceCtorEq, Int.reduceNeg, Int.reduceLT, Int.reduceLE, Int.reduceAdd, Int.reduceToNat, Nat.reduceBEq, Int.reduceMul, Int.reduceSub, Nat.reduceSub, Int.reduceBNe, Nat.reduceBNe, tyO, T9_known, Tor_col, Tnum_Abs, Tnum_Cmp, Tnum_Mul, Tnum_Same, ofO, hdT, Option.isSome_none, Nat.sub_zero, Nat.zero_le, d2, f0, f1, f2, f3, g0, e1, e2, hRl, hne, hX, hw2]
        repeat' first | (with_reducible apply And.intro) | (with_reducible apply condP <;> intro _)
        all_goals first | (show chk _ _ = true; kernel_rfl) | (exact ihJ _ _ (by rw [hs]; rfl)) | with_reducible assumption | rfl
    · obtain rfl : i = n := by omega
      have d2 : decide ((i : Int) < (i : Int)) = false := decide_eq_false (by omega)
      simp (maxSteps := 10000000) only [go_sem, ↓reduceIte, Nat.reduceMul, Nat.reduceDiv, Nat.reduceAdd, Nat.reduceEqDiff, Nat.reduceLeDiff, Nat.reduceLT, reduceCtorEq, Int.reduceNeg, Int.reduceLT, Int.reduceLE, Int.reduceAdd, Int.reduceToNat, Nat.reduceBEq, Int.reduceMul, Int.reduceSub, Nat.reduceSub, Int.reduceBNe, Nat.reduceBNe, tyO, T9_known, Tor_col, Tnum_Abs, Tnum_Cmp, Tnum_Mul, Tnum_Same, ofO, hdT, Option.isSome_none, Nat.sub_zero, Nat.zero_le, d2, z1, z2, hw]
      repeat' first | (with_reducible apply And.intro) | (with_reducible apply condP <;> intro _)
      all_goals first | (show chk _ _ = true; kernel_rfl) | (rw [Nat.add_assoc]; exact ih _ _ rfl) | with_reducible assumption | rfl
  · obtain rfl : j = n := by omega
    obtain ⟨r1, rfl⟩ := Nat.exists_eq_add_of_le hm1
    have d : decide ((j : Int) < (j : Int)) = false := decide_eq_false (by omega)
    simp (maxSteps := 10000000) only [go_sem, ↓reduceIte, Nat.reduceMul, Nat.reduceDiv, Nat.reduceAdd, Nat.reduceEqDiff, Nat.reduceLeDiff, Nat.reduceLT, reduceCtorEq, Int.reduceNeg, Int.reduceLT, Int.reduceLE, Int.reduceAdd, Int.reduceToNat, Nat.reduceBEq, Int.reduceMul, Int.reduceSub, Nat.reduceSub, Int.reduceBNe, Nat.reduceBNe, tyO, T9_known, Tor_col, Tnum_Abs, Tnum_Cmp, Tnum_Mul, Tnum_Same, ofO, hdT, Option.isSome_none, Nat.sub_zero, Nat.zero_le, d]
    refine loop_ind 1500 (fun i => [(8, iA (j : Int)), (10, .s (qL m)), (14, .s (qL (trn C))), (18, .s (.own 9 0)), (19, .v true [.lit (.bool false), .lit (.int .i64 0), .ws [1]]), (20, .s (.own 10 0)), (21, .v true [.lit (.bool false), .lit (.int .i64 (-1)), .ws [1]]), (22, iA (j : Int)), (30, iA ((i + 1 : Nat) : Int))]) (j - 1) (fun _ => True) 0 (fun i _ => rfl) (fun i m2 _ hi _ ih3 => ?_) (by have := Nat.mul_le_mul_right 1500 (show j - 1 + 1 ≤ j + 1 by omega); omega) trivial rfl
    rcases Nat.lt_or_ge (i + 1) j with hlt | hge
    · replace ih3 := ih3 (by omega) trivial
      obtain ⟨q, w1, w2⟩ := hfi (i + 1) hlt
      have r0 := trn_get (m := C) (i := 0) (by omega)
      have r1 := trn_get (m := C) (i := i + 1) (by omega)
      have y0 := row_get (m := C) (i := 0) (j := 0) (by omega)
      have y1 := row_get (m := C) (i := i + 1) (j := 0) (by omega)
      have a0 := at_get [] (show 0 < m.length by omega)
      have a1 := at_get [] (show i + 1 < m.length by omega)
      have b0 := at_get zX (show 0 < (m.getD 0 []).length by rw [hmr 0 (by omega)]; omega)
      have b1 := at_get zX (show 0 < (m.getD (i + 1) []).length by rw [hmr (i + 1) (by omega)]; omega)
      have lR0 : (0 < (C.map fun r => r.getD 0 zX).length) = True := eq_true (by rw [List.length_map]; omega)
      have lR1 : (0 < (C.map fun r => r.getD (i + 1) zX).length) = True := eq_true (by rw [List.length_map]; omega)
      have lA0 : (0 < (m.getD 0 []).length) = True := eq_true (by rw [hmr 0 (by omega)]; omega)
      have lA1 : (0 < (m.getD (i + 1) []).length) = True := eq_true (by rw [hmr (i + 1) (by omega)]; omega)
      generalize (C.getD 0 []).getD (i + 1) zX = u1 at *
      generalize (C.getD 0 []).getD 0 zX = u0 at *
      generalize (m.getD 0 []).getD 0 zX = t0 at *
      generalize (m.getD (i + 1) []).getD 0 zX = t1 at *
      generalize (C.map fun r => r.getD 0 zX) = R0 at *
      generalize (C.map fun r => r.getD (i + 1) zX) = R1 at *
      generalize m.getD 0 [] = M0 at *
      generalize m.getD (i + 1) [] = M1 at *
      have e0 := rP_at2 r0
      have e1 := rP_at2 r1
      have e2 := rP_at2 a0
      have e3 := rP_at2 a1
      have e4 := pC_at' y0
      have e5 := pC_at' y1
      have e6 := pC_at' b0
      have e7 := pC_at' b1
      rw [Nat.zero_mul, List.drop_zero] at e0 e2 e4 e5 e6 e7
      have d2 := decide_eq_true (show ((i + 1 : Nat) : Int) < (j : Int) by omega)
      have f0 : (0 ≤ ((i + 1 : Nat) : Int)) = True := eq_true (by omega)
      have f1 : (i + 1 < (trn C).length) = True := eq_true (by omega)
      have f2 : (0 < (trn C).length) = True := eq_true (by omega)
      have f3 : (i + 1 < m.length) = True := eq_true (by omega)
      have f4 : (0 < m.length) = True := eq_true (by omega)
      have f5 : (i + 1 < j) = True := eq_true hlt
      have f6 : (0 < j) = True := eq_true (by omega)
      have hw2 := wrap_nat (j := i + 1) (by omega)
      simp (maxSteps := 10000000) only [go_sem, ↓reduceIte, Nat.reduceMul, Nat.reduceDiv, Nat.reduceAdd, Nat.reduceEqDiff, Nat.reduceLeDiff, Nat.reduceLT, reduceCtorEq, Int.reduceNeg, Int.reduceLT, Int.reduceLE, Int.reduceAdd, Int.reduceToNat, Nat.reduceBEq, Int.reduceMul, Int.reduceSub, Nat.reduceSub, Int.reduceBNe, Nat.reduceBNe, tyO, T9_known, Tor_col, Tnum_Abs, Tnum_Cmp, Tnum_Mul, Tnum_Same, ofO, hdT, Option.isSome_none, Nat.sub_zero, Nat.zero_le, d2, f0, f1, f2, f3, f4, f5, f6, lR0, lR1, lA0, lA1, e0, e1, e2, e3, e4, e5, e6, e7, w1, w2, samex_refl, hw2]
      repeat' first | (with_reducible apply And.intro) | (with_reducible apply condP <;> intro _)
      all_goals first | (show chk _ _ = true; kernel_rfl) | (exact ih3 _ _ rfl) | with_reducible assumption | rfl
    · have d2 : decide (((i + 1 : Nat) : Int) < (j : Int)) = false := decide_eq_false (by omega)
      have f5 : (i + 1 < j) = False := eq_false (by omega)
      have f6 : (((i + 1 : Nat) : Int) < (j : Int)) = False := eq_false (by omega)
      simp (maxSteps := 10000000) only [go_sem, ↓reduceIte, Nat.reduceMul, Nat.reduceDiv, Nat.reduceAdd, Nat.reduceEqDiff, Nat.reduceLeDiff, Nat.reduceLT, reduceCtorEq, Int.reduceNeg, Int.reduceLT, Int.reduceLE, Int.reduceAdd, Int.reduceToNat, Nat.reduceBEq, Int.reduceMul, Int.reduceSub, Nat.reduceSub, Int.reduceBNe, Nat.reduceBNe, tyO, T9_known, Tor_col, Tnum_Abs, Tnum_Cmp, Tnum_Mul, Tnum_Same, ofO, hdT, Option.isSome_none, Nat.sub_zero, Nat.zero_le, d2, f5, f6]
      repeat' first | (with_reducible apply And.intro) | (with_reducible apply condP <;> intro _)
      all_goals first | (show chk _ _ = true; kernel_rfl) | (simp only [inW]; decide) | with_reducible assumption | omega | rfl | (simp only [AV.s, cond_true, cond_false, Bool.and_true, Bool.true_and, Bool.and_false, Bool.false_and, Bool.not_true, Bool.not_false, *]; done)
theorem orthosizes_walk (W : World) (a : Option Addr) (l c : Nat) (xs : List Nat) (hx : Arg W a l c xs) (ht : Tab W) : Calls Tryd.prog 3 #[.slice a l c] W fun e w' => e = .returned (.bool true) ∧ Below W.heap.size W w' := by
  have hA : RA envA (fun _ => false) W [.s (.lit (.slice a l c))] [.slice a l c] := ⟨_, _, rfl, RL.one.2 rfl, rfl⟩
  have hD := od_dim xs 0 (by omega)
  obtain ⟨n, hn⟩ : ∃ n, n = dk xs 0 % 4 + 1 := ⟨_, rfl⟩
  rw [← hn] at hD
  obtain ⟨m, k1, ⟨hm, hf⟩, g1, g2, hP⟩ := opts_ex (xs := xs) (k := 1) (n := n) hx.2 (by omega) (by omega) (by omega)
  obtain ⟨_, _, _, hQ⟩ := oprecD_spec (xs := xs) (k := k1) (by omega)
  have hg : ∀ r ∈ m, ∀ x ∈ r, GX x := fun r hr x hx' => by
    obtain ⟨q, hq, rfl⟩ := hf r hr x hx'
    exact sx_gx (few_sx hq)
  have hSm : (∀ r ∈ m, ∀ x ∈ r, Small B64 x.xs) = True := eq_true fun r hr x hx' => (hg r hr x hx').2
  generalize (oprecD xs k1).1 = p at hQ
  generalize (oprecD xs k1).2 = k2 at hQ
  cases he : (colsS p m).2 != 0 with
  | true =>
    have hc : colsS p m = ([], (colsS p m).2) := Prod.ext (cols_bad he) rfl
    exact v_osE xs a l c hD hP hQ hSm hc he W _ ht hx hA
  | false =>
    have e0 : (colsS p m).2 = 0 := by simpa using he
    obtain ⟨C, c1, c2, c3, c4, c5⟩ := cols_each hm (by omega) hg he
    have hc : colsS p m = (trn C, 0) := Prod.ext c1 e0
    have hmr : ∀ i, i < n → (m.getD i []).length = n := fun i hi => hm.2 _ (List.mem_of_getElem? (at_get [] (by rw [hm.1]; exact hi)))
    have hfw : ∀ x ∈ (m.map fun r => r.getD 0 zX), ∃ q, Few q ∧ x = qx q := fun x hx' => by
      obtain ⟨r, hr, rfl⟩ := List.mem_map.1 hx'
      exact hf r hr _ (List.mem_of_getElem? (at_get zX (by rw [hm.2 r hr]; omega)))
    obtain ⟨k, hk, s1, s2⟩ := sca_first hfw c4
    have hcl : (m.map fun r => r.getD 0 zX).length = n := by rw [List.length_map, hm.1]
    have hcg : ∀ i, i < n → (m.map fun r => r.getD 0 zX).getD i zX = (m.getD i []).getD 0 zX := fun i hi => by
      rw [List.getD_eq_getElem?_getD, row_get (by rw [hm.1]; exact hi)]; rfl
    refine v_osO xs a l c hD hP hQ hSm (by omega) (by omega) hm.1 hmr c2 hc (fun j hj => ?_) (fun i hi => ?_) W _ ht hx hA
    · obtain ⟨w, w1, w2, w3, w4⟩ := c3 j hj
      have := sca_size w1 w3
      rw [w2, ← w4] at this
      exact this
    · obtain ⟨q, f1, q1, q2⟩ := s2 i (by omega)
      obtain ⟨t, f2, t1, t2⟩ := s2 0 (by omega)
      obtain ⟨r, r1, r2⟩ := cross_sc f1 f2 hk
      rw [hcg i hi] at q1
      rw [hcg 0 (by omega)] at t1
      rw [← c5] at q2 t2
      exact ⟨r, by rw [q2, t1]; exact r1, by rw [t2, q1]; exact r2⟩
end Go.Proofs.YtpacpmmdjmnamaaDoor
