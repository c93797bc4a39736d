/- Decks, with the types of numbers alone; what is known of package ortho. -/
import Derived.Test.YtpacpmmdjmnamaaDoorHAq2
namespace Go.Proofs.YtpacpmmdjmnamaaDoor
open Go.RowKit Nx
set_option linter.unusedVariables false
set_option linter.unusedSimpArgs false
set_option maxRecDepth 100000
set_option maxHeartbeats 4000000
attribute [local go_sem] run init X.L J.L vL X.eta J.eta Q.eta List.cons_append List.nil_append brkK brkf_b brkf_t exef_some exif_some condf_b opf bodyE addR skipE stepOp stepLoad stepStore stepField stepCall stepBS stepBi stepCv stepIx lpf hdS hd1 pick forget inL mentA ment dom evs evl evp evd okeys look fillA capsOf wordsOf rowsOf lenOf convK binV shV intV unV boolT tiB tiI tiW tiD tiF tiU tiNum tiIv tiVal tiSc okLf okD keysOf tblO cvA cvL dnL olA olL noO noA cbL cbA orT noT one asNum asIv asVal postf_some resA tupA clA clL dropTo decide_true decide_false List.all_cons List.all_nil Bool.and_true Bool.and_self true_and and_true and_self List.length_cons List.length_nil List.drop_succ_cons List.drop_zero List.take_succ_cons List.take_zero List.getElem?_cons_zero List.getElem?_cons_succ List.map_cons List.map_nil false_implies true_implies Option.bind_some List.getElem?_toArray Bool.false_eq_true List.append_nil List.flatMap_cons List.flatMap_nil true_or or_true forall_const List.reverse_cons List.reverse_nil Option.isSome_some Option.any_some Nat.lt_irrefl not_true_eq_false Bool.not_true Bool.not_false imp_self implies_true Bool.not_eq_true' Bool.not_eq_false' Bool.true_eq_false memOf cntF nmL rnL nmA rnA isV contsOf ndB refO orO pin Int.toNat_zero decide_eq_true_eq wrap0 wrap1 ci1 ci2 BEq.rfl beq_self_eq_true Int.natCast_zero ge_iff_le gt_iff_lt Int.le_refl Nat.zero_mul Nat.one_mul Nat.zero_add Nat.zero_lt_succ Nat.lt_add_one Nat.le_refl List.append_eq dkO dpf_some rK rKI Int.toNat_natCast gN gNN gNI gI gNNIB gNIB gJ gJJ gJN gJJI gJI stepB0 stepMk stepSl stepAp apY optI okO nilV slT resB outPs outLs outL dnT noE tiS List.isEmpty_nil AV.s cond_true cond_false Bool.true_and Bool.and_false Bool.false_and Bool.or_true Bool.true_or Bool.or_false Bool.false_or
attribute [local go_sem ↓] cond_true cond_false not_cond
attribute [local irreducible] chk
theorem od_small (xs : List Nat) (k : Nat)  (hk : k ≤ 900) : DCt 15 xs [] k (nA (res (nm (bits .and .u64 ((dk xs k : Nat) : Int) 1 == 1) (nval B64 [(bits .and .u64 ((((dk xs k : Nat) : Int)).fdiv (2 ^ min 1 64)) 63).toNat]) (IntKind.i64.wrap (IntKind.i64.wrap (((((dk xs k : Nat) : Int)).fdiv (2 ^ min 7 64)).tmod 9) - 6)))).1) (k + 1) := by
  refine dct_of (O := fun A n c => orO (dkO 32 A n c (rK fun k => (k ≤ 1000, .s (.lit (.int .u64 (dk xs k : Int))), k + 1))) (tblO (Tseat_num))) (by kernel_rfl) tyO_ok (fun A n c F w hA hn => only_or dkO_only (dkO_ok (xs := xs) (ent Tryd.func32 (by kernel_rfl) rfl) (rK_ok fun k hp => next_dct hp) hA hn) (tblO_ok (Tseat_num_ok) _ _) (fun d st args => by simp [orO, dkO, tblO, orT, noT, one, Tseat_num])) [] 1000 19 [.cell 2 34] Tryd.func15 rfl Tryd.ntmps15 (by decide) (by rw [Tryd.results15]) (by simp) rfl (fun A n c hsm hs => ?_)
  have hk0 : k ≤ 1000 := by omega
  simp (maxSteps := 10000000) only [go_sem, tyO, ↓reduceIte, Nat.reduceMul, Nat.reduceDiv, Nat.reduceAdd, Nat.reduceEqDiff, Nat.reduceLeDiff, Nat.reduceLT, reduceCtorEq, Int.reduceNeg, Tseat_num, gV, gVV, gVIB, gVVIB, gWW, gJII, gNNI, gBWI, gVVVV, gVVVVI, gVI, Int.reduceLT, Int.reduceLE, Int.reduceAdd, Int.reduceToNat, Nat.reduceBEq, Int.reduceMul, Int.reduceSub, Nat.reduceSub, gJB, gC, gCC, asSc, SX.L, SX.eta, gIJJI, Int.reduceEq, ub, wrap2, ↓bits_in, ↓wrap_in, Bool.not_eq_true, rKJ, Int.natCast_nonneg, dk0, inW]
  repeat' first | (with_reducible apply And.intro) | (with_reducible apply condP <;> intro _)
  all_goals first | (show chk _ _ = true; kernel_rfl) | with_reducible assumption | (simp only [go_sem, *] <;> rfl) | rfl | (exfalso; simp_all only [Bool.true_eq_false, Bool.false_eq_true, reduceCtorEq]; done)
theorem osmall_ex {xs : List Nat} {k : Nat} (hs : Small B64 xs) (hk : k ≤ 900) : ∃ q : Q, Few q ∧ DCt 15 xs [] k (nA q) (k + 1) := by
  refine ⟨_, ?_, od_small xs k hk⟩
  have hv := dk_lt hs k
  obtain ⟨v, hv0⟩ : ∃ v, v = dk xs k := ⟨_, rfl⟩
  rw [← hv0] at hv ⊢
  rw [shr_nat v 1 (by omega), shr_nat v 7 (by omega), bits63 (v / 2 ^ 1) (Nat.lt_of_le_of_lt (Nat.div_le_self _ _) hv), Int.toNat_natCast, nval1]
  have e1 : IntKind.i64.wrap (IntKind.i64.wrap ((((v / 2 ^ 7 : Nat) : Int)).tmod 9) - 6) = ((v / 2 ^ 7 % 9 : Nat) : Int) - 6 := by
    rw [Int.tmod_eq_emod_of_nonneg (Int.natCast_nonneg _), IntKind.wrap_i64, IntKind.wrap_i64]
    omega
  rw [e1]
  have hf := few_nm (s := (bits .and .u64 (v : Int) 1 == 1)) (M := v / 2 ^ 1 % 64) (e := ((v / 2 ^ 7 % 9 : Nat) : Int) - 6) (Nat.mod_lt _ (by omega)) (by omega) (by omega)
  rw [res_ok hf.valid.2]; exact hf
open Classical in
noncomputable def osmallD (xs : List Nat) (k : Nat) : Q := if h : Small B64 xs ∧ k ≤ 900 then (osmall_ex h.1 h.2).choose else q0
theorem osmallD_few (xs : List Nat) (k : Nat) : Few (osmallD xs k) := by
  unfold osmallD
  split
  · rename_i h; exact (osmall_ex h.1 h.2).choose_spec.1
  · exact ⟨canon0, by decide, by decide, by decide⟩
theorem osmallD_dct {xs : List Nat} {k : Nat} (h : Small B64 xs ∧ k ≤ 900) : DCt 15 xs [] k (nA (osmallD xs k)) (k + 1) := by
  unfold osmallD
  rw [dif_pos h]; exact (osmall_ex h.1 h.2).choose_spec.2
theorem od_prec1 (xs : List Nat) (k : Nat)  (hk : k ≤ 900) (h0 : (((dk xs k % 6 : Nat) : Int) == 0) = true) : DCt 9 xs [] k (iA 8) (k + 1) := by
  refine dct_of (O := fun A n c => orO (dkO 20 A n c (rKI fun k z => (k ≤ 1000 ∧ 0 < z ∧ z ≤ 1000, iA ((dk xs k % z.toNat : Nat) : Int), k + 1))) (tblO noT)) (by kernel_rfl) tyO_ok (fun A n c F w hA hn => only_or dkO_only (dkO_ok (xs := xs) (ent Tryd.func20 (by kernel_rfl) rfl) (rKI_ok fun k z hp => dn_dct hp) hA hn) (tblO_ok noT_ok _ _) (fun d st args => by simp [orO, dkO, tblO, orT, noT, one])) [] 1000 12 [.tmp 2] Tryd.func9 rfl Tryd.ntmps9 (by decide) (by rw [Tryd.results9]) (by simp) rfl (fun A n c hsm hs => ?_)
  have hk0 : k ≤ 1000 := by omega
  have hk1 : k + 1 ≤ 1000 := by omega
  simp (maxSteps := 10000000) only [go_sem, tyO, ↓reduceIte, Nat.reduceMul, Nat.reduceDiv, Nat.reduceAdd, Nat.reduceEqDiff, Nat.reduceLeDiff, Nat.reduceLT, reduceCtorEq, Int.reduceNeg, gV, gVV, gVIB, gVVIB, gWW, gJII, gNNI, gBWI, gVVVV, gVVVVI, gVI, Int.reduceLT, Int.reduceLE, Int.reduceAdd, Int.reduceToNat, Nat.reduceBEq, Int.reduceMul, Int.reduceSub, Nat.reduceSub, gJB, gC, gCC, asSc, SX.L, SX.eta, gIJJI, Int.reduceEq, ub, wrap2, ↓bits_in, ↓wrap_in, Bool.not_eq_true, rKJ, Int.natCast_nonneg, dk0, h0]
  repeat' first | (with_reducible apply And.intro) | (with_reducible apply condP <;> intro _)
  all_goals first | (show chk _ _ = true; kernel_rfl) | with_reducible assumption | (simp only [go_sem, *] <;> rfl) | rfl | (exfalso; simp_all only [Bool.true_eq_false, Bool.false_eq_true, reduceCtorEq]; done)
theorem od_prec2 (xs : List Nat) (k : Nat)  (hk : k ≤ 900) (h0 : (((dk xs k % 6 : Nat) : Int) == 0) = false) (h1 : (((dk xs k % 6 : Nat) : Int) == 1) = true) : DCt 9 xs [] k (iA 256) (k + 1) := by
  refine dct_of (O := fun A n c => orO (dkO 20 A n c (rKI fun k z => (k ≤ 1000 ∧ 0 < z ∧ z ≤ 1000, iA ((dk xs k % z.toNat : Nat) : Int), k + 1))) (tblO noT)) (by kernel_rfl) tyO_ok (fun A n c F w hA hn => only_or dkO_only (dkO_ok (xs := xs) (ent Tryd.func20 (by kernel_rfl) rfl) (rKI_ok fun k z hp => dn_dct hp) hA hn) (tblO_ok noT_ok _ _) (fun d st args => by simp [orO, dkO, tblO, orT, noT, one])) [] 1000 12 [.tmp 2] Tryd.func9 rfl Tryd.ntmps9 (by decide) (by rw [Tryd.results9]) (by simp) rfl (fun A n c hsm hs => ?_)
  have hk0 : k ≤ 1000 := by omega
  have hk1 : k + 1 ≤ 1000 := by omega
  simp (maxSteps := 10000000) only [go_sem, tyO, ↓reduceIte, Nat.reduceMul, Nat.reduceDiv, Nat.reduceAdd, Nat.reduceEqDiff, Nat.reduceLeDiff, Nat.reduceLT, reduceCtorEq, Int.reduceNeg, gV, gVV, gVIB, gVVIB, gWW, gJII, gNNI, gBWI, gVVVV, gVVVVI, gVI, Int.reduceLT, Int.reduceLE, Int.reduceAdd, Int.reduceToNat, Nat.reduceBEq, Int.reduceMul, Int.reduceSub, Nat.reduceSub, gJB, gC, gCC, asSc, SX.L, SX.eta, gIJJI, Int.reduceEq, ub, wrap2, ↓bits_in, ↓wrap_in, Bool.not_eq_true, rKJ, Int.natCast_nonneg, dk0, h0, h1]
  repeat' first | (with_reducible apply And.intro) | (with_reducible apply condP <;> intro _)
  all_goals first | (show chk _ _ = true; kernel_rfl) | with_reducible assumption | (simp only [go_sem, *] <;> rfl) | rfl | (exfalso; simp_all only [Bool.true_eq_false, Bool.false_eq_true, reduceCtorEq]; done)
theorem od_prec3 (xs : List Nat) (k : Nat)  (hk : k ≤ 900) (h0 : (((dk xs k % 6 : Nat) : Int) == 0) = false) (h1 : (((dk xs k % 6 : Nat) : Int) == 1) = false) : DCt 9 xs [] k (iA (IntKind.i64.wrap (12 + ((dk xs (k + 1) % 60 : Nat) : Int)))) (k + 1 + 1) := by
  refine dct_of (O := fun A n c => orO (dkO 20 A n c (rKI fun k z => (k ≤ 1000 ∧ 0 < z ∧ z ≤ 1000, iA ((dk xs k % z.toNat : Nat) : Int), k + 1))) (tblO noT)) (by kernel_rfl) tyO_ok (fun A n c F w hA hn => only_or dkO_only (dkO_ok (xs := xs) (ent Tryd.func20 (by kernel_rfl) rfl) (rKI_ok fun k z hp => dn_dct hp) hA hn) (tblO_ok noT_ok _ _) (fun d st args => by simp [orO, dkO, tblO, orT, noT, one])) [] 1000 12 [.tmp 2] Tryd.func9 rfl Tryd.ntmps9 (by decide) (by rw [Tryd.results9]) (by simp) rfl (fun A n c hsm hs => ?_)
  have hk0 : k ≤ 1000 := by omega
  have hk1 : k + 1 ≤ 1000 := by omega
  simp (maxSteps := 10000000) only [go_sem, tyO, ↓reduceIte, Nat.reduceMul, Nat.reduceDiv, Nat.reduceAdd, Nat.reduceEqDiff, Nat.reduceLeDiff, Nat.reduceLT, reduceCtorEq, Int.reduceNeg, gV, gVV, gVIB, gVVIB, gWW, gJII, gNNI, gBWI, gVVVV, gVVVVI, gVI, Int.reduceLT, Int.reduceLE, Int.reduceAdd, Int.reduceToNat, Nat.reduceBEq, Int.reduceMul, Int.reduceSub, Nat.reduceSub, gJB, gC, gCC, asSc, SX.L, SX.eta, gIJJI, Int.reduceEq, ub, wrap2, ↓bits_in, ↓wrap_in, Bool.not_eq_true, rKJ, Int.natCast_nonneg, dk0, h0, h1]
  repeat' first | (with_reducible apply And.intro) | (with_reducible apply condP <;> intro _)
  all_goals first | (show chk _ _ = true; kernel_rfl) | with_reducible assumption | omega | (simp only [go_sem, *] <;> rfl) | rfl | (exfalso; simp_all only [Bool.true_eq_false, Bool.false_eq_true, reduceCtorEq]; done)
theorem oprec_ex {xs : List Nat} {k : Nat} (hk : k ≤ 900) : ∃ (p : Int) (k' : Nat), prl p = true ∧ k ≤ k' ∧ k' ≤ k + 2 ∧ DCt 9 xs [] k (iA p) k' := by
  cases h0 : ((((dk xs k % 6 : Nat) : Int) == 0))
  · cases h1 : ((((dk xs k % 6 : Nat) : Int) == 1))
    · refine ⟨_, _, ?_, ?_, ?_, od_prec3 xs k hk h0 h1⟩
      · have : dk xs (k + 1) % 60 < 60 := Nat.mod_lt _ (by omega)
        rw [IntKind.wrap_i64]; unfold prl
        simp only [Bool.and_eq_true, decide_eq_true_eq]; omega
      · omega
      · omega
    · exact ⟨_, _, by decide, by omega, by omega, od_prec2 xs k hk h0 h1⟩
  · exact ⟨_, _, by decide, by omega, by omega, od_prec1 xs k hk h0⟩
open Classical in
noncomputable def oprecD (xs : List Nat) (k : Nat) : Int × Nat := if h : k ≤ 900 then ((oprec_ex (xs := xs) h).choose, (oprec_ex (xs := xs) h).choose_spec.choose) else (8, k)
theorem oprecD_spec {xs : List Nat} {k : Nat} (h : k ≤ 900) : prl (oprecD xs k).1 = true ∧ k ≤ (oprecD xs k).2 ∧ (oprecD xs k).2 ≤ k + 2 ∧ DCt 9 xs [] k (iA (oprecD xs k).1) (oprecD xs k).2 := by
  have := (oprec_ex (xs := xs) h).choose_spec.choose_spec
  unfold oprecD
  rw [dif_pos h]; exact this
theorem od_dim (xs : List Nat) (k : Nat) (hk : k ≤ 900) : DCt 7 xs [] k (iA ((dk xs k % 4 + 1 : Nat) : Int)) (k + 1) := by
  have hk0 : k ≤ 1000 := by omega
  have hw : IntKind.i64.wrap (1 + ((dk xs k % 4 : Nat) : Int)) = ((dk xs k % 4 + 1 : Nat) : Int) := by rw [IntKind.wrap_i64]; omega
  refine dct_of (O := fun A n c => dkO 20 A n c (rKI fun k z => (k ≤ 1000 ∧ 0 < z ∧ z ≤ 1000, iA ((dk xs k % z.toNat : Nat) : Int), k + 1))) (by kernel_rfl) tyO_ok (fun A n c F w hA hn => dkO_ok (xs := xs) (ent Tryd.func20 (by kernel_rfl) rfl) (rKI_ok fun k z hp => dn_dct hp) hA hn) [] 600 6 [.tmp 2] Tryd.func7 rfl Tryd.ntmps7 (by decide) (by rw [Tryd.results7]) (by simp) rfl (fun A n c hsm hs => ?_)
  simp (maxSteps := 10000000) only [go_sem, ↓reduceIte, Nat.reduceMul, Nat.reduceDiv, Nat.reduceAdd, Nat.reduceEqDiff, Nat.reduceLeDiff, Nat.reduceLT, reduceCtorEq, Int.reduceNeg, Int.reduceLT, Int.reduceLE, Int.reduceAdd, Int.reduceToNat, Nat.reduceBEq, Int.reduceMul, Int.reduceSub, Nat.reduceSub, boxL_nil, boxL_cons, ptsL_nil, ptsL_cons, ↓outL_box, ↓outL_pts, ↓clL_box, ↓clL_pts, ↓okL_box, ↓okL_pts, ↓ment_box, ↓ment_pts, ↓olL_box, ↓olL_pts, ↓cvL_box, ↓cvL_pts, ↓noO_box, ↓noO_pts, ↓asB_box, ↓asP_pts, ↓len_box, ↓len_pts, bne_self_eq_false, Int.reduceBNe, Nat.reduceBNe, wr2, wr3, wr4, wr5, wr6, wr7, wr8, gB, gP, gBB, gBP, gBZ, gBBZ, bC_nil, bC_cons, pC_nil, pC_cons, fvO, Lc.up, List.replicate_succ, List.replicate_zero, List.flatten_cons, List.flatten_nil, Int.ofNat_lt, Int.cast_ofNat_Int, Int.ofNat_eq_natCast, List.isEmpty_cons, and_false, false_and, List.cons_ne_nil, Nat.add_zero, ite_true, ite_false, if_true, if_false, Nat.le_zero_eq, eq_self, Bool.and_false, Bool.false_and, Bool.true_and, tiQ, gA, gE, asZ, asT, asV1, asN1, asB_b, asP_b, asM_m, asQ_m, ite_self, tyO, hw, hk0, bxe, pxe, frh, frz, frS, frA, frL]
  repeat' first | (with_reducible apply And.intro) | (with_reducible apply condP <;> intro _)
  all_goals first | (show chk _ _ = true; kernel_rfl) | with_reducible assumption | rfl | omega | (simp only [AV.s, cond_true, cond_false, Bool.and_true, Bool.true_and, *]; done)
theorem od_yes (xs : List Nat) (k : Nat) (hk : k ≤ 900) : DCt 21 xs [iA 9] k (bA (((dk xs k % 9 : Nat) : Int) == 8)) (k + 1) := by
  have hk0 : k ≤ 1000 := by omega
  refine dct_of (O := fun A n c => orO (dkO 20 A n c (rKI fun k z => (k ≤ 1000 ∧ 0 < z ∧ z ≤ 1000, iA ((dk xs k % z.toNat : Nat) : Int), k + 1))) (tblO noT)) (by kernel_rfl) tyO_ok (fun A n c F w hA hn => only_or dkO_only (dkO_ok (xs := xs) (ent Tryd.func20 (by kernel_rfl) rfl) (rKI_ok fun k z hp => dn_dct hp) hA hn) (tblO_ok noT_ok _ _) (fun d st args => by simp [orO, dkO, tblO, orT, noT, one])) [] 600 11 [.tmp 4] Tryd.func21 rfl Tryd.ntmps21 (by decide) (by rw [Tryd.results21]) (by simp) rfl (fun A n c hsm hs => ?_)
  simp (maxSteps := 10000000) only [go_sem, ↓reduceIte, Nat.reduceMul, Nat.reduceDiv, Nat.reduceAdd, Nat.reduceEqDiff, Nat.reduceLeDiff, Nat.reduceLT, reduceCtorEq, Int.reduceNeg, Int.reduceLT, Int.reduceLE, Int.reduceAdd, Int.reduceToNat, Nat.reduceBEq, Int.reduceMul, Int.reduceSub, Nat.reduceSub, boxL_nil, boxL_cons, ptsL_nil, ptsL_cons, ↓outL_box, ↓outL_pts, ↓clL_box, ↓clL_pts, ↓okL_box, ↓okL_pts, ↓ment_box, ↓ment_pts, ↓olL_box, ↓olL_pts, ↓cvL_box, ↓cvL_pts, ↓noO_box, ↓noO_pts, ↓asB_box, ↓asP_pts, ↓len_box, ↓len_pts, bne_self_eq_false, Int.reduceBNe, Nat.reduceBNe, wr2, wr3, wr4, wr5, wr6, wr7, wr8, gB, gP, gBB, gBP, gBZ, gBBZ, bC_nil, bC_cons, pC_nil, pC_cons, fvO, Lc.up, List.replicate_succ, List.replicate_zero, List.flatten_cons, List.flatten_nil, Int.ofNat_lt, Int.cast_ofNat_Int, Int.ofNat_eq_natCast, List.isEmpty_cons, and_false, false_and, List.cons_ne_nil, Nat.add_zero, ite_true, ite_false, if_true, if_false, Nat.le_zero_eq, eq_self, Bool.and_false, Bool.false_and, Bool.true_and, tiQ, gA, gE, asZ, asT, asV1, asN1, asB_b, asP_b, asM_m, asQ_m, ite_self, tyO, hk0, bxe, pxe, frh, frz, frS, frA, frL]
  repeat' first | (with_reducible apply And.intro) | (with_reducible apply condP <;> intro _)
  all_goals first | (show chk _ _ = true; kernel_rfl) | with_reducible assumption | rfl | omega | (simp only [AV.s, cond_true, cond_false, Bool.and_true, Bool.true_and, *]; done)
theorem od_pts1 (xs : List Nat) (k : Nat) (hs2 : Small B64 xs) (hk : k + 20 ≤ 900) : DCt 8 xs [iA 1] k (.s (qL [[qx (osmallD xs k)]])) (k + 1) := by
  have a1 : k + 1 ≤ 900 := by omega
  have a0 : k ≤ 900 := by omega
  refine dct_of (O := fun A n c => orO (dkO 15 A n c (rK fun k => (Small B64 xs ∧ k ≤ 900, nA (osmallD xs k), k + 1))) (dkO 21 A n c (rKI fun k z => (z = 9 ∧ k ≤ 900, bA (((dk xs k % 9 : Nat) : Int) == 8), k + 1)))) (by kernel_rfl) tyO_ok (fun A n c F w hA hn => only_or dkO_only (dkO_ok (xs := xs) (ent Tryd.func15 (by kernel_rfl) rfl) (rK_ok fun k hp => osmallD_dct hp) hA hn) (dkO_ok (xs := xs) (ent Tryd.func21 (by kernel_rfl) rfl) (rKI_ok fun k z hp => by obtain ⟨rfl, hp⟩ := hp; exact od_yes xs k hp) hA hn) (fun d st args => by simp [dkO])) [9999997, 26, 10, 9999998, 23, 9999999, 0, 2, 10, 12, 55, 47, 2001, 9999999, 0, 2, 10, 12, 14, 16, 55, 47, 2001] 1600 42 [.tmp 4] Tryd.func8 rfl Tryd.ntmps8 (by decide) (by rw [Tryd.results8]) (by simp) rfl (fun A n c hsm hs => ?_)
  simp (maxSteps := 10000000) only [go_sem, ↓reduceIte, Nat.reduceMul, Nat.reduceDiv, Nat.reduceAdd, Nat.reduceEqDiff, Nat.reduceLeDiff, Nat.reduceLT, reduceCtorEq, Int.reduceNeg, Int.reduceLT, Int.reduceLE, Int.reduceAdd, Int.reduceToNat, Nat.reduceBEq, Int.reduceMul, Int.reduceSub, Nat.reduceSub, boxL_nil, boxL_cons, ptsL_nil, ptsL_cons, ↓outL_box, ↓outL_pts, ↓clL_box, ↓clL_pts, ↓okL_box, ↓okL_pts, ↓ment_box, ↓ment_pts, ↓olL_box, ↓olL_pts, ↓cvL_box, ↓cvL_pts, ↓noO_box, ↓noO_pts, ↓asB_box, ↓asP_pts, ↓len_box, ↓len_pts, bne_self_eq_false, Int.reduceBNe, Nat.reduceBNe, wr2, wr3, wr4, wr5, wr6, wr7, wr8, gB, gP, gBB, gBP, gBZ, gBBZ, bC_nil, bC_cons, pC_nil, pC_cons, fvO, Lc.up, List.replicate_succ, List.replicate_zero, List.flatten_cons, List.flatten_nil, Int.ofNat_lt, Int.cast_ofNat_Int, Int.ofNat_eq_natCast, List.isEmpty_cons, and_false, false_and, List.cons_ne_nil, Nat.add_zero, ite_true, ite_false, if_true, if_false, Nat.le_zero_eq, eq_self, Bool.and_false, Bool.false_and, Bool.true_and, tiQ, gA, gE, asZ, asT, asV1, asN1, asB_b, asP_b, asM_m, asQ_m, ite_self, tyO, rowL, hdT, Option.isSome_none, frL_osl, frL_ol, Nat.add_assoc, hs2, a0, a1, bxe, pxe, frh, frz, frS, frA, frL]
  repeat' first | (with_reducible apply And.intro) | (with_reducible apply condP <;> intro _)
  all_goals first | (show chk _ _ = true; kernel_rfl) | with_reducible assumption | rfl | omega | (simp only [AV.s, cond_true, cond_false, Bool.and_true, Bool.true_and, *]; done)
theorem od_pts2y (xs : List Nat) (k : Nat) (hs2 : Small B64 xs) (hk : k + 20 ≤ 900) (hy : (((dk xs (k + 4) % 9 : Nat) : Int) == 8) = true) : DCt 8 xs [iA 2] k (.s (qL [[qx (osmallD xs k), qx (osmallD xs (k + 1))], [qx (osmallD xs k), qx (osmallD xs (k + 1))]])) (k + 4 + 1) := by
  have a1 : k + 1 ≤ 900 := by omega
  have a2 : k + 2 ≤ 900 := by omega
  have a3 : k + 3 ≤ 900 := by omega
  have a4 : k + 4 ≤ 900 := by omega
  have a0 : k ≤ 900 := by omega
  refine dct_of (O := fun A n c => orO (dkO 15 A n c (rK fun k => (Small B64 xs ∧ k ≤ 900, nA (osmallD xs k), k + 1))) (dkO 21 A n c (rKI fun k z => (z = 9 ∧ k ≤ 900, bA (((dk xs k % 9 : Nat) : Int) == 8), k + 1)))) (by kernel_rfl) tyO_ok (fun A n c F w hA hn => only_or dkO_only (dkO_ok (xs := xs) (ent Tryd.func15 (by kernel_rfl) rfl) (rK_ok fun k hp => osmallD_dct hp) hA hn) (dkO_ok (xs := xs) (ent Tryd.func21 (by kernel_rfl) rfl) (rKI_ok fun k z hp => by obtain ⟨rfl, hp⟩ := hp; exact od_yes xs k hp) hA hn) (fun d st args => by simp [dkO])) [9999997, 26, 10, 9999998, 23, 9999999, 0, 2, 10, 12, 55, 47, 2001, 9999999, 0, 2, 10, 12, 14, 16, 55, 47, 2001] 3700 42 [.tmp 4] Tryd.func8 rfl Tryd.ntmps8 (by decide) (by rw [Tryd.results8]) (by simp) rfl (fun A n c hsm hs => ?_)
  simp (maxSteps := 10000000) only [go_sem, ↓reduceIte, Nat.reduceMul, Nat.reduceDiv, Nat.reduceAdd, Nat.reduceEqDiff, Nat.reduceLeDiff, Nat.reduceLT, reduceCtorEq, Int.reduceNeg, Int.reduceLT, Int.reduceLE, Int.reduceAdd, Int.reduceToNat, Nat.reduceBEq, Int.reduceMul, Int.reduceSub, Nat.reduceSub, boxL_nil, boxL_cons, ptsL_nil, ptsL_cons, ↓outL_box, ↓outL_pts, ↓clL_box, ↓clL_pts, ↓okL_box, ↓okL_pts, ↓ment_box, ↓ment_pts, ↓olL_box, ↓olL_pts, ↓cvL_box, ↓cvL_pts, ↓noO_box, ↓noO_pts, ↓asB_box, ↓asP_pts, ↓len_box, ↓len_pts, bne_self_eq_false, Int.reduceBNe, Nat.reduceBNe, wr2, wr3, wr4, wr5, wr6, wr7, wr8, gB, gP, gBB, gBP, gBZ, gBBZ, bC_nil, bC_cons, pC_nil, pC_cons, fvO, Lc.up, List.replicate_succ, List.replicate_zero, List.flatten_cons, List.flatten_nil, Int.ofNat_lt, Int.cast_ofNat_Int, Int.ofNat_eq_natCast, List.isEmpty_cons, and_false, false_and, List.cons_ne_nil, Nat.add_zero, ite_true, ite_false, if_true, if_false, Nat.le_zero_eq, eq_self, Bool.and_false, Bool.false_and, Bool.true_and, tiQ, gA, gE, asZ, asT, asV1, asN1, asB_b, asP_b, asM_m, asQ_m, ite_self, tyO, rowL, hdT, Option.isSome_none, frL_osl, frL_ol, Nat.add_assoc, hs2, hy, a0, a1, a2, a3, a4, bxe, pxe, frh, frz, frS, frA, frL]
  repeat' first | (with_reducible apply And.intro) | (with_reducible apply condP <;> intro _)
  all_goals first | (show chk _ _ = true; kernel_rfl) | with_reducible assumption | rfl | omega | (simp only [AV.s, cond_true, cond_false, Bool.and_true, Bool.true_and, *]; done)
theorem od_pts2n (xs : List Nat) (k : Nat) (hs2 : Small B64 xs) (hk : k + 20 ≤ 900) (hy : (((dk xs (k + 4) % 9 : Nat) : Int) == 8) = false) : DCt 8 xs [iA 2] k (.s (qL [[qx (osmallD xs k), qx (osmallD xs (k + 1))], [qx (osmallD xs (k + 2)), qx (osmallD xs (k + 3))]])) (k + 4 + 1) := by
  have a1 : k + 1 ≤ 900 := by omega
  have a2 : k + 2 ≤ 900 := by omega
  have a3 : k + 3 ≤ 900 := by omega
  have a4 : k + 4 ≤ 900 := by omega
  have a0 : k ≤ 900 := by omega
  refine dct_of (O := fun A n c => orO (dkO 15 A n c (rK fun k => (Small B64 xs ∧ k ≤ 900, nA (osmallD xs k), k + 1))) (dkO 21 A n c (rKI fun k z => (z = 9 ∧ k ≤ 900, bA (((dk xs k % 9 : Nat) : Int) == 8), k + 1)))) (by kernel_rfl) tyO_ok (fun A n c F w hA hn => only_or dkO_only (dkO_ok (xs := xs) (ent Tryd.func15 (by kernel_rfl) rfl) (rK_ok fun k hp => osmallD_dct hp) hA hn) (dkO_ok (xs := xs) (ent Tryd.func21 (by kernel_rfl) rfl) (rKI_ok fun k z hp => by obtain ⟨rfl, hp⟩ := hp; exact od_yes xs k hp) hA hn) (fun d st args => by simp [dkO])) [9999997, 26, 10, 9999998, 23, 9999999, 0, 2, 10, 12, 55, 47, 2001, 9999999, 0, 2, 10, 12, 14, 16, 55, 47, 2001] 3700 42 [.tmp 4] Tryd.func8 rfl Tryd.ntmps8 (by decide) (by rw [Tryd.results8]) (by simp) rfl (fun A n c hsm hs => ?_)
  simp (maxSteps := 10000000) only [go_sem, ↓reduceIte, Nat.reduceMul, Nat.reduceDiv, Nat.reduceAdd, Nat.reduceEqDiff, Nat.reduceLeDiff, Nat.reduceLT, reduceCtorEq, Int.reduceNeg, Int.reduceLT, Int.reduceLE, Int.reduceAdd, Int.reduceToNat, Nat.reduceBEq, Int.reduceMul, Int.reduceSub, Nat.reduceSub, boxL_nil, boxL_cons, ptsL_nil, ptsL_cons, ↓outL_box, ↓outL_pts, ↓clL_box, ↓clL_pts, ↓okL_box, ↓okL_pts, ↓ment_box, ↓ment_pts, ↓olL_box, ↓olL_pts, ↓cvL_box, ↓cvL_pts, ↓noO_box, ↓noO_pts, ↓asB_box, ↓asP_pts, ↓len_box, ↓len_pts, bne_self_eq_false, Int.reduceBNe, Nat.reduceBNe, wr2, wr3, wr4, wr5, wr6, wr7, wr8, gB, gP, gBB, gBP, gBZ, gBBZ, bC_nil, bC_cons, pC_nil, pC_cons, fvO, Lc.up, List.replicate_succ, List.replicate_zero, List.flatten_cons, List.flatten_nil, Int.ofNat_lt, Int.cast_ofNat_Int, Int.ofNat_eq_natCast, List.isEmpty_cons, and_false, false_and, List.cons_ne_nil, Nat.add_zero, ite_true, ite_false, if_true, if_false, Nat.le_zero_eq, eq_self, Bool.and_false, Bool.false_and, Bool.true_and, tiQ, gA, gE, asZ, asT, asV1, asN1, asB_b, asP_b, asM_m, asQ_m, ite_self, tyO, rowL, hdT, Option.isSome_none, frL_osl, frL_ol, Nat.add_assoc, hs2, hy, a0, a1, a2, a3, a4, bxe, pxe, frh, frz, frS, frA, frL]
  repeat' first | (with_reducible apply And.intro) | (with_reducible apply condP <;> intro _)
  all_goals first | (show chk _ _ = true; kernel_rfl) | with_reducible assumption | rfl | omega | (simp only [AV.s, cond_true, cond_false, Bool.and_true, Bool.true_and, *]; done)
theorem od_pts3y (xs : List Nat) (k : Nat) (hs2 : Small B64 xs) (hk : k + 20 ≤ 900) (hy : (((dk xs (k + 9) % 9 : Nat) : Int) == 8) = true) : DCt 8 xs [iA 3] k (.s (qL [[qx (osmallD xs k), qx (osmallD xs (k + 1)), qx (osmallD xs (k + 2))], [qx (osmallD xs (k + 3)), qx (osmallD xs (k + 4)), qx (osmallD xs (k + 5))], [qx (osmallD xs k), qx (osmallD xs (k + 1)), qx (osmallD xs (k + 2))]])) (k + 9 + 1) := by
  have a1 : k + 1 ≤ 900 := by omega
  have a2 : k + 2 ≤ 900 := by omega
  have a3 : k + 3 ≤ 900 := by omega
  have a4 : k + 4 ≤ 900 := by omega
  have a5 : k + 5 ≤ 900 := by omega
  have a6 : k + 6 ≤ 900 := by omega
  have a7 : k + 7 ≤ 900 := by omega
  have a8 : k + 8 ≤ 900 := by omega
  have a9 : k + 9 ≤ 900 := by omega
  have a0 : k ≤ 900 := by omega
  refine dct_of (O := fun A n c => orO (dkO 15 A n c (rK fun k => (Small B64 xs ∧ k ≤ 900, nA (osmallD xs k), k + 1))) (dkO 21 A n c (rKI fun k z => (z = 9 ∧ k ≤ 900, bA (((dk xs k % 9 : Nat) : Int) == 8), k + 1)))) (by kernel_rfl) tyO_ok (fun A n c F w hA hn => only_or dkO_only (dkO_ok (xs := xs) (ent Tryd.func15 (by kernel_rfl) rfl) (rK_ok fun k hp => osmallD_dct hp) hA hn) (dkO_ok (xs := xs) (ent Tryd.func21 (by kernel_rfl) rfl) (rKI_ok fun k z hp => by obtain ⟨rfl, hp⟩ := hp; exact od_yes xs k hp) hA hn) (fun d st args => by simp [dkO])) [9999997, 26, 10, 9999998, 23, 9999999, 0, 2, 10, 12, 55, 47, 2001, 9999999, 0, 2, 10, 12, 14, 16, 55, 47, 2001] 7200 42 [.tmp 4] Tryd.func8 rfl Tryd.ntmps8 (by decide) (by rw [Tryd.results8]) (by simp) rfl (fun A n c hsm hs => ?_)
  simp (maxSteps := 10000000) only [go_sem, ↓reduceIte, Nat.reduceMul, Nat.reduceDiv, Nat.reduceAdd, Nat.reduceEqDiff, Nat.reduceLeDiff, Nat.reduceLT, reduceCtorEq, Int.reduceNeg, Int.reduceLT, Int.reduceLE, Int.reduceAdd, Int.reduceToNat, Nat.reduceBEq, Int.reduceMul, Int.reduceSub, Nat.reduceSub, boxL_nil, boxL_cons, ptsL_nil, ptsL_cons, ↓outL_box, ↓outL_pts, ↓clL_box, ↓clL_pts, ↓okL_box, ↓okL_pts, ↓ment_box, ↓ment_pts, ↓olL_box, ↓olL_pts, ↓cvL_box, ↓cvL_pts, ↓noO_box, ↓noO_pts, ↓asB_box, ↓asP_pts, ↓len_box, ↓len_pts, bne_self_eq_false, Int.reduceBNe, Nat.reduceBNe, wr2, wr3, wr4, wr5, wr6, wr7, wr8, gB, gP, gBB, gBP, gBZ, gBBZ, bC_nil, bC_cons, pC_nil, pC_cons, fvO, Lc.up, List.replicate_succ, List.replicate_zero, List.flatten_cons, List.flatten_nil, Int.ofNat_lt, Int.cast_ofNat_Int, Int.ofNat_eq_natCast, List.isEmpty_cons, and_false, false_and, List.cons_ne_nil, Nat.add_zero, ite_true, ite_false, if_true, if_false, Nat.le_zero_eq, eq_self, Bool.and_false, Bool.false_and, Bool.true_and, tiQ, gA, gE, asZ, asT, asV1, asN1, asB_b, asP_b, asM_m, asQ_m, ite_self, tyO, rowL, hdT, Option.isSome_none, frL_osl, frL_ol, Nat.add_assoc, hs2, hy, a0, a1, a2, a3, a4, a5, a6, a7, a8, a9, bxe, pxe, frh, frz, frS, frA, frL]
  repeat' first | (with_reducible apply And.intro) | (with_reducible apply condP <;> intro _)
  all_goals first | (show chk _ _ = true; kernel_rfl) | with_reducible assumption | rfl | omega | (simp only [AV.s, cond_true, cond_false, Bool.and_true, Bool.true_and, *]; done)
theorem od_pts3n (xs : List Nat) (k : Nat) (hs2 : Small B64 xs) (hk : k + 20 ≤ 900) (hy : (((dk xs (k + 9) % 9 : Nat) : Int) == 8) = false) : DCt 8 xs [iA 3] k (.s (qL [[qx (osmallD xs k), qx (osmallD xs (k + 1)), qx (osmallD xs (k + 2))], [qx (osmallD xs (k + 3)), qx (osmallD xs (k + 4)), qx (osmallD xs (k + 5))], [qx (osmallD xs (k + 6)), qx (osmallD xs (k + 7)), qx (osmallD xs (k + 8))]])) (k + 9 + 1) := by
  have a1 : k + 1 ≤ 900 := by omega
  have a2 : k + 2 ≤ 900 := by omega
  have a3 : k + 3 ≤ 900 := by omega
  have a4 : k + 4 ≤ 900 := by omega
  have a5 : k + 5 ≤ 900 := by omega
  have a6 : k + 6 ≤ 900 := by omega
  have a7 : k + 7 ≤ 900 := by omega
  have a8 : k + 8 ≤ 900 := by omega
  have a9 : k + 9 ≤ 900 := by omega
  have a0 : k ≤ 900 := by omega
  refine dct_of (O := fun A n c => orO (dkO 15 A n c (rK fun k => (Small B64 xs ∧ k ≤ 900, nA (osmallD xs k), k + 1))) (dkO 21 A n c (rKI fun k z => (z = 9 ∧ k ≤ 900, bA (((dk xs k % 9 : Nat) : Int) == 8), k + 1)))) (by kernel_rfl) tyO_ok (fun A n c F w hA hn => only_or dkO_only (dkO_ok (xs := xs) (ent Tryd.func15 (by kernel_rfl) rfl) (rK_ok fun k hp => osmallD_dct hp) hA hn) (dkO_ok (xs := xs) (ent Tryd.func21 (by kernel_rfl) rfl) (rKI_ok fun k z hp => by obtain ⟨rfl, hp⟩ := hp; exact od_yes xs k hp) hA hn) (fun d st args => by simp [dkO])) [9999997, 26, 10, 9999998, 23, 9999999, 0, 2, 10, 12, 55, 47, 2001, 9999999, 0, 2, 10, 12, 14, 16, 55, 47, 2001] 7200 42 [.tmp 4] Tryd.func8 rfl Tryd.ntmps8 (by decide) (by rw [Tryd.results8]) (by simp) rfl (fun A n c hsm hs => ?_)
  simp (maxSteps := 10000000) only [go_sem, ↓reduceIte, Nat.reduceMul, Nat.reduceDiv, Nat.reduceAdd, Nat.reduceEqDiff, Nat.reduceLeDiff, Nat.reduceLT, reduceCtorEq, Int.reduceNeg, Int.reduceLT, Int.reduceLE, Int.reduceAdd, Int.reduceToNat, Nat.reduceBEq, Int.reduceMul, Int.reduceSub, Nat.reduceSub, boxL_nil, boxL_cons, ptsL_nil, ptsL_cons, ↓outL_box, ↓outL_pts, ↓clL_box, ↓clL_pts, ↓okL_box, ↓okL_pts, ↓ment_box, ↓ment_pts, ↓olL_box, ↓olL_pts, ↓cvL_box, ↓cvL_pts, ↓noO_box, ↓noO_pts, ↓asB_box, ↓asP_pts, ↓len_box, ↓len_pts, bne_self_eq_false, Int.reduceBNe, Nat.reduceBNe, wr2, wr3, wr4, wr5, wr6, wr7, wr8, gB, gP, gBB, gBP, gBZ, gBBZ, bC_nil, bC_cons, pC_nil, pC_cons, fvO, Lc.up, List.replicate_succ, List.replicate_zero, List.flatten_cons, List.flatten_nil, Int.ofNat_lt, Int.cast_ofNat_Int, Int.ofNat_eq_natCast, List.isEmpty_cons, and_false, false_and, List.cons_ne_nil, Nat.add_zero, ite_true, ite_false, if_true, if_false, Nat.le_zero_eq, eq_self, Bool.and_false, Bool.false_and, Bool.true_and, tiQ, gA, gE, asZ, asT, asV1, asN1, asB_b, asP_b, asM_m, asQ_m, ite_self, tyO, rowL, hdT, Option.isSome_none, frL_osl, frL_ol, Nat.add_assoc, hs2, hy, a0, a1, a2, a3, a4, a5, a6, a7, a8, a9, bxe, pxe, frh, frz, frS, frA, frL]
  repeat' first | (with_reducible apply And.intro) | (with_reducible apply condP <;> intro _)
  all_goals first | (show chk _ _ = true; kernel_rfl) | with_reducible assumption | rfl | omega | (simp only [AV.s, cond_true, cond_false, Bool.and_true, Bool.true_and, *]; done)
theorem od_pts4y (xs : List Nat) (k : Nat) (hs2 : Small B64 xs) (hk : k + 20 ≤ 900) (hy : (((dk xs (k + 16) % 9 : Nat) : Int) == 8) = true) : DCt 8 xs [iA 4] k (.s (qL [[qx (osmallD xs k), qx (osmallD xs (k + 1)), qx (osmallD xs (k + 2)), qx (osmallD xs (k + 3))], [qx (osmallD xs (k + 4)), qx (osmallD xs (k + 5)), qx (osmallD xs (k + 6)), qx (osmallD xs (k + 7))], [qx (osmallD xs (k + 8)), qx (osmallD xs (k + 9)), qx (osmallD xs (k + 10)), qx (osmallD xs (k + 11))], [qx (osmallD xs k), qx (osmallD xs (k + 1)), qx (osmallD xs (k + 2)), qx (osmallD xs (k + 3))]])) (k + 16 + 1) := by
  have a1 : k + 1 ≤ 900 := by omega
  have a2 : k + 2 ≤ 900 := by omega
  have a3 : k + 3 ≤ 900 := by omega
  have a4 : k + 4 ≤ 900 := by omega
  have a5 : k + 5 ≤ 900 := by omega
  have a6 : k + 6 ≤ 900 := by omega
  have a7 : k + 7 ≤ 900 := by omega
  have a8 : k + 8 ≤ 900 := by omega
  have a9 : k + 9 ≤ 900 := by omega
  have a10 : k + 10 ≤ 900 := by omega
  have a11 : k + 11 ≤ 900 := by omega
  have a12 : k + 12 ≤ 900 := by omega
  have a13 : k + 13 ≤ 900 := by omega
  have a14 : k + 14 ≤ 900 := by omega
  have a15 : k + 15 ≤ 900 := by omega
  have a16 : k + 16 ≤ 900 := by omega
  have a0 : k ≤ 900 := by omega
  refine dct_of (O := fun A n c => orO (dkO 15 A n c (rK fun k => (Small B64 xs ∧ k ≤ 900, nA (osmallD xs k), k + 1))) (dkO 21 A n c (rKI fun k z => (z = 9 ∧ k ≤ 900, bA (((dk xs k % 9 : Nat) : Int) == 8), k + 1)))) (by kernel_rfl) tyO_ok (fun A n c F w hA hn => only_or dkO_only (dkO_ok (xs := xs) (ent Tryd.func15 (by kernel_rfl) rfl) (rK_ok fun k hp => osmallD_dct hp) hA hn) (dkO_ok (xs := xs) (ent Tryd.func21 (by kernel_rfl) rfl) (rKI_ok fun k z hp => by obtain ⟨rfl, hp⟩ := hp; exact od_yes xs k hp) hA hn) (fun d st args => by simp [dkO])) [9999997, 26, 10, 9999998, 23, 9999999, 0, 2, 10, 12, 55, 47, 2001, 9999999, 0, 2, 10, 12, 14, 16, 55, 47, 2001] 12100 42 [.tmp 4] Tryd.func8 rfl Tryd.ntmps8 (by decide) (by rw [Tryd.results8]) (by simp) rfl (fun A n c hsm hs => ?_)
  simp (maxSteps := 10000000) only [go_sem, ↓reduceIte, Nat.reduceMul, Nat.reduceDiv, Nat.reduceAdd, Nat.reduceEqDiff, Nat.reduceLeDiff, Nat.reduceLT, reduceCtorEq, Int.reduceNeg, Int.reduceLT, Int.reduceLE, Int.reduceAdd, Int.reduceToNat, Nat.reduceBEq, Int.reduceMul, Int.reduceSub, Nat.reduceSub, boxL_nil, boxL_cons, ptsL_nil, ptsL_cons, ↓outL_box, ↓outL_pts, ↓clL_box, ↓clL_pts, ↓okL_box, ↓okL_pts, ↓ment_box, ↓ment_pts, ↓olL_box, ↓olL_pts, ↓cvL_box, ↓cvL_pts, ↓noO_box, ↓noO_pts, ↓asB_box, ↓asP_pts, ↓len_box, ↓len_pts, bne_self_eq_false, Int.reduceBNe, Nat.reduceBNe, wr2, wr3, wr4, wr5, wr6, wr7, wr8, gB, gP, gBB, gBP, gBZ, gBBZ, bC_nil, bC_cons, pC_nil, pC_cons, fvO, Lc.up, List.replicate_succ, List.replicate_zero, List.flatten_cons, List.flatten_nil, Int.ofNat_lt, Int.cast_ofNat_Int, Int.ofNat_eq_natCast, List.isEmpty_cons, and_false, false_and, List.cons_ne_nil, Nat.add_zero, ite_true, ite_false, if_true, if_false, Nat.le_zero_eq, eq_self, Bool.and_false, Bool.false_and, Bool.true_and, tiQ, gA, gE, asZ, asT, asV1, asN1, asB_b, asP_b, asM_m, asQ_m, ite_self, tyO, rowL, hdT, Option.isSome_none, frL_osl, frL_ol, Nat.add_assoc, hs2, hy, a0, a1, a2, a3, a4, a5, a6, a7, a8, a9, a10, a11, a12, a13, a14, a15, a16, bxe, pxe, frh, frz, frS, frA, frL]
  repeat' first | (with_reducible apply And.intro) | (with_reducible apply condP <;> intro _)
  all_goals first | (show chk _ _ = true; kernel_rfl) | with_reducible assumption | rfl | omega | (simp only [AV.s, cond_true, cond_false, Bool.and_true, Bool.true_and, *]; done)
theorem od_pts4n (xs : List Nat) (k : Nat) (hs2 : Small B64 xs) (hk : k + 20 ≤ 900) (hy : (((dk xs (k + 16) % 9 : Nat) : Int) == 8) = false) : DCt 8 xs [iA 4] k (.s (qL [[qx (osmallD xs k), qx (osmallD xs (k + 1)), qx (osmallD xs (k + 2)), qx (osmallD xs (k + 3))], [qx (osmallD xs (k + 4)), qx (osmallD xs (k + 5)), qx (osmallD xs (k + 6)), qx (osmallD xs (k + 7))], [qx (osmallD xs (k + 8)), qx (osmallD xs (k + 9)), qx (osmallD xs (k + 10)), qx (osmallD xs (k + 11))], [qx (osmallD xs (k + 12)), qx (osmallD xs (k + 13)), qx (osmallD xs (k + 14)), qx (osmallD xs (k + 15))]])) (k + 16 + 1) := by
  have a1 : k + 1 ≤ 900 := by omega
  have a2 : k + 2 ≤ 900 := by omega
  have a3 : k + 3 ≤ 900 := by omega
  have a4 : k + 4 ≤ 900 := by omega
  have a5 : k + 5 ≤ 900 := by omega
  have a6 : k + 6 ≤ 900 := by omega
  have a7 : k + 7 ≤ 900 := by omega
  have a8 : k + 8 ≤ 900 := by omega
  have a9 : k + 9 ≤ 900 := by omega
  have a10 : k + 10 ≤ 900 := by omega
  have a11 : k + 11 ≤ 900 := by omega
  have a12 : k + 12 ≤ 900 := by omega
  have a13 : k + 13 ≤ 900 := by omega
  have a14 : k + 14 ≤ 900 := by omega
  have a15 : k + 15 ≤ 900 := by omega
  have a16 : k + 16 ≤ 900 := by omega
  have a0 : k ≤ 900 := by omega
  refine dct_of (O := fun A n c => orO (dkO 15 A n c (rK fun k => (Small B64 xs ∧ k ≤ 900, nA (osmallD xs k), k + 1))) (dkO 21 A n c (rKI fun k z => (z = 9 ∧ k ≤ 900, bA (((dk xs k % 9 : Nat) : Int) == 8), k + 1)))) (by kernel_rfl) tyO_ok (fun A n c F w hA hn => only_or dkO_only (dkO_ok (xs := xs) (ent Tryd.func15 (by kernel_rfl) rfl) (rK_ok fun k hp => osmallD_dct hp) hA hn) (dkO_ok (xs := xs) (ent Tryd.func21 (by kernel_rfl) rfl) (rKI_ok fun k z hp => by obtain ⟨rfl, hp⟩ := hp; exact od_yes xs k hp) hA hn) (fun d st args => by simp [dkO])) [9999997, 26, 10, 9999998, 23, 9999999, 0, 2, 10, 12, 55, 47, 2001, 9999999, 0, 2, 10, 12, 14, 16, 55, 47, 2001] 12100 42 [.tmp 4] Tryd.func8 rfl Tryd.ntmps8 (by decide) (by rw [Tryd.results8]) (by simp) rfl (fun A n c hsm hs => ?_)
  simp (maxSteps := 10000000) only [go_sem, ↓reduceIte, Nat.reduceMul, Nat.reduceDiv, Nat.reduceAdd, Nat.reduceEqDiff, Nat.reduceLeDiff, Nat.reduceLT, reduceCtorEq, Int.reduceNeg, Int.reduceLT, Int.reduceLE, Int.reduceAdd, Int.reduceToNat, Nat.reduceBEq, Int.reduceMul, Int.reduceSub, Nat.reduceSub, boxL_nil, boxL_cons, ptsL_nil, ptsL_cons, ↓outL_box, ↓outL_pts, ↓clL_box, ↓clL_pts, ↓okL_box, ↓okL_pts, ↓ment_box, ↓ment_pts, ↓olL_box, ↓olL_pts, ↓cvL_box, ↓cvL_pts, ↓noO_box, ↓noO_pts, ↓asB_box, ↓asP_pts, ↓len_box, ↓len_pts, bne_self_eq_false, Int.reduceBNe, Nat.reduceBNe, wr2, wr3, wr4, wr5, wr6, wr7, wr8, gB, gP, gBB, gBP, gBZ, gBBZ, bC_nil, bC_cons, pC_nil, pC_cons, fvO, Lc.up, List.replicate_succ, List.replicate_zero, List.flatten_cons, List.flatten_nil, Int.ofNat_lt, Int.cast_ofNat_Int, Int.ofNat_eq_natCast, List.isEmpty_cons, and_false, false_and, List.cons_ne_nil, Nat.add_zero, ite_true, ite_false, if_true, if_false, Nat.le_zero_eq, eq_self, Bool.and_false, Bool.false_and, Bool.true_and, tiQ, gA, gE, asZ, asT, asV1, asN1, asB_b, asP_b, asM_m, asQ_m, ite_self, tyO, rowL, hdT, Option.isSome_none, frL_osl, frL_ol, Nat.add_assoc, hs2, hy, a0, a1, a2, a3, a4, a5, a6, a7, a8, a9, a10, a11, a12, a13, a14, a15, a16, bxe, pxe, frh, frz, frS, frA, frL]
  repeat' first | (with_reducible apply And.intro) | (with_reducible apply condP <;> intro _)
  all_goals first | (show chk _ _ = true; kernel_rfl) | with_reducible assumption | rfl | omega | (simp only [AV.s, cond_true, cond_false, Bool.and_true, Bool.true_and, *]; done)
theorem opts_ex {xs : List Nat} {k n : Nat} (hs2 : Small B64 xs) (hk : k + 20 ≤ 900) (h1 : 1 ≤ n) (h4 : n ≤ 4) : ∃ (m : List (List X)) (k' : Nat), (SqX n m ∧ ∀ r ∈ m, ∀ x ∈ r, ∃ q, Few q ∧ x = qx q) ∧ k ≤ k' ∧ k' ≤ k + 17 ∧ DCt 8 xs [iA (n : Int)] k (.s (qL m)) k' := by
  have hf := osmallD_few xs
  have hn : n = 1 ∨ n = 2 ∨ n = 3 ∨ n = 4 := by omega
  rcases hn with rfl | rfl | rfl | rfl
  · refine ⟨_, _, ⟨⟨?_, ?_⟩, ?_⟩, ?_, ?_, od_pts1 xs k hs2 hk⟩
    case refine_1 => rfl
    case refine_2 => intro r hr; simp only [List.mem_cons, List.not_mem_nil, or_false] at hr; rcases hr with rfl <;> rfl
    case refine_3 => intro r hr x hx; simp only [List.mem_cons, List.not_mem_nil, or_false] at hr; subst hr; simp only [List.mem_cons, List.not_mem_nil, or_false] at hx; subst hx; exact ⟨_, hf _, rfl⟩
    all_goals omega
  · cases hy : (((dk xs (k + 4) % 9 : Nat) : Int) == 8) with
    | true =>
      refine ⟨_, _, ⟨⟨?_, ?_⟩, ?_⟩, ?_, ?_, od_pts2y xs k hs2 hk hy⟩
      case refine_1 => rfl
      case refine_2 => intro r hr; simp only [List.mem_cons, List.not_mem_nil, or_false] at hr; rcases hr with rfl | rfl <;> rfl
      case refine_3 =>
        intro r hr x hx; simp only [List.mem_cons, List.not_mem_nil, or_false] at hr
        rcases hr with rfl | rfl <;> simp only [List.mem_cons, List.not_mem_nil, or_false] at hx <;> rcases hx with rfl | rfl <;> exact ⟨_, hf _, rfl⟩
      all_goals omega
    | false =>
      refine ⟨_, _, ⟨⟨?_, ?_⟩, ?_⟩, ?_, ?_, od_pts2n xs k hs2 hk hy⟩
      case refine_1 => rfl
      case refine_2 => intro r hr; simp only [List.mem_cons, List.not_mem_nil, or_false] at hr; rcases hr with rfl | rfl <;> rfl
      case refine_3 =>
        intro r hr x hx; simp only [List.mem_cons, List.not_mem_nil, or_false] at hr
        rcases hr with rfl | rfl <;> simp only [List.mem_cons, List.not_mem_nil, or_false] at hx <;> rcases hx with rfl | rfl <;> exact ⟨_, hf _, rfl⟩
      all_goals omega
  · cases hy : (((dk xs (k + 9) % 9 : Nat) : Int) == 8) with
    | true =>
      refine ⟨_, _, ⟨⟨?_, ?_⟩, ?_⟩, ?_, ?_, od_pts3y xs k hs2 hk hy⟩
      case refine_1 => rfl
      case refine_2 => intro r hr; simp only [List.mem_cons, List.not_mem_nil, or_false] at hr; rcases hr with rfl | rfl | rfl <;> rfl
      case refine_3 =>
        intro r hr x hx; simp only [List.mem_cons, List.not_mem_nil, or_false] at hr
        rcases hr with rfl | rfl | rfl <;> simp only [List.mem_cons, List.not_mem_nil, or_false] at hx <;> rcases hx with rfl | rfl | rfl <;> exact ⟨_, hf _, rfl⟩
      all_goals omega
    | false =>
      refine ⟨_, _, ⟨⟨?_, ?_⟩, ?_⟩, ?_, ?_, od_pts3n xs k hs2 hk hy⟩
      case refine_1 => rfl
      case refine_2 => intro r hr; simp only [List.mem_cons, List.not_mem_nil, or_false] at hr; rcases hr with rfl | rfl | rfl <;> rfl
      case refine_3 =>
        intro r hr x hx; simp only [List.mem_cons, List.not_mem_nil, or_false] at hr
        rcases hr with rfl | rfl | rfl <;> simp only [List.mem_cons, List.not_mem_nil, or_false] at hx <;> rcases hx with rfl | rfl | rfl <;> exact ⟨_, hf _, rfl⟩
      all_goals omega
  · cases hy : (((dk xs (k + 16) % 9 : Nat) : Int) == 8) with
    | true =>
      refine ⟨_, _, ⟨⟨?_, ?_⟩, ?_⟩, ?_, ?_, od_pts4y xs k hs2 hk hy⟩
      case refine_1 => rfl
      case refine_2 => intro r hr; simp only [List.mem_cons, List.not_mem_nil, or_false] at hr; rcases hr with rfl | rfl | rfl | rfl <;> rfl
      case refine_3 =>
        intro r hr x hx; simp only [List.mem_cons, List.not_mem_nil, or_false] at hr
        rcases hr with rfl | rfl | rfl | rfl <;> simp only [List.mem_cons, List.not_mem_nil, or_false] at hx <;> rcases hx with rfl | rfl | rfl | rfl <;> exact ⟨_, hf _, rfl⟩
      all_goals omega
    | false =>
      refine ⟨_, _, ⟨⟨?_, ?_⟩, ?_⟩, ?_, ?_, od_pts4n xs k hs2 hk hy⟩
      case refine_1 => rfl
      case refine_2 => intro r hr; simp only [List.mem_cons, List.not_mem_nil, or_false] at hr; rcases hr with rfl | rfl | rfl | rfl <;> rfl
      case refine_3 =>
        intro r hr x hx; simp only [List.mem_cons, List.not_mem_nil, or_false] at hr
        rcases hr with rfl | rfl | rfl | rfl <;> simp only [List.mem_cons, List.not_mem_nil, or_false] at hx <;> rcases hx with rfl | rfl | rfl | rfl <;> exact ⟨_, hf _, rfl⟩
      all_goals omega
end Go.Proofs.YtpacpmmdjmnamaaDoor
