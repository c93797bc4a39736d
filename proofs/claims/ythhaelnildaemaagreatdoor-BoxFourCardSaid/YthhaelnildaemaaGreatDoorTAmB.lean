/- Some boxes that the statements know, by contracts of boxes with two intervals alone. -/
import Derived.Test.YthhaelnildaemaaGreatDoorTAl9
namespace Go.Proofs.YthhaelnildaemaaGreatDoor
open Go.RowKit Nx
set_option linter.unusedVariables false
set_option linter.unusedSimpArgs false
set_option maxRecDepth 100000
set_option maxHeartbeats 4000000
attribute [local go_sem] run init X.L J.L vL X.eta J.eta Q.eta List.cons_append List.nil_append brkK brkf_b brkf_t exef_some exif_some condf_b opf bodyE addR skipE stepOp stepLoad stepStore stepField stepCall stepBS stepBi stepCv stepIx lpf hdS pick forget inL mentA ment dom evs evl evp evd okeys look fillA capsOf wordsOf rowsOf lenOf convK binV shV intV unV boolT tyT tiB tiI tiW tiD tiF tiR tiU tiNum tiIv tiVal tiSc okLf okD keysOf tblO cvA cvL dnL olA olL noO noA cbL cbA orT noT one asNum asIv asVal postf_some resA tupA clA clL dropTo decide_true decide_false List.all_cons List.all_nil Bool.and_true Bool.and_self true_and and_true and_self List.length_cons List.length_nil List.drop_succ_cons List.drop_zero List.take_succ_cons List.take_zero List.getElem?_cons_zero List.getElem?_cons_succ List.map_cons List.map_nil false_implies true_implies Option.bind_some List.getElem?_toArray Bool.false_eq_true List.append_nil List.flatMap_cons List.flatMap_nil true_or or_true forall_const List.reverse_cons List.reverse_nil Option.isSome_some Option.any_some Nat.lt_irrefl not_true_eq_false Bool.not_true Bool.not_false imp_self implies_true Bool.not_eq_true' Bool.not_eq_false' Bool.true_eq_false memOf cntF nmL rnL nmA rnA isV contsOf ndB refO orO pin Int.toNat_zero decide_eq_true_eq wrap0 wrap1 ci1 ci2 BEq.rfl beq_self_eq_true Int.natCast_zero ge_iff_le gt_iff_lt Int.le_refl Nat.zero_mul Nat.one_mul Nat.zero_add Nat.zero_lt_succ Nat.lt_add_one Nat.le_refl List.append_eq Int.toNat_natCast gN gNN gNI gI gNNIB gNIB gJ gJJ gJN gJJI gJI stepB0 stepMk stepSl stepAp apY optI okO nilV slT resB outPs outLs outL dnT noE boxL_nil boxL_cons ptsL_nil ptsL_cons bxe pxe bne_self_eq_false wr2 wr3 wr4 wr5 wr6 wr7 wr8 gB gP gBB gBP gBZ gBBZ asB nilB asJs asXs wsOf bC_nil bC_cons pC_nil pC_cons fvO Lc.up tyB tiS tiBB List.replicate_succ List.replicate_zero List.flatten_cons List.flatten_nil Int.ofNat_lt Int.cast_ofNat_Int Int.ofNat_eq_natCast List.isEmpty_nil List.isEmpty_cons and_false false_and List.cons_ne_nil Nat.add_zero ite_true ite_false if_true if_false Nat.le_zero_eq eq_self Bool.and_false Bool.false_and Bool.true_and AV.s cond_true cond_false Bool.or_true Bool.true_or Bool.or_false Bool.false_or
attribute [local go_sem ↓] cond_true cond_false not_cond outL_box outL_pts clL_box clL_pts okL_box okL_pts ment_box ment_pts olL_box olL_pts cvL_box cvL_pts noO_box noO_pts asB_box asP_pts len_box len_pts
attribute [local irreducible] chk
theorem two_of {α : Type} {l : List α} (h : l.length = 2) : ∃ a b, l = [a, b] := by
  match l, h with
  | [a, b], _ => exact ⟨a, b, rfl⟩
theorem ks_same (a b s t : J) : Ct Tryz.prog 36 [bA_ [a, b], bA_ [s, t]] (· = bA (sameB [a, b] [s, t])) := by
  refine ct_of (O := orO (hoO 52 2 (hpin [] 98 [bA_ [a, b], bA_ [s, t]] (bA (all2 sameJ [a, b] [s, t])))) (tblO noT)) (by kernel_rfl) tyB_ok (fun w => hoO_or (hoO_ok (ent Tryz.func52 (by kernel_rfl) rfl) (fun ls c xs e he hp S w' gs hb ht' hL => by
    injection he with he; subst he
    obtain ⟨rfl, rfl, rfl⟩ := hp
    obtain rfl : gs = [] := List.eq_nil_of_length_eq_zero hL.1
    exact eqfJ2 a b s t ht' (fvT Tiv_Same_ok (ent Tryz.func98 (by kernel_rfl) rfl)))) (tblO_ok noT_ok _ w) (fun _ _ _ => tblO_none fun _ => rfl)) [] 600 8 [.tmp 4] Tryz.func36 rfl Tryz.ntmps36 (by rw [Tryz.results36]) (by simp) rfl (fun hsm => ?_)
  simp (maxSteps := 10000000) only [go_sem, ↓reduceIte, Nat.reduceMul, Nat.reduceDiv, Nat.reduceAdd, Nat.reduceEqDiff, Nat.reduceLeDiff, Nat.reduceLT, reduceCtorEq, Int.reduceNeg, Int.reduceLT, Int.reduceLE, Int.reduceAdd, Int.reduceToNat, Nat.reduceBEq, Int.reduceMul, Int.reduceSub, Nat.reduceSub, Int.reduceBNe, Nat.reduceBNe, asP, hoO, hoK, hpin]
  repeat' first | (with_reducible apply And.intro) | (with_reducible apply condP <;> intro _)
  all_goals first | (show chk _ _ = true; kernel_rfl) | assumption | (simp only [go_sem, *, hoO, hoK, hpin, sameB] <;> rfl) | rfl | (exfalso; simp_all only [Bool.true_eq_false, Bool.false_eq_true, reduceCtorEq]; done)
noncomputable def TkSame : Tbl := one 36 (gBB fun l m => (l.length = 2 ∧ m.length = 2, bA (sameB l m)))
theorem TkSame_ok : TbOK Tryz.prog TkSame := one_ok (ent Tryz.func36 (by kernel_rfl) rfl) fun args e h hp => gBB_ct (fun l m (h : l.length = 2 ∧ m.length = 2) => by
  obtain ⟨a, b, rfl⟩ := two_of h.1
  obtain ⟨s, t, rfl⟩ := two_of h.2
  exact ks_same a b s t) h hp
theorem ks_has (a b : J) (s t : X) (h1 : rightB [a, b] = true) : Ct Tryz.prog 16 [bA_ [a, b], pA_ [s, t]] (· = bA (hasB [a, b] [s, t])) := by
  refine ct_of (O := orO (hoO 51 2 (hpin [] 31 [bA_ [a, b], pA_ [s, t]] (bA (all2 hasJ [a, b] [s, t])))) (tblO Tbox_Right)) (by kernel_rfl) tyB_ok (fun w => hoO_or (hoO_ok (ent Tryz.func51 (by kernel_rfl) rfl) (fun ls c xs e he hp S w' gs hb ht' hL => by
    injection he with he; subst he
    obtain ⟨rfl, rfl, rfl⟩ := hp
    obtain rfl : gs = [] := List.eq_nil_of_length_eq_zero hL.1
    exact eqfX2 a b s t ht' (fvT Tiv_Has_ok (ent Tryz.func31 (by kernel_rfl) rfl)))) (tblO_ok Tbox_Right_ok _ w) (fun _ _ _ => tblO_none fun _ => one_none (by decide))) [] 600 12 [.tmp 4] Tryz.func16 rfl Tryz.ntmps16 (by rw [Tryz.results16]) (by simp) rfl (fun hsm => ?_)
  simp (maxSteps := 10000000) only [go_sem, ↓reduceIte, Nat.reduceMul, Nat.reduceDiv, Nat.reduceAdd, Nat.reduceEqDiff, Nat.reduceLeDiff, Nat.reduceLT, reduceCtorEq, Int.reduceNeg, Int.reduceLT, Int.reduceLE, Int.reduceAdd, Int.reduceToNat, Nat.reduceBEq, Int.reduceMul, Int.reduceSub, Nat.reduceSub, Int.reduceBNe, Nat.reduceBNe, asP, Tbox_Right, hoO, hoK, hpin, h1]
  repeat' first | (with_reducible apply And.intro) | (with_reducible apply condP <;> intro _)
  all_goals first | (show chk _ _ = true; kernel_rfl) | assumption | (simp only [go_sem, *, hoO, hoK, hpin, hasB, h1] <;> rfl) | rfl | (exfalso; simp_all only [Bool.true_eq_false, Bool.false_eq_true, reduceCtorEq]; done)
noncomputable def TkHas : Tbl := one 16 (gBP fun l m => (rightB l = true ∧ l.length = 2 ∧ m.length = 2, bA (hasB l m)))
theorem TkHas_ok : TbOK Tryz.prog TkHas := one_ok (ent Tryz.func16 (by kernel_rfl) rfl) fun args e h hp => gBP_ct (fun l m (h : rightB l = true ∧ l.length = 2 ∧ m.length = 2) => by
  obtain ⟨a, b, rfl⟩ := two_of h.2.1
  obtain ⟨s, t, rfl⟩ := two_of h.2.2
  exact ks_has a b s t h.1) h hp
theorem ks_in (a b s t : J) (h1 : rightB [a, b] = true) : Ct Tryz.prog 17 [bA_ [a, b], bA_ [s, t]] (· = bA (inB [a, b] [s, t])) := by
  refine ct_of (O := orO (hoO 52 2 (hpin [] 53 [bA_ [a, b], bA_ [s, t]] (bA (all2 inJ [a, b] [s, t])))) (tblO Tbox_Right)) (by kernel_rfl) tyB_ok (fun w => hoO_or (hoO_ok (ent Tryz.func52 (by kernel_rfl) rfl) (fun ls c xs e he hp S w' gs hb ht' hL => by
    injection he with he; subst he
    obtain ⟨rfl, rfl, rfl⟩ := hp
    obtain rfl : gs = [] := List.eq_nil_of_length_eq_zero hL.1
    exact eqfJ2 a b s t ht' (fvT Tiv_In_ok (ent Tryz.func53 (by kernel_rfl) rfl)))) (tblO_ok Tbox_Right_ok _ w) (fun _ _ _ => tblO_none fun _ => one_none (by decide))) [] 600 16 [.tmp 4] Tryz.func17 rfl Tryz.ntmps17 (by rw [Tryz.results17]) (by simp) rfl (fun hsm => ?_)
  simp (maxSteps := 10000000) only [go_sem, ↓reduceIte, Nat.reduceMul, Nat.reduceDiv, Nat.reduceAdd, Nat.reduceEqDiff, Nat.reduceLeDiff, Nat.reduceLT, reduceCtorEq, Int.reduceNeg, Int.reduceLT, Int.reduceLE, Int.reduceAdd, Int.reduceToNat, Nat.reduceBEq, Int.reduceMul, Int.reduceSub, Nat.reduceSub, Int.reduceBNe, Nat.reduceBNe, asP, Tbox_Right, hoO, hoK, hpin, h1]
  repeat' first | (with_reducible apply And.intro) | (with_reducible apply condP <;> intro _)
  all_goals first | (show chk _ _ = true; kernel_rfl) | assumption | (simp only [go_sem, *, hoO, hoK, hpin, inB, h1] <;> rfl) | rfl | (exfalso; simp_all only [Bool.true_eq_false, Bool.false_eq_true, reduceCtorEq]; done)
noncomputable def TkIn : Tbl := one 17 (gBB fun l m => (rightB l = true ∧ l.length = 2 ∧ m.length = 2, bA (inB l m)))
theorem TkIn_ok : TbOK Tryz.prog TkIn := one_ok (ent Tryz.func17 (by kernel_rfl) rfl) fun args e h hp => gBB_ct (fun l m (h : rightB l = true ∧ l.length = 2 ∧ m.length = 2) => by
  obtain ⟨a, b, rfl⟩ := two_of h.2.1
  obtain ⟨s, t, rfl⟩ := two_of h.2.2
  exact ks_in a b s t h.1) h hp
noncomputable def TkOf : Tbl := one 41 (gP fun l => (l.length = 2, .s (ofL l)))
theorem TkOf_ok : TbOK Tryz.prog TkOf := one_ok (ent Tryz.func41 (by kernel_rfl) rfl) fun args e h hp => gP_ct (fun l (h : l.length = 2) => by
  obtain ⟨a, b, rfl⟩ := two_of h
  exact b_of2 a b) h hp
noncomputable def TkRepl : Tbl := one 93 (gBIXX fun l i lo hi => (l.length = 2 ∧ i = 1, .s (boxL (rplB l i lo hi))))
theorem TkRepl_ok : TbOK Tryz.prog TkRepl := one_ok (ent Tryz.func93 (by kernel_rfl) rfl) fun args e h hp => gBIXX_ct (fun l i lo hi (h : l.length = 2 ∧ i = 1) => by
  obtain ⟨a, b, rfl⟩ := two_of h.1
  obtain rfl := h.2
  exact b_repl21 a b lo hi) h hp
theorem ks_half (a b : J) (z : Int) (w : X) (hw : widS [a, b] z = ((1, w), 0)) : Ct Tryz.prog 32 [bA_ [a, b], iA z] (· = bbe (halfB [a, b] z)) := by
  refine ct_of (O := tblO (orT Tbox_widest (orT Tiv_Mid TkRepl))) (by kernel_rfl) tyB_ok (fun w => tblO_ok (orT_ok Tbox_widest_ok (orT_ok Tiv_Mid_ok TkRepl_ok)) _ w) [] 600 51 [.tmp 4, .tmp 5, .tmp 6] Tryz.func32 rfl Tryz.ntmps32 (by rw [Tryz.results32]) (by simp) rfl (fun hsm => ?_)
  simp (maxSteps := 10000000) only [go_sem, ↓reduceIte, Nat.reduceMul, Nat.reduceDiv, Nat.reduceAdd, Nat.reduceEqDiff, Nat.reduceLeDiff, Nat.reduceLT, reduceCtorEq, Int.reduceNeg, Int.reduceLT, Int.reduceLE, Int.reduceAdd, Int.reduceToNat, Nat.reduceBEq, Int.reduceMul, Int.reduceSub, Nat.reduceSub, Int.reduceBNe, Nat.reduceBNe, Tbox_widest, Tiv_Mid, TkRepl, hoO, hoK, hpin, widA, hw, gBIXX]
  repeat' first | (with_reducible apply And.intro) | (with_reducible apply condP <;> intro _)
  all_goals first | (show chk _ _ = true; kernel_rfl) | assumption | (simp only [go_sem, *, hoO, hoK, hpin, hw, halfB, bbe, Nat.reduceAdd, List.getD_cons_zero, List.getD_cons_succ, Int.reduceToNat, Int.toNat_one] <;> rfl) | rfl | (exfalso; simp_all only [Bool.true_eq_false, Bool.false_eq_true, reduceCtorEq]; done)
noncomputable def TkHalve : Tbl := one 32 (gBZ fun l z => (l.length = 2 ∧ (widS l z).1.1 = 1 ∧ (widS l z).2 = 0, bbe (halfB l z)))
theorem TkHalve_ok : TbOK Tryz.prog TkHalve := one_ok (ent Tryz.func32 (by kernel_rfl) rfl) fun args e h hp => gBZ_ct (fun l z (h : l.length = 2 ∧ (widS l z).1.1 = 1 ∧ (widS l z).2 = 0) => by
  obtain ⟨a, b, rfl⟩ := two_of h.1
  exact ks_half a b z (widS [a, b] z).1.2 (by rw [← h.2.1, ← h.2.2])) h hp
theorem l6_known2  : Ct Tryz.prog 8 [] (· = bA true) := by
  refine ct_of (O := tblO (orT TkHalve (orT Tbox_Hull (orT Tbox_Add (orT Tbox_Wide (orT Tbox_Mid (orT Tbox_Blow (orT TkSame (orT Tbox_Right (orT Tref_Same (orT TkHas (orT TkIn TkOf)))))))))))) (by kernel_rfl) tyB_ok (fun w => tblO_ok (orT_ok TkHalve_ok (orT_ok Tbox_Hull_ok (orT_ok Tbox_Add_ok (orT_ok Tbox_Wide_ok (orT_ok Tbox_Mid_ok (orT_ok Tbox_Blow_ok (orT_ok TkSame_ok (orT_ok Tbox_Right_ok (orT_ok Tref_Same_ok (orT_ok TkHas_ok (orT_ok TkIn_ok TkOf_ok))))))))))) _ w) [] 1500 128 [.tmp 0] Tryz.func8 rfl Tryz.ntmps8 (by rw [Tryz.results8]) (by simp) rfl (fun hsm => ?_)
  simp (maxSteps := 10000000) only [go_sem, ↓reduceIte, Nat.reduceMul, Nat.reduceDiv, Nat.reduceAdd, Nat.reduceEqDiff, Nat.reduceLeDiff, Nat.reduceLT, reduceCtorEq, Int.reduceNeg, Int.reduceLT, Int.reduceLE, Int.reduceAdd, Int.reduceToNat, Nat.reduceBEq, Int.reduceMul, Int.reduceSub, Nat.reduceSub, Int.reduceBNe, Nat.reduceBNe, asP, TkHalve, Tbox_Hull, Tbox_Add, Tbox_Wide, Tbox_Mid, Tbox_Blow, TkSame, Tbox_Right, Tref_Same, TkHas, TkIn, TkOf, k6_half, k6_hull, k6_add, k6_wide, k6_mid, k6_blow, k6_same, k6_right, k6_samex, k6_has, k6_in, k6_rightB, bbe, ofL, zX]
  repeat' first | (with_reducible apply And.intro) | (with_reducible apply condP <;> intro _)
  all_goals try (simp only [inW]; decide)
  all_goals first | (show chk _ _ = true; kernel_rfl) | assumption | (simp only [go_sem, *, k6_wide, k6_rightB, Nat.reduceAdd] <;> rfl) | rfl | (exfalso; simp_all only [Bool.true_eq_false, Bool.false_eq_true, reduceCtorEq]; done)
noncomputable def Tlaw6_known2 : Tbl := one 8 (fun args => match args with
  | [] => some (True, bA true)
  | _ => none)
theorem Tlaw6_known2_ok : TbOK Tryz.prog Tlaw6_known2 := one_ok (ent Tryz.func8 (by kernel_rfl) rfl) fun args e h hp => by
  split at h
  · injection h with h; subst h; exact l6_known2
  · cases h
end Go.Proofs.YthhaelnildaemaaGreatDoor
