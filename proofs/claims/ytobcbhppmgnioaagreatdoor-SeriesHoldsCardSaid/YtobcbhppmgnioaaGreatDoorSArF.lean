/- Package series: a product, coefficient by coefficient. -/
import Derived.Test.YtobcbhppmgnioaaGreatDoorSArE
namespace Go.Proofs.YtobcbhppmgnioaaGreatDoor
open Go.RowKit Go.Shelf Nx
set_option linter.unusedSimpArgs false
attribute [local irreducible] chk
theorem jL_len : ∀ (l : List J), (l.flatMap J.L).length = l.length * 6 := by
 intro l
 induction l with
 | nil => rfl
 | cons a l ih => rw [List.flatMap_cons, List.length_append, ih, List.length_cons]; show 6 + _ = _; omega
theorem jL_me (st : St) : ∀ (l : List J), (l.flatMap J.L).all (ment st) = true := by
 intro l
 induction l with
 | nil => rfl
 | cons a l ih => rw [List.flatMap_cons, List.all_append, ih]; rfl
theorem jL_cl : ∀ (l : List J), (l.flatMap J.L).all clL = true := by
 intro l
 induction l with
 | nil => rfl
 | cons a l ih => rw [List.flatMap_cons, List.all_append, ih]; rfl
def slT2 (t u : Nat) (x : Nat) : Bool := decide (t < x) && !(x == u)
theorem slT2_no {t u x : Nat} (h : ¬ (t < x ∧ x ≠ u)) : slT2 t u x = false := by
 unfold slT2
 by_cases h1 : t < x
 ·have : x = u := Classical.byContradiction fun e => h ⟨h1, e⟩
  simp [this]
 ·simp [h1]
theorem cap_cell {F : Fx} {w0 W : World} {N : Nat} {ρ : Env} {st : St} {a : Act} (h : Cz F w0 N ρ st a W) {b : Nat} {l : Lf} (hl : look st (2 * b + 1) = some (.v false [l])) : ∃ u, W.cell? ⟨ρ b, 0, none⟩ = some u ∧ l.R ρ (dom st) W u := by
 obtain ⟨g, ls, T, cs, e, hB, hr, _⟩ := h.mv hl
 injection e with e1 e2
 subst e2
 obtain ⟨u, r, e3, h1, h2⟩ := hr
 have h2 : r = [] := h2
 subst h2
 refine ⟨u, ?_, h1⟩
 rw [hB.wb.cell, ← Array.getElem?_toList, e3]; rfl
theorem clo_names {F F' : Fx} {w0 w W : World} {N : Nat} {ρ ρ' : Env} {st st' : St} {a a' : Act} (h : Cz F w0 N ρ st a w) (h' : Cz F' w0 N ρ' st' a' W) {t f : Nat} {cs : List Nat} (hl : look st (2 * t) = some (.s (.clo f cs))) (hl' : look st' (2 * t) = some (.s (.clo f cs))) (ht : a'.tmps = a.tmps) : ∀ b ∈ cs, ρ' b = ρ b := by
 obtain ⟨u, hu, hr⟩ := h.sl t _ hl
 obtain ⟨u', hu', hr'⟩ := h'.sl t _ hl'
 rw [ht, hu] at hu'
 injection hu' with hu'; subst hu'
 have e1 := (RL.one.1 hr).2
 have e2 := (RL.one.1 hr').2
 rw [e1] at e2
 injection e2 with _ _ e2
 have e3 := congrArg Array.toList e2
 simp only at e3
 intro b hb
 have e4 := (List.map_inj_left.1 e3) b hb
 injection e4 with e4; injection e4 with e4; injection e4 with e4
 exact e4.symm
theorem sl_nD {ρ : Env} {D : Nat → Bool} {w : World} {l : List J} {u : Value} (h : (Lf.sl false 6 l.length (bC l)).R ρ D w u) : (bA_ l).R envA nD w u :=
 RL.one.2 (h.closed rfl fun g _ => ⟨(fun b hb => by cases hb), (fun b hb => by cases hb)⟩)
noncomputable def prR (z : Int) (a b : List J) (k : Nat) : GR := bif (eachN (fun j => coN z a b j j) (k + 1)).2 != 0 then .err (eachN (fun j => coN z a b j j) (k + 1)).2 else .ok ⟨k + 1, 28, 6, (eachN (fun j => coN z a b j j) (k + 1)).1.flatMap J.L⟩
set_option maxRecDepth 100000 in
set_option maxHeartbeats 4000000 in
theorem se_prod (a b : List J) (k : Nat) (z : Int) (ha : k < a.length) (hb : k < b.length) (h2 : k ≤ 900) : Gd Tryz.prog 108 [bA_ a, bA_ b, iA k, iA z] (prR z a b k) := by
 have hwk := wrap_nat (j := k) (by omega)
 have m0 : ((0 : Int) = ((k + 1 : Nat) : Int)) = False := eq_false (by omega)
 have m1 : ((0 : Int) < ((k + 1 : Nat) : Int)) = True := eq_true (by omega)
 have m2 : (((k + 1 : Nat) : Int) ≤ 1000) = True := eq_true (by omega)
 refine gdR_of tyM_ok (O := orO coefO (tblO noT)) (fun F w => orO_ok (coefO_ok F w) (tblO_ok noT_ok F w) (fun _ _ _ _ _ he => by cases he)) 400 [.cell 8 23, .cell 9 49] Tryz.func108 rfl Tryz.ntmps108 (by rw [Tryz.results108]) (by simp) rfl (fun hsm => ?_)
 obtain ⟨PP, hPP⟩ : ∃ PP : St → Prop, PP = fun st => grp (prR z a b k) st (resB tyM st [.cell 8 23, .cell 9 49]) := ⟨_, rfl⟩
 rw [← hPP]
 simp (maxSteps := 10000000) only [init, seval, X.L, J.L, vL, X.eta, J.eta, Q.eta, List.cons_append, List.nil_append, brkK, brkf_b, brkf_t, exef_some, exif_some, condf_b, opf, bodyE, addR, skipE, stepOp, stepLoad, stepStore, stepField, stepCall, stepBS, stepB0, stepMk, stepSl, stepAp, apY, optI, okO, nilV, slT, stepBi, stepCv, stepIx, inL, mentA, ment, dom, evs, evl, evp, evd, okeys, look, fillA, capsOf, wordsOf, rowsOf, lenOf, convK, binV, shV, intV, unV, boolT, tyT, tiB, tiI, tiW, tiD, tiF, tiR, tiU, tiNum, tiIv, tiVal, tiSc, okLf, okD, keysOf, tblO, cvA, cvL, dnL, olA, olL, noO, noA, cbL, cbA, orT, ↓cond_true, ↓cond_false, ↓not_cond, noT, one, asNum, asIv, asVal, postf_some, resA, resB, outPs, outLs, outL, dnT, tupA, clA, clL, dropTo, decide_true, decide_false, reduceCtorEq, List.all_cons, List.all_nil, Bool.and_true, Bool.and_self, true_and, and_true, and_self, List.length_cons, List.length_nil, List.drop_succ_cons, List.drop_zero, List.take_succ_cons, List.take_zero, List.getElem?_cons_zero, List.getElem?_cons_succ, List.map_cons, List.map_nil, false_implies, true_implies, Option.bind_some, List.getElem?_toArray, Bool.false_eq_true, List.append_nil, List.flatMap_cons, List.flatMap_nil, true_or, or_true, forall_const, List.reverse_cons, List.reverse_nil, Option.isSome_some, Option.any_some, Nat.lt_irrefl, not_true_eq_false, Bool.not_true, Bool.not_false, imp_self, implies_true, Bool.not_eq_true', Bool.not_eq_false', Bool.true_eq_false, memOf, cntF, nmL, rnL, nmA, rnA, isV, noE, contsOf, ndB, refO, orO, pin, Int.toNat_zero, decide_eq_true_eq, wrap0, wrap1, ci1, ci2, BEq.rfl, beq_self_eq_true, Int.natCast_zero, ge_iff_le, gt_iff_lt, Int.le_refl, Nat.zero_mul, Nat.one_mul, Nat.zero_add, Nat.zero_lt_succ, Nat.lt_add_one, Nat.le_refl, List.append_eq, boxL_nil, boxL_cons, ptsL_nil, ptsL_cons, ↓outL_box, ↓outL_pts, ↓clL_box, ↓clL_pts, ↓okL_box, ↓okL_pts, ↓ment_box, ↓ment_pts, ↓olL_box, ↓olL_pts, ↓cvL_box, ↓cvL_pts, ↓noO_box, ↓noO_pts, ↓asB_box, ↓asP_pts, ↓len_box, ↓len_pts, bne_self_eq_false, wr2, wr3, wr4, wr5, wr6, wr7, wr8, gN, gNN, gNI, gI, gNIB, gNNIB, gJ, gJJ, gJN, gJJI, gJI, gB, gP, gBB, gBP, gBZ, gBBZ, bC_nil, bC_cons, pC_nil, pC_cons, fvO, Lc.up, tyB, tiS, tiBB, Int.toNat_natCast, List.replicate_succ, List.replicate_zero, List.flatten_cons, List.flatten_nil, Int.ofNat_lt, Int.cast_ofNat_Int, Int.ofNat_eq_natCast, List.isEmpty_nil, List.isEmpty_cons, and_false, false_and, List.cons_ne_nil, Nat.add_zero, ite_true, ite_false, if_true, if_false, Nat.le_zero_eq, eq_self, Bool.and_false, Bool.false_and, Bool.true_and, tyM, tiQ, tiMM, gA, gE, asZ, asT, asV1, asN1, asB_b, asP_b, asM_m, asQ_m, ite_self, hoO, hoK, hpin, hoO2, hoK2, hpin2, hwk, m0, m1, m2, coefO, runR, ndO, okS, Option.isNone_none, Option.isNone_some, bxe, pxe, lpf, hdS, hd1, pick, forget, frh, frz, frS, frA, frL]
 obtain ⟨G, hG⟩ : ∃ G : Nat → J × Int, G = fun j => coN z a b j j := ⟨_, rfl⟩
 refine ⟨fun j => [(0, bA_ a), (2, bA_ b), (4, iA k), (6, iA z), (16, .s (.own 8 0)), (17, .v true [.lit (.slice none 0 0)]), (18, .s (.own 9 0)), (19, .v true [.lit (.int .i64 0)]), (20, .s (.own 10 0)), (21, .v true [.ol 15 j]), (31, .pre 28 6 ((eachN G j).1.flatMap J.L)), (40, .s (.clo 147 [43, 41, 42, 44])), (83, .v false [.sl false 6 a.length (bC a)]), (85, .v false [.sl false 6 b.length (bC b)]), (87, .v false [.lit (.int .i64 k)]), (89, .v false [.lit (.int .i64 z)])], fun j => [(16, .s (.own 8 0)), (17, .v true [.lit (.slice none 0 0)]), (18, .s (.own 9 0)), (19, .v true [.lit (.int .i64 (G j).2)])], fun j => (eachN G j).2 = 0, fun j => (eachN G j).2 = 0 ∧ ((G j).2 != 0) = true, k + 1, 147, 21, 22, 200, fun j => .v true (G j).1.L, fun j => iA (G j).2, [43, 41, 42, 44], [9999999, 0, 2, 4, 6, 16, 17, 18, 19, 20, 21, 31, 40, 83, 85, 87, 89], [9999999, 16, 17, 18, 19], [9999999, 0, 2, 4, 6, 16, 17, 18, 19, 20, 21, 31, 40, 83, 85, 87, 89], slT2 10 20, rfl, rfl, ?_, rfl, ⟨by omega, by omega, rfl, rfl⟩, ?_, ?_, rfl, ?_, ent Tryz.func147 (by kernel_rfl) rfl, ?_, ?_, ?_⟩
 ·simp (maxSteps := 10000000) only [init, seval, X.L, J.L, vL, X.eta, J.eta, Q.eta, List.cons_append, List.nil_append, brkK, brkf_b, brkf_t, exef_some, exif_some, condf_b, opf, bodyE, addR, skipE, stepOp, stepLoad, stepStore, stepField, stepCall, stepBS, stepB0, stepMk, stepSl, stepAp, apY, optI, okO, nilV, slT, stepBi, stepCv, stepIx, inL, mentA, ment, dom, evs, evl, evp, evd, okeys, look, fillA, capsOf, wordsOf, rowsOf, lenOf, convK, binV, shV, intV, unV, boolT, tyT, tiB, tiI, tiW, tiD, tiF, tiR, tiU, tiNum, tiIv, tiVal, tiSc, okLf, okD, keysOf, tblO, cvA, cvL, dnL, olA, olL, noO, noA, cbL, cbA, orT, ↓cond_true, ↓cond_false, ↓not_cond, noT, one, asNum, asIv, asVal, postf_some, resA, resB, outPs, outLs, outL, dnT, tupA, clA, clL, dropTo, decide_true, decide_false, reduceCtorEq, List.all_cons, List.all_nil, Bool.and_true, Bool.and_self, true_and, and_true, and_self, List.length_cons, List.length_nil, List.drop_succ_cons, List.drop_zero, List.take_succ_cons, List.take_zero, List.getElem?_cons_zero, List.getElem?_cons_succ, List.map_cons, List.map_nil, false_implies, true_implies, Option.bind_some, List.getElem?_toArray, Bool.false_eq_true, List.append_nil, List.flatMap_cons, List.flatMap_nil, true_or, or_true, forall_const, List.reverse_cons, List.reverse_nil, Option.isSome_some, Option.any_some, Nat.lt_irrefl, not_true_eq_false, Bool.not_true, Bool.not_false, imp_self, implies_true, Bool.not_eq_true', Bool.not_eq_false', Bool.true_eq_false, memOf, cntF, nmL, rnL, nmA, rnA, isV, noE, contsOf, ndB, refO, orO, pin, Int.toNat_zero, decide_eq_true_eq, wrap0, wrap1, ci1, ci2, BEq.rfl, beq_self_eq_true, Int.natCast_zero, ge_iff_le, gt_iff_lt, Int.le_refl, Nat.zero_mul, Nat.one_mul, Nat.zero_add, Nat.zero_lt_succ, Nat.lt_add_one, Nat.le_refl, List.append_eq, boxL_nil, boxL_cons, ptsL_nil, ptsL_cons, ↓outL_box, ↓outL_pts, ↓clL_box, ↓clL_pts, ↓okL_box, ↓okL_pts, ↓ment_box, ↓ment_pts, ↓olL_box, ↓olL_pts, ↓cvL_box, ↓cvL_pts, ↓noO_box, ↓noO_pts, ↓asB_box, ↓asP_pts, ↓len_box, ↓len_pts, bne_self_eq_false, wr2, wr3, wr4, wr5, wr6, wr7, wr8, gN, gNN, gNI, gI, gNIB, gNNIB, gJ, gJJ, gJN, gJJI, gJI, gB, gP, gBB, gBP, gBZ, gBBZ, bC_nil, bC_cons, pC_nil, pC_cons, fvO, Lc.up, tyB, tiS, tiBB, Int.toNat_natCast, List.replicate_succ, List.replicate_zero, List.flatten_cons, List.flatten_nil, Int.ofNat_lt, Int.cast_ofNat_Int, Int.ofNat_eq_natCast, List.isEmpty_nil, List.isEmpty_cons, and_false, false_and, List.cons_ne_nil, Nat.add_zero, ite_true, ite_false, if_true, if_false, Nat.le_zero_eq, eq_self, Bool.and_false, Bool.false_and, Bool.true_and, tyM, tiQ, tiMM, gA, gE, asZ, asT, asV1, asN1, asB_b, asP_b, asM_m, asQ_m, ite_self, hoO, hoK, hpin, hoO2, hoK2, hpin2, runR, ndO, okS, Option.isNone_none, Option.isNone_some, bxe, pxe, lpf, hdS, hd1, pick, forget, frh, frz, frS, frA, frL]
  first | rfl | exact ⟨rfl, rfl⟩
 ·intro j t v h
  refine slT2_no fun hx => ?_
  simp only [look] at h
  repeat rw [if_neg (by omega)] at h
  cases h
 ·intro j t v h
  refine slT2_no fun hx => ?_
  simp only [look] at h
  repeat rw [if_neg (by omega)] at h
  cases h
 ·intro j hj hI
  have hlen := eachN_len hI
  have hn : eachN G (j + 1) = bif (G j).2 != 0 then ([], (G j).2) else ((eachN G j).1 ++ [(G j).1], 0) := by
   show (bif (eachN G j).2 != 0 then _ else _) = _
   rw [hI]; rfl
  dsimp only
  rw [hn]
  clear hn
  generalize (eachN G j).1 = l at *
  generalize G j = gj at *
  obtain ⟨c, e⟩ := gj
  have h6 : (l.flatMap J.L).length = j * 6 := by rw [jL_len, hlen]
  have hme := fun st => jL_me st l
  have g1 : (j ≤ 100000) = True := eq_true (by omega)
  cases hE : e != 0 with
  | true =>
   simp (maxSteps := 10000000) only [init, seval, X.L, J.L, vL, X.eta, J.eta, Q.eta, List.cons_append, List.nil_append, brkK, brkf_b, brkf_t, exef_some, exif_some, condf_b, opf, bodyE, addR, skipE, stepOp, stepLoad, stepStore, stepField, stepCall, stepBS, stepB0, stepMk, stepSl, stepAp, apY, optI, okO, nilV, slT, stepBi, stepCv, stepIx, inL, mentA, ment, dom, evs, evl, evp, evd, okeys, look, fillA, capsOf, wordsOf, rowsOf, lenOf, convK, binV, shV, intV, unV, boolT, tyT, tiB, tiI, tiW, tiD, tiF, tiR, tiU, tiNum, tiIv, tiVal, tiSc, okLf, okD, keysOf, tblO, cvA, cvL, dnL, olA, olL, noO, noA, cbL, cbA, orT, ↓cond_true, ↓cond_false, ↓not_cond, noT, one, asNum, asIv, asVal, postf_some, resA, resB, outPs, outLs, outL, dnT, tupA, clA, clL, dropTo, decide_true, decide_false, reduceCtorEq, List.all_cons, List.all_nil, Bool.and_true, Bool.and_self, true_and, and_true, and_self, List.length_cons, List.length_nil, List.drop_succ_cons, List.drop_zero, List.take_succ_cons, List.take_zero, List.getElem?_cons_zero, List.getElem?_cons_succ, List.map_cons, List.map_nil, false_implies, true_implies, Option.bind_some, List.getElem?_toArray, Bool.false_eq_true, List.append_nil, List.flatMap_cons, List.flatMap_nil, true_or, or_true, forall_const, List.reverse_cons, List.reverse_nil, Option.isSome_some, Option.any_some, Nat.lt_irrefl, not_true_eq_false, Bool.not_true, Bool.not_false, imp_self, implies_true, Bool.not_eq_true', Bool.not_eq_false', Bool.true_eq_false, memOf, cntF, nmL, rnL, nmA, rnA, isV, noE, contsOf, ndB, refO, orO, pin, Int.toNat_zero, decide_eq_true_eq, wrap0, wrap1, ci1, ci2, BEq.rfl, beq_self_eq_true, Int.natCast_zero, ge_iff_le, gt_iff_lt, Int.le_refl, Nat.zero_mul, Nat.one_mul, Nat.zero_add, Nat.zero_lt_succ, Nat.lt_add_one, Nat.le_refl, List.append_eq, boxL_nil, boxL_cons, ptsL_nil, ptsL_cons, ↓outL_box, ↓outL_pts, ↓clL_box, ↓clL_pts, ↓okL_box, ↓okL_pts, ↓ment_box, ↓ment_pts, ↓olL_box, ↓olL_pts, ↓cvL_box, ↓cvL_pts, ↓noO_box, ↓noO_pts, ↓asB_box, ↓asP_pts, ↓len_box, ↓len_pts, bne_self_eq_false, wr2, wr3, wr4, wr5, wr6, wr7, wr8, gN, gNN, gNI, gI, gNIB, gNNIB, gJ, gJJ, gJN, gJJI, gJI, gB, gP, gBB, gBP, gBZ, gBBZ, bC_nil, bC_cons, pC_nil, pC_cons, fvO, Lc.up, tyB, tiS, tiBB, Int.toNat_natCast, List.replicate_succ, List.replicate_zero, List.flatten_cons, List.flatten_nil, Int.ofNat_lt, Int.cast_ofNat_Int, Int.ofNat_eq_natCast, List.isEmpty_nil, List.isEmpty_cons, and_false, false_and, List.cons_ne_nil, Nat.add_zero, ite_true, ite_false, if_true, if_false, Nat.le_zero_eq, eq_self, Bool.and_false, Bool.false_and, Bool.true_and, tyM, tiQ, tiMM, gA, gE, asZ, asT, asV1, asN1, asB_b, asP_b, asM_m, asQ_m, ite_self, hoO, hoK, hpin, hoO2, hoK2, hpin2, hE, hme, h6, g1, runR, ndO, okS, Option.isNone_none, Option.isNone_some, bxe, pxe, lpf, hdS, hd1, pick, forget, frh, frz, frS, frA, frL]
   exact ⟨rfl, rfl, rfl, rfl, hI⟩
  | false =>
   simp (maxSteps := 10000000) only [init, seval, X.L, J.L, vL, X.eta, J.eta, Q.eta, List.cons_append, List.nil_append, brkK, brkf_b, brkf_t, exef_some, exif_some, condf_b, opf, bodyE, addR, skipE, stepOp, stepLoad, stepStore, stepField, stepCall, stepBS, stepB0, stepMk, stepSl, stepAp, apY, optI, okO, nilV, slT, stepBi, stepCv, stepIx, inL, mentA, ment, dom, evs, evl, evp, evd, okeys, look, fillA, capsOf, wordsOf, rowsOf, lenOf, convK, binV, shV, intV, unV, boolT, tyT, tiB, tiI, tiW, tiD, tiF, tiR, tiU, tiNum, tiIv, tiVal, tiSc, okLf, okD, keysOf, tblO, cvA, cvL, dnL, olA, olL, noO, noA, cbL, cbA, orT, ↓cond_true, ↓cond_false, ↓not_cond, noT, one, asNum, asIv, asVal, postf_some, resA, resB, outPs, outLs, outL, dnT, tupA, clA, clL, dropTo, decide_true, decide_false, reduceCtorEq, List.all_cons, List.all_nil, Bool.and_true, Bool.and_self, true_and, and_true, and_self, List.length_cons, List.length_nil, List.drop_succ_cons, List.drop_zero, List.take_succ_cons, List.take_zero, List.getElem?_cons_zero, List.getElem?_cons_succ, List.map_cons, List.map_nil, false_implies, true_implies, Option.bind_some, List.getElem?_toArray, Bool.false_eq_true, List.append_nil, List.flatMap_cons, List.flatMap_nil, true_or, or_true, forall_const, List.reverse_cons, List.reverse_nil, Option.isSome_some, Option.any_some, Nat.lt_irrefl, not_true_eq_false, Bool.not_true, Bool.not_false, imp_self, implies_true, Bool.not_eq_true', Bool.not_eq_false', Bool.true_eq_false, memOf, cntF, nmL, rnL, nmA, rnA, isV, noE, contsOf, ndB, refO, orO, pin, Int.toNat_zero, decide_eq_true_eq, wrap0, wrap1, ci1, ci2, BEq.rfl, beq_self_eq_true, Int.natCast_zero, ge_iff_le, gt_iff_lt, Int.le_refl, Nat.zero_mul, Nat.one_mul, Nat.zero_add, Nat.zero_lt_succ, Nat.lt_add_one, Nat.le_refl, List.append_eq, boxL_nil, boxL_cons, ptsL_nil, ptsL_cons, ↓outL_box, ↓outL_pts, ↓clL_box, ↓clL_pts, ↓okL_box, ↓okL_pts, ↓ment_box, ↓ment_pts, ↓olL_box, ↓olL_pts, ↓cvL_box, ↓cvL_pts, ↓noO_box, ↓noO_pts, ↓asB_box, ↓asP_pts, ↓len_box, ↓len_pts, bne_self_eq_false, wr2, wr3, wr4, wr5, wr6, wr7, wr8, gN, gNN, gNI, gI, gNIB, gNNIB, gJ, gJJ, gJN, gJJI, gJI, gB, gP, gBB, gBP, gBZ, gBBZ, bC_nil, bC_cons, pC_nil, pC_cons, fvO, Lc.up, tyB, tiS, tiBB, Int.toNat_natCast, List.replicate_succ, List.replicate_zero, List.flatten_cons, List.flatten_nil, Int.ofNat_lt, Int.cast_ofNat_Int, Int.ofNat_eq_natCast, List.isEmpty_nil, List.isEmpty_cons, and_false, false_and, List.cons_ne_nil, Nat.add_zero, ite_true, ite_false, if_true, if_false, Nat.le_zero_eq, eq_self, Bool.and_false, Bool.false_and, Bool.true_and, tyM, tiQ, tiMM, gA, gE, asZ, asT, asV1, asN1, asB_b, asP_b, asM_m, asQ_m, ite_self, hoO, hoK, hpin, hoO2, hoK2, hpin2, hE, hme, h6, g1, runR, ndO, okS, Option.isNone_none, Option.isNone_some, bxe, pxe, lpf, hdS, hd1, pick, forget, frh, frz, frS, frA, frL]
   refine ⟨rfl, rfl, rfl, rfl, ?_, ?_⟩
   ·rw [List.all_append, hme]; rfl
   ·rw [List.flatMap_append]; rfl
 ·intro F w0 ρ a' w hz
  refine ⟨CapC a b k z (ρ 41) (ρ 42) (ρ 43) (ρ 44), by rw [hG]; exact coefs_seq ha hb (by omega) _ _ _ _, fun j F' ρ' a'' W hz' ht => ?_⟩
  have hn := clo_names hz hz' (t := 20) rfl rfl ht
  obtain ⟨va, c1, r1⟩ := cap_cell hz' (b := 41) rfl
  obtain ⟨vb, c2, r2⟩ := cap_cell hz' (b := 42) rfl
  obtain ⟨vk, c3, r3⟩ := cap_cell hz' (b := 43) rfl
  obtain ⟨vz, c4, r4⟩ := cap_cell hz' (b := 44) rfl
  rw [hn _ (by simp)] at c1 c2 c3 c4
  have r3 : vk = _ := r3
  have r4 : vz = _ := r4
  subst r3; subst r4
  exact ⟨hz'.tb.tab hz'.bel, va, vb, c3, c1, c2, c4, sl_nD r1, sl_nD r2⟩
 ·intro hI
  simp (maxSteps := 10000000) only [init, seval, X.L, J.L, vL, X.eta, J.eta, Q.eta, List.cons_append, List.nil_append, brkK, brkf_b, brkf_t, exef_some, exif_some, condf_b, opf, bodyE, addR, skipE, stepOp, stepLoad, stepStore, stepField, stepCall, stepBS, stepB0, stepMk, stepSl, stepAp, apY, optI, okO, nilV, slT, stepBi, stepCv, stepIx, inL, mentA, ment, dom, evs, evl, evp, evd, okeys, look, fillA, capsOf, wordsOf, rowsOf, lenOf, convK, binV, shV, intV, unV, boolT, tyT, tiB, tiI, tiW, tiD, tiF, tiR, tiU, tiNum, tiIv, tiVal, tiSc, okLf, okD, keysOf, tblO, cvA, cvL, dnL, olA, olL, noO, noA, cbL, cbA, orT, ↓cond_true, ↓cond_false, ↓not_cond, noT, one, asNum, asIv, asVal, postf_some, resA, resB, outPs, outLs, outL, dnT, tupA, clA, clL, dropTo, decide_true, decide_false, reduceCtorEq, List.all_cons, List.all_nil, Bool.and_true, Bool.and_self, true_and, and_true, and_self, List.length_cons, List.length_nil, List.drop_succ_cons, List.drop_zero, List.take_succ_cons, List.take_zero, List.getElem?_cons_zero, List.getElem?_cons_succ, List.map_cons, List.map_nil, false_implies, true_implies, Option.bind_some, List.getElem?_toArray, Bool.false_eq_true, List.append_nil, List.flatMap_cons, List.flatMap_nil, true_or, or_true, forall_const, List.reverse_cons, List.reverse_nil, Option.isSome_some, Option.any_some, Nat.lt_irrefl, not_true_eq_false, Bool.not_true, Bool.not_false, imp_self, implies_true, Bool.not_eq_true', Bool.not_eq_false', Bool.true_eq_false, memOf, cntF, nmL, rnL, nmA, rnA, isV, noE, contsOf, ndB, refO, orO, pin, Int.toNat_zero, decide_eq_true_eq, wrap0, wrap1, ci1, ci2, BEq.rfl, beq_self_eq_true, Int.natCast_zero, ge_iff_le, gt_iff_lt, Int.le_refl, Nat.zero_mul, Nat.one_mul, Nat.zero_add, Nat.zero_lt_succ, Nat.lt_add_one, Nat.le_refl, List.append_eq, boxL_nil, boxL_cons, ptsL_nil, ptsL_cons, ↓outL_box, ↓outL_pts, ↓clL_box, ↓clL_pts, ↓okL_box, ↓okL_pts, ↓ment_box, ↓ment_pts, ↓olL_box, ↓olL_pts, ↓cvL_box, ↓cvL_pts, ↓noO_box, ↓noO_pts, ↓asB_box, ↓asP_pts, ↓len_box, ↓len_pts, bne_self_eq_false, wr2, wr3, wr4, wr5, wr6, wr7, wr8, gN, gNN, gNI, gI, gNIB, gNNIB, gJ, gJJ, gJN, gJJI, gJI, gB, gP, gBB, gBP, gBZ, gBBZ, bC_nil, bC_cons, pC_nil, pC_cons, fvO, Lc.up, tyB, tiS, tiBB, Int.toNat_natCast, List.replicate_succ, List.replicate_zero, List.flatten_cons, List.flatten_nil, Int.ofNat_lt, Int.cast_ofNat_Int, Int.ofNat_eq_natCast, List.isEmpty_nil, List.isEmpty_cons, and_false, false_and, List.cons_ne_nil, Nat.add_zero, ite_true, ite_false, if_true, if_false, Nat.le_zero_eq, eq_self, Bool.and_false, Bool.false_and, Bool.true_and, tyM, tiQ, tiMM, gA, gE, asZ, asT, asV1, asN1, asB_b, asP_b, asM_m, asQ_m, ite_self, hoO, hoK, hpin, hoO2, hoK2, hpin2, hPP, runR, ndO, okS, Option.isNone_none, Option.isNone_some, bxe, pxe, lpf, hdS, hd1, pick, forget, frh, frz, frS, frA, frL]
  have hp : prR z a b k = .ok ⟨k + 1, 28, 6, (eachN G (k + 1)).1.flatMap J.L⟩ := by
   have hI : (eachN G (k + 1)).2 = 0 := hI
   unfold prR
   rw [← hG, hI]; rfl
  rw [hp, grp_ok, glf_ol]
  have hlen := eachN_len (show (eachN G (k + 1)).2 = 0 from hI)
  exact ⟨⟨rfl, rfl, rfl, jL_cl _, by rw [jL_len, hlen]⟩, rfl⟩
 ·rintro j hj ⟨hI, hE⟩
  simp (maxSteps := 10000000) only [init, seval, X.L, J.L, vL, X.eta, J.eta, Q.eta, List.cons_append, List.nil_append, brkK, brkf_b, brkf_t, exef_some, exif_some, condf_b, opf, bodyE, addR, skipE, stepOp, stepLoad, stepStore, stepField, stepCall, stepBS, stepB0, stepMk, stepSl, stepAp, apY, optI, okO, nilV, slT, stepBi, stepCv, stepIx, inL, mentA, ment, dom, evs, evl, evp, evd, okeys, look, fillA, capsOf, wordsOf, rowsOf, lenOf, convK, binV, shV, intV, unV, boolT, tyT, tiB, tiI, tiW, tiD, tiF, tiR, tiU, tiNum, tiIv, tiVal, tiSc, okLf, okD, keysOf, tblO, cvA, cvL, dnL, olA, olL, noO, noA, cbL, cbA, orT, ↓cond_true, ↓cond_false, ↓not_cond, noT, one, asNum, asIv, asVal, postf_some, resA, resB, outPs, outLs, outL, dnT, tupA, clA, clL, dropTo, decide_true, decide_false, reduceCtorEq, List.all_cons, List.all_nil, Bool.and_true, Bool.and_self, true_and, and_true, and_self, List.length_cons, List.length_nil, List.drop_succ_cons, List.drop_zero, List.take_succ_cons, List.take_zero, List.getElem?_cons_zero, List.getElem?_cons_succ, List.map_cons, List.map_nil, false_implies, true_implies, Option.bind_some, List.getElem?_toArray, Bool.false_eq_true, List.append_nil, List.flatMap_cons, List.flatMap_nil, true_or, or_true, forall_const, List.reverse_cons, List.reverse_nil, Option.isSome_some, Option.any_some, Nat.lt_irrefl, not_true_eq_false, Bool.not_true, Bool.not_false, imp_self, implies_true, Bool.not_eq_true', Bool.not_eq_false', Bool.true_eq_false, memOf, cntF, nmL, rnL, nmA, rnA, isV, noE, contsOf, ndB, refO, orO, pin, Int.toNat_zero, decide_eq_true_eq, wrap0, wrap1, ci1, ci2, BEq.rfl, beq_self_eq_true, Int.natCast_zero, ge_iff_le, gt_iff_lt, Int.le_refl, Nat.zero_mul, Nat.one_mul, Nat.zero_add, Nat.zero_lt_succ, Nat.lt_add_one, Nat.le_refl, List.append_eq, boxL_nil, boxL_cons, ptsL_nil, ptsL_cons, ↓outL_box, ↓outL_pts, ↓clL_box, ↓clL_pts, ↓okL_box, ↓okL_pts, ↓ment_box, ↓ment_pts, ↓olL_box, ↓olL_pts, ↓cvL_box, ↓cvL_pts, ↓noO_box, ↓noO_pts, ↓asB_box, ↓asP_pts, ↓len_box, ↓len_pts, bne_self_eq_false, wr2, wr3, wr4, wr5, wr6, wr7, wr8, gN, gNN, gNI, gI, gNIB, gNNIB, gJ, gJJ, gJN, gJJI, gJI, gB, gP, gBB, gBP, gBZ, gBBZ, bC_nil, bC_cons, pC_nil, pC_cons, fvO, Lc.up, tyB, tiS, tiBB, Int.toNat_natCast, List.replicate_succ, List.replicate_zero, List.flatten_cons, List.flatten_nil, Int.ofNat_lt, Int.cast_ofNat_Int, Int.ofNat_eq_natCast, List.isEmpty_nil, List.isEmpty_cons, and_false, false_and, List.cons_ne_nil, Nat.add_zero, ite_true, ite_false, if_true, if_false, Nat.le_zero_eq, eq_self, Bool.and_false, Bool.false_and, Bool.true_and, tyM, tiQ, tiMM, gA, gE, asZ, asT, asV1, asN1, asB_b, asP_b, asM_m, asQ_m, ite_self, hoO, hoK, hpin, hoO2, hoK2, hpin2, hPP, runR, ndO, okS, Option.isNone_none, Option.isNone_some, bxe, pxe, lpf, hdS, hd1, pick, forget, frh, frz, frS, frA, frL]
  have h3 := eachN_at (F := G) hI hE hj
  have hp : prR z a b k = .err (G j).2 := by
   unfold prR
   rw [← hG, h3]
   show (bif (G j).2 != 0 then _ else _) = _
   rw [hE]; rfl
  rw [hp]
  exact ⟨rfl, rfl⟩
end Go.Proofs.YtobcbhppmgnioaaGreatDoor
