/- Package mat against the document's matrices. -/
import Derived.Test.YtcpfepjdeikchaaGreatDoorYAo7
import Derived.Test.YtcpfepjdeikchaaGreatDoorYAn1
import Derived.Test.YtcpfepjdeikchaaGreatDoorYAo3
import Derived.Test.YtcpfepjdeikchaaGreatDoorYAk7
import Derived.Test.YtcpfepjdeikchaaGreatDoorYAj2
namespace Go.Proofs.YtcpfepjdeikchaaGreatDoor
section
open Go.RowKit Nx
set_option linter.unusedVariables false
set_option linter.unusedSimpArgs false
attribute [local irreducible] chk
set_option maxRecDepth 100000 in
set_option maxHeartbeats 4000000 in
theorem n7_ne (l m : List X) (hl : ((l.length : Int) != (m.length : Int)) = true) : Ct Tryz.prog 129 [pA_ l, pA_ m] (· = bA false) := by
 refine ct_of (O := tblO noT) (by kernel_rfl) tyM_ok (fun w => tblO_ok noT_ok _ w) [] 600 27 [.tmp 4] Tryz.func129 rfl Tryz.ntmps129 (by rw [Tryz.results129]) (by simp) rfl (fun hsm => ?_)
 simp (maxSteps := 10000000) only [run, seval, init, X.L, J.L, vL, X.eta, J.eta, Q.eta, List.cons_append, List.nil_append, brkK, brkf_b, brkf_t, exef_some, exif_some, condf_b, opf, bodyE, addR, skipE, stepOp, stepLoad, stepStore, stepField, stepCall, stepBS, stepB0, stepMk, stepSl, stepAp, apY, optI, okO, nilV, slT, stepBi, stepCv, stepIx, inL, mentA, ment, dom, evs, evl, evp, evd, okeys, look, fillA, capsOf, wordsOf, rowsOf, lenOf, convK, binV, shV, intV, unV, boolT, tyT, tiB, tiI, tiW, tiD, tiF, tiR, tiU, tiNum, tiIv, tiVal, tiSc, okLf, okD, keysOf, tblO, cvA, cvL, dnL, olA, olL, noO, noA, cbL, cbA, orT, ↓cond_true, ↓cond_false, ↓not_cond, noT, one, asNum, asIv, asVal, postf_some, resA, resB, outPs, outLs, outL, dnT, tupA, clA, clL, dropTo, decide_true, decide_false, reduceCtorEq, List.all_cons, List.all_nil, Bool.and_true, Bool.and_self, true_and, and_true, and_self, List.length_cons, List.length_nil, List.drop_succ_cons, List.drop_zero, List.take_succ_cons, List.take_zero, List.getElem?_cons_zero, List.getElem?_cons_succ, List.map_cons, List.map_nil, false_implies, true_implies, Option.bind_some, List.getElem?_toArray, Bool.false_eq_true, List.append_nil, List.flatMap_cons, List.flatMap_nil, true_or, or_true, forall_const, List.reverse_cons, List.reverse_nil, Option.isSome_some, Option.any_some, Nat.lt_irrefl, not_true_eq_false, Bool.not_true, Bool.not_false, imp_self, implies_true, Bool.not_eq_true', Bool.not_eq_false', Bool.true_eq_false, memOf, cntF, nmL, rnL, nmA, rnA, isV, noE, contsOf, ndB, refO, orO, pin, Int.toNat_zero, decide_eq_true_eq, wrap0, wrap1, ci1, ci2, BEq.rfl, beq_self_eq_true, Int.natCast_zero, ge_iff_le, gt_iff_lt, Int.le_refl, Nat.zero_mul, Nat.one_mul, Nat.zero_add, Nat.zero_lt_succ, Nat.lt_add_one, Nat.le_refl, List.append_eq, boxL_nil, boxL_cons, ptsL_nil, ptsL_cons, ↓outL_box, ↓outL_pts, ↓clL_box, ↓clL_pts, ↓okL_box, ↓okL_pts, ↓ment_box, ↓ment_pts, ↓olL_box, ↓olL_pts, ↓cvL_box, ↓cvL_pts, ↓noO_box, ↓noO_pts, ↓asB_box, ↓asP_pts, ↓len_box, ↓len_pts, bne_self_eq_false, wr2, wr3, wr4, wr5, wr6, wr7, wr8, gN, gNN, gNI, gI, gNIB, gNNIB, gJ, gJJ, gJN, gJJI, gJI, gB, gP, gBB, gBP, gBZ, gBBZ, bC_nil, bC_cons, pC_nil, pC_cons, fvO, Lc.up, tyB, tiS, tiBB, Int.toNat_natCast, List.replicate_succ, List.replicate_zero, List.flatten_cons, List.flatten_nil, Int.ofNat_lt, Int.cast_ofNat_Int, Int.ofNat_eq_natCast, List.isEmpty_nil, List.isEmpty_cons, and_false, false_and, List.cons_ne_nil, Nat.add_zero, ite_true, ite_false, if_true, if_false, Nat.le_zero_eq, eq_self, Bool.and_false, Bool.false_and, Bool.true_and, tyM, tiQ, tiMM, gA, gE, asZ, asT, asV1, asN1, asB_b, asP_b, asM_m, asQ_m, ite_self, hoO, hoK, hpin, hoO2, hoK2, hpin2, gIJJI, gINNIB, hl, bxe, pxe, lpf, hdS, hd1, pick, forget, frh, frz, frS, frA, frL]
 repeat' with_reducible first | apply And.intro | apply condP <;> intro _
 all_goals first | (show chk _ _ = true; kernel_rfl) | assumption | rfl | (simp only [go_sem, *] <;> rfl)
theorem n7 (l m : List X) (hb : l.length ≤ 1000) : Ct Tryz.prog 129 [pA_ l, pA_ m] (· = bA (all2 samex l m)) := by
 by_cases h : l.length = m.length
 ·exact nums_any l m h (by omega)
 ·rw [all2_ne h]; exact n7_ne l m (bne_iff_ne.2 (by omega))
end
section
open Go.RowKit Nx
set_option linter.unusedVariables false
set_option linter.unusedSimpArgs false
attribute [local irreducible] chk
theorem up_nn {q : Q} (h : q.s = false) (e : Int) : 0 ≤ q.up e := by
 unfold Q.up Q.z
 rw [h]
 exact Int.mul_nonneg (Int.natCast_nonneg _) (Int.le_of_lt (Int.pow_pos (by omega)))
theorem nm_nn {M : Nat} {e : Int} : (nm false M e).s = false := by
 unfold nm; split <;> rfl
theorem plus_nn {a b : Q} (ha : a.s = false) (hb : b.s = false) : (plus a b).s = false := by
 unfold plus ofz
 rw [decide_eq_false (by have := up_nn ha (lowe a b); have := up_nn hb (lowe a b); omega)]
 exact nm_nn
theorem rnd_nn {p : Nat} {up : Bool} {q : Q} (h : q.s = false) : (rnd p up q).s = false := by
 unfold rnd; rw [h]; exact nm_nn
def Ns (x : X) : Prop := GX x ∧ x.s = false
theorem abs_nn (x : X) : (qx (absx x)).s = false := by
 show (absx x).s = false
 unfold absx anssign
 split
 ·split <;> rfl
 ·rfl
theorem ns_mag {j : J} (hg : Good j) : Ns (rmag j) := by
 unfold rmag
 rw [hg.1, cond_true]
 obtain ⟨a1, a2, _⟩ := okJ_parts hg.1
 unfold uppX
 cases decide (cmpx (qx (absx j.hi)) (qx (absx j.lo)) > 0) with
 | true => exact ⟨(abs_gx ⟨a2, hg.2.hi⟩).1, abs_nn _⟩
 | false => exact ⟨(abs_gx ⟨a1, hg.2.lo⟩).1, abs_nn _⟩
end
end Go.Proofs.YtcpfepjdeikchaaGreatDoor
