/- The laws without decks. -/
import Derived.Test.YtfggnoejcgehdaaGreatDoorRAk2
namespace Go.Proofs.YtfggnoejcgehdaaGreatDoor
open Go.RowKit Nx
set_option linter.unusedVariables false
set_option linter.unusedSimpArgs false
def Hx (s : Bool) (e : Int) (A : Option Addr) (n c : Nat) : List Lf := [.lit (.bool s), .lit (.int .i64 e), .lit (.slice A n c)]
structure H where
  s : Bool
  e : Int
  A : Option Addr
  n : Nat
  c : Nat
def H.L (h : H) : List Lf := Hx h.s h.e h.A h.n h.c
structure HJ where
  lo : H
  hi : H
def HJ.L (h : HJ) : List Lf := [.lit (.bool h.lo.s), .lit (.int .i64 h.lo.e), .lit (.slice h.lo.A h.lo.n h.lo.c), .lit (.bool h.hi.s), .lit (.int .i64 h.hi.e), .lit (.slice h.hi.A h.hi.n h.hi.c)]
set_option maxRecDepth 100000 in
set_option maxHeartbeats 4000000 in
theorem v_mids (j : J) (z : Int) : Ct Tryz.prog 10 [.v true j.L, iA z] (· = bA true) := by
  refine ct_of (O := orO (refO 13 (pin [.s (.osl 1000 1)] [j.L] (bA (lightJ j)))) (tblO (orT Tlaw5_known (orT Tiv_Mid (orT Tiv_Rad (orT Tiv_Wide (orT Tref_Mid (orT Tref_Rad (orT Tref_Wide (orT Tref_Same (orT Tiv_Mag (Tref_Mag)))))))))))) (by kernel_rfl) tyT_ok (fun w => refO_or (refO_ok (ent Tryz.func13 (by kernel_rfl) rfl) (pin_ok (l_light1 j)) _ _) (tblO_ok (orT_ok Tlaw5_known_ok (orT_ok Tiv_Mid_ok (orT_ok Tiv_Rad_ok (orT_ok Tiv_Wide_ok (orT_ok Tref_Mid_ok (orT_ok Tref_Rad_ok (orT_ok Tref_Wide_ok (orT_ok Tref_Same_ok (orT_ok Tiv_Mag_ok (Tref_Mag_ok)))))))))) _ w) (fun d st args => by simp [orO, refO, tblO, orT, noT, one, Tlaw5_known, Tiv_Mid, Tiv_Rad, Tiv_Wide, Tref_Mid, Tref_Rad, Tref_Wide, Tref_Same, Tiv_Mag, Tref_Mag])) [] 2000 94 [.tmp 4] Tryz.func10 rfl Tryz.ntmps10 (by rw [Tryz.results10]) (by simp) rfl (fun hsm => ?_)
  have hg : GJ j := ⟨hsm.1.2.2.1.1, hsm.1.2.2.2.2.2.1.1⟩
  have m1 := mid_eq hg
  have m2 := rad_eq hg
  have m3 := mag_eq hg
  simp (maxSteps := 10000000) only [run, init, X.L, J.L, vL, X.eta, J.eta, Q.eta, List.cons_append, List.nil_append, brkK, brkf_b, brkf_t, exef_some, exif_some, condf_b, opf, bodyE, addR, skipE, stepOp, stepLoad, stepStore, stepField, stepCall, stepBS, stepBi, stepCv, stepIx, lpf, forget, inL, mentA, ment, dom, evs, evl, evp, evd, okeys, look, fillA, capsOf, wordsOf, rowsOf, lenOf, convK, binV, shV, intV, unV, boolT, tyT, tiB, tiI, tiW, tiD, tiF, tiR, tiU, tiNum, tiIv, tiVal, tiSc, okLf, okD, keysOf, tblO, orT, ↓cond_true, ↓cond_false, ↓not_cond, noT, one, asNum, asIv, asVal, postf_some, resA, tupA, clA, clL, dropTo, ↓reduceIte, Nat.reduceMul, Nat.reduceAdd, Nat.reduceEqDiff, Nat.reduceLeDiff, Nat.reduceLT, decide_true, decide_false, reduceCtorEq, List.all_cons, List.all_nil, Bool.and_true, Bool.and_self, true_and, and_true, and_self, List.length_cons, List.length_nil, List.drop_succ_cons, List.drop_zero, List.take_succ_cons, List.take_zero, List.getElem?_cons_zero, List.getElem?_cons_succ, List.map_cons, List.map_nil, false_implies, true_implies, Option.bind_some, List.getElem?_toArray, Bool.false_eq_true, List.append_nil, List.flatMap_cons, List.flatMap_nil, true_or, or_true, forall_const, List.reverse_cons, List.reverse_nil, Option.isSome_some, Option.any_some, Nat.lt_irrefl, not_true_eq_false, Bool.not_true, Bool.not_false, imp_self, implies_true, Int.reduceNeg, Bool.not_eq_true', Bool.not_eq_false', Bool.true_eq_false, Bool.false_eq_true, Tlaw5_known, Tiv_Mid, Tiv_Rad, Tiv_Wide, Tref_Mid, Tref_Rad, Tref_Wide, Tref_Same, Tiv_Mag, Tref_Mag, gN, gNN, gNI, gI, gNNIB, gNIB, gV, gVV, gVIB, gVVIB, gWW, gJ, gJJ, gJN, gJJI, gJI, gJII, gNNI, gBWI, gVVVV, gVVVVI, gVI, memOf, cntF, nmL, rnL, nmA, rnA, isV, contsOf, ndB, refO, orO, pin, List.map_cons, List.map_nil, Int.reduceLT, Int.reduceLE, Int.reduceAdd, Int.reduceToNat, Int.toNat_zero, decide_eq_true_eq, wrap0, wrap1, ci1, ci2, Nat.reduceBEq, BEq.rfl, beq_self_eq_true, Int.natCast_zero, ge_iff_le, gt_iff_lt, Int.le_refl, Nat.zero_mul, Nat.one_mul, Nat.zero_add, Nat.zero_lt_succ, Int.reduceMul, Int.reduceSub, Nat.lt_add_one, Nat.reduceSub, Nat.le_refl, List.append_eq, Int.reduceEq, gJB, gC, gCC, asSc, SX.L, SX.eta, gIJJI, gJJN, H.L, Hx, HJ.L, gt_iff_lt, m1, m2, m3, wide_eq, prX, samex_refl, beq_self_eq_true, BEq.rfl]
  repeat' first | (with_reducible apply And.intro) | (with_reducible apply condP <;> intro _)
  all_goals first | (show chk _ _ = true; kernel_rfl) | assumption | (simp only [AV.s, cond_true, cond_false, Bool.and_true, Bool.true_and, Bool.and_false, Bool.false_and, Bool.and_self, Bool.not_true, Bool.not_false, Bool.or_true, Bool.true_or, Bool.or_false, Bool.false_or, *]; done) | rfl | (simp only [AV.s, cond_true, cond_false, Bool.and_true, Bool.true_and, Bool.and_false, Bool.false_and, Bool.and_self, Bool.not_true, Bool.not_false, Bool.or_true, Bool.true_or, Bool.or_false, Bool.false_or, *]; rfl) | (exfalso; simp_all only [Bool.true_eq_false, Bool.false_eq_true, reduceCtorEq]; done)
end Go.Proofs.YtfggnoejcgehdaaGreatDoor
namespace Go.Proofs.YtfggnoejcgehdaaGreatDoor
open Go.RowKit Nx
set_option linter.unusedVariables false
set_option linter.unusedSimpArgs false
section
variable {ρ : Nat → Nat} {D : Nat → Bool} {W : World}
end
end Go.Proofs.YtfggnoejcgehdaaGreatDoor
