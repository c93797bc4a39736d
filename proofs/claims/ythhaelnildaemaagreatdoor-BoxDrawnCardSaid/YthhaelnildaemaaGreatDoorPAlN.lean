/- The statements' helper parts returns true. -/
import Derived.Test.YthhaelnildaemaaGreatDoorPAl4
import Derived.Test.YthhaelnildaemaaGreatDoorPAi4
namespace Go.Proofs.YthhaelnildaemaaGreatDoor
open Go.RowKit Nx
set_option linter.unusedVariables false
set_option linter.unusedSimpArgs false
attribute [local irreducible] chk
theorem hullJ_eq : hullJ = rhull := funext fun a => funext fun b => hull_eq a b
theorem meetJ_eq : meetJ = rmeet := funext fun a => funext fun b => meet_eq a b
theorem sameB_refl (l : List J) : sameB l l = true := by
  unfold sameB
  induction l with
  | nil => rfl
  | cons a l ih => unfold all2; rw [sameJ_refl, ih]; rfl
theorem zipB_len {φ : J → J → J × Int} : ∀ (l m : List J), (zipB φ l m).1.length ≤ l.length := by
  intro l
  induction l with
  | nil => intro m; exact Nat.zero_le _
  | cons a l ih =>
    intro m
    cases m with
    | nil => exact Nat.zero_le _
    | cons b m =>
      unfold zipB
      cases (φ a b).2 != 0
      · rw [cond_false]
        cases (zipB φ l m).2 != 0
        · rw [cond_false]; simp only [List.length_cons]; exact Nat.succ_le_succ (ih m)
        · exact Nat.zero_le _
      · exact Nat.zero_le _
theorem bothB_len {φ : J → J → J × Int} (l m : List J) : (bothB φ l m).1.length ≤ 6 := by
  unfold bothB
  cases h : rightB l && rightB m && decide (l.length = m.length) with
  | false => exact Nat.zero_le _
  | true =>
    rw [Bool.and_eq_true, Bool.and_eq_true] at h
    have := rightB_len h.1.1
    have := zipB_len (φ := φ) l m
    rw [cond_true]; omega
def ofC (l : List X) : Lf := bif l.isEmpty then .sl false 0 0 [] else .sl false 6 l.length (bC (l.map fun x => ⟨x, x⟩))
section
variable {st : St} {l : List X}
theorem outL_of : outL st (ofL l) = ofL l := by cases l <;> rfl
theorem clL_of : clL (ofL l) = true := by cases l <;> rfl
theorem okL_of : okLf (ofL l) = true := by cases l <;> rfl
theorem ment_of : ment st (ofL l) = true := by cases l <;> rfl
theorem olL_of : olL (ofL l) = [] := by cases l <;> rfl
theorem cvL_of : cvL st (ofL l) = ofC l := by cases l <;> rfl
theorem noO_of : noO (ofC l) = true := by cases l <;> rfl
theorem asB_of : asB (.v false [ofC l]) = some (pts l) := by
  cases l with
  | nil => rfl
  | cons a l =>
    have := asB_b (pts (a :: l))
    rw [show (pts (a :: l)).length = (a :: l).length from List.length_map _] at this
    exact this
end
theorem pts_len (l : List X) : (pts l).length = l.length := List.length_map _
set_option maxRecDepth 100000 in
set_option maxHeartbeats 4000000 in
theorem l6_parts (a b : List J) (p : List X) (ha : a.length ≤ 6) (hp : p.length ≤ 6) : Ct Tryz.prog 10 [bA_ a, bA_ b, pA_ p] (· = bA true) := by
  refine ct_of (O := tblO (orT Tbox_Hull (orT Tbox_Meet (orT T6_Hull (orT T6_Meet (orT T6_Same (orT Tbox_Right (orT T6_Right (orT Tbox_Same (orT Tbox_In (orT T6_In (orT Tbox_Has (orT T6_Has (orT Tbox_Of T6_Points)))))))))))))) (by kernel_rfl) tyB_ok (fun w => tblO_ok (orT_ok Tbox_Hull_ok (orT_ok Tbox_Meet_ok (orT_ok T6_Hull_ok (orT_ok T6_Meet_ok (orT_ok T6_Same_ok (orT_ok Tbox_Right_ok (orT_ok T6_Right_ok (orT_ok Tbox_Same_ok (orT_ok Tbox_In_ok (orT_ok T6_In_ok (orT_ok Tbox_Has_ok (orT_ok T6_Has_ok (orT_ok Tbox_Of_ok T6_Points_ok))))))))))))) _ w) [] 1500 98 [.tmp 6] Tryz.func10 rfl Tryz.ntmps10 (by rw [Tryz.results10]) (by simp) rfl (fun hsm => ?_)
  simp (maxSteps := 10000000) only [run, init, X.L, J.L, vL, X.eta, J.eta, Q.eta, List.cons_append, List.nil_append, brkK, brkf_b, brkf_t, exef_some, exif_some, condf_b, opf, bodyE, addR, skipE, stepOp, stepLoad, stepStore, stepField, stepCall, stepBS, stepB0, stepMk, stepSl, stepAp, apY, optI, okO, nilV, slT, stepBi, stepCv, stepIx, lpf, hdS, pick, forget, inL, mentA, ment, dom, evs, evl, evp, evd, okeys, look, fillA, capsOf, wordsOf, rowsOf, lenOf, convK, binV, shV, intV, unV, boolT, tyT, tiB, tiI, tiW, tiD, tiF, tiR, tiU, tiNum, tiIv, tiVal, tiSc, okLf, okD, keysOf, tblO, cvA, cvL, dnL, olA, olL, noO, noA, cbL, cbA, orT, ↓cond_true, ↓cond_false, ↓not_cond, noT, one, asNum, asIv, asVal, postf_some, resA, resB, outPs, outLs, outL, dnT, tupA, clA, clL, dropTo, ↓reduceIte, Nat.reduceMul, Nat.reduceDiv, Nat.reduceAdd, Nat.reduceEqDiff, Nat.reduceLeDiff, Nat.reduceLT, decide_true, decide_false, reduceCtorEq, List.all_cons, List.all_nil, Bool.and_true, Bool.and_self, true_and, and_true, and_self, List.length_cons, List.length_nil, List.drop_succ_cons, List.drop_zero, List.take_succ_cons, List.take_zero, List.getElem?_cons_zero, List.getElem?_cons_succ, List.map_cons, List.map_nil, false_implies, true_implies, Option.bind_some, List.getElem?_toArray, Bool.false_eq_true, List.append_nil, List.flatMap_cons, List.flatMap_nil, true_or, or_true, forall_const, List.reverse_cons, List.reverse_nil, Option.isSome_some, Option.any_some, Nat.lt_irrefl, not_true_eq_false, Bool.not_true, Bool.not_false, imp_self, implies_true, Int.reduceNeg, Bool.not_eq_true', Bool.not_eq_false', Bool.true_eq_false, memOf, cntF, nmL, rnL, nmA, rnA, isV, noE, contsOf, ndB, refO, orO, pin, Int.reduceLT, Int.reduceLE, Int.reduceAdd, Int.reduceToNat, Int.toNat_zero, decide_eq_true_eq, wrap0, wrap1, ci1, ci2, Nat.reduceBEq, BEq.rfl, beq_self_eq_true, Int.natCast_zero, ge_iff_le, gt_iff_lt, Int.le_refl, Nat.zero_mul, Nat.one_mul, Nat.zero_add, Nat.zero_lt_succ, Int.reduceMul, Int.reduceSub, Nat.lt_add_one, Nat.reduceSub, Nat.le_refl, boxL_nil, boxL_cons, ptsL_nil, ptsL_cons, ↓outL_box, ↓outL_pts, ↓clL_box, ↓clL_pts, ↓okL_box, ↓okL_pts, ↓ment_box, ↓ment_pts, ↓olL_box, ↓olL_pts, ↓cvL_box, ↓cvL_pts, ↓noO_box, ↓noO_pts, ↓asB_box, ↓asP_pts, ↓len_box, ↓len_pts, bxe, pxe, bne_self_eq_false, Int.reduceBNe, Nat.reduceBNe, wr2, wr3, wr4, wr5, wr6, wr7, wr8, gN, gNN, gNI, gI, gNIB, gNNIB, gJ, gJJ, gJN, gJJI, gJI, gB, gP, gBB, gBP, gBZ, gBBZ, bC_nil, bC_cons, pC_nil, pC_cons, fvO, Lc.up, tyB, tiS, tiBB, Int.toNat_natCast, List.replicate_succ, List.replicate_zero, List.flatten_cons, List.flatten_nil, Int.ofNat_lt, Int.cast_ofNat_Int, Int.ofNat_eq_natCast, List.isEmpty_nil, List.isEmpty_cons, and_false, false_and, List.cons_ne_nil, Nat.add_zero, ite_true, ite_false, if_true, if_false, Nat.le_zero_eq, eq_self, Bool.and_false, Bool.false_and, Bool.true_and, Tbox_Hull, Tbox_Meet, T6_Hull, T6_Meet, T6_Same, Tbox_Right, T6_Right, Tbox_Same, Tbox_In, T6_In, Tbox_Has, T6_Has, Tbox_Of, T6_Points, hullJ_eq, meetJ_eq, sameB_refl, beq_self_eq_true, asB_b, asP_b, pts_len, ↓outL_of, ↓clL_of, ↓okL_of, ↓ment_of, ↓olL_of, ↓cvL_of, ↓noO_of, ↓asB_of]
  repeat' first | (with_reducible apply And.intro) | (with_reducible apply condP <;> intro _)
  all_goals try first | exact ha | exact hp | exact bothB_len _ _
  all_goals first | (show chk _ _ = true; kernel_rfl) | assumption | (simp only [AV.s, cond_true, cond_false, Bool.and_true, Bool.true_and, Bool.and_false, Bool.false_and, Bool.and_self, Bool.not_true, Bool.not_false, Bool.or_true, Bool.true_or, Bool.or_false, Bool.false_or, *, bothB_len, pts_len, ha, hp]; done) | rfl | (simp only [AV.s, cond_true, cond_false, Bool.and_true, Bool.true_and, Bool.and_false, Bool.false_and, Bool.and_self, Bool.not_true, Bool.not_false, Bool.or_true, Bool.true_or, Bool.or_false, Bool.false_or, *, bothB_len, pts_len, ha, hp]; rfl) | (exfalso; simp_all only [Bool.true_eq_false, Bool.false_eq_true, reduceCtorEq]; done)
def gBBP (k : List J → List J → List X → Prop × AV) : List AV → Option (Prop × AV)
  | [x, y, z] => (match asB x, asB y, asP z with
    | some l, some m, some p => some (k l m p)
    | _, _, _ => none)
  | _ => none
theorem gBBP_ct {P : Program} {f : FuncId} {k : List J → List J → List X → Prop × AV} (h : ∀ l m p, (k l m p).1 → Ct P f [bA_ l, bA_ m, pA_ p] (· = (k l m p).2)) {args : List AV} {e : Prop × AV} (he : gBBP k args = some e) (hp : e.1) : Ct P f args (· = e.2) := by
  unfold gBBP at he
  split at he
  · split at he
    · rename_i l m p hl hm hp'
      injection he with he; subst he
      exact (h l m p hp).of fun ρ D w => RA.c (fun u => asB_R hl) (RA.c (fun u => asB_R hm) (RA.c (fun u => asP_R hp') fun us h => h))
    · cases he
  · cases he
noncomputable def Tlaw6_parts : Tbl := one 10 (gBBP fun a _ p => (a.length ≤ 6 ∧ p.length ≤ 6, bA true))
theorem Tlaw6_parts_ok : TbOK Tryz.prog Tlaw6_parts := one_ok (ent Tryz.func10 (by kernel_rfl) rfl) fun args e h hp => gBBP_ct (fun a b p (h : a.length ≤ 6 ∧ p.length ≤ 6) => l6_parts a b p h.1 h.2) h hp
end Go.Proofs.YthhaelnildaemaaGreatDoor
