/- The law IvLess. -/
import Derived.Test.YtfggnoejcgehdaaGreatDoorRAk6
import Derived.Test.YtfggnoejcgehdaaGreatDoorRAk4
namespace Go.Proofs.YtfggnoejcgehdaaGreatDoor
open Go.RowKit Nx
set_option linter.unusedVariables false
set_option linter.unusedSimpArgs false
attribute [local irreducible] chk
def ti8 : TI := ⟨false, 1, [.lit (.int .u8 0)], [.int .u8 0], [], none⟩
def tyT2 (t : TypeId) : Option TI := if t = 5 then some ti8 else tyT t
theorem ok_u8 : TiOK Tryz.prog 5 ti8 := leaf_ok (by kernel_rfl) (by kernel_rfl) (by kernel_rfl) (fun _ _ _ => rfl) rfl (fun b h => by cases h) (ik_of (by kernel_rfl)) (fun e b h => by cases h)
theorem tyT2_ok (t : TypeId) (i : TI) (h : tyT2 t = some i) : TiOK Tryz.prog t i := by
  unfold tyT2 at h
  by_cases h0 : t = 5
  · rw [if_pos h0] at h; injection h with h; subst h; subst h0; exact ok_u8
  · rw [if_neg h0] at h; exact tyT_ok t i h
set_option maxRecDepth 100000 in
set_option maxHeartbeats 4000000 in
theorem v_less1 (xs : List Nat) (A : Option Addr) (n c : Nat) (kk : Nat) (hkk : kk ≤ 255) (s t u v w z m q : J) (e1 : addJ (sivD xs 0).1 (sivD xs (sivD xs 0).2).1 (precD xs (sivD xs (sivD xs 0).2).2).1 = (s, 0)) (f1 : addJ (partD xs (sivD xs 0).1 (precD xs (sivD xs (sivD xs 0).2).2).2) (partD xs (sivD xs (sivD xs 0).2).1 ((precD xs (sivD xs (sivD xs 0).2).2).2 + 1 + 1)) (precD xs (sivD xs (sivD xs 0).2).2).1 = (t, 0)) (h1 : inJ t s = true) (e2 : subJ (sivD xs 0).1 (sivD xs (sivD xs 0).2).1 (precD xs (sivD xs (sivD xs 0).2).2).1 = (u, 0)) (f2 : subJ (partD xs (sivD xs 0).1 (precD xs (sivD xs (sivD xs 0).2).2).2) (partD xs (sivD xs (sivD xs 0).2).1 ((precD xs (sivD xs (sivD xs 0).2).2).2 + 1 + 1)) (precD xs (sivD xs (sivD xs 0).2).2).1 = (v, 0)) (h2 : inJ v u = true) (e3 : mulJ (sivD xs 0).1 (sivD xs (sivD xs 0).2).1 (precD xs (sivD xs (sivD xs 0).2).2).1 = (w, 0)) (f3 : mulJ (partD xs (sivD xs 0).1 (precD xs (sivD xs (sivD xs 0).2).2).2) (partD xs (sivD xs (sivD xs 0).2).1 ((precD xs (sivD xs (sivD xs 0).2).2).2 + 1 + 1)) (precD xs (sivD xs (sivD xs 0).2).2).1 = (z, 0)) (h3 : inJ z w = true) (e4 : powJ (sivD xs 0).1 ((kk : Int).tmod 9) (precD xs (sivD xs (sivD xs 0).2).2).1 = (m, 0)) (f4 : powJ (partD xs (sivD xs 0).1 (precD xs (sivD xs (sivD xs 0).2).2).2) ((kk : Int).tmod 9) (precD xs (sivD xs (sivD xs 0).2).2).1 = (q, 0)) (h4 : inJ q m = true) (e5 : divJ (sivD xs 0).1 (sivD xs (sivD xs 0).2).1 (precD xs (sivD xs (sivD xs 0).2).2).1 = (zJ, 3)) : LCt 9 A n c xs [.s (.lit (.slice A n c)), .s (.lit (.int .u8 (kk : Int)))] := by
  refine lct_of (O := orO ofO (orO (dkO 25 A n c (rK fun k => (k ≤ 800, jA (sivD xs k).1, (sivD xs k).2))) (orO (dkO 21 A n c (rK fun k => (k ≤ 900, iA (precD xs k).1, (precD xs k).2))) (orO (dkO 18 A n c (rKJ fun k j => (Good j ∧ k ≤ 800, jA (partD xs j k), k + 1 + 1))) (tblO (orT Tlaw5_known (orT Tiv_Add (orT Tiv_Sub (orT Tiv_Mul (orT Tiv_Pow (orT Tiv_In (Tiv_Div)))))))))))) (by kernel_rfl) tyT2_ok (fun w hA hn => only_or ofO_only (ofO_ok _ _) (only_or dkO_only (dkO_ok (xs := xs) (ent Tryz.func25 (by kernel_rfl) rfl) (rK_ok fun k hp => (sivD_spec hp).2.2.2) hA hn) (only_or dkO_only (dkO_ok (xs := xs) (ent Tryz.func21 (by kernel_rfl) rfl) (rK_ok fun k hp => (precD_spec hp).2.2.2) hA hn) (only_or dkO_only (dkO_ok (xs := xs) (ent Tryz.func18 (by kernel_rfl) rfl) (rKJ_ok fun k j hp => d_part xs k j hp.1 hp.2) hA hn) (tblO_ok (orT_ok Tlaw5_known_ok (orT_ok Tiv_Add_ok (orT_ok Tiv_Sub_ok (orT_ok Tiv_Mul_ok (orT_ok Tiv_Pow_ok (orT_ok Tiv_In_ok (Tiv_Div_ok))))))) _ w) (fun d st args => by simp [orO, refO, dkO, ofO, tblO, orT, noT, one, Tlaw5_known, Tiv_Add, Tiv_Sub, Tiv_Mul, Tiv_Pow, Tiv_In, Tiv_Div])) (fun d st args => by simp [orO, refO, dkO, ofO, tblO, orT, noT, one, Tlaw5_known, Tiv_Add, Tiv_Sub, Tiv_Mul, Tiv_Pow, Tiv_In, Tiv_Div])) (fun d st args => by simp [orO, refO, dkO, ofO, tblO, orT, noT, one, Tlaw5_known, Tiv_Add, Tiv_Sub, Tiv_Mul, Tiv_Pow, Tiv_In, Tiv_Div])) (fun d st args => by simp [orO, refO, dkO, ofO, tblO, orT, noT, one, Tlaw5_known, Tiv_Add, Tiv_Sub, Tiv_Mul, Tiv_Pow, Tiv_In, Tiv_Div])) [] 2000 184 [.tmp 4] Tryz.func9 rfl Tryz.ntmps9 (by rw [Tryz.results9]) (by simp) rfl (fun hsm hs => ?_)
  have s1 := sivD_spec (xs := xs) (k := 0) (by omega)
  have u1 := s1.2.1
  have u2 := s1.2.2.1
  have s2 := sivD_spec (xs := xs) (k := (sivD xs 0).2) (by omega)
  have u3 := s2.2.1
  have u4 := s2.2.2.1
  have s3 := precD_spec (xs := xs) (k := (sivD xs (sivD xs 0).2).2) (by omega)
  have u5 := s3.2.1
  have u6 := s3.2.2.1
  have G1 := s1.1.1
  have G2 := s2.1.1
  have g1 := G1.2
  have g2 := G2.2
  have g3 := (part_in (xs := xs) (k := (precD xs (sivD xs (sivD xs 0).2).2).2) G1 (by omega)).1.2
  have g4 := (part_in (xs := xs) (k := (precD xs (sivD xs (sivD xs 0).2).2).2 + 1 + 1) G2 (by omega)).1.2
  have wk : IntKind.i64.wrap (kk : Int) = (kk : Int) := by rw [IntKind.wrap_i64]; omega
  clear s1 s2 s3
  simp (maxSteps := 10000000) only [tyT2, ti8, run, init, X.L, J.L, vL, X.eta, J.eta, Q.eta, List.cons_append, List.nil_append, brkK, brkf_b, brkf_t, exef_some, exif_some, condf_b, opf, bodyE, addR, skipE, stepOp, stepLoad, stepStore, stepField, stepCall, stepBS, stepBi, stepCv, stepIx, lpf, forget, inL, mentA, ment, dom, evs, evl, evp, evd, okeys, look, fillA, capsOf, wordsOf, rowsOf, lenOf, convK, binV, shV, intV, unV, boolT, tyT, tiB, tiI, tiW, tiD, tiF, tiR, tiU, tiNum, tiIv, tiVal, tiSc, okLf, okD, keysOf, tblO, orT, ↓cond_true, ↓cond_false, ↓not_cond, noT, one, asNum, asIv, asVal, postf_some, resA, tupA, clA, clL, dropTo, ↓reduceIte, Nat.reduceMul, Nat.reduceAdd, Nat.reduceEqDiff, Nat.reduceLeDiff, Nat.reduceLT, decide_true, decide_false, reduceCtorEq, List.all_cons, List.all_nil, Bool.and_true, Bool.and_self, true_and, and_true, and_self, List.length_cons, List.length_nil, List.drop_succ_cons, List.drop_zero, List.take_succ_cons, List.take_zero, List.getElem?_cons_zero, List.getElem?_cons_succ, List.map_cons, List.map_nil, false_implies, true_implies, Option.bind_some, List.getElem?_toArray, Bool.false_eq_true, List.append_nil, List.flatMap_cons, List.flatMap_nil, true_or, or_true, forall_const, List.reverse_cons, List.reverse_nil, Option.isSome_some, Option.any_some, Nat.lt_irrefl, not_true_eq_false, Bool.not_true, Bool.not_false, imp_self, implies_true, Int.reduceNeg, Bool.not_eq_true', Bool.not_eq_false', Bool.true_eq_false, Bool.false_eq_true, Tlaw5_known, Tiv_Add, Tiv_Sub, Tiv_Mul, Tiv_Pow, Tiv_In, Tiv_Div, gN, gNN, gNI, gI, gNNIB, gNIB, gV, gVV, gVIB, gVVIB, gWW, gJ, gJJ, gJN, gJJI, gJI, gJII, gNNI, gBWI, gVVVV, gVVVVI, gVI, memOf, cntF, nmL, rnL, nmA, rnA, isV, contsOf, ndB, refO, orO, pin, List.map_cons, List.map_nil, Int.reduceLT, Int.reduceLE, Int.reduceAdd, Int.reduceToNat, Int.toNat_zero, decide_eq_true_eq, wrap0, wrap1, ci1, ci2, Nat.reduceBEq, BEq.rfl, beq_self_eq_true, Int.natCast_zero, ge_iff_le, gt_iff_lt, Int.le_refl, Nat.zero_mul, Nat.one_mul, Nat.zero_add, Nat.zero_lt_succ, Int.reduceMul, Int.reduceSub, Nat.lt_add_one, Nat.reduceSub, Nat.le_refl, List.append_eq, Int.reduceEq, gJB, gC, gCC, asSc, SX.L, SX.eta, gIJJI, Int.reduceEq, ub, wrap2, bits_in, wrap_in, Bool.not_eq_true, dkO, dpf_some, rK, rKI, rKJ, Int.toNat_natCast, Int.natCast_nonneg, dk0, gJJN, gIJJI, ofO, wk, Int.reduceBNe, Int.reduceBEq, Int.reduceEq, Bool.or_true, Bool.true_or, Bool.false_or, Bool.or_false, e1, f1, h1, e2, f2, h2, e3, f3, h3, e4, f4, h4, e5]
  repeat' first | (with_reducible apply And.intro) | (with_reducible apply condP <;> intro _)
  all_goals first | omega | (show chk _ _ = true; kernel_rfl) | with_reducible assumption | (simp only [AV.s, cond_true, cond_false, Bool.and_true, Bool.true_and, Bool.and_false, Bool.false_and, Bool.and_self, Bool.not_true, Bool.not_false, Bool.or_true, Bool.true_or, Bool.or_false, Bool.false_or, *]; done) | rfl | (simp only [AV.s, cond_true, cond_false, Bool.and_true, Bool.true_and, Bool.and_false, Bool.false_and, Bool.and_self, Bool.not_true, Bool.not_false, Bool.or_true, Bool.true_or, Bool.or_false, Bool.false_or, *]; rfl) | (exfalso; simp_all only [Bool.true_eq_false, Bool.false_eq_true, reduceCtorEq]; done)
set_option maxRecDepth 100000 in
set_option maxHeartbeats 4000000 in
theorem v_less2 (xs : List Nat) (A : Option Addr) (n c : Nat) (kk : Nat) (hkk : kk ≤ 255) (s t u v w z m q : J) (c1 c2 : J) (e1 : addJ (sivD xs 0).1 (sivD xs (sivD xs 0).2).1 (precD xs (sivD xs (sivD xs 0).2).2).1 = (s, 0)) (f1 : addJ (partD xs (sivD xs 0).1 (precD xs (sivD xs (sivD xs 0).2).2).2) (partD xs (sivD xs (sivD xs 0).2).1 ((precD xs (sivD xs (sivD xs 0).2).2).2 + 1 + 1)) (precD xs (sivD xs (sivD xs 0).2).2).1 = (t, 0)) (h1 : inJ t s = true) (e2 : subJ (sivD xs 0).1 (sivD xs (sivD xs 0).2).1 (precD xs (sivD xs (sivD xs 0).2).2).1 = (u, 0)) (f2 : subJ (partD xs (sivD xs 0).1 (precD xs (sivD xs (sivD xs 0).2).2).2) (partD xs (sivD xs (sivD xs 0).2).1 ((precD xs (sivD xs (sivD xs 0).2).2).2 + 1 + 1)) (precD xs (sivD xs (sivD xs 0).2).2).1 = (v, 0)) (h2 : inJ v u = true) (e3 : mulJ (sivD xs 0).1 (sivD xs (sivD xs 0).2).1 (precD xs (sivD xs (sivD xs 0).2).2).1 = (w, 0)) (f3 : mulJ (partD xs (sivD xs 0).1 (precD xs (sivD xs (sivD xs 0).2).2).2) (partD xs (sivD xs (sivD xs 0).2).1 ((precD xs (sivD xs (sivD xs 0).2).2).2 + 1 + 1)) (precD xs (sivD xs (sivD xs 0).2).2).1 = (z, 0)) (h3 : inJ z w = true) (e4 : powJ (sivD xs 0).1 ((kk : Int).tmod 9) (precD xs (sivD xs (sivD xs 0).2).2).1 = (m, 0)) (f4 : powJ (partD xs (sivD xs 0).1 (precD xs (sivD xs (sivD xs 0).2).2).2) ((kk : Int).tmod 9) (precD xs (sivD xs (sivD xs 0).2).2).1 = (q, 0)) (h4 : inJ q m = true) (e5 : divJ (sivD xs 0).1 (sivD xs (sivD xs 0).2).1 (precD xs (sivD xs (sivD xs 0).2).2).1 = (c1, 0)) (f5 : divJ (partD xs (sivD xs 0).1 (precD xs (sivD xs (sivD xs 0).2).2).2) (partD xs (sivD xs (sivD xs 0).2).1 ((precD xs (sivD xs (sivD xs 0).2).2).2 + 1 + 1)) (precD xs (sivD xs (sivD xs 0).2).2).1 = (c2, 0)) (h5 : inJ c2 c1 = true) : LCt 9 A n c xs [.s (.lit (.slice A n c)), .s (.lit (.int .u8 (kk : Int)))] := by
  refine lct_of (O := orO ofO (orO (dkO 25 A n c (rK fun k => (k ≤ 800, jA (sivD xs k).1, (sivD xs k).2))) (orO (dkO 21 A n c (rK fun k => (k ≤ 900, iA (precD xs k).1, (precD xs k).2))) (orO (dkO 18 A n c (rKJ fun k j => (Good j ∧ k ≤ 800, jA (partD xs j k), k + 1 + 1))) (tblO (orT Tlaw5_known (orT Tiv_Add (orT Tiv_Sub (orT Tiv_Mul (orT Tiv_Pow (orT Tiv_In (Tiv_Div)))))))))))) (by kernel_rfl) tyT2_ok (fun w hA hn => only_or ofO_only (ofO_ok _ _) (only_or dkO_only (dkO_ok (xs := xs) (ent Tryz.func25 (by kernel_rfl) rfl) (rK_ok fun k hp => (sivD_spec hp).2.2.2) hA hn) (only_or dkO_only (dkO_ok (xs := xs) (ent Tryz.func21 (by kernel_rfl) rfl) (rK_ok fun k hp => (precD_spec hp).2.2.2) hA hn) (only_or dkO_only (dkO_ok (xs := xs) (ent Tryz.func18 (by kernel_rfl) rfl) (rKJ_ok fun k j hp => d_part xs k j hp.1 hp.2) hA hn) (tblO_ok (orT_ok Tlaw5_known_ok (orT_ok Tiv_Add_ok (orT_ok Tiv_Sub_ok (orT_ok Tiv_Mul_ok (orT_ok Tiv_Pow_ok (orT_ok Tiv_In_ok (Tiv_Div_ok))))))) _ w) (fun d st args => by simp [orO, refO, dkO, ofO, tblO, orT, noT, one, Tlaw5_known, Tiv_Add, Tiv_Sub, Tiv_Mul, Tiv_Pow, Tiv_In, Tiv_Div])) (fun d st args => by simp [orO, refO, dkO, ofO, tblO, orT, noT, one, Tlaw5_known, Tiv_Add, Tiv_Sub, Tiv_Mul, Tiv_Pow, Tiv_In, Tiv_Div])) (fun d st args => by simp [orO, refO, dkO, ofO, tblO, orT, noT, one, Tlaw5_known, Tiv_Add, Tiv_Sub, Tiv_Mul, Tiv_Pow, Tiv_In, Tiv_Div])) (fun d st args => by simp [orO, refO, dkO, ofO, tblO, orT, noT, one, Tlaw5_known, Tiv_Add, Tiv_Sub, Tiv_Mul, Tiv_Pow, Tiv_In, Tiv_Div])) [] 2000 184 [.tmp 4] Tryz.func9 rfl Tryz.ntmps9 (by rw [Tryz.results9]) (by simp) rfl (fun hsm hs => ?_)
  have s1 := sivD_spec (xs := xs) (k := 0) (by omega)
  have u1 := s1.2.1
  have u2 := s1.2.2.1
  have s2 := sivD_spec (xs := xs) (k := (sivD xs 0).2) (by omega)
  have u3 := s2.2.1
  have u4 := s2.2.2.1
  have s3 := precD_spec (xs := xs) (k := (sivD xs (sivD xs 0).2).2) (by omega)
  have u5 := s3.2.1
  have u6 := s3.2.2.1
  have G1 := s1.1.1
  have G2 := s2.1.1
  have g1 := G1.2
  have g2 := G2.2
  have g3 := (part_in (xs := xs) (k := (precD xs (sivD xs (sivD xs 0).2).2).2) G1 (by omega)).1.2
  have g4 := (part_in (xs := xs) (k := (precD xs (sivD xs (sivD xs 0).2).2).2 + 1 + 1) G2 (by omega)).1.2
  have wk : IntKind.i64.wrap (kk : Int) = (kk : Int) := by rw [IntKind.wrap_i64]; omega
  clear s1 s2 s3
  simp (maxSteps := 10000000) only [tyT2, ti8, run, init, X.L, J.L, vL, X.eta, J.eta, Q.eta, List.cons_append, List.nil_append, brkK, brkf_b, brkf_t, exef_some, exif_some, condf_b, opf, bodyE, addR, skipE, stepOp, stepLoad, stepStore, stepField, stepCall, stepBS, stepBi, stepCv, stepIx, lpf, forget, inL, mentA, ment, dom, evs, evl, evp, evd, okeys, look, fillA, capsOf, wordsOf, rowsOf, lenOf, convK, binV, shV, intV, unV, boolT, tyT, tiB, tiI, tiW, tiD, tiF, tiR, tiU, tiNum, tiIv, tiVal, tiSc, okLf, okD, keysOf, tblO, orT, ↓cond_true, ↓cond_false, ↓not_cond, noT, one, asNum, asIv, asVal, postf_some, resA, tupA, clA, clL, dropTo, ↓reduceIte, Nat.reduceMul, Nat.reduceAdd, Nat.reduceEqDiff, Nat.reduceLeDiff, Nat.reduceLT, decide_true, decide_false, reduceCtorEq, List.all_cons, List.all_nil, Bool.and_true, Bool.and_self, true_and, and_true, and_self, List.length_cons, List.length_nil, List.drop_succ_cons, List.drop_zero, List.take_succ_cons, List.take_zero, List.getElem?_cons_zero, List.getElem?_cons_succ, List.map_cons, List.map_nil, false_implies, true_implies, Option.bind_some, List.getElem?_toArray, Bool.false_eq_true, List.append_nil, List.flatMap_cons, List.flatMap_nil, true_or, or_true, forall_const, List.reverse_cons, List.reverse_nil, Option.isSome_some, Option.any_some, Nat.lt_irrefl, not_true_eq_false, Bool.not_true, Bool.not_false, imp_self, implies_true, Int.reduceNeg, Bool.not_eq_true', Bool.not_eq_false', Bool.true_eq_false, Bool.false_eq_true, Tlaw5_known, Tiv_Add, Tiv_Sub, Tiv_Mul, Tiv_Pow, Tiv_In, Tiv_Div, gN, gNN, gNI, gI, gNNIB, gNIB, gV, gVV, gVIB, gVVIB, gWW, gJ, gJJ, gJN, gJJI, gJI, gJII, gNNI, gBWI, gVVVV, gVVVVI, gVI, memOf, cntF, nmL, rnL, nmA, rnA, isV, contsOf, ndB, refO, orO, pin, List.map_cons, List.map_nil, Int.reduceLT, Int.reduceLE, Int.reduceAdd, Int.reduceToNat, Int.toNat_zero, decide_eq_true_eq, wrap0, wrap1, ci1, ci2, Nat.reduceBEq, BEq.rfl, beq_self_eq_true, Int.natCast_zero, ge_iff_le, gt_iff_lt, Int.le_refl, Nat.zero_mul, Nat.one_mul, Nat.zero_add, Nat.zero_lt_succ, Int.reduceMul, Int.reduceSub, Nat.lt_add_one, Nat.reduceSub, Nat.le_refl, List.append_eq, Int.reduceEq, gJB, gC, gCC, asSc, SX.L, SX.eta, gIJJI, Int.reduceEq, ub, wrap2, bits_in, wrap_in, Bool.not_eq_true, dkO, dpf_some, rK, rKI, rKJ, Int.toNat_natCast, Int.natCast_nonneg, dk0, gJJN, gIJJI, ofO, wk, Int.reduceBNe, Int.reduceBEq, Int.reduceEq, Bool.or_true, Bool.true_or, Bool.false_or, Bool.or_false, e1, f1, h1, e2, f2, h2, e3, f3, h3, e4, f4, h4, e5, f5, h5]
  repeat' first | (with_reducible apply And.intro) | (with_reducible apply condP <;> intro _)
  all_goals first | omega | (show chk _ _ = true; kernel_rfl) | with_reducible assumption | (simp only [AV.s, cond_true, cond_false, Bool.and_true, Bool.true_and, Bool.and_false, Bool.false_and, Bool.and_self, Bool.not_true, Bool.not_false, Bool.or_true, Bool.true_or, Bool.or_false, Bool.false_or, *]; done) | rfl | (simp only [AV.s, cond_true, cond_false, Bool.and_true, Bool.true_and, Bool.and_false, Bool.false_and, Bool.and_self, Bool.not_true, Bool.not_false, Bool.or_true, Bool.true_or, Bool.or_false, Bool.false_or, *]; rfl) | (exfalso; simp_all only [Bool.true_eq_false, Bool.false_eq_true, reduceCtorEq]; done)
theorem v_less (xs : List Nat) (A : Option Addr) (n c : Nat) (kk : Nat) (hkk : kk ≤ 255) : LCt 9 A n c xs [.s (.lit (.slice A n c)), .s (.lit (.int .u8 (kk : Int)))] := by
  have s1 := sivD_spec (xs := xs) (k := 0) (by omega)
  have s2 := sivD_spec (xs := xs) (k := (sivD xs 0).2) (by have := s1.2.2.1; omega)
  have s3 := precD_spec (xs := xs) (k := (sivD xs (sivD xs 0).2).2) (by have := s1.2.2.1; have := s2.2.2.1; omega)
  have G1 := s1.1.1
  have G2 := s2.1.1
  have hk : (precD xs (sivD xs (sivD xs 0).2).2).2 ≤ 700 := by have := s1.2.2.1; have := s2.2.2.1; have := s3.2.2.1; omega
  have i1 := part_in (xs := xs) (k := (precD xs (sivD xs (sivD xs 0).2).2).2) G1 (by omega)
  have i2 := part_in (xs := xs) (k := (precD xs (sivD xs (sivD xs 0).2).2).2 + 1 + 1) G2 (by omega)
  have C1 : BdJ 132 (partD xs (sivD xs 0).1 (precD xs (sivD xs (sivD xs 0).2).2).2) := part_bd G1 s1.1.2 (by omega)
  have C2 : BdJ 132 (partD xs (sivD xs (sivD xs 0).2).1 ((precD xs (sivD xs (sivD xs 0).2).2).2 + 1 + 1)) := part_bd G2 s2.1.2 (by omega)
  have b1 := fewj_bd s1.1.2
  have b2 := fewj_bd s2.1.2
  have B1 : BdJ 132 (sivD xs 0).1 := ⟨b1.1.mono (by omega), b1.2.mono (by omega)⟩
  have B2 : BdJ 132 (sivD xs (sivD xs 0).2).1 := ⟨b2.1.mono (by omega), b2.2.mono (by omega)⟩
  have hz := s3.1
  have t1 : 0 ≤ ((kk : Int).tmod 9) := Int.tmod_nonneg _ (Int.natCast_nonneg _)
  have t2 : ((kk : Int).tmod 9) ≤ 8 := by have := Int.tmod_lt_of_pos (kk : Int) (show (0 : Int) < 9 by decide); omega
  obtain ⟨s, t, e1, f1, h1⟩ := less_add (z := (precD xs (sivD xs (sivD xs 0).2).2).1) G1 G2 i1.1 i2.1 hz B1 B2 C1 C2 (by omega) i1.2 i2.2
  obtain ⟨u, v, e2, f2, h2⟩ := less_sub (z := (precD xs (sivD xs (sivD xs 0).2).2).1) G1 G2 i1.1 i2.1 hz B1 B2 C1 C2 (by omega) i1.2 i2.2
  obtain ⟨w, z, e3, f3, h3⟩ := less_mul (z := (precD xs (sivD xs (sivD xs 0).2).2).1) G1 G2 i1.1 i2.1 hz B1 B2 C1 C2 (by omega) i1.2 i2.2
  obtain ⟨m, q, e4, f4, h4⟩ := less_pow (z := (precD xs (sivD xs (sivD xs 0).2).2).1) G1 i1.1 t1 t2 hz B1 C1 (by omega) i1.2
  cases hn : hasJ (sivD xs (sivD xs 0).2).1 zX
  · obtain ⟨c1, c2, e5, f5, h5⟩ := less_div (z := (precD xs (sivD xs (sivD xs 0).2).2).1) G1 G2 i1.1 i2.1 hz B1 B2 C1 C2 (by omega) i1.2 i2.2 hn
    exact v_less2 xs A n c kk hkk s t u v w z m q c1 c2 e1 f1 h1 e2 f2 h2 e3 f3 h3 e4 f4 h4 e5 f5 h5
  · exact v_less1 xs A n c kk hkk s t u v w z m q e1 f1 h1 e2 f2 h2 e3 f3 h3 e4 f4 h4 (div_no G1 G2 hz hn)
theorem ivless_walk (W : World) (a0 : Option Addr) (l0 c0 : Nat) (xs0 : List Nat) (u1 : Nat) (hu1 : u1 ≤ 255) (hx0 : Arg W a0 l0 c0 xs0) (ht : Tab W) :
    Calls Tryz.prog 9 #[.slice a0 l0 c0, .int .u8 (u1 : Int)] W fun e W' => e = .returned (.bool true) ∧ Below W.heap.size W W' :=
  v_less xs0 a0 l0 c0 u1 hu1 W _ ht hx0 ⟨_, _, rfl, r_slc, _, _, rfl, RL.one.2 rfl, rfl⟩
end Go.Proofs.YtfggnoejcgehdaaGreatDoor
