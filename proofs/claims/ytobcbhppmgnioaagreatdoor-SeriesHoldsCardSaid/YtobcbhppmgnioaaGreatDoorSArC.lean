/- Package series: a coefficient of a product. -/
import Derived.Test.YtobcbhppmgnioaaGreatDoorSAq1
import Derived.Test.YtobcbhppmgnioaaGreatDoorSAm2
namespace Go.Proofs.YtobcbhppmgnioaaGreatDoor
open Go.RowKit Nx
set_option linter.unusedVariables false
set_option linter.unusedSimpArgs false
attribute [local go_sem] X.eta J.eta Q.eta brkf_b brkf_t exef_some exif_some condf_b postf_some memOf cntF nmL rnL nmA rnA isV contsOf ndB refO orO pin Int.toNat_zero decide_eq_true_eq wrap0 wrap1 ci1 ci2 BEq.rfl beq_self_eq_true Int.natCast_zero ge_iff_le gt_iff_lt Int.le_refl Nat.zero_mul Nat.one_mul Nat.zero_add Nat.zero_lt_succ Nat.lt_add_one Nat.le_refl List.append_eq Int.toNat_natCast noE boxL_nil boxL_cons ptsL_nil ptsL_cons bne_self_eq_false wr2 wr3 wr4 wr5 wr6 wr7 wr8 gB gP gBB gBP gBZ gBBZ bC_nil bC_cons pC_nil pC_cons fvO Lc.up tyB tiS tiBB List.replicate_succ List.replicate_zero List.flatten_cons List.flatten_nil Int.ofNat_lt Int.cast_ofNat_Int Int.ofNat_eq_natCast List.isEmpty_nil List.isEmpty_cons and_false false_and List.cons_ne_nil Nat.add_zero ite_true ite_false if_true if_false Nat.le_zero_eq eq_self tyM tiQ tiMM gA gE asZ asT asV1 asN1 asB_b asP_b asM_m asQ_m ite_self hoO hoK hpin hoO2 hoK2 hpin2
attribute [local go_sem ↓] not_cond outL_box outL_pts clL_box clL_pts okL_box okL_pts ment_box ment_pts olL_box olL_pts cvL_box cvL_pts noO_box noO_pts asB_box asP_pts len_box len_pts
attribute [local irreducible] chk
noncomputable def coN (z : Int) (a b : List J) (k : Nat) : Nat → J × Int
 | 0 => bif (mulJ (a.getD 0 zJ) (b.getD k zJ) z).2 != 0 then (zJ, (mulJ (a.getD 0 zJ) (b.getD k zJ) z).2) else ((mulJ (a.getD 0 zJ) (b.getD k zJ) z).1, 0)
 | i + 1 => bif (coN z a b k i).2 != 0 then (zJ, (coN z a b k i).2) else
  bif (mulJ (a.getD (i + 1) zJ) (b.getD (k - (i + 1)) zJ) z).2 != 0 then (zJ, (mulJ (a.getD (i + 1) zJ) (b.getD (k - (i + 1)) zJ) z).2) else
  bif (addJ (coN z a b k i).1 (mulJ (a.getD (i + 1) zJ) (b.getD (k - (i + 1)) zJ) z).1 z).2 != 0 then (zJ, (addJ (coN z a b k i).1 (mulJ (a.getD (i + 1) zJ) (b.getD (k - (i + 1)) zJ) z).1 z).2) else
  ((addJ (coN z a b k i).1 (mulJ (a.getD (i + 1) zJ) (b.getD (k - (i + 1)) zJ) z).1 z).1, 0)
theorem coN_stop {z : Int} {a b : List J} {k j n : Nat} (h : ((coN z a b k j).2 != 0) = true) (hn : j < n) : coN z a b k n = (zJ, (coN z a b k j).2) := by
 induction n with
 | zero => omega
 | succ n ih =>
  rcases Nat.lt_or_ge j n with h1 | h1
  ·have e := ih h1
   show (bif (coN z a b k n).2 != 0 then _ else _) = _
   rw [e, h]; rfl
  ·obtain rfl : j = n := by omega
   show (bif (coN z a b k j).2 != 0 then _ else _) = _
   rw [h]; rfl
theorem coN_bad {z : Int} {a b : List J} {k j n : Nat} {e : Int} (h : coN z a b k j = (zJ, e)) (he : (e != 0) = true) (hn : j ≤ n) : coN z a b k n = (zJ, e) := by
 rcases Nat.lt_or_ge j n with h1 | h1
 ·rw [coN_stop (by rw [h]; exact he) h1, h]
 ·obtain rfl : j = n := by omega
  exact h
theorem wrap_sub {k i : Nat} (h : i ≤ k) (hk : k ≤ 100000) : IntKind.i64.wrap ((k : Int) - (i : Int)) = ((k - i : Nat) : Int) := by
 rw [show (k : Int) - (i : Int) = ((k - i : Nat) : Int) by omega]
 rw [IntKind.wrap_i64]; omega
set_option maxRecDepth 100000 in
set_option maxHeartbeats 4000000 in
theorem se_coef (a b : List J) (k : Nat) (z : Int) (ha : k < a.length) (hb : k < b.length) (h2 : k ≤ 1000) : Ct Tryz.prog 50 [bA_ a, bA_ b, iA k, iA z] (· = jeA (coN z a b k k)) := by
 refine ct_of (O := tblO (orT Tiv_Mul Tiv_Add)) (by kernel_rfl) tyM_ok (fun w => tblO_ok (orT_ok Tiv_Mul_ok Tiv_Add_ok) _ w) [9999999, 0, 2, 4, 6, 16, 17, 20, 21, 24] ((k + 1) * 600 + 300) 67 [.cell 8 28, .tmp 9] Tryz.func50 rfl Tryz.ntmps50 (by rw [Tryz.results50]) (by simp) rfl (fun hsm => ?_)
 generalize hD : coN z a b k = D
 have hx0 := bC_at' (at_get zJ (show 0 < a.length by omega))
 have hy0 := bC_at' (at_get zJ (show k < b.length by omega))
 rw [Nat.zero_mul, List.drop_zero] at hx0
 have k0 : (0 ≤ (k : Int)) = True := eq_true (by omega)
 have ka : (0 < a.length) = True := eq_true (by omega)
 have kb : (k < b.length) = True := eq_true hb
 have hs0 : D 0 = bif (mulJ (a.getD 0 zJ) (b.getD k zJ) z).2 != 0 then (zJ, (mulJ (a.getD 0 zJ) (b.getD k zJ) z).2) else ((mulJ (a.getD 0 zJ) (b.getD k zJ) z).1, 0) := by rw [← hD]; rfl
 have hbad : ∀ j e, D j = (zJ, e) → (e != 0) = true → j ≤ k → D k = (zJ, e) := fun j e h1 h2 h3 => by rw [← hD] at h1 ⊢; exact coN_bad h1 h2 h3
 have hstep : ∀ i, D (i + 1) = bif (D i).2 != 0 then (zJ, (D i).2) else
  bif (mulJ (a.getD (i + 1) zJ) (b.getD (k - (i + 1)) zJ) z).2 != 0 then (zJ, (mulJ (a.getD (i + 1) zJ) (b.getD (k - (i + 1)) zJ) z).2) else
  bif (addJ (D i).1 (mulJ (a.getD (i + 1) zJ) (b.getD (k - (i + 1)) zJ) z).1 z).2 != 0 then (zJ, (addJ (D i).1 (mulJ (a.getD (i + 1) zJ) (b.getD (k - (i + 1)) zJ) z).1 z).2) else
  ((addJ (D i).1 (mulJ (a.getD (i + 1) zJ) (b.getD (k - (i + 1)) zJ) z).1 z).1, 0) := fun i => by rw [← hD]; rfl
 clear hD
 generalize a.getD 0 zJ = x0 at *
 generalize b.getD k zJ = y0 at *
 cases hM0 : (mulJ x0 y0 z).2 != 0 with
 | true =>
  rw [hM0, cond_true] at hs0
  rw [hbad 0 _ hs0 hM0 (by omega)]
  simp (maxSteps := 10000000) only [go_sem, seval, reduceCtorEq, Tiv_Mul, Tiv_Add, ka, kb, k0, hx0, hy0, hM0]
  repeat' with_reducible first | apply And.intro | apply condP <;> intro _
  all_goals first | (show chk _ _ = true; kernel_rfl) | assumption | rfl | (simp only [go_sem, *] <;> rfl)
 | false =>
  rw [hM0, cond_false] at hs0
  simp (maxSteps := 10000000) only [go_sem, seval, reduceCtorEq, Tiv_Mul, Tiv_Add, ka, kb, k0, hx0, hy0, hM0]
  refine And.intro (show chk _ _ = true by kernel_rfl) ?_
  refine loop_ind 600 (fun j => [(0, bA_ a), (2, bA_ b), (4, iA k), (6, iA z), (16, .s (.own 8 0)), (17, .v true zJ.L), (20, .s (.own 10 0)), (21, .v true (D j).1.L), (24, iA ((j + 1 : Nat) : Int))]) k (fun j => (D j).2 = 0) 0 (fun j _ => rfl) (fun j mm _ hj hI ih => ?_) (by omega) (by rw [hs0]) (by rw [hs0]; rfl)
  rcases Nat.lt_or_ge j k with hlt | hge
  ·have hx := bC_at' (at_get zJ (show j + 1 < a.length by omega))
   have hy := bC_at' (at_get zJ (show k - (j + 1) < b.length by omega))
   have hs := hstep j
   have hI0 : ((D j).2 != 0) = false := by rw [hI]; rfl
   rw [hI0, cond_false] at hs
   generalize a.getD (j + 1) zJ = x at *
   generalize b.getD (k - (j + 1)) zJ = y at *
   have d := decide_eq_true (show ((j + 1 : Nat) : Int) ≤ (k : Int) by omega)
   have g0 : (0 ≤ ((j + 1 : Nat) : Int)) = True := eq_true (by omega)
   have g1 : (j + 1 < a.length) = True := eq_true (by omega)
   have g2 : (k - (j + 1) < b.length) = True := eq_true (by omega)
   have g3 : (0 ≤ ((k - (j + 1) : Nat) : Int)) = True := eq_true (by omega)
   have hw := wrap_nat (j := j + 1) (by omega)
   have hs1 := wrap_sub (k := k) (i := j + 1) (by omega) (by omega)
   cases hM : (mulJ x y z).2 != 0 with
   | true =>
    rw [hM, cond_true] at hs
    rw [hbad _ _ hs hM (by omega)]
    simp (maxSteps := 10000000) only [go_sem, seval, reduceCtorEq, Tiv_Mul, Tiv_Add, d, g0, g1, g2, g3, hw, hs1, hx, hy, hM]
    repeat' with_reducible first | apply And.intro | apply condP <;> intro _
    all_goals first | (show chk _ _ = true; kernel_rfl) | assumption | rfl | (simp only [go_sem, *] <;> rfl)
   | false =>
    rw [hM, cond_false] at hs
    cases hA : (addJ (D j).1 (mulJ x y z).1 z).2 != 0 with
    | true =>
     rw [hA, cond_true] at hs
     rw [hbad _ _ hs hA (by omega)]
     simp (maxSteps := 10000000) only [go_sem, seval, reduceCtorEq, Tiv_Mul, Tiv_Add, d, g0, g1, g2, g3, hw, hs1, hx, hy, hM, hA]
     repeat' with_reducible first | apply And.intro | apply condP <;> intro _
     all_goals first | (show chk _ _ = true; kernel_rfl) | assumption | rfl | (simp only [go_sem, *] <;> rfl)
    | false =>
     rw [hA, cond_false] at hs
     replace ih := ih hlt (by rw [hs])
     simp (maxSteps := 10000000) only [go_sem, seval, reduceCtorEq, Tiv_Mul, Tiv_Add, d, g0, g1, g2, g3, hw, hs1, hx, hy, hM, hA]
     repeat' with_reducible first | apply And.intro | apply condP <;> intro _
     all_goals first | (show chk _ _ = true; kernel_rfl) | (exact ih _ _ (by rw [hs]; rfl)) | assumption | rfl
  ·obtain rfl : j = k := by omega
   have hfin : D j = ((D j).1, 0) := Prod.ext rfl hI
   rw [hfin]
   have d : decide (((j + 1 : Nat) : Int) ≤ (j : Int)) = false := decide_eq_false (by omega)
   simp (maxSteps := 10000000) only [go_sem, seval, reduceCtorEq, Tiv_Mul, Tiv_Add, d]
   repeat' with_reducible first | apply And.intro | apply condP <;> intro _
   all_goals first | (show chk _ _ = true; kernel_rfl) | assumption | rfl | (simp only [go_sem, *] <;> rfl)
end Go.Proofs.YtobcbhppmgnioaaGreatDoor
