/- Package series: what reaches, Coef. -/
import Derived.Test.YtobcbhppmgnioaaGreatDoorSArG
namespace Go.Proofs.YtobcbhppmgnioaaGreatDoor
open Go.RowKit Nx
set_option linter.unusedVariables false
set_option linter.unusedSimpArgs false
set_option maxRecDepth 100000
set_option maxHeartbeats 4000000
attribute [local go_sem] X.eta J.eta Q.eta brkf_b brkf_t exef_some exif_some condf_b postf_some memOf cntF nmL rnL nmA rnA isV contsOf ndB refO orO pin Int.toNat_zero decide_eq_true_eq wrap0 wrap1 ci1 ci2 BEq.rfl beq_self_eq_true Int.natCast_zero ge_iff_le gt_iff_lt Int.le_refl Nat.zero_mul Nat.one_mul Nat.zero_add Nat.zero_lt_succ Nat.lt_add_one Nat.le_refl List.append_eq Int.toNat_natCast noE boxL_nil boxL_cons ptsL_nil ptsL_cons bne_self_eq_false wr2 wr3 wr4 wr5 wr6 wr7 wr8 gB gP gBB gBP gBZ gBBZ bC_nil bC_cons pC_nil pC_cons fvO Lc.up tyB tiS tiBB List.replicate_succ List.replicate_zero List.flatten_cons List.flatten_nil Int.ofNat_lt Int.cast_ofNat_Int Int.ofNat_eq_natCast List.isEmpty_nil List.isEmpty_cons and_false false_and List.cons_ne_nil Nat.add_zero ite_true ite_false if_true if_false Nat.le_zero_eq eq_self tyM tiQ tiMM gA gE asZ asT asV1 asN1 asB_b asP_b asM_m asQ_m ite_self hoO hoK hpin hoO2 hoK2 hpin2
attribute [local go_sem ↓] not_cond outL_box outL_pts clL_box clL_pts okL_box okL_pts ment_box ment_pts olL_box olL_pts cvL_box cvL_pts noO_box noO_pts asB_box asP_pts len_box len_pts
attribute [local irreducible] chk
noncomputable def ordB (k : Int) : Bool := bif decide (0 ≤ k) then decide (k ≤ 10) else false
noncomputable def prcB (z : Int) : Bool := bif decide (8 ≤ z) then decide (z ≤ 256) else false
def rch (a : List J) (k : Nat) : Bool := decide (k < a.length) && (a.take (k + 1)).all okJ
theorem ordB_iff {k : Int} : ordB k = true ↔ 0 ≤ k ∧ k ≤ 10 := by
 unfold ordB
 by_cases h : 0 ≤ k
 ·rw [decide_eq_true h, cond_true, decide_eq_true_iff]; exact ⟨fun x => ⟨h, x⟩, fun x => x.2⟩
 ·rw [decide_eq_false h, cond_false]; exact ⟨(fun x => by cases x), fun x => absurd x.1 h⟩
theorem bC_take (l : List J) (n : Nat) : (bC l).take (n * 6) = bC (l.take n) := by
 induction l generalizing n with
 | nil => simp [bC]
 | cons a l ih =>
  cases n with
  | zero => rw [Nat.zero_mul, List.take_zero, List.take_zero]; rfl
  | succ n =>
   have h : (bC (a :: l)) = J.C a ++ bC l := rfl
   rw [h, List.take_succ_cons, show bC (a :: l.take n) = J.C a ++ bC (l.take n) from rfl, ← ih, Nat.succ_mul, Nat.add_comm, List.take_append, show (J.C a).length = 6 from rfl, List.take_of_length_le (by show 6 ≤ _; omega)]
   congr 2; omega
theorem se_ord0 (k : Int) (h : decide (0 ≤ k) = false) : Ct Tryz.prog 47 [iA k] (· = bA (ordB k)) := by
 have e : ordB k = false := by unfold ordB; rw [h]; rfl
 refine ct_of (O := tblO noT) (by kernel_rfl) tyM_ok (fun w => tblO_ok noT_ok _ w) [] 600 9 [.tmp 2] Tryz.func47 rfl Tryz.ntmps47 (by rw [Tryz.results47]) (by simp) rfl (fun hsm => ?_)
 simp (maxSteps := 10000000) only [go_sem, seval, reduceCtorEq, h, e, bxe, pxe, lpf, hdS, hd1, pick, forget, frh, frz, frS, frA, frL]
 repeat' with_reducible first | apply And.intro | apply condP <;> intro _
 all_goals first | (show chk _ _ = true; kernel_rfl) | assumption | rfl | (simp only [go_sem, *] <;> rfl)
theorem se_ord1 (k : Int) (h : decide (0 ≤ k) = true) : Ct Tryz.prog 47 [iA k] (· = bA (ordB k)) := by
 have e : ordB k = decide (k ≤ 10) := by unfold ordB; rw [h]; rfl
 refine ct_of (O := tblO noT) (by kernel_rfl) tyM_ok (fun w => tblO_ok noT_ok _ w) [] 600 9 [.tmp 2] Tryz.func47 rfl Tryz.ntmps47 (by rw [Tryz.results47]) (by simp) rfl (fun hsm => ?_)
 simp (maxSteps := 10000000) only [go_sem, seval, reduceCtorEq, h, e, bxe, pxe, lpf, hdS, hd1, pick, forget, frh, frz, frS, frA, frL]
 repeat' with_reducible first | apply And.intro | apply condP <;> intro _
 all_goals first | (show chk _ _ = true; kernel_rfl) | assumption | rfl | (simp only [go_sem, *] <;> rfl)
theorem se_ord (k : Int) : Ct Tryz.prog 47 [iA k] (· = bA (ordB k)) := by
 cases h : decide (0 ≤ k) with
 | false => exact se_ord0 k h
 | true => exact se_ord1 k h
noncomputable def Tse_ord : Tbl := one 47 (gA asZ fun k => gE (True, bA (ordB k)))
theorem Tse_ord_ok : TbOK Tryz.prog Tse_ord := one_t (ent Tryz.func47 (by kernel_rfl) rfl) (.a asZ_ok fun k => .e fun h => se_ord k)
theorem se_prc0 (k : Int) (h : decide (8 ≤ k) = false) : Ct Tryz.prog 49 [iA k] (· = bA (prcB k)) := by
 have e : prcB k = false := by unfold prcB; rw [h]; rfl
 refine ct_of (O := tblO noT) (by kernel_rfl) tyM_ok (fun w => tblO_ok noT_ok _ w) [] 600 9 [.tmp 2] Tryz.func49 rfl Tryz.ntmps49 (by rw [Tryz.results49]) (by simp) rfl (fun hsm => ?_)
 simp (maxSteps := 10000000) only [go_sem, seval, reduceCtorEq, h, e, bxe, pxe, lpf, hdS, hd1, pick, forget, frh, frz, frS, frA, frL]
 repeat' with_reducible first | apply And.intro | apply condP <;> intro _
 all_goals first | (show chk _ _ = true; kernel_rfl) | assumption | rfl | (simp only [go_sem, *] <;> rfl)
theorem se_prc1 (k : Int) (h : decide (8 ≤ k) = true) : Ct Tryz.prog 49 [iA k] (· = bA (prcB k)) := by
 have e : prcB k = decide (k ≤ 256) := by unfold prcB; rw [h]; rfl
 refine ct_of (O := tblO noT) (by kernel_rfl) tyM_ok (fun w => tblO_ok noT_ok _ w) [] 600 9 [.tmp 2] Tryz.func49 rfl Tryz.ntmps49 (by rw [Tryz.results49]) (by simp) rfl (fun hsm => ?_)
 simp (maxSteps := 10000000) only [go_sem, seval, reduceCtorEq, h, e, bxe, pxe, lpf, hdS, hd1, pick, forget, frh, frz, frS, frA, frL]
 repeat' with_reducible first | apply And.intro | apply condP <;> intro _
 all_goals first | (show chk _ _ = true; kernel_rfl) | assumption | rfl | (simp only [go_sem, *] <;> rfl)
theorem se_prc (k : Int) : Ct Tryz.prog 49 [iA k] (· = bA (prcB k)) := by
 cases h : decide (8 ≤ k) with
 | false => exact se_prc0 k h
 | true => exact se_prc1 k h
noncomputable def Tse_prc : Tbl := one 49 (gA asZ fun k => gE (True, bA (prcB k)))
theorem Tse_prc_ok : TbOK Tryz.prog Tse_prc := one_t (ent Tryz.func49 (by kernel_rfl) rfl) (.a asZ_ok fun k => .e fun h => se_prc k)
theorem se_rch0 (a : List J) (k : Nat) (h : a.length ≤ k) : Ct Tryz.prog 48 [bA_ a, iA k] (· = bA (rch a k)) := by
 have h1 := decide_eq_true (show (a.length : Int) ≤ (k : Int) by omega)
 have e : rch a k = false := by unfold rch; rw [decide_eq_false (show ¬ k < a.length by omega)]; rfl
 refine ct_of (O := tblO noT) (by kernel_rfl) tyM_ok (fun w => tblO_ok noT_ok _ w) [] 600 24 [.tmp 4] Tryz.func48 rfl Tryz.ntmps48 (by rw [Tryz.results48]) (by simp) rfl (fun hsm => ?_)
 simp (maxSteps := 10000000) only [go_sem, seval, reduceCtorEq, h1, e, bxe, pxe, lpf, hdS, hd1, pick, forget, frh, frz, frS, frA, frL]
 repeat' with_reducible first | apply And.intro | apply condP <;> intro _
 all_goals first | (show chk _ _ = true; kernel_rfl) | assumption | rfl | (simp only [go_sem, *] <;> rfl)
theorem se_rch1 (a : List J) (k : Nat) (h : k < a.length) (h2 : k ≤ 1000) : Ct Tryz.prog 48 [bA_ a, iA k] (· = bA (rch a k)) := by
 have c1 := decide_eq_false (show ¬ (a.length : Int) ≤ (k : Int) by omega)
 have hwk := wrap_nat (j := k) (by omega)
 have hR : rch a k = (a.take (k + 1)).all okJ := by unfold rch; rw [decide_eq_true h]; rfl
 have g5 : (0 ≤ ((k + 1 : Nat) : Int)) = True := eq_true (by omega)
 have g6 : (k + 1 ≤ a.length) = True := eq_true (by omega)
 have hll : (a.take (k + 1)).length = k + 1 := by rw [List.length_take]; omega
 have htk := bC_take a (k + 1)
 refine ct_of (O := tblO Tiv_Right) (by kernel_rfl) tyM_ok (fun w => tblO_ok Tiv_Right_ok _ w) [9999999, 28, 30, 32] ((k + 2) * 200 + 100) 24 [.tmp 4] Tryz.func48 rfl Tryz.ntmps48 (by rw [Tryz.results48]) (by simp) rfl (fun hsm => ?_)
 simp (maxSteps := 10000000) only [go_sem, seval, reduceCtorEq, Tiv_Right, c1, hwk, g5, g6, htk, Nat.sub_zero, Nat.zero_le]
 generalize a.take (k + 1) = l at *
 refine loop_ind 200 (fun j => [(28, .s (.sl false 6 (k + 1) (bC l))), (30, iA ((k + 1 : Nat) : Int)), (32, iA (j : Int))]) (k + 1) (fun j => (l.take j).all okJ = true) 0 (fun j _ => rfl) (fun j mm _ hj hI ih => ?_) (by omega) rfl rfl
 rcases Nat.lt_or_ge j (k + 1) with hlt | hge
 ·have hx := at_get zJ (show j < l.length by omega)
  generalize l.getD j zJ = x at hx
  have e1 := bC_at' hx
  have d := decide_eq_true (show (j : Int) < ((k + 1 : Nat) : Int) by omega)
  have g1 : (j < k + 1) = True := eq_true hlt
  have g0 : (0 ≤ (j : Int)) = True := eq_true (by omega)
  have hw := wrap_nat (j := j) (by omega)
  have ht : l.take (j + 1) = l.take j ++ [x] := by rw [List.take_add_one, hx]; rfl
  cases hr : okJ x with
  | false =>
   have hm : rch a k = false := by
    rw [hR, List.all_eq_false]
    exact ⟨x, List.mem_of_getElem? hx, by rw [hr]; simp⟩
   simp (maxSteps := 10000000) only [go_sem, seval, reduceCtorEq, Tiv_Right, e1, hr, hm, d, g0, g1, hw]
   repeat' with_reducible first | apply And.intro | apply condP <;> intro _
   all_goals first | (show chk _ _ = true; kernel_rfl) | assumption | rfl | (simp only [go_sem, *] <;> rfl)
  | true =>
   replace ih := ih hlt (by rw [ht, List.all_append, hI, List.all_cons, hr]; rfl)
   simp (maxSteps := 10000000) only [go_sem, seval, reduceCtorEq, Tiv_Right, e1, hr, d, g0, g1, hw]
   repeat' with_reducible first | apply And.intro | apply condP <;> intro _
   all_goals first | (show chk _ _ = true; kernel_rfl) | (exact ih _ _ rfl) | assumption | rfl
 ·have hn : j = k + 1 := by omega
  subst hn
  have d := decide_eq_false (show ¬ ((k + 1 : Nat) : Int) < ((k + 1 : Nat) : Int) by omega)
  rw [List.take_of_length_le (by omega)] at hI
  rw [hR, hI]
  simp (maxSteps := 10000000) only [go_sem, seval, reduceCtorEq, d]
  repeat' with_reducible first | apply And.intro | apply condP <;> intro _
  all_goals first | (show chk _ _ = true; kernel_rfl) | assumption | rfl | (simp only [go_sem, *] <;> rfl)
theorem se_rch (a : List J) (z : Int) (h : 0 ≤ z ∧ z ≤ 1000) : Ct Tryz.prog 48 [bA_ a, iA z] (· = bA (rch a z.toNat)) := by
 obtain ⟨k, rfl⟩ : ∃ k : Nat, z = k := ⟨z.toNat, by omega⟩
 rw [Int.toNat_natCast]
 rcases Nat.lt_or_ge k a.length with h1 | h1
 ·exact se_rch1 a k h1 (by omega)
 ·exact se_rch0 a k h1
noncomputable def Tse_rch : Tbl := one 48 (gA asB fun a => gA asZ fun z => gE (0 ≤ z ∧ z ≤ 1000, bA (rch a z.toNat)))
theorem Tse_rch_ok : TbOK Tryz.prog Tse_rch := one_t (ent Tryz.func48 (by kernel_rfl) rfl) (.a asB_ok fun a => .a asZ_ok fun z => .e fun h => se_rch a z h)
theorem se_coefZ (a b : List J) (k z : Int) (h : (0 ≤ k ∧ k ≤ 1000) ∧ k.toNat < a.length ∧ k.toNat < b.length) : Ct Tryz.prog 50 [bA_ a, bA_ b, iA k, iA z] (· = jeA (coN z a b k.toNat k.toNat)) := by
 obtain ⟨n, rfl⟩ : ∃ n : Nat, k = n := ⟨k.toNat, by omega⟩
 rw [Int.toNat_natCast] at h ⊢
 exact se_coef a b n z h.2.1 h.2.2 (by omega)
noncomputable def Tse_coef : Tbl := one 50 (gA asB fun a => gA asB fun b => gA asZ fun k => gA asZ fun z => gE ((0 ≤ k ∧ k ≤ 1000) ∧ k.toNat < a.length ∧ k.toNat < b.length, jeA (coN z a b k.toNat k.toNat)))
theorem Tse_coef_ok : TbOK Tryz.prog Tse_coef := one_t (ent Tryz.func50 (by kernel_rfl) rfl) (.a asB_ok fun a => .a asB_ok fun b => .a asZ_ok fun k => .a asZ_ok fun z => .e fun h => se_coefZ a b k z h)
theorem rch_lt {a : List J} {k : Nat} (h : rch a k = true) : k < a.length := by
 unfold rch at h
 rw [Bool.and_eq_true] at h
 exact of_decide_eq_true h.1
noncomputable def okC (a b : List J) (k z : Int) : Bool := bif ordB k then (bif rch a k.toNat then (bif rch b k.toNat then prcB z else false) else false) else false
noncomputable def coZ (a b : List J) (k z : Int) : J × Int := bif okC a b k z then coN z a b k.toNat k.toNat else (zJ, 1)
theorem se_Coef0 (a b : List J) (k z : Int) (h1 : ordB k = false) : Ct Tryz.prog 20 [bA_ a, bA_ b, iA k, iA z] (· = jeA (coZ a b k z)) := by
 have e : coZ a b k z = (zJ, 1) := by unfold coZ okC; rw [h1]; rfl
 refine ct_of (O := tblO (orT Tse_ord (orT Tse_rch (orT Tse_prc Tse_coef)))) (by kernel_rfl) tyM_ok (fun w => tblO_ok (orT_ok Tse_ord_ok (orT_ok Tse_rch_ok (orT_ok Tse_prc_ok Tse_coef_ok))) _ w) [] 600 38 [.cell 8 28, .tmp 9] Tryz.func20 rfl Tryz.ntmps20 (by rw [Tryz.results20]) (by simp) rfl (fun hsm => ?_)
 simp (maxSteps := 10000000) only [go_sem, seval, reduceCtorEq, Tse_ord, Tse_rch, Tse_prc, Tse_coef, h1, e, bxe, pxe, lpf, hdS, hd1, pick, forget, frh, frz, frS, frA, frL]
 repeat' with_reducible first | apply And.intro | apply condP <;> intro _
 all_goals first | (show chk _ _ = true; kernel_rfl) | assumption | rfl | (simp only [go_sem, *] <;> rfl)
theorem se_Coef1 (a b : List J) (k z : Int) (h1 : ordB k = true) (h2 : rch a k.toNat = false) : Ct Tryz.prog 20 [bA_ a, bA_ b, iA k, iA z] (· = jeA (coZ a b k z)) := by
 have e : coZ a b k z = (zJ, 1) := by unfold coZ okC; rw [h1, h2]; rfl
 have g := eq_true (show 0 ≤ k ∧ k ≤ 1000 by have := ordB_iff.1 h1; omega)
 refine ct_of (O := tblO (orT Tse_ord (orT Tse_rch (orT Tse_prc Tse_coef)))) (by kernel_rfl) tyM_ok (fun w => tblO_ok (orT_ok Tse_ord_ok (orT_ok Tse_rch_ok (orT_ok Tse_prc_ok Tse_coef_ok))) _ w) [] 600 38 [.cell 8 28, .tmp 9] Tryz.func20 rfl Tryz.ntmps20 (by rw [Tryz.results20]) (by simp) rfl (fun hsm => ?_)
 simp (maxSteps := 10000000) only [go_sem, seval, reduceCtorEq, Tse_ord, Tse_rch, Tse_prc, Tse_coef, h1, h2, g, e, bxe, pxe, lpf, hdS, hd1, pick, forget, frh, frz, frS, frA, frL]
 repeat' with_reducible first | apply And.intro | apply condP <;> intro _
 all_goals first | (show chk _ _ = true; kernel_rfl) | assumption | rfl | (simp only [go_sem, *] <;> rfl)
theorem se_Coef2 (a b : List J) (k z : Int) (h1 : ordB k = true) (h2 : rch a k.toNat = true) (h3 : rch b k.toNat = false) : Ct Tryz.prog 20 [bA_ a, bA_ b, iA k, iA z] (· = jeA (coZ a b k z)) := by
 have e : coZ a b k z = (zJ, 1) := by unfold coZ okC; rw [h1, h2, h3]; rfl
 have g := eq_true (show 0 ≤ k ∧ k ≤ 1000 by have := ordB_iff.1 h1; omega)
 refine ct_of (O := tblO (orT Tse_ord (orT Tse_rch (orT Tse_prc Tse_coef)))) (by kernel_rfl) tyM_ok (fun w => tblO_ok (orT_ok Tse_ord_ok (orT_ok Tse_rch_ok (orT_ok Tse_prc_ok Tse_coef_ok))) _ w) [] 600 38 [.cell 8 28, .tmp 9] Tryz.func20 rfl Tryz.ntmps20 (by rw [Tryz.results20]) (by simp) rfl (fun hsm => ?_)
 simp (maxSteps := 10000000) only [go_sem, seval, reduceCtorEq, Tse_ord, Tse_rch, Tse_prc, Tse_coef, h1, h2, h3, g, e, bxe, pxe, lpf, hdS, hd1, pick, forget, frh, frz, frS, frA, frL]
 repeat' with_reducible first | apply And.intro | apply condP <;> intro _
 all_goals first | (show chk _ _ = true; kernel_rfl) | assumption | rfl | (simp only [go_sem, *] <;> rfl)
theorem se_Coef3 (a b : List J) (k z : Int) (h1 : ordB k = true) (h2 : rch a k.toNat = true) (h3 : rch b k.toNat = true) (h4 : prcB z = false) : Ct Tryz.prog 20 [bA_ a, bA_ b, iA k, iA z] (· = jeA (coZ a b k z)) := by
 have e : coZ a b k z = (zJ, 1) := by unfold coZ okC; rw [h1, h2, h3, h4]; rfl
 have g := eq_true (show 0 ≤ k ∧ k ≤ 1000 by have := ordB_iff.1 h1; omega)
 refine ct_of (O := tblO (orT Tse_ord (orT Tse_rch (orT Tse_prc Tse_coef)))) (by kernel_rfl) tyM_ok (fun w => tblO_ok (orT_ok Tse_ord_ok (orT_ok Tse_rch_ok (orT_ok Tse_prc_ok Tse_coef_ok))) _ w) [] 600 38 [.cell 8 28, .tmp 9] Tryz.func20 rfl Tryz.ntmps20 (by rw [Tryz.results20]) (by simp) rfl (fun hsm => ?_)
 simp (maxSteps := 10000000) only [go_sem, seval, reduceCtorEq, Tse_ord, Tse_rch, Tse_prc, Tse_coef, h1, h2, h3, h4, g, e, bxe, pxe, lpf, hdS, hd1, pick, forget, frh, frz, frS, frA, frL]
 repeat' with_reducible first | apply And.intro | apply condP <;> intro _
 all_goals first | (show chk _ _ = true; kernel_rfl) | assumption | rfl | (simp only [go_sem, *] <;> rfl)
theorem se_Coef4 (a b : List J) (k z : Int) (h1 : ordB k = true) (h2 : rch a k.toNat = true) (h3 : rch b k.toNat = true) (h4 : prcB z = true) : Ct Tryz.prog 20 [bA_ a, bA_ b, iA k, iA z] (· = jeA (coZ a b k z)) := by
 have e : coZ a b k z = coN z a b k.toNat k.toNat := by unfold coZ okC; rw [h1, h2, h3, h4]; rfl
 have g := eq_true (show 0 ≤ k ∧ k ≤ 1000 by have := ordB_iff.1 h1; omega)
 have l1 := eq_true (rch_lt h2)
 have l2 := eq_true (rch_lt h3)
 refine ct_of (O := tblO (orT Tse_ord (orT Tse_rch (orT Tse_prc Tse_coef)))) (by kernel_rfl) tyM_ok (fun w => tblO_ok (orT_ok Tse_ord_ok (orT_ok Tse_rch_ok (orT_ok Tse_prc_ok Tse_coef_ok))) _ w) [] 600 38 [.cell 8 28, .tmp 9] Tryz.func20 rfl Tryz.ntmps20 (by rw [Tryz.results20]) (by simp) rfl (fun hsm => ?_)
 simp (maxSteps := 10000000) only [go_sem, seval, reduceCtorEq, Tse_ord, Tse_rch, Tse_prc, Tse_coef, h1, h2, h3, h4, g, e, l1, l2, bxe, pxe, lpf, hdS, hd1, pick, forget, frh, frz, frS, frA, frL]
 repeat' with_reducible first | apply And.intro | apply condP <;> intro _
 all_goals first | (show chk _ _ = true; kernel_rfl) | assumption | rfl | (simp only [go_sem, *] <;> rfl)
theorem se_Coef (a b : List J) (k z : Int) : Ct Tryz.prog 20 [bA_ a, bA_ b, iA k, iA z] (· = jeA (coZ a b k z)) := by
 cases h1 : ordB k with
 | false => exact se_Coef0 a b k z h1
 | true => cases h2 : rch a k.toNat with
  | false => exact se_Coef1 a b k z h1 h2
  | true => cases h3 : rch b k.toNat with
   | false => exact se_Coef2 a b k z h1 h2 h3
   | true => cases h4 : prcB z with
    | false => exact se_Coef3 a b k z h1 h2 h3 h4
    | true => exact se_Coef4 a b k z h1 h2 h3 h4
noncomputable def Tse_Coef : Tbl := one 20 (gA asB fun a => gA asB fun b => gA asZ fun k => gA asZ fun z => gE (True, jeA (coZ a b k z)))
theorem Tse_Coef_ok : TbOK Tryz.prog Tse_Coef := one_t (ent Tryz.func20 (by kernel_rfl) rfl) (.a asB_ok fun a => .a asB_ok fun b => .a asZ_ok fun k => .a asZ_ok fun z => .e fun h => se_Coef a b k z)
end Go.Proofs.YtobcbhppmgnioaaGreatDoor
