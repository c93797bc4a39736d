/- Decks: a number, an interval in an interval. -/
import Derived.Test.YtobcbhppmgnioaaGreatDoorSAk7
namespace Go.Proofs.YtobcbhppmgnioaaGreatDoor
open Go.RowKit Nx
set_option linter.unusedVariables false
set_option linter.unusedSimpArgs false
set_option maxRecDepth 100000
set_option maxHeartbeats 4000000
attribute [local go_sem] X.eta J.eta Q.eta brkf_b brkf_t exef_some exif_some condf_b lpf hdS hd1 pick forget postf_some memOf cntF nmL rnL nmA rnA isV contsOf ndB refO orO pin Int.toNat_zero decide_eq_true_eq wrap0 wrap1 ci1 ci2 BEq.rfl beq_self_eq_true Int.natCast_zero ge_iff_le gt_iff_lt Int.le_refl Nat.zero_mul Nat.one_mul Nat.zero_add Nat.zero_lt_succ Nat.lt_add_one Nat.le_refl List.append_eq ub wrap2 bits_in wrap_in Bool.not_eq_true dkO dpf_some rK rKI rKJ Int.toNat_natCast Int.natCast_nonneg dk0 gV gVV gVIB gVVIB gWW gJII gNNI gBWI gVVVV gVVVVI gVI gIJJI gJB noE List.isEmpty_nil
attribute [local go_sem ↓] not_cond
theorem shl_lt {X k t E : Nat} (h : X < B64 ^ k) (ht : t ≤ 64 * E) : X * 2 ^ t < B64 ^ (k + E) := by
 have h1 : 2 ^ t ≤ B64 ^ E := by rw [pow64]; exact Nat.pow_le_pow_right (by omega) ht
 rw [Nat.pow_add]
 exact Nat.lt_of_le_of_lt (Nat.mul_le_mul_left _ h1) (Nat.mul_lt_mul_of_pos_right h (Nat.pow_pos (by decide)))
theorem few_z {z : Int} (h0 : 0 ≤ z) (h8 : z ≤ 8) : Few (ofz z 0) := by
 obtain ⟨n, rfl⟩ := Int.eq_ofNat_of_zero_le h0
 unfold ofz
 exact few_nm (by omega) (by omega) (by omega)
theorem few_times {a b : Q} (ha : Valid a) (hb : Few b) : Canon (times a b) ∧ (times a b).m < B64 ^ 65 ∧ -65600 ≤ (times a b).e ∧ (times a b).e ≤ 65600 := by
 by_cases h0 : a.m = 0 ∨ b.m = 0
 ·rw [times_zero ha.1 hb.1 h0]; exact ⟨canon0, Nat.pow_pos (by decide), by decide, by decide⟩
 ·obtain ⟨s, M, e⟩ := a
  obtain ⟨t, K, f⟩ := b
  have h1 : M ≠ 0 := fun h => h0 (.inl h)
  have h2 : K ≠ 0 := fun h => h0 (.inr h)
  have hc : Canon (times ⟨s, M, e⟩ ⟨t, K, f⟩) := ofz_canon _ _
  rw [times_odd ha.1 hb.1 h1 h2] at hc ⊢
  have hk : K < B64 ^ 1 := by have := hb.2.1; rw [Nat.pow_one]; exact Nat.lt_trans this (by decide)
  have hm : M * K < B64 ^ (64 + 1) := lt_mul ha.2.1 hk
  refine ⟨hc, lt64 (a := 64 + 1) (b := 65) (by decide) hm, ?_, ?_⟩
  ·have := ha.2.2.1; have := hb.2.2.1; simp only at *; omega
  ·have := ha.2.2.2; have := hb.2.2.2; simp only at *; omega
theorem vb_plusw {a b : Q} (ha : a.m < B64 ^ 65) (hb : b.m < B64 ^ 65) (h1 : -65600 ≤ a.e) (h2 : a.e ≤ 65600) (h3 : -65600 ≤ b.e) (h4 : b.e ≤ 65600) : Vb (plus a b) := by
 have hl1 : (a.e - lowe a b).toNat ≤ 64 * 2050 := by unfold lowe; omega
 have hl2 : (b.e - lowe a b).toNat ≤ 64 * 2050 := by unfold lowe; omega
 obtain ⟨k, hk⟩ : ∃ k, k = 65 := ⟨_, rfl⟩
 rw [← hk] at ha hb
 have hz : (a.up (lowe a b) + b.up (lowe a b)).natAbs < B64 ^ (k + 2050 + 1) := by
  refine Nat.lt_of_le_of_lt (Int.natAbs_add_le _ _) ?_
  rw [up_abs, up_abs]
  exact lt_add2 (shl_lt ha hl1) (shl_lt hb hl2)
 have l1 : -65600 ≤ lowe a b := by unfold lowe; omega
 have l2 : lowe a b ≤ 65600 := by unfold lowe; omega
 have hb := ofz_bd (b := 65600) hz l1 l2 (by omega)
 exact ⟨ofz_canon _ _, lt64 (a := k + 2050 + 1) (b := 3000) (by omega) hb.1, by have := hb.2.1; show -550000 ≤ (ofz _ _).e; omega, by have := hb.2.2; show (ofz _ _).e ≤ 550000; omega⟩
def inV (j : J) (m : Int) : Q := plus (times j.lo.q (ofz (8 - m) 0)) (times j.hi.q (ofz m 0))
def dn3 (q : Q) : Q := ⟨q.s, q.m, q.e - 3⟩
theorem inV_vb {j : J} {m : Int} (hg : Good j) (h0 : 0 ≤ m) (h8 : m ≤ 8) : Vb (inV j m) := by
 obtain ⟨_, a2, a3, a4⟩ := few_times (jlo hg.2 hg.1) (few_z (show 0 ≤ 8 - m by omega) (by omega))
 obtain ⟨_, b2, b3, b4⟩ := few_times (jhi hg.2 hg.1) (few_z h0 h8)
 exact vb_plusw a2 b2 a3 a4 b3 b4
theorem dn3_vw {q : Q} (h : Vb q) (hs : (signq q != 0) = true) : Vw (dn3 q) := by
 have hm : q.m ≠ 0 := nz_sign (by simpa using hs)
 refine ⟨⟨fun h0 => absurd h0 hm, fun _ => h.1.2 hm⟩, lt64 (a := 3000) (b := 5000) (by decide) h.2.1, ?_, ?_⟩
 ·have := h.2.2.1; show -50000000 ≤ q.e - 3; omega
 ·have := h.2.2.2; show q.e - 3 ≤ 50000000; omega
theorem d_in0 (xs : List Nat) (k : Nat) (j : J) (_ : Good j) (hk : k ≤ 900) (h0 : (((dk xs k % 9 : Nat) : Int) == 0) = true) : DCt 19 xs [.v true j.L] k (xA j.lo) (k + 1) := by
 refine dct_of (O := fun A n c => orO (dkO 12 A n c (rKI fun k z => (k ≤ 1000 ∧ 0 < z ∧ z ≤ 1000, iA ((dk xs k % z.toNat : Nat) : Int), k + 1))) (tblO (orT Tref_Of (orT Tref_Whole (orT Tref_By (orT Tref_Plus (orT Tref_Val_Sign (Tref_Val_Num)))))))) (by kernel_rfl) tyT_ok (fun A n c F w hA hn => only_or dkO_only (dkO_ok (xs := xs) (ent Tryz.func12 (by kernel_rfl) rfl) (rKI_ok fun k z hp => dn_dct hp) hA hn) (tblO_ok (orT_ok Tref_Of_ok (orT_ok Tref_Whole_ok (orT_ok Tref_By_ok (orT_ok Tref_Plus_ok (orT_ok Tref_Val_Sign_ok (Tref_Val_Num_ok)))))) _ _) (fun d st args => by simp [orO, dkO, tblO, orT, noT, one, Tref_Of, Tref_Whole, Tref_By, Tref_Plus, Tref_Val_Sign, Tref_Val_Num])) [] 1000 50 [.cell 4 26] Tryz.func19 rfl Tryz.ntmps19 (by decide) (by rw [Tryz.results19]) (by simp) rfl (fun A n c hsm hs => ?_)
 have hk9 : k ≤ 1000 := by omega
 simp (maxSteps := 10000000) only [go_sem, seval, reduceCtorEq, Tref_Of, Tref_Whole, Tref_By, Tref_Plus, Tref_Val_Sign, Tref_Val_Num, gC, gCC, asSc, SX.L, SX.eta, h0]
 repeat' with_reducible first | apply And.intro | apply condP <;> intro _
 all_goals first | (show chk _ _ = true; kernel_rfl) | with_reducible assumption | omega | (simp only [go_sem, *] <;> rfl) | rfl | (exfalso; simp_all only [Bool.true_eq_false, Bool.false_eq_true, reduceCtorEq]; done)
theorem d_in8 (xs : List Nat) (k : Nat) (j : J) (_ : Good j) (hk : k ≤ 900) (h0 : (((dk xs k % 9 : Nat) : Int) == 0) = false) (h8 : (((dk xs k % 9 : Nat) : Int) == 8) = true) : DCt 19 xs [.v true j.L] k (xA j.hi) (k + 1) := by
 refine dct_of (O := fun A n c => orO (dkO 12 A n c (rKI fun k z => (k ≤ 1000 ∧ 0 < z ∧ z ≤ 1000, iA ((dk xs k % z.toNat : Nat) : Int), k + 1))) (tblO (orT Tref_Of (orT Tref_Whole (orT Tref_By (orT Tref_Plus (orT Tref_Val_Sign (Tref_Val_Num)))))))) (by kernel_rfl) tyT_ok (fun A n c F w hA hn => only_or dkO_only (dkO_ok (xs := xs) (ent Tryz.func12 (by kernel_rfl) rfl) (rKI_ok fun k z hp => dn_dct hp) hA hn) (tblO_ok (orT_ok Tref_Of_ok (orT_ok Tref_Whole_ok (orT_ok Tref_By_ok (orT_ok Tref_Plus_ok (orT_ok Tref_Val_Sign_ok (Tref_Val_Num_ok)))))) _ _) (fun d st args => by simp [orO, dkO, tblO, orT, noT, one, Tref_Of, Tref_Whole, Tref_By, Tref_Plus, Tref_Val_Sign, Tref_Val_Num])) [] 1000 50 [.cell 4 26] Tryz.func19 rfl Tryz.ntmps19 (by decide) (by rw [Tryz.results19]) (by simp) rfl (fun A n c hsm hs => ?_)
 have hk9 : k ≤ 1000 := by omega
 simp (maxSteps := 10000000) only [go_sem, seval, reduceCtorEq, Tref_Of, Tref_Whole, Tref_By, Tref_Plus, Tref_Val_Sign, Tref_Val_Num, gC, gCC, asSc, SX.L, SX.eta, h0, h8]
 repeat' with_reducible first | apply And.intro | apply condP <;> intro _
 all_goals first | (show chk _ _ = true; kernel_rfl) | with_reducible assumption | omega | (simp only [go_sem, *] <;> rfl) | rfl | (exfalso; simp_all only [Bool.true_eq_false, Bool.false_eq_true, reduceCtorEq]; done)
theorem d_inz (xs : List Nat) (k : Nat) (j : J) (hg : Good j) (hk : k ≤ 900) (h0 : (((dk xs k % 9 : Nat) : Int) == 0) = false) (h8 : (((dk xs k % 9 : Nat) : Int) == 8) = false) (hsg : (signq (inV j ((dk xs k % 9 : Nat) : Int)) != 0) = false) (hr : ((res (inV j ((dk xs k % 9 : Nat) : Int))).2 != 0) = false) : DCt 19 xs [.v true j.L] k (nA (res (inV j ((dk xs k % 9 : Nat) : Int))).1) (k + 1) := by
 refine dct_of (O := fun A n c => orO (dkO 12 A n c (rKI fun k z => (k ≤ 1000 ∧ 0 < z ∧ z ≤ 1000, iA ((dk xs k % z.toNat : Nat) : Int), k + 1))) (tblO (orT Tref_Of (orT Tref_Whole (orT Tref_By (orT Tref_Plus (orT Tref_Val_Sign (Tref_Val_Num)))))))) (by kernel_rfl) tyT_ok (fun A n c F w hA hn => only_or dkO_only (dkO_ok (xs := xs) (ent Tryz.func12 (by kernel_rfl) rfl) (rKI_ok fun k z hp => dn_dct hp) hA hn) (tblO_ok (orT_ok Tref_Of_ok (orT_ok Tref_Whole_ok (orT_ok Tref_By_ok (orT_ok Tref_Plus_ok (orT_ok Tref_Val_Sign_ok (Tref_Val_Num_ok)))))) _ _) (fun d st args => by simp [orO, dkO, tblO, orT, noT, one, Tref_Of, Tref_Whole, Tref_By, Tref_Plus, Tref_Val_Sign, Tref_Val_Num])) [] 1000 50 [.cell 4 26] Tryz.func19 rfl Tryz.ntmps19 (by decide) (by rw [Tryz.results19]) (by simp) rfl (fun A n c hsm hs => ?_)
 have hk9 : k ≤ 1000 := by omega
 have hm0 : (0 : Int) ≤ ((dk xs k % 9 : Nat) : Int) := Int.natCast_nonneg _
 have hm8 : ((dk xs k % 9 : Nat) : Int) ≤ 8 := by omega
 have o1 := okJ_lo hg.1
 have o2 := okJ_hi hg.1
 have f1 := few_z (show 0 ≤ 8 - ((dk xs k % 9 : Nat) : Int) by omega) (by omega)
 have f2 := few_z hm0 hm8
 have v1 := vw_of (jlo hg.2 hg.1)
 have v2 := vw_of (jhi hg.2 hg.1)
 have v3 := vw_of f1.valid
 have v4 := vw_of f2.valid
 have b1 : Vb (times j.lo.q (ofz (8 - ((dk xs k % 9 : Nat) : Int)) 0)) := fits_times (jlo hg.2 hg.1) f1.valid
 have b2 : Vb (times j.hi.q (ofz ((dk xs k % 9 : Nat) : Int) 0)) := fits_times (jhi hg.2 hg.1) f2.valid
 have hb := inV_vb hg hm0 hm8
 have hw := vw_vb hb
 have w8 : IntKind.i64.wrap (8 - ((dk xs k % 9 : Nat) : Int)) = 8 - ((dk xs k % 9 : Nat) : Int) := by rw [IntKind.wrap_i64]; omega
 have wV : plus (times j.lo.q (ofz (8 - ((dk xs k % 9 : Nat) : Int)) 0)) (times j.hi.q (ofz ((dk xs k % 9 : Nat) : Int) 0)) = inV j ((dk xs k % 9 : Nat) : Int) := rfl
 have w3 : IntKind.i64.wrap ((inV j ((dk xs k % 9 : Nat) : Int)).e - 3) = (inV j ((dk xs k % 9 : Nat) : Int)).e - 3 := by have := hb.2.2.1; have := hb.2.2.2; rw [IntKind.wrap_i64]; omega
 have wd : Q.mk (inV j ((dk xs k % 9 : Nat) : Int)).s (inV j ((dk xs k % 9 : Nat) : Int)).m ((inV j ((dk xs k % 9 : Nat) : Int)).e - 3) = dn3 (inV j ((dk xs k % 9 : Nat) : Int)) := rfl
 simp (maxSteps := 10000000) only [go_sem, seval, reduceCtorEq, Tref_Of, Tref_Whole, Tref_By, Tref_Plus, Tref_Val_Sign, Tref_Val_Num, gC, gCC, asSc, SX.L, SX.eta, h0, h8, w8, wV, w3, wd, o1, o2, hsg, hr]
 repeat' with_reducible first | apply And.intro | apply condP <;> intro _
 all_goals first | (show chk _ _ = true; kernel_rfl) | with_reducible assumption | omega | (simp only [go_sem, *] <;> rfl) | rfl | (exfalso; simp_all only [Bool.true_eq_false, Bool.false_eq_true, reduceCtorEq]; done)
theorem d_inr (xs : List Nat) (k : Nat) (j : J) (hg : Good j) (hk : k ≤ 900) (h0 : (((dk xs k % 9 : Nat) : Int) == 0) = false) (h8 : (((dk xs k % 9 : Nat) : Int) == 8) = false) (hsg : (signq (inV j ((dk xs k % 9 : Nat) : Int)) != 0) = true) (hr : ((res (dn3 (inV j ((dk xs k % 9 : Nat) : Int)))).2 != 0) = false) : DCt 19 xs [.v true j.L] k (nA (res (dn3 (inV j ((dk xs k % 9 : Nat) : Int)))).1) (k + 1) := by
 refine dct_of (O := fun A n c => orO (dkO 12 A n c (rKI fun k z => (k ≤ 1000 ∧ 0 < z ∧ z ≤ 1000, iA ((dk xs k % z.toNat : Nat) : Int), k + 1))) (tblO (orT Tref_Of (orT Tref_Whole (orT Tref_By (orT Tref_Plus (orT Tref_Val_Sign (Tref_Val_Num)))))))) (by kernel_rfl) tyT_ok (fun A n c F w hA hn => only_or dkO_only (dkO_ok (xs := xs) (ent Tryz.func12 (by kernel_rfl) rfl) (rKI_ok fun k z hp => dn_dct hp) hA hn) (tblO_ok (orT_ok Tref_Of_ok (orT_ok Tref_Whole_ok (orT_ok Tref_By_ok (orT_ok Tref_Plus_ok (orT_ok Tref_Val_Sign_ok (Tref_Val_Num_ok)))))) _ _) (fun d st args => by simp [orO, dkO, tblO, orT, noT, one, Tref_Of, Tref_Whole, Tref_By, Tref_Plus, Tref_Val_Sign, Tref_Val_Num])) [] 1000 50 [.cell 4 26] Tryz.func19 rfl Tryz.ntmps19 (by decide) (by rw [Tryz.results19]) (by simp) rfl (fun A n c hsm hs => ?_)
 have hk9 : k ≤ 1000 := by omega
 have hm0 : (0 : Int) ≤ ((dk xs k % 9 : Nat) : Int) := Int.natCast_nonneg _
 have hm8 : ((dk xs k % 9 : Nat) : Int) ≤ 8 := by omega
 have o1 := okJ_lo hg.1
 have o2 := okJ_hi hg.1
 have f1 := few_z (show 0 ≤ 8 - ((dk xs k % 9 : Nat) : Int) by omega) (by omega)
 have f2 := few_z hm0 hm8
 have v1 := vw_of (jlo hg.2 hg.1)
 have v2 := vw_of (jhi hg.2 hg.1)
 have v3 := vw_of f1.valid
 have v4 := vw_of f2.valid
 have b1 : Vb (times j.lo.q (ofz (8 - ((dk xs k % 9 : Nat) : Int)) 0)) := fits_times (jlo hg.2 hg.1) f1.valid
 have b2 : Vb (times j.hi.q (ofz ((dk xs k % 9 : Nat) : Int) 0)) := fits_times (jhi hg.2 hg.1) f2.valid
 have hb := inV_vb hg hm0 hm8
 have hw := vw_vb hb
 have w8 : IntKind.i64.wrap (8 - ((dk xs k % 9 : Nat) : Int)) = 8 - ((dk xs k % 9 : Nat) : Int) := by rw [IntKind.wrap_i64]; omega
 have wV : plus (times j.lo.q (ofz (8 - ((dk xs k % 9 : Nat) : Int)) 0)) (times j.hi.q (ofz ((dk xs k % 9 : Nat) : Int) 0)) = inV j ((dk xs k % 9 : Nat) : Int) := rfl
 have w3 : IntKind.i64.wrap ((inV j ((dk xs k % 9 : Nat) : Int)).e - 3) = (inV j ((dk xs k % 9 : Nat) : Int)).e - 3 := by have := hb.2.2.1; have := hb.2.2.2; rw [IntKind.wrap_i64]; omega
 have wd : Q.mk (inV j ((dk xs k % 9 : Nat) : Int)).s (inV j ((dk xs k % 9 : Nat) : Int)).m ((inV j ((dk xs k % 9 : Nat) : Int)).e - 3) = dn3 (inV j ((dk xs k % 9 : Nat) : Int)) := rfl
 have hd := dn3_vw hb hsg
 simp (maxSteps := 10000000) only [go_sem, seval, reduceCtorEq, Tref_Of, Tref_Whole, Tref_By, Tref_Plus, Tref_Val_Sign, Tref_Val_Num, gC, gCC, asSc, SX.L, SX.eta, h0, h8, w8, wV, w3, wd, o1, o2, hsg, hr]
 repeat' with_reducible first | apply And.intro | apply condP <;> intro _
 all_goals first | (show chk _ _ = true; kernel_rfl) | with_reducible assumption | omega | (simp only [go_sem, *] <;> rfl) | rfl | (exfalso; simp_all only [Bool.true_eq_false, Bool.false_eq_true, reduceCtorEq]; done)
theorem d_ino (xs : List Nat) (k : Nat) (j : J) (hg : Good j) (hk : k ≤ 900) (h0 : (((dk xs k % 9 : Nat) : Int) == 0) = false) (h8 : (((dk xs k % 9 : Nat) : Int) == 8) = false) (hsg : (signq (inV j ((dk xs k % 9 : Nat) : Int)) != 0) = true) (hr : ((res (dn3 (inV j ((dk xs k % 9 : Nat) : Int)))).2 != 0) = true) : DCt 19 xs [.v true j.L] k (xA j.lo) (k + 1) := by
 refine dct_of (O := fun A n c => orO (dkO 12 A n c (rKI fun k z => (k ≤ 1000 ∧ 0 < z ∧ z ≤ 1000, iA ((dk xs k % z.toNat : Nat) : Int), k + 1))) (tblO (orT Tref_Of (orT Tref_Whole (orT Tref_By (orT Tref_Plus (orT Tref_Val_Sign (Tref_Val_Num)))))))) (by kernel_rfl) tyT_ok (fun A n c F w hA hn => only_or dkO_only (dkO_ok (xs := xs) (ent Tryz.func12 (by kernel_rfl) rfl) (rKI_ok fun k z hp => dn_dct hp) hA hn) (tblO_ok (orT_ok Tref_Of_ok (orT_ok Tref_Whole_ok (orT_ok Tref_By_ok (orT_ok Tref_Plus_ok (orT_ok Tref_Val_Sign_ok (Tref_Val_Num_ok)))))) _ _) (fun d st args => by simp [orO, dkO, tblO, orT, noT, one, Tref_Of, Tref_Whole, Tref_By, Tref_Plus, Tref_Val_Sign, Tref_Val_Num])) [] 1000 50 [.cell 4 26] Tryz.func19 rfl Tryz.ntmps19 (by decide) (by rw [Tryz.results19]) (by simp) rfl (fun A n c hsm hs => ?_)
 have hk9 : k ≤ 1000 := by omega
 have hm0 : (0 : Int) ≤ ((dk xs k % 9 : Nat) : Int) := Int.natCast_nonneg _
 have hm8 : ((dk xs k % 9 : Nat) : Int) ≤ 8 := by omega
 have o1 := okJ_lo hg.1
 have o2 := okJ_hi hg.1
 have f1 := few_z (show 0 ≤ 8 - ((dk xs k % 9 : Nat) : Int) by omega) (by omega)
 have f2 := few_z hm0 hm8
 have v1 := vw_of (jlo hg.2 hg.1)
 have v2 := vw_of (jhi hg.2 hg.1)
 have v3 := vw_of f1.valid
 have v4 := vw_of f2.valid
 have b1 : Vb (times j.lo.q (ofz (8 - ((dk xs k % 9 : Nat) : Int)) 0)) := fits_times (jlo hg.2 hg.1) f1.valid
 have b2 : Vb (times j.hi.q (ofz ((dk xs k % 9 : Nat) : Int) 0)) := fits_times (jhi hg.2 hg.1) f2.valid
 have hb := inV_vb hg hm0 hm8
 have hw := vw_vb hb
 have w8 : IntKind.i64.wrap (8 - ((dk xs k % 9 : Nat) : Int)) = 8 - ((dk xs k % 9 : Nat) : Int) := by rw [IntKind.wrap_i64]; omega
 have wV : plus (times j.lo.q (ofz (8 - ((dk xs k % 9 : Nat) : Int)) 0)) (times j.hi.q (ofz ((dk xs k % 9 : Nat) : Int) 0)) = inV j ((dk xs k % 9 : Nat) : Int) := rfl
 have w3 : IntKind.i64.wrap ((inV j ((dk xs k % 9 : Nat) : Int)).e - 3) = (inV j ((dk xs k % 9 : Nat) : Int)).e - 3 := by have := hb.2.2.1; have := hb.2.2.2; rw [IntKind.wrap_i64]; omega
 have wd : Q.mk (inV j ((dk xs k % 9 : Nat) : Int)).s (inV j ((dk xs k % 9 : Nat) : Int)).m ((inV j ((dk xs k % 9 : Nat) : Int)).e - 3) = dn3 (inV j ((dk xs k % 9 : Nat) : Int)) := rfl
 have hd := dn3_vw hb hsg
 simp (maxSteps := 10000000) only [go_sem, seval, reduceCtorEq, Tref_Of, Tref_Whole, Tref_By, Tref_Plus, Tref_Val_Sign, Tref_Val_Num, gC, gCC, asSc, SX.L, SX.eta, h0, h8, w8, wV, w3, wd, o1, o2, hsg, hr]
 repeat' with_reducible first | apply And.intro | apply condP <;> intro _
 all_goals first | (show chk _ _ = true; kernel_rfl) | with_reducible assumption | omega | (simp only [go_sem, *] <;> rfl) | rfl | (exfalso; simp_all only [Bool.true_eq_false, Bool.false_eq_true, reduceCtorEq]; done)
theorem has_of {j : J} {x : X} (h : okJ j = true) (hx : x.ok = true) (h1 : j.lo.v ≤ x.v) (h2 : x.v ≤ j.hi.v) : hasJ j x = true := by
 obtain ⟨a1, a2, _⟩ := okJ_parts h
 unfold hasJ
 rw [h, hx, decide_eq_true ((cmpx_le a1 hx).2 h1), decide_eq_true ((cmpx_le hx a2).2 h2)]; rfl
theorem has_v {j : J} {x : X} (h : hasJ j x = true) : okJ j = true ∧ x.ok = true ∧ j.lo.v ≤ x.v ∧ x.v ≤ j.hi.v := by
 unfold hasJ at h
 simp only [Bool.and_eq_true, decide_eq_true_eq] at h
 obtain ⟨a1, a2, _⟩ := okJ_parts h.1.1.1
 exact ⟨h.1.1.1, h.1.1.2, (cmpx_le a1 h.1.1.2).1 h.1.2, (cmpx_le h.1.1.2 a2).1 h.2⟩
theorem times_z {a : Q} {z : Int} (h : -((65536 : Nat) : Int) ≤ a.e) : (times a (ofz z 0)).at 65536 = a.at 65536 * z ∧ -((65536 : Nat) : Int) ≤ (times a (ofz z 0)).e := by
 have h0 : -((0 : Nat) : Int) ≤ (ofz z 0).e := ofz_low (by omega)
 refine ⟨?_, ofz_low (by omega)⟩
 have := at_times h h0
 rw [Nat.add_zero] at this
 rw [this, at_ofz (by omega)]
 congr 1
 exact Int.mul_one z
theorem inV_at {j : J} {m : Int} (h : okJ j = true) : (inV j m).at 65536 = j.lo.v * (8 - m) + j.hi.v * m := by
 obtain ⟨a1, a2, _⟩ := okJ_parts h
 obtain ⟨u1, u2⟩ := times_z (z := 8 - m) (ok_e a1)
 obtain ⟨v1, v2⟩ := times_z (z := m) (ok_e a2)
 unfold inV
 rw [at_plus u2 v2, u1, v1]; rfl
theorem dn3_at {q : Q} (h : -((65536 : Nat) : Int) ≤ (dn3 q).e) : q.at 65536 = 8 * (dn3 q).at 65536 := by
 have h' : -((65536 : Nat) : Int) ≤ q.e - 3 := h
 show q.z * 2 ^ (q.e + ((65536 : Nat) : Int)).toNat = 8 * (q.z * 2 ^ (q.e - 3 + ((65536 : Nat) : Int)).toNat)
 rw [show (q.e + ((65536 : Nat) : Int)).toNat = (q.e - 3 + ((65536 : Nat) : Int)).toNat + 3 by omega, Int.pow_add]
 generalize (2 : Int) ^ (q.e - 3 + ((65536 : Nat) : Int)).toNat = t
 rw [show (2 : Int) ^ 3 = 8 from rfl, ← Int.mul_assoc, Int.mul_comm]
theorem between8 {a b m : Int} (h : a ≤ b) (h0 : 0 ≤ m) (h8 : m ≤ 8) : 8 * a ≤ a * (8 - m) + b * m ∧ a * (8 - m) + b * m ≤ 8 * b := by
 have h1 : 0 ≤ (b - a) * m := Int.mul_nonneg (by omega) h0
 have h2 : 0 ≤ (b - a) * (8 - m) := Int.mul_nonneg (by omega) (by omega)
 have e1 : (b - a) * m = b * m - a * m := Int.sub_mul ..
 have e2 : a * (8 - m) = a * 8 - a * m := Int.mul_sub ..
 have e3 : (b - a) * (8 - m) = (b - a) * 8 - (b - a) * m := Int.mul_sub ..
 omega
theorem few_bd {q : Q} (h : Few q) : Bd 8 q := ⟨Nat.lt_trans h.2.1 (by decide), by have := h.2.2.1; omega, by have := h.2.2.2; omega⟩
theorem inV_bd {j : J} {m : Int} (h1 : Bd 8 j.lo.q) (h2 : Bd 8 j.hi.q) (h0 : 0 ≤ m) (h8 : m ≤ 8) : Bd 129 (inV j m) := by
 have a := bd_times h1 (few_bd (few_z (show 0 ≤ 8 - m by omega) (by omega)))
 have b := bd_times h2 (few_bd (few_z h0 h8))
 exact bd_plus a b
theorem dn3_bd {q : Q} (h : Bd 129 q) : Bd 132 (dn3 q) := ⟨Nat.lt_of_lt_of_le h.1 (Nat.pow_le_pow_right (by omega) (by omega)), by have := h.2.1; show _ ≤ q.e - 3; omega, by have := h.2.2; show q.e - 3 ≤ _; omega⟩
theorem fewj_bd {j : J} (h : FewJ j) : Bd 8 j.lo.q ∧ Bd 8 j.hi.q := by
 obtain ⟨a, b, fa, fb, e1, e2⟩ := h
 rw [e1, e2, (qx_ok fa.valid).2.2, (qx_ok fb.valid).2.2]
 exact ⟨few_bd fa, few_bd fb⟩
theorem at_q0 {E : Nat} : q0.at E = 0 := Int.zero_mul _
theorem in_ex {xs : List Nat} {k : Nat} {j : J} (hg : Good j) (hk : k ≤ 900) : ∃ x : X, (GX x ∧ hasJ j x = true) ∧ DCt 19 xs [.v true j.L] k (xA x) (k + 1) ∧ (FewJ j → Bd 132 x.q) := by
 obtain ⟨a1, a2, a3⟩ := okJ_parts hg.1
 have flo : FewJ j → Bd 132 j.lo.q := fun h => (fewj_bd h).1.mono (by omega)
 have fhi : FewJ j → Bd 132 j.hi.q := fun h => (fewj_bd h).2.mono (by omega)
 have hle := (cmpx_le a1 a2).1 a3
 have lo : GX j.lo ∧ hasJ j j.lo = true := ⟨⟨a1, hg.2.lo⟩, has_of hg.1 a1 (Int.le_refl _) hle⟩
 have hi : GX j.hi ∧ hasJ j j.hi = true := ⟨⟨a2, hg.2.hi⟩, has_of hg.1 a2 hle (Int.le_refl _)⟩
 have hm0 : (0 : Int) ≤ ((dk xs k % 9 : Nat) : Int) := Int.natCast_nonneg _
 have hm8 : ((dk xs k % 9 : Nat) : Int) ≤ 8 := by omega
 have hb := inV_vb hg hm0 hm8
 have hv := inV_at (m := ((dk xs k % 9 : Nat) : Int)) hg.1
 have h8 := between8 hle hm0 hm8
 have key : ∀ q : Q, Valid q → 8 * q.at 65536 = (inV j ((dk xs k % 9 : Nat) : Int)).at 65536 → GX (qx q) ∧ hasJ j (qx q) = true := fun q hq he => by
  have e : (qx q).v = q.at 65536 := by unfold X.v; rw [(qx_ok hq).2.2]
  exact ⟨gx_q hq, has_of hg.1 (qx_ok hq).1 (by rw [e]; omega) (by rw [e]; omega)⟩
 cases h0 : (((dk xs k % 9 : Nat) : Int) == 0)
 ·cases h1 : (((dk xs k % 9 : Nat) : Int) == 8)
  ·cases hs : (signq (inV j ((dk xs k % 9 : Nat) : Int)) != 0)
   ·have hz : (inV j ((dk xs k % 9 : Nat) : Int)).m = 0 := by
     by_cases hz : (inV j ((dk xs k % 9 : Nat) : Int)).m = 0
     ·exact hz
     ·exfalso
      unfold signq at hs
      rw [if_neg hz] at hs
      split at hs <;> simp at hs
    have hq := hb.1.1 hz
    have hr : res (inV j ((dk xs k % 9 : Nat) : Int)) = (q0, 0) := by rw [hq]; exact res_ok fits0
    refine ⟨_, ?_, d_inz xs k j hg hk h0 h1 hs (by rw [hr]; rfl), fun _ => by rw [hr, (qx_ok valid0).2.2]; exact ⟨Nat.two_pow_pos _, by decide, by decide⟩⟩
    rw [hr]
    exact key q0 valid0 (by rw [hq, at_q0]; rfl)
   ·by_cases hf : Fits (dn3 (inV j ((dk xs k % 9 : Nat) : Int)))
    ·have hr := res_ok hf
     refine ⟨_, ?_, d_inr xs k j hg hk h0 h1 hs (by rw [hr]; rfl), fun h => by rw [hr, (qx_ok ⟨(dn3_vw hb hs).1, hf⟩).2.2]; exact dn3_bd (inV_bd (fewj_bd h).1 (fewj_bd h).2 hm0 hm8)⟩
     rw [hr]
     exact key _ ⟨(dn3_vw hb hs).1, hf⟩ (dn3_at hf.2.1).symm
    ·have hr : (res (dn3 (inV j ((dk xs k % 9 : Nat) : Int)))).2 = 2 := by unfold res; rw [if_neg hf]
     exact ⟨_, lo, d_ino xs k j hg hk h0 h1 hs (by rw [hr]; rfl), flo⟩
  ·exact ⟨_, hi, d_in8 xs k j hg hk h0 h1, fhi⟩
 ·exact ⟨_, lo, d_in0 xs k j hg hk h0, flo⟩
open Classical in
noncomputable def inD (xs : List Nat) (j : J) (k : Nat) : X := if h : Good j ∧ k ≤ 900 then (in_ex (xs := xs) h.1 h.2).choose else zX
theorem inD_spec {xs : List Nat} {j : J} {k : Nat} (hg : Good j) (hk : k ≤ 900) : (GX (inD xs j k) ∧ hasJ j (inD xs j k) = true) ∧ DCt 19 xs [.v true j.L] k (xA (inD xs j k)) (k + 1) ∧ (FewJ j → Bd 132 (inD xs j k).q) := by
 have := (in_ex (xs := xs) (k := k) hg hk).choose_spec
 unfold inD
 rw [dif_pos ⟨hg, hk⟩]; exact this
end Go.Proofs.YtobcbhppmgnioaaGreatDoor
