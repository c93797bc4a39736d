/- Decks: what is drawn. -/
import Derived.Test.YtobcbhppmgnioaaGreatDoorSAi7
import Derived.Test.YtobcbhppmgnioaaGreatDoorSAkA
import Derived.Test.YtobcbhppmgnioaaGreatDoorSSeat
namespace Go.Proofs.YtobcbhppmgnioaaGreatDoor
set_option linter.unusedSimpArgs false
set_option linter.unusedVariables false
set_option maxHeartbeats 4000000
set_option maxRecDepth 100000
open Go.RowKit Nx
section
attribute [local go_sem] X.eta J.eta Q.eta brkf_b brkf_t exef_some exif_some condf_b lpf hdS hd1 pick forget postf_some memOf cntF nmL rnL nmA rnA isV contsOf ndB refO orO pin Int.toNat_zero decide_eq_true_eq wrap0 wrap1 ci1 ci2 BEq.rfl beq_self_eq_true Int.natCast_zero ge_iff_le gt_iff_lt Int.le_refl Nat.zero_mul Nat.one_mul Nat.zero_add Nat.zero_lt_succ Nat.lt_add_one Nat.le_refl List.append_eq wrap2 Bool.not_eq_true dkO dpf_some rK rKI rKJ Int.toNat_natCast Int.natCast_nonneg gV gVV gVIB gVVIB gWW gJII gNNI gBWI gVVVV gVVVVI gVI gIJJI gJB noE List.isEmpty_nil
attribute [local go_sem ↓] not_cond
theorem ub : IntKind.u64.bits = 64 := rfl
theorem dk0 {k : Nat} : (0 : Int) ≤ ((k : Nat) : Int) := Int.natCast_nonneg k
noncomputable def Tseat_num : Tbl := one 77 (gBWI fun b l z => (l.length ≤ 100, nA (res (nm b (nval B64 l) z)).1))
theorem Tseat_num_ok : TbOK Tryz.prog Tseat_num := one_ok (ent Tryz.func77 (by kernel_rfl) rfl) fun args e h hp => by
 obtain ⟨b, l, z, rfl, rfl⟩ := gBWI_eq h
 exact ctBWI rfl (fun w Al nl cl ht hl hn => (snum_any w b z Al nl cl l hl (by have := hl.1.1; have hp : l.length ≤ 100 := hp; omega)).mono fun _ _ h => post_n (res_fits _) h)
theorem bits_in {op : BinOp} {a b : Int} : (0 ≤ bits op .u64 a b ∧ bits op .u64 a b < 18446744073709551616) ↔ True := by
 refine iff_of_true ?_ trivial
 unfold bits
 simp only [IntKind.wrap_u64]
 omega
theorem wrap_in {a : Int} : (0 ≤ IntKind.u64.wrap a ∧ IntKind.u64.wrap a < 18446744073709551616) ↔ True := by
 refine iff_of_true ?_ trivial
 rw [IntKind.wrap_u64]; omega
theorem shr_nat (v t : Nat) (ht : t ≤ 64) : ((v : Int).fdiv (2 ^ min t 64)) = ((v / 2 ^ t : Nat) : Int) := by
 rw [Nat.min_eq_left ht, Int.fdiv_eq_ediv_of_nonneg _ (Int.le_of_lt (pow_posZ t)), Int.natCast_ediv, Int.natCast_pow]; rfl
theorem d_small (xs : List Nat) (k : Nat)  (hk : k ≤ 900) : DCt 41 xs [] k (nA (res (nm (bits .and .u64 ((dk xs k : Nat) : Int) 1 == 1) (nval B64 [(bits .and .u64 ((((dk xs k : Nat) : Int)).fdiv (2 ^ min 1 64)) 63).toNat]) (IntKind.i64.wrap (IntKind.i64.wrap (((((dk xs k : Nat) : Int)).fdiv (2 ^ min 7 64)).tmod 9) - 6)))).1) (k + 1) := by
 refine dct_of (O := fun A n c => orO (dkO 39 A n c (rK fun k => (k ≤ 1000, .s (.lit (.int .u64 (dk xs k : Int))), k + 1))) (tblO (Tseat_num))) (by kernel_rfl) tyT_ok (fun A n c F w hA hn => only_or dkO_only (dkO_ok (xs := xs) (ent Tryz.func39 (by kernel_rfl) rfl) (rK_ok fun k hp => next_dct hp) hA hn) (tblO_ok (Tseat_num_ok) _ _) (fun d st args => by simp [orO, dkO, tblO, orT, noT, one, Tseat_num])) [] 1000 19 [.cell 2 26] Tryz.func41 rfl Tryz.ntmps41 (by decide) (by rw [Tryz.results41]) (by simp) rfl (fun A n c hsm hs => ?_)
 have hk0 : k ≤ 1000 := by omega
 simp (maxSteps := 10000000) only [go_sem, seval, reduceCtorEq, Tseat_num, gC, gCC, asSc, SX.L, SX.eta, ub, ↓bits_in, ↓wrap_in, dk0, inW]
 repeat' with_reducible first | apply And.intro | apply condP <;> intro _
 all_goals first | (show chk _ _ = true; kernel_rfl) | with_reducible assumption | (simp only [go_sem, *] <;> rfl) | rfl | (exfalso; simp_all only [Bool.true_eq_false, Bool.false_eq_true, reduceCtorEq]; done)
theorem small_ex {xs : List Nat} {k : Nat} (hs : Small B64 xs) (hk : k ≤ 900) : ∃ q : Q, Few q ∧ DCt 41 xs [] k (nA q) (k + 1) := by
 refine ⟨_, ?_, d_small xs k hk⟩
 have hv := dk_lt hs k
 obtain ⟨v, hv0⟩ : ∃ v, v = dk xs k := ⟨_, rfl⟩
 rw [← hv0] at hv ⊢
 rw [shr_nat v 1 (by omega), shr_nat v 7 (by omega), bits63 (v / 2 ^ 1) (Nat.lt_of_le_of_lt (Nat.div_le_self _ _) hv), Int.toNat_natCast, nval1]
 have e1 : IntKind.i64.wrap (IntKind.i64.wrap ((((v / 2 ^ 7 : Nat) : Int)).tmod 9) - 6) = ((v / 2 ^ 7 % 9 : Nat) : Int) - 6 := by
  rw [Int.tmod_eq_emod_of_nonneg (Int.natCast_nonneg _), IntKind.wrap_i64, IntKind.wrap_i64]
  omega
 rw [e1]
 have hf := few_nm (s := (bits .and .u64 (v : Int) 1 == 1)) (M := v / 2 ^ 1 % 64) (e := ((v / 2 ^ 7 % 9 : Nat) : Int) - 6) (Nat.mod_lt _ (by omega)) (by omega) (by omega)
 rw [res_ok hf.valid.2]; exact hf
open Classical in
noncomputable def smallD (xs : List Nat) (k : Nat) : Q := if h : Small B64 xs ∧ k ≤ 900 then (small_ex h.1 h.2).choose else q0
theorem smallD_few (xs : List Nat) (k : Nat) : Few (smallD xs k) := by
 unfold smallD
 split
 ·rename_i h; exact (small_ex h.1 h.2).choose_spec.1
 ·exact ⟨canon0, by decide, by decide, by decide⟩
theorem smallD_dct {xs : List Nat} {k : Nat} (h : Small B64 xs ∧ k ≤ 900) : DCt 41 xs [] k (nA (smallD xs k)) (k + 1) := by
 unfold smallD
 rw [dif_pos h]; exact (small_ex h.1 h.2).choose_spec.2
theorem d_yes3 (xs : List Nat) (k : Nat)  (hk : k ≤ 900) : DCt 16 xs [iA 3] k (bA (((dk xs k % 3 : Nat) : Int) == 2)) (k + 1) := by
 refine dct_of (O := fun A n c => orO (dkO 12 A n c (rKI fun k z => (k ≤ 1000 ∧ 0 < z ∧ z ≤ 1000, iA ((dk xs k % z.toNat : Nat) : Int), k + 1))) (tblO noT)) (by kernel_rfl) tyT_ok (fun A n c F w hA hn => only_or dkO_only (dkO_ok (xs := xs) (ent Tryz.func12 (by kernel_rfl) rfl) (rKI_ok fun k z hp => dn_dct hp) hA hn) (tblO_ok noT_ok _ _) (fun d st args => by simp [orO, dkO, tblO, orT, noT, one])) [] 1000 11 [.tmp 4] Tryz.func16 rfl Tryz.ntmps16 (by decide) (by rw [Tryz.results16]) (by simp) rfl (fun A n c hsm hs => ?_)
 have hk0 : k ≤ 1000 := by omega
 simp (maxSteps := 10000000) only [go_sem, seval, reduceCtorEq, gC, gCC, asSc, SX.L, SX.eta, ub, ↓bits_in, ↓wrap_in, dk0]
 repeat' with_reducible first | apply And.intro | apply condP <;> intro _
 all_goals first | (show chk _ _ = true; kernel_rfl) | with_reducible assumption | (simp only [go_sem, *] <;> rfl) | rfl | (exfalso; simp_all only [Bool.true_eq_false, Bool.false_eq_true, reduceCtorEq]; done)
theorem d_prec1 (xs : List Nat) (k : Nat)  (hk : k ≤ 900) (h0 : (((dk xs k % 6 : Nat) : Int) == 0) = true) : DCt 13 xs [] k (iA 8) (k + 1) := by
 refine dct_of (O := fun A n c => orO (dkO 12 A n c (rKI fun k z => (k ≤ 1000 ∧ 0 < z ∧ z ≤ 1000, iA ((dk xs k % z.toNat : Nat) : Int), k + 1))) (tblO noT)) (by kernel_rfl) tyT_ok (fun A n c F w hA hn => only_or dkO_only (dkO_ok (xs := xs) (ent Tryz.func12 (by kernel_rfl) rfl) (rKI_ok fun k z hp => dn_dct hp) hA hn) (tblO_ok noT_ok _ _) (fun d st args => by simp [orO, dkO, tblO, orT, noT, one])) [] 1000 12 [.tmp 2] Tryz.func13 rfl Tryz.ntmps13 (by decide) (by rw [Tryz.results13]) (by simp) rfl (fun A n c hsm hs => ?_)
 have hk0 : k ≤ 1000 := by omega
 have hk1 : k + 1 ≤ 1000 := by omega
 simp (maxSteps := 10000000) only [go_sem, seval, reduceCtorEq, gC, gCC, asSc, SX.L, SX.eta, ub, ↓bits_in, ↓wrap_in, dk0, h0]
 repeat' with_reducible first | apply And.intro | apply condP <;> intro _
 all_goals first | (show chk _ _ = true; kernel_rfl) | with_reducible assumption | (simp only [go_sem, *] <;> rfl) | rfl | (exfalso; simp_all only [Bool.true_eq_false, Bool.false_eq_true, reduceCtorEq]; done)
theorem d_prec2 (xs : List Nat) (k : Nat)  (hk : k ≤ 900) (h0 : (((dk xs k % 6 : Nat) : Int) == 0) = false) (h1 : (((dk xs k % 6 : Nat) : Int) == 1) = true) : DCt 13 xs [] k (iA 256) (k + 1) := by
 refine dct_of (O := fun A n c => orO (dkO 12 A n c (rKI fun k z => (k ≤ 1000 ∧ 0 < z ∧ z ≤ 1000, iA ((dk xs k % z.toNat : Nat) : Int), k + 1))) (tblO noT)) (by kernel_rfl) tyT_ok (fun A n c F w hA hn => only_or dkO_only (dkO_ok (xs := xs) (ent Tryz.func12 (by kernel_rfl) rfl) (rKI_ok fun k z hp => dn_dct hp) hA hn) (tblO_ok noT_ok _ _) (fun d st args => by simp [orO, dkO, tblO, orT, noT, one])) [] 1000 12 [.tmp 2] Tryz.func13 rfl Tryz.ntmps13 (by decide) (by rw [Tryz.results13]) (by simp) rfl (fun A n c hsm hs => ?_)
 have hk0 : k ≤ 1000 := by omega
 have hk1 : k + 1 ≤ 1000 := by omega
 simp (maxSteps := 10000000) only [go_sem, seval, reduceCtorEq, gC, gCC, asSc, SX.L, SX.eta, ub, ↓bits_in, ↓wrap_in, dk0, h0, h1]
 repeat' with_reducible first | apply And.intro | apply condP <;> intro _
 all_goals first | (show chk _ _ = true; kernel_rfl) | with_reducible assumption | (simp only [go_sem, *] <;> rfl) | rfl | (exfalso; simp_all only [Bool.true_eq_false, Bool.false_eq_true, reduceCtorEq]; done)
theorem d_prec3 (xs : List Nat) (k : Nat)  (hk : k ≤ 900) (h0 : (((dk xs k % 6 : Nat) : Int) == 0) = false) (h1 : (((dk xs k % 6 : Nat) : Int) == 1) = false) : DCt 13 xs [] k (iA (IntKind.i64.wrap (12 + ((dk xs (k + 1) % 60 : Nat) : Int)))) (k + 1 + 1) := by
 refine dct_of (O := fun A n c => orO (dkO 12 A n c (rKI fun k z => (k ≤ 1000 ∧ 0 < z ∧ z ≤ 1000, iA ((dk xs k % z.toNat : Nat) : Int), k + 1))) (tblO noT)) (by kernel_rfl) tyT_ok (fun A n c F w hA hn => only_or dkO_only (dkO_ok (xs := xs) (ent Tryz.func12 (by kernel_rfl) rfl) (rKI_ok fun k z hp => dn_dct hp) hA hn) (tblO_ok noT_ok _ _) (fun d st args => by simp [orO, dkO, tblO, orT, noT, one])) [] 1000 12 [.tmp 2] Tryz.func13 rfl Tryz.ntmps13 (by decide) (by rw [Tryz.results13]) (by simp) rfl (fun A n c hsm hs => ?_)
 have hk0 : k ≤ 1000 := by omega
 have hk1 : k + 1 ≤ 1000 := by omega
 simp (maxSteps := 10000000) only [go_sem, seval, reduceCtorEq, gC, gCC, asSc, SX.L, SX.eta, ub, ↓bits_in, ↓wrap_in, dk0, h0, h1]
 repeat' with_reducible first | apply And.intro | apply condP <;> intro _
 all_goals first | (show chk _ _ = true; kernel_rfl) | with_reducible assumption | omega | (simp only [go_sem, *] <;> rfl) | rfl | (exfalso; simp_all only [Bool.true_eq_false, Bool.false_eq_true, reduceCtorEq]; done)
theorem prec_ex {xs : List Nat} {k : Nat} (hk : k ≤ 900) : ∃ (p : Int) (k' : Nat), prl p = true ∧ k ≤ k' ∧ k' ≤ k + 2 ∧ DCt 13 xs [] k (iA p) k' := by
 cases h0 : ((((dk xs k % 6 : Nat) : Int) == 0))
 ·cases h1 : ((((dk xs k % 6 : Nat) : Int) == 1))
  ·refine ⟨_, _, ?_, ?_, ?_, d_prec3 xs k hk h0 h1⟩
   ·have : dk xs (k + 1) % 60 < 60 := Nat.mod_lt _ (by omega)
    rw [IntKind.wrap_i64]; unfold prl
    simp only [Bool.and_eq_true, decide_eq_true_eq]; omega
   ·omega
   ·omega
  ·exact ⟨_, _, by decide, by omega, by omega, d_prec2 xs k hk h0 h1⟩
 ·exact ⟨_, _, by decide, by omega, by omega, d_prec1 xs k hk h0⟩
open Classical in
noncomputable def precD (xs : List Nat) (k : Nat) : Int × Nat := if h : k ≤ 900 then ((prec_ex (xs := xs) h).choose, (prec_ex (xs := xs) h).choose_spec.choose) else (8, k)
theorem precD_spec {xs : List Nat} {k : Nat} (h : k ≤ 900) : prl (precD xs k).1 = true ∧ k ≤ (precD xs k).2 ∧ (precD xs k).2 ≤ k + 2 ∧ DCt 13 xs [] k (iA (precD xs k).1) (precD xs k).2 := by
 have := (prec_ex (xs := xs) h).choose_spec.choose_spec
 unfold precD
 rw [dif_pos h]; exact this
end
section
attribute [local go_sem] X.eta J.eta Q.eta brkf_b brkf_t exef_some exif_some condf_b lpf hdS hd1 pick forget postf_some memOf cntF nmL rnL nmA rnA isV contsOf ndB refO orO pin Int.toNat_zero decide_eq_true_eq wrap0 wrap1 ci1 ci2 BEq.rfl beq_self_eq_true Int.natCast_zero ge_iff_le gt_iff_lt Int.le_refl Nat.zero_mul Nat.one_mul Nat.zero_add Nat.zero_lt_succ Nat.lt_add_one Nat.le_refl List.append_eq gV gVV gVIB gVVIB gWW gJII gNNI gBWI gVVVV gVVVVI gVI gIJJI gJB noE List.isEmpty_nil
attribute [local go_sem ↓] not_cond
def btwJ (x y : X) : J := bif decide (cmpx x y > 0) then ⟨y, x⟩ else ⟨x, y⟩
theorem s_between (x x1 : X) : Ct Tryz.prog 42 [.v true x.L, .v true x1.L] (· = jA (btwJ x x1)) := by
 refine ct_of (O := tblO (Tref_CmpNum)) (by kernel_rfl) tyT_ok (fun w => tblO_ok (Tref_CmpNum_ok) _ w) [] 2000 15 [.cell 4 28] Tryz.func42 rfl Tryz.ntmps42 (by rw [Tryz.results42]) (by simp) rfl (fun hsm => ?_)
 simp (maxSteps := 10000000) only [go_sem, seval, reduceCtorEq, Tref_CmpNum, gC, gCC, asSc, SX.L, SX.eta]
 repeat' with_reducible first | apply And.intro | apply condP <;> intro _
 all_goals first | (show chk _ _ = true; kernel_rfl) | assumption | (simp only [go_sem, *, btwJ] <;> rfl) | rfl | (exfalso; simp_all only [Bool.true_eq_false, Bool.false_eq_true, reduceCtorEq]; done)
noncomputable def Tseat_Between : Tbl := one 42 (gNN fun x x1 => (True, jA (btwJ x x1)))
theorem Tseat_Between_ok : TbOK Tryz.prog Tseat_Between := one_ok (ent Tryz.func42 (by kernel_rfl) rfl) fun args e h hp => by obtain ⟨x, x1, rfl, rfl⟩ := gNN_eq h; exact s_between x x1
def GX (x : X) : Prop := x.ok = true ∧ Small B64 x.xs
def Good (j : J) : Prop := okJ j = true ∧ GJ j
theorem gx_q {q : Q} (h : Valid q) : GX (qx q) := ⟨(qx_ok h).1, (qx_ok h).2.1⟩
theorem okJ_of {x y : X} (hx : x.ok = true) (hy : y.ok = true) (h : x.v ≤ y.v) : okJ ⟨x, y⟩ = true := by
 unfold okJ
 show (x.ok && y.ok && decide (cmpx x y ≤ 0)) = true
 rw [hx, hy, decide_eq_true ((cmpx_le hx hy).2 h)]; rfl
theorem btw_good {x y : X} (hx : GX x) (hy : GX y) : Good (btwJ x y) := by
 unfold btwJ
 by_cases hc : cmpx x y > 0
 ·rw [decide_eq_true hc]
  exact ⟨okJ_of hy.1 hx.1 (Int.le_of_lt ((cmpx_gt hx.1 hy.1).1 hc)), hy.2, hx.2⟩
 ·rw [decide_eq_false hc]
  have : ¬ _ := fun g => hc ((cmpx_gt hx.1 hy.1).2 g)
  exact ⟨okJ_of hx.1 hy.1 (by omega), hx.2, hy.2⟩
theorem pt_good {x : X} (hx : GX x) : Good ⟨x, x⟩ := ⟨okJ_of hx.1 hx.1 (Int.le_refl _), hx.2, hx.2⟩
def FewJ (j : J) : Prop := ∃ a b : Q, Few a ∧ Few b ∧ j.lo = qx a ∧ j.hi = qx b
theorem btw_few {a b : Q} (ha : Few a) (hb : Few b) : FewJ (btwJ (qx a) (qx b)) := by
 unfold btwJ
 cases decide (cmpx (qx a) (qx b) > 0)
 ·exact ⟨a, b, ha, hb, rfl, rfl⟩
 ·exact ⟨b, a, hb, ha, rfl, rfl⟩
theorem d_siv0 (xs : List Nat) (k : Nat)  (hk : k ≤ 800) (h0 : (((dk xs k % 3 : Nat) : Int) == 2) = true) : DCt 15 xs [] k (jA ⟨qx (smallD xs (k + 1)), qx (smallD xs (k + 1))⟩) (k + 1 + 1) := by
 refine dct_of (O := fun A n c => orO (dkO 16 A n c (rKI fun k z => (z = 3 ∧ k ≤ 900, bA (((dk xs k % 3 : Nat) : Int) == 2), k + 1))) (orO (dkO 41 A n c (rK fun k => (Small B64 xs ∧ k ≤ 900, nA (smallD xs k), k + 1))) (tblO (orT Tref_Point (Tseat_Between))))) (by kernel_rfl) tyT_ok (fun A n c F w hA hn => only_or dkO_only (dkO_ok (xs := xs) (ent Tryz.func16 (by kernel_rfl) rfl) (rKI_ok fun k z hp => by obtain ⟨rfl, h⟩ := hp; exact d_yes3 xs k h) hA hn) (only_or dkO_only (dkO_ok (xs := xs) (ent Tryz.func41 (by kernel_rfl) rfl) (rK_ok fun k hp => smallD_dct hp) hA hn) (tblO_ok (orT_ok Tref_Point_ok (Tseat_Between_ok)) _ _) (fun d st args => by simp [orO, dkO, tblO, orT, noT, one, Tref_Point, Tseat_Between])) (fun d st args => by simp [orO, dkO, tblO, orT, noT, one, Tref_Point, Tseat_Between])) [] 1000 13 [.cell 2 28] Tryz.func15 rfl Tryz.ntmps15 (by decide) (by rw [Tryz.results15]) (by simp) rfl (fun A n c hsm hs => ?_)
 have hk9 : k ≤ 900 := by omega
 simp (maxSteps := 10000000) only [go_sem, seval, reduceCtorEq, Tref_Point, Tseat_Between, gC, gCC, asSc, SX.L, SX.eta, ub, wrap2, bits_in, wrap_in, Bool.not_eq_true, dkO, dpf_some, rK, rKI, rKJ, Int.toNat_natCast, Int.natCast_nonneg, dk0, h0]
 repeat' with_reducible first | apply And.intro | apply condP <;> intro _
 all_goals first | (show chk _ _ = true; kernel_rfl) | assumption | omega | (simp only [go_sem, *] <;> rfl) | rfl | (exfalso; simp_all only [Bool.true_eq_false, Bool.false_eq_true, reduceCtorEq]; done)
theorem d_siv1 (xs : List Nat) (k : Nat)  (hk : k ≤ 800) (h0 : (((dk xs k % 3 : Nat) : Int) == 2) = false) : DCt 15 xs [] k (jA (btwJ (qx (smallD xs (k + 1))) (qx (smallD xs (k + 1 + 1))))) (k + 1 + 1 + 1) := by
 refine dct_of (O := fun A n c => orO (dkO 16 A n c (rKI fun k z => (z = 3 ∧ k ≤ 900, bA (((dk xs k % 3 : Nat) : Int) == 2), k + 1))) (orO (dkO 41 A n c (rK fun k => (Small B64 xs ∧ k ≤ 900, nA (smallD xs k), k + 1))) (tblO (orT Tref_Point (Tseat_Between))))) (by kernel_rfl) tyT_ok (fun A n c F w hA hn => only_or dkO_only (dkO_ok (xs := xs) (ent Tryz.func16 (by kernel_rfl) rfl) (rKI_ok fun k z hp => by obtain ⟨rfl, h⟩ := hp; exact d_yes3 xs k h) hA hn) (only_or dkO_only (dkO_ok (xs := xs) (ent Tryz.func41 (by kernel_rfl) rfl) (rK_ok fun k hp => smallD_dct hp) hA hn) (tblO_ok (orT_ok Tref_Point_ok (Tseat_Between_ok)) _ _) (fun d st args => by simp [orO, dkO, tblO, orT, noT, one, Tref_Point, Tseat_Between])) (fun d st args => by simp [orO, dkO, tblO, orT, noT, one, Tref_Point, Tseat_Between])) [] 1000 13 [.cell 2 28] Tryz.func15 rfl Tryz.ntmps15 (by decide) (by rw [Tryz.results15]) (by simp) rfl (fun A n c hsm hs => ?_)
 have hk9 : k ≤ 900 := by omega
 simp (maxSteps := 10000000) only [go_sem, seval, reduceCtorEq, Tref_Point, Tseat_Between, gC, gCC, asSc, SX.L, SX.eta, ub, wrap2, bits_in, wrap_in, Bool.not_eq_true, dkO, dpf_some, rK, rKI, rKJ, Int.toNat_natCast, Int.natCast_nonneg, dk0, h0]
 repeat' with_reducible first | apply And.intro | apply condP <;> intro _
 all_goals first | (show chk _ _ = true; kernel_rfl) | assumption | omega | (simp only [go_sem, *] <;> rfl) | rfl | (exfalso; simp_all only [Bool.true_eq_false, Bool.false_eq_true, reduceCtorEq]; done)
theorem siv_ex {xs : List Nat} {k : Nat} (hk : k ≤ 800) : ∃ (j : J) (k' : Nat), (Good j ∧ FewJ j) ∧ k ≤ k' ∧ k' ≤ k + 3 ∧ DCt 15 xs [] k (jA j) k' := by
 have f := fun k => smallD_few xs k
 have g := fun k => gx_q (f k).valid
 cases h0 : (((dk xs k % 3 : Nat) : Int) == 2)
 ·exact ⟨_, _, ⟨btw_good (g _) (g _), btw_few (f _) (f _)⟩, by omega, by omega, d_siv1 xs k hk h0⟩
 ·exact ⟨_, _, ⟨pt_good (g _), _, _, f _, f _, rfl, rfl⟩, by omega, by omega, d_siv0 xs k hk h0⟩
open Classical in
noncomputable def sivD (xs : List Nat) (k : Nat) : J × Nat := if h : k ≤ 800 then ((siv_ex (xs := xs) h).choose, (siv_ex (xs := xs) h).choose_spec.choose) else (zJ, k)
theorem sivD_spec {xs : List Nat} {k : Nat} (h : k ≤ 800) : (Good (sivD xs k).1 ∧ FewJ (sivD xs k).1) ∧ k ≤ (sivD xs k).2 ∧ (sivD xs k).2 ≤ k + 3 ∧ DCt 15 xs [] k (jA (sivD xs k).1) (sivD xs k).2 := by
 have := (siv_ex (xs := xs) h).choose_spec.choose_spec
 unfold sivD
 rw [dif_pos h]; exact this
end
end Go.Proofs.YtobcbhppmgnioaaGreatDoor
