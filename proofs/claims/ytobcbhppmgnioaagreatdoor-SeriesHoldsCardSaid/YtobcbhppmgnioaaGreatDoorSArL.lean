/- Powers; what lies within an interval; bounds of sums of powers. -/
import Derived.Test.YtobcbhppmgnioaaGreatDoorSArK
import Derived.Test.YtobcbhppmgnioaaGreatDoorSArJ
import Derived.Test.YtobcbhppmgnioaaGreatDoorSAm2
namespace Go.Proofs.YtobcbhppmgnioaaGreatDoor
set_option maxHeartbeats 4000000
set_option maxRecDepth 100000
open Go.RowKit Nx
set_option linter.unusedVariables false
set_option linter.unusedSimpArgs false
attribute [local go_sem] X.eta J.eta Q.eta brkf_b brkf_t exef_some exif_some condf_b postf_some memOf cntF nmL rnL nmA rnA isV contsOf ndB refO orO pin Int.toNat_zero decide_eq_true_eq wrap0 wrap1 ci1 ci2 BEq.rfl beq_self_eq_true Int.natCast_zero ge_iff_le gt_iff_lt Int.le_refl Nat.zero_mul Nat.one_mul Nat.zero_add Nat.zero_lt_succ Nat.lt_add_one Nat.le_refl List.append_eq Int.toNat_natCast gVV noE boxL_nil boxL_cons ptsL_nil ptsL_cons bne_self_eq_false wr2 wr3 wr4 wr5 wr6 wr7 wr8 gB gP gBB gBP gBZ gBBZ bC_nil bC_cons pC_nil pC_cons fvO Lc.up tyB tiS tiBB List.replicate_succ List.replicate_zero List.flatten_cons List.flatten_nil Int.ofNat_lt Int.cast_ofNat_Int Int.ofNat_eq_natCast List.isEmpty_nil List.isEmpty_cons and_false false_and List.cons_ne_nil Nat.add_zero ite_true ite_false if_true if_false Nat.le_zero_eq eq_self tyM tiQ tiMM gA gE asZ asT asV1 asN1 asB_b asP_b asM_m asQ_m ite_self hoO hoK hpin hoO2 hoK2 hpin2
attribute [local go_sem ↓] not_cond outL_box outL_pts clL_box clL_pts okL_box okL_pts ment_box ment_pts olL_box olL_pts cvL_box cvL_pts noO_box noO_pts asB_box asP_pts len_box len_pts
attribute [local irreducible] chk
theorem pw_bn {q : Q} (hq : Bd 132 q) : ∀ i, Bn (132 * i) (264 * i) (pw q i) := by
 intro i
 induction i with
 | zero =>
  show Bn 0 0 (ofz 1 0)
  rw [one_qk]
  exact ⟨by show -((0 : Nat) : Int) ≤ 0; omega, by show -(2 ^ (0 + 0) : Int) ≤ 1 * 2 ^ ((0 : Int) + ((0 : Nat) : Int)).toNat; decide, by show (1 : Int) * 2 ^ ((0 : Int) + ((0 : Nat) : Int)).toNat ≤ 2 ^ (0 + 0); decide⟩
 | succ i ih => exact bn_times ih (bn_of_bd hq)
theorem pwc (q : Q) (i : Nat) : Canon (pw q i) := by cases i <;> exact ofz_canon _ _
theorem pw_vw {q : Q} (hq : Bd 132 q) {i : Nat} (hi : i ≤ 8) : Vw (pw q i) := vw_of ⟨pwc q i, (bn_bd (pwc q i) (pw_bn hq i)).fits (by omega)⟩
theorem hr_bn {f : Nat → Q} {t : Q} {n : Nat} (hf : ∀ i, i ≤ n → Bd 132 (f i)) (ht : Bd 132 t) : ∀ j, j ≤ n → Bn (132 * (j + 1)) (264 * (j + 1) + j) (hr f t n j) := by
 intro j
 induction j with
 | zero => intro _; exact bn_of_bd (hf n (Nat.le_refl n))
 | succ j ih =>
  intro hj
  have h1 := bn_times (ih (by omega)) (bn_of_bd ht)
  have h2 := ((bn_of_bd (hf (n - 1 - j) (by omega))).up (show 132 ≤ 132 * (j + 1) + 132 by omega)).mono (show 2 * 132 ≤ 264 * (j + 1) + j + 2 * 132 by omega)
  have h3 := bn_plus h1 h2
  have e1 : 132 * (j + 1 + 1) = 132 * (j + 1) + 132 := by omega
  have e2 : 264 * (j + 1 + 1) + (j + 1) = 264 * (j + 1) + j + 2 * 132 + 1 := by omega
  rw [e1, e2]; exact h3
theorem sp_vb {f : Nat → Q} {t : Q} {n : Nat} (cf : ∀ i, Canon (f i)) (hf : ∀ i, i ≤ n → Bd 132 (f i)) (ct : Canon t) (ht : Bd 132 t) (hn : n ≤ 6) : ∀ j, j ≤ n + 1 → Valid (sq f (pw t) j) := by
 intro j hj
 cases j with
 | zero => exact valid0
 | succ j =>
  have h1 := hr_bn (f := f) (n := j) (fun i hi => hf i (by omega)) ht j (Nat.le_refl j)
  rw [hr_all cf ct] at h1
  have c : Canon (sp f t j) := ofz_canon _ _
  exact ⟨c, (bn_bd c h1).fits (by omega)⟩
theorem r_powN (q : Q) (n : Nat) (hn : n ≤ 8) (hq : Bd 132 q) (cq : Canon q) : Ct Tryz.prog 26 [vA q, iA (n : Int)] (· = vA (pw q n)) := by
 refine ct_of (O := tblO (orT Tref_Whole Tref_By)) (by kernel_rfl) tyM_ok (fun w => tblO_ok (orT_ok Tref_Whole_ok Tref_By_ok) _ w) [9999999, 2, 4, 5, 8, 9, 10, 11] ((n + 1) * 200 + 100) 15 [.cell 4 56] Tryz.func26 rfl Tryz.ntmps26 (by rw [Tryz.results26]) (by simp) rfl (fun hsm => ?_)
 have wq : Vw q := vw_of ⟨cq, hq.fits (by omega)⟩
 simp (maxSteps := 10000000) only [go_sem, seval, reduceCtorEq, Tref_Whole, Tref_By]
 repeat' with_reducible first | apply And.intro | apply condP <;> intro _
 all_goals first | (show chk _ _ = true; kernel_rfl) | with_reducible assumption | omega | rfl | skip
 refine loop_ind 200 (fun j => [(2, iA ((n - j : Nat) : Int)), (4, .s (.own 2 0)), (5, .v true (vL q)), (8, .s (.own 4 0)), (9, .v true (vL q0)), (10, .s (.own 5 0)), (11, .v true (vL (pw q j)))]) n (fun j => True) 0 (fun j _ => rfl) (fun j m1 _ hj _ ih => ?_) (by omega) trivial rfl
 rcases Nat.lt_or_ge j n with hlt | hge
 ·replace ih := ih hlt trivial
  have g1 : (0 < ((n - j : Nat) : Int)) = True := eq_true (by omega)
  have wj := pw_vw hq (show j ≤ 8 by omega)
  have e1 : ((n - j : Nat) : Int) - 1 = ((n - (j + 1) : Nat) : Int) := by omega
  have hw1 : IntKind.i64.wrap ((n - (j + 1) : Nat) : Int) = ((n - (j + 1) : Nat) : Int) := by rw [IntKind.wrap_i64]; omega
  simp (maxSteps := 10000000) only [go_sem, seval, reduceCtorEq, Tref_Whole, Tref_By, g1, e1, hw1]
  repeat' with_reducible first | apply And.intro | apply condP <;> intro _
  all_goals first | (show chk _ _ = true; kernel_rfl) | (exact ih _ _ rfl) | with_reducible assumption | rfl
 ·obtain rfl : j = n := by omega
  simp (maxSteps := 10000000) only [go_sem, seval, reduceCtorEq, Tref_Whole, Tref_By, Nat.sub_self]
  repeat' with_reducible first | apply And.intro | apply condP <;> intro _
  all_goals first | (show chk _ _ = true; kernel_rfl) | assumption | rfl | (simp only [go_sem, *] <;> rfl)
theorem r_powZ (q : Q) (z : Int) (h : (Bd 132 q ∧ Canon q) ∧ 0 ≤ z ∧ z ≤ 8) : Ct Tryz.prog 26 [vA q, iA z] (· = vA (pw q z.toNat)) := by
 obtain ⟨n, rfl⟩ : ∃ n : Nat, z = n := ⟨z.toNat, by omega⟩
 rw [Int.toNat_natCast]
 exact r_powN q n (by omega) h.1.1 h.1.2
noncomputable def Tse_Pow : Tbl := one 26 (gVI fun q z => ((Bd 132 q ∧ Canon q) ∧ 0 ≤ z ∧ z ≤ 8, vA (pw q z.toNat)))
theorem Tse_Pow_ok : TbOK Tryz.prog Tse_Pow := one_ok (ent Tryz.func26 (by kernel_rfl) rfl) fun args e h hp => by obtain ⟨q, z, rfl, rfl⟩ := gVI_eq h; exact r_powZ q z hp
theorem s_within (q : Q) (j : J) (h : hasJ j (qx q) = true ∧ Valid q ∧ GJ j) : Ct Tryz.prog 27 [vA q, vA (ofz 1 0), jA j] (· = bA true) := by
 obtain ⟨hh, vq, gj⟩ := h
 have hv := has_v hh
 obtain ⟨a1, a2, _⟩ := okJ_parts hv.1
 have v1 := ok_arg a1 gj.lo
 have v2 := ok_arg a2 gj.hi
 have e1 := times_one1 v1.1
 have e2 := times_one1 v2.1
 have w1 := vw_of v1
 have w2 := vw_of v2
 have b1 := vb_of v1
 have b2 := vb_of v2
 have bq := vb_of vq
 have wo : Vw (ofz 1 0) := by rw [one_qk]; exact vw_of ⟨canon_one _ _, by show 1 < B64 ^ 64; exact Nat.one_lt_pow (by decide) (by decide), by show (-65536 : Int) ≤ 0; omega, by show (0 : Int) ≤ 65536; omega⟩
 have hc : cmpx j.lo (qx q) ≤ 0 ∧ cmpx (qx q) j.hi ≤ 0 := by
  unfold hasJ at hh
  simp only [Bool.and_eq_true, decide_eq_true_eq] at hh
  exact ⟨hh.1.2, hh.2⟩
 have q1 : (qx q).q = q := (qx_ok vq).2.2
 have d1 : decide (cmpq j.lo.q q ≤ 0) = true := by have := hc.1; rw [cmpx_q a1 (qx_ok vq).1, q1] at this; exact decide_eq_true this
 have d2 : decide (cmpq q j.hi.q ≤ 0) = true := by have := hc.2; rw [cmpx_q (qx_ok vq).1 a2, q1] at this; exact decide_eq_true this
 clear hh hc hv
 refine ct_of (O := tblO (orT Tref_Of (orT Tref_By Tref_Order))) (by kernel_rfl) tyM_ok (fun w => tblO_ok (orT_ok Tref_Of_ok (orT_ok Tref_By_ok Tref_Order_ok)) _ w) [] 1000 25 [.tmp 6] Tryz.func27 rfl Tryz.ntmps27 (by rw [Tryz.results27]) (by simp) rfl (fun hsm => ?_)
 simp (maxSteps := 10000000) only [go_sem, seval, reduceCtorEq, gIJJI, Tref_Of, Tref_By, Tref_Order, e1, e2, d1, d2, bxe, pxe, lpf, hdS, hd1, pick, forget, frh, frz, frS, frA, frL]
 repeat' with_reducible first | apply And.intro | apply condP <;> intro _
 all_goals first | (show chk _ _ = true; kernel_rfl) | assumption | rfl | (simp only [go_sem, *] <;> rfl)
def gVVJ (k : Q → Q → J → Prop × AV) : List AV → Option (Prop × AV)
 | [.v true mq, .v true mq1, .v true mj] => (match asVal mq, asVal mq1, asIv mj with
  | some q, some q1, some j => some (k q q1 j)
  | _, _, _ => none)
 | _ => none
noncomputable def T7_within : Tbl := one 27 (gVVJ fun q q1 j => (q1 = ofz 1 0 ∧ hasJ j (qx q) = true ∧ Valid q ∧ GJ j, bA true))
theorem T7_within_ok : TbOK Tryz.prog T7_within := one_ok (ent Tryz.func27 (by kernel_rfl) rfl) fun args e h hp => by
 unfold gVVJ at h
 split at h
 ·split at h
  ·rename_i mq mq1 mj q q1 j h1 h2 h3
   injection h with h; subst h
   rw [asVal_eq h1, asVal_eq h2, asIv_eq h3, hp.1]
   exact s_within q j hp.2
  ·cases h
 ·cases h
end Go.Proofs.YtobcbhppmgnioaaGreatDoor
