/- SeriesHolds. -/
import Derived.Test.YtobcbhppmgnioaaGreatDoorSArL
import Derived.Test.YtobcbhppmgnioaaGreatDoorSAoU
import Derived.Test.YtobcbhppmgnioaaGreatDoorSAm2
namespace Go.Proofs.YtobcbhppmgnioaaGreatDoor
open Go.RowKit Nx
set_option linter.unusedVariables false
set_option linter.unusedSimpArgs false
attribute [local go_sem] X.eta J.eta Q.eta brkf_b brkf_t exef_some exif_some condf_b postf_some memOf cntF nmL rnL nmA rnA isV contsOf ndB refO orO pin Int.toNat_zero decide_eq_true_eq wrap0 wrap1 ci1 ci2 BEq.rfl beq_self_eq_true Int.natCast_zero ge_iff_le gt_iff_lt Int.le_refl Nat.zero_mul Nat.one_mul Nat.zero_add Nat.zero_lt_succ Nat.lt_add_one Nat.le_refl List.append_eq dkO dpf_some rK rKI rKJ Int.toNat_natCast dk0 gV gVV gVI gIJJI noE boxL_nil boxL_cons ptsL_nil ptsL_cons bxe pxe bne_self_eq_false wr2 wr3 wr4 wr5 wr6 wr7 wr8 gB gP gBB gBP gBZ gBBZ bC_nil bC_cons pC_nil pC_cons fvO Lc.up tyB tiS tiBB List.replicate_succ List.replicate_zero List.flatten_cons List.flatten_nil Int.ofNat_lt Int.cast_ofNat_Int Int.ofNat_eq_natCast List.isEmpty_nil List.isEmpty_cons and_false false_and List.cons_ne_nil Nat.add_zero ite_true ite_false if_true if_false Nat.le_zero_eq eq_self tyM tiQ tiMM gA gE asZ asT asV1 asN1 asB_b asP_b asM_m asQ_m ite_self hoO hoK hpin hoO2 hoK2 hpin2 gINNIB
attribute [local go_sem ↓] not_cond outL_box outL_pts clL_box clL_pts okL_box okL_pts ment_box ment_pts olL_box olL_pts cvL_box cvL_pts noO_box noO_pts asB_box asP_pts len_box len_pts cb_box cb_pts
attribute [local irreducible] chk
theorem prc_prl {z : Int} (h : prl z = true) : prcB z = true := by
 unfold prl at h
 simp only [Bool.and_eq_true, decide_eq_true_eq] at h
 unfold prcB
 rw [decide_eq_true h.1, cond_true, decide_eq_true h.2]
theorem rch_of {a : List J} {k : Nat} (h : k < a.length) (hg : ∀ j ∈ a, okJ j = true) : rch a k = true := by
 unfold rch
 rw [decide_eq_true h, Bool.true_and]
 exact List.all_eq_true.2 fun j hj => hg j (List.mem_of_mem_take hj)
theorem inbx_end (xs : List Nat) (l : List J) (k : Nat) : (inbx xs l k).2 = k + l.length := by
 show (seqD _ k l.length).2 = _
 generalize l.length = n
 induction n with
 | zero => rfl
 | succ n ih => show (seqD _ k n).2 + 1 = _; rw [ih]; omega
set_option maxRecDepth 100000 in
set_option maxHeartbeats 4000000 in
theorem v_seh (xs : List Nat) (A : Option Addr) (n c : Nat) : LC6 5 A n c xs [.s (.lit (.slice A n c))] := by
 refine lc6_of (O := orO ofO (orO (dkO 12 A n c (rKI fun k z => (k ≤ 1000 ∧ 0 < z ∧ z ≤ 1000, iA ((dk xs k % z.toNat : Nat) : Int), k + 1))) (orO (dkO 13 A n c (rK fun k => (k ≤ 900, iA (precD xs k).1, (precD xs k).2))) (orO (dkO 14 A n c (rKI fun k z => (1 ≤ z ∧ z ≤ 100 ∧ k + 3 * z.toNat ≤ 800, .s (.sl true 6 (sbx xs z.toNat k).1.length (bC (sbx xs z.toNat k).1)), (sbx xs z.toNat k).2))) (orO (dkO 15 A n c (rK fun k => (k ≤ 800, jA (sivD xs k).1, (sivD xs k).2))) (orO (dkO 18 A n c (rKA asB fun k l => ((∀ j ∈ l, Good j) ∧ 1 ≤ l.length ∧ l.length ≤ 100 ∧ k + l.length ≤ 900, .s (.sl true 3 (inbx xs l k).1.length (pC (inbx xs l k).1)), (inbx xs l k).2))) (orO (dkO 19 A n c (rKJ fun k j => (Good j ∧ k ≤ 900, xA (inD xs j k), k + 1))) (tblO (orT Tse_known (orT Tse_Coef (orT Tse_Sum (orT Tiv_Right (orT Tref_Of (orT Tref_By (orT Tref_Plus (orT Tse_Pow (orT T7_within Tref_Whole))))))))))))))))) (by kernel_rfl) tyM_ok (fun w hA hn => only_or ofO_only (ofO_ok _ _) (only_or dkO_only (dkO_ok (xs := xs) (ent Tryz.func12 (by kernel_rfl) rfl) (rKI_ok fun k z hp => dn_dct hp) hA hn) (only_or dkO_only (dkO_ok (xs := xs) (ent Tryz.func13 (by kernel_rfl) rfl) (rK_ok fun k hp => (precD_spec hp).2.2.2) hA hn) (only_or dkO_only (dkO_ok (xs := xs) (ent Tryz.func14 (by kernel_rfl) rfl) (rKI_ok fun k z hp => d_sbx' hp) hA hn) (only_or dkO_only (dkO_ok (xs := xs) (ent Tryz.func15 (by kernel_rfl) rfl) (rK_ok fun k hp => (sivD_spec hp).2.2.2) hA hn) (only_or dkO_only (dkO_ok (xs := xs) (ent Tryz.func18 (by kernel_rfl) rfl) (rKA_ok asB_ok fun k l hp => d_inbx' hp) hA hn) (only_or dkO_only (dkO_ok (xs := xs) (ent Tryz.func19 (by kernel_rfl) rfl) (rKJ_ok fun k j hp => (inD_spec hp.1 hp.2).2.1) hA hn) (tblO_ok (orT_ok Tse_known_ok (orT_ok Tse_Coef_ok (orT_ok Tse_Sum_ok (orT_ok Tiv_Right_ok (orT_ok Tref_Of_ok (orT_ok Tref_By_ok (orT_ok Tref_Plus_ok (orT_ok Tse_Pow_ok (orT_ok T7_within_ok Tref_Whole_ok))))))))) _ w) (fun d st args => by simp [orO, refO, dkO, ofO, tblO, orT, noT, one, Tse_known, Tse_Coef, Tse_Sum, Tiv_Right, Tref_Of, Tref_By, Tref_Plus, Tse_Pow, T7_within, Tref_Whole])) (fun d st args => by simp [orO, refO, dkO, ofO, tblO, orT, noT, one, Tse_known, Tse_Coef, Tse_Sum, Tiv_Right, Tref_Of, Tref_By, Tref_Plus, Tse_Pow, T7_within, Tref_Whole])) (fun d st args => by simp [orO, refO, dkO, ofO, tblO, orT, noT, one, Tse_known, Tse_Coef, Tse_Sum, Tiv_Right, Tref_Of, Tref_By, Tref_Plus, Tse_Pow, T7_within, Tref_Whole])) (fun d st args => by simp [orO, refO, dkO, ofO, tblO, orT, noT, one, Tse_known, Tse_Coef, Tse_Sum, Tiv_Right, Tref_Of, Tref_By, Tref_Plus, Tse_Pow, T7_within, Tref_Whole])) (fun d st args => by simp [orO, refO, dkO, ofO, tblO, orT, noT, one, Tse_known, Tse_Coef, Tse_Sum, Tiv_Right, Tref_Of, Tref_By, Tref_Plus, Tse_Pow, T7_within, Tref_Whole])) (fun d st args => by simp [orO, refO, dkO, ofO, tblO, orT, noT, one, Tse_known, Tse_Coef, Tse_Sum, Tiv_Right, Tref_Of, Tref_By, Tref_Plus, Tse_Pow, T7_within, Tref_Whole])) (fun d st args => by simp [orO, refO, dkO, ofO, tblO, orT, noT, one, Tse_known, Tse_Coef, Tse_Sum, Tiv_Right, Tref_Of, Tref_By, Tref_Plus, Tse_Pow, T7_within, Tref_Whole])) [9999999, 4, 8, 18, 20, 22, 23, 24, 25, 28, 29, 32, 33, 34, 35, 36] ((dk xs 0 % 6 + 1 + 1) * 600 + 2000) 119 [.tmp 2] Tryz.func5 rfl Tryz.ntmps5 (by rw [Tryz.results5]) (by simp) rfl (fun hsm hs => ?_)
 have hq : dk xs 0 % 6 ≤ 5 := by omega
 generalize hd : dk xs 0 % 6 = q at hq
 obtain ⟨gz, uz, tz, _⟩ := precD_spec (xs := xs) (k := 1) (by omega)
 generalize hpz : precD xs 1 = pz at gz uz tz
 obtain ⟨z, k1⟩ := pz
 replace gz : prl z = true := gz
 replace tz : k1 ≤ 1 + 2 := tz
 obtain ⟨la, ga, ua, ta⟩ := sbx_spec (xs := xs) (m := q + 1) (k := k1) (by omega)
 generalize hpa : sbx xs (q + 1) k1 = pa at la ga ua ta
 obtain ⟨a, k2⟩ := pa
 replace la : a.length = q + 1 := la
 replace ga : ∀ j ∈ a, Good j ∧ FewJ j := ga
 replace ta : k2 ≤ k1 + 3 * (q + 1) := ta
 have wa : k2 ≤ 21 := by omega
 obtain ⟨lb, gb, ub, tb⟩ := sbx_spec (xs := xs) (m := q + 1) (k := k2) (by omega)
 generalize hpb : sbx xs (q + 1) k2 = pb at lb gb ub tb
 obtain ⟨b, k3⟩ := pb
 replace lb : b.length = q + 1 := lb
 replace gb : ∀ j ∈ b, Good j ∧ FewJ j := gb
 replace tb : k3 ≤ k2 + 3 * (q + 1) := tb
 have wb : k3 ≤ 39 := by omega
 obtain ⟨⟨gh, fh⟩, uh, th, _⟩ := sivD_spec (xs := xs) (k := k3) (by omega)
 generalize hph : sivD xs k3 = ph at gh fh uh th
 obtain ⟨h, k4⟩ := ph
 replace gh : Good h := gh
 replace fh : FewJ h := fh
 replace th : k4 ≤ k3 + 3 := th
 have lx : (inbx xs a k4).1.length = q + 1 := by rw [inbx_len, la]
 have hx : PtB a (inbx xs a k4).1 := fun i hi => by
  rw [inbx_get hi]
  have hm := ga _ (List.mem_of_getElem? (at_get zJ hi))
  have := inD_spec (xs := xs) (j := a.getD i zJ) (k := k4 + i) hm.1 (by omega)
  exact ⟨hm.1, hm.2, this.1.1, this.1.2, this.2.2 hm.2⟩
 have ex : (inbx xs a k4).2 ≤ k4 + (q + 1) := by
  have := inbx_end xs a k4; omega
 generalize hpx : inbx xs a k4 = px at lx hx ex
 obtain ⟨x, k5⟩ := px
 replace lx : x.length = q + 1 := lx
 replace hx : PtB a x := hx
 replace ex : k5 ≤ k4 + (q + 1) := ex
 have ly : (inbx xs b k5).1.length = q + 1 := by rw [inbx_len, lb]
 have hy : PtB b (inbx xs b k5).1 := fun i hi => by
  rw [inbx_get hi]
  have hm := gb _ (List.mem_of_getElem? (at_get zJ hi))
  have := inD_spec (xs := xs) (j := b.getD i zJ) (k := k5 + i) hm.1 (by omega)
  exact ⟨hm.1, hm.2, this.1.1, this.1.2, this.2.2 hm.2⟩
 have ey : (inbx xs b k5).2 ≤ k5 + (q + 1) := by
  have := inbx_end xs b k5; omega
 generalize hpy : inbx xs b k5 = py at ly hy ey
 obtain ⟨y, k6⟩ := py
 replace ly : y.length = q + 1 := ly
 replace hy : PtB b y := hy
 replace ey : k6 ≤ k5 + (q + 1) := ey
 obtain ⟨⟨gt, mt⟩, _, bt⟩ := inD_spec (xs := xs) (j := h) (k := k6) gh (by omega)
 replace bt := bt fh
 generalize hpt : inD xs h k6 = t at gt mt bt
 obtain ⟨cs, eC, gC, mC, vC⟩ := co_hold gz (show q ≤ 50 by omega) la lb hx hy
 obtain ⟨ss, eS, gS, mS, _⟩ := su_hold gz hq la hx gh fh mt gt bt
 have cX : ∀ i, Canon ((fun i => (x.getD i zX).q) i) := fun i => by
  rcases Nat.lt_or_ge i (q + 1) with hi | hi
  ·have g := hx i (by omega); exact (ok_arg g.2.2.1.1 g.2.2.1.2).1
  ·show Canon (x.getD i zX).q
   rw [List.getD_eq_getElem?_getD, List.getElem?_eq_none (by omega)]; exact canon0
 have cT : Canon t.q := (ok_arg gt.1 gt.2).1
 have vP : ∀ j, j ≤ q + 1 → Valid (sq (fun i => (x.getD i zX).q) (pw t.q) j) := sp_vb cX (fun i hi => (hx i (by omega)).2.2.2.2) cT bt (by omega)
 rw [hr_all cX cT] at mS
 replace mS : hasJ ss (qx (sq (fun i => (x.getD i zX).q) (pw t.q) (q + 1))) = true := mS
 have aG : ∀ j ∈ a, okJ j = true := fun j hj => (ga j hj).1.1
 have bG : ∀ j ∈ b, okJ j = true := fun j hj => (gb j hj).1.1
 have cZ : coZ a b ((q : Nat) : Int) z = (cs, 0) := by
  unfold coZ okC
  rw [ordB_iff.2 ⟨by omega, by omega⟩, Int.toNat_natCast, rch_of (by omega) aG, rch_of (by omega) bG, prc_prl gz]
  exact eC
 have sZ : suZ a h z = (ss, 0) := by
  unfold suZ okU
  rw [la, show (((q + 1 : Nat) : Int) - 1) = ((q : Nat) : Int) by omega, ordB_iff.2 ⟨by omega, by omega⟩, Int.toNat_natCast, rch_of (by omega) aG, gh.1, prc_prl gz]
  exact eS
 have okc : okJ cs = true := gC.1
 have oks : okJ ss = true := gS.1
 have gjc := gC.2
 have gjs := gS.2
 have a1 : a.length ≤ 1000 := by omega
 have ox : ∀ i, i < q + 1 → GX (x.getD i zX) ∧ Bd 132 (x.getD i zX).q := fun i hi => by have g := hx i (by omega); exact ⟨g.2.2.1, g.2.2.2.2⟩
 have oy : ∀ i, i < q + 1 → GX (y.getD i zX) ∧ Bd 132 (y.getD i zX).q := fun i hi => by have g := hy i (by omega); exact ⟨g.2.2.1, g.2.2.2.2⟩
 have vm : ∀ x y : X, GX x → GX y → Bd 132 x.q → Bd 132 y.q → Vb (times x.q y.q) := fun x y _ _ h1 h2 => vb_of ⟨ofz_canon _ _, (bd_times h1 h2).fits (by omega)⟩
 have vp : ∀ i, i < q + 1 → Vb (times (x.getD i zX).q (pw t.q i)) := fun i hi => vb_of ⟨ofz_canon _ _, (bn_bd (ofz_canon _ _) (bn_times (bn_of_bd (ox i hi).2) (pw_bn bt i))).fits (by omega)⟩
 have p1 : (1 : Int) ≤ ((q + 1 : Nat) : Int) := by omega
 have p2 : ((q + 1 : Nat) : Int) ≤ 100 := by omega
 have w1 : IntKind.i64.wrap ((q : Int) + 1) = ((q + 1 : Nat) : Int) := wrap_nat (by omega)
 have p3 : k1 + 3 * (q + 1) ≤ 800 := by omega
 have p4 : k2 + 3 * (q + 1) ≤ 800 := by omega
 have p5 : ∀ j ∈ a, Good j := fun j hj => (ga j hj).1
 have p6 : ∀ j ∈ b, Good j := fun j hj => (gb j hj).1
 have p7 : k4 + a.length ≤ 900 := by omega
 have p8 : k5 + b.length ≤ 900 := by omega
 have okt : t.ok = true := gt.1
 have vwt : Vw t.q := vw_of (ok_arg gt.1 gt.2)
 have hdq : ((dk xs 0 % 6 : Nat) : Int) = ((q : Nat) : Int) := by rw [hd]
 clear uz tz ua ta ub tb uh th hx hy eC eS gC gS ga gb
 simp (maxSteps := 10000000) only [go_sem, seval, reduceCtorEq, Tse_known, Tse_Coef, Tse_Sum, Tiv_Right, Tref_Of, Tref_By, Tref_Plus, Tse_Pow, T7_within, Tref_Whole, rKB, rKA, ofO, hd, hpz, hpa, hpb, hph, hpx, hpy, hpt, cZ, sZ, w1, gVVJ, okc, oks, okt, kEx, hdq]
 repeat' with_reducible first | apply And.intro | apply condP <;> intro _
 all_goals first | (show chk _ _ = true; kernel_rfl) | with_reducible assumption | omega | rfl | skip
 refine loop_ind 600 (fun i => [(4, bA false), (8, iA (q : Int)), (18, .s (.sl true 3 x.length (pC x))), (20, .s (.sl true 3 y.length (pC y))), (22, .s (.own 11 0)), (23, .v true t.L), (24, .s (.own 12 0)), (25, .v true cs.L), (28, .s (.own 14 0)), (29, .v true ss.L), (32, .s (.own 16 0)), (33, .v true (vL (sq (fun i => (x.getD i zX).q) (fun i => (y.getD (q - i) zX).q) i))), (34, .s (.own 17 0)), (35, .v true (vL (sq (fun i => (x.getD i zX).q) (pw t.q) i))), (36, iA (i : Int))]) (q + 1) (fun i => True) 0 (fun i _ => rfl) (fun i m1 _ hi _ ih => ?_) (by omega) trivial rfl
 rcases Nat.lt_or_ge i (q + 1) with hlt | hge
 ·replace ih := ih hlt trivial
  have gi : ((i : Int) ≤ (q : Int)) = True := eq_true (by omega)
  have g10 : (0 ≤ (i : Int)) = True := eq_true (by omega)
  have hw1 := wrap_nat (j := i) (by omega)
  have e1 : (q : Int) - (i : Int) = ((q - i : Nat) : Int) := by omega
  have hw2 : IntKind.i64.wrap ((q - i : Nat) : Int) = ((q - i : Nat) : Int) := by rw [IntKind.wrap_i64]; omega
  have g11 : (0 ≤ ((q - i : Nat) : Int)) = True := eq_true (by omega)
  have gx : (i < x.length) = True := eq_true (by omega)
  have gy : (q - i < y.length) = True := eq_true (by omega)
  have ex := pC_at' (at_get zX (show i < x.length by omega))
  have ey := pC_at' (at_get zX (show q - i < y.length by omega))
  obtain ⟨o1, o2⟩ := ox i hlt
  obtain ⟨o3, o4⟩ := oy (q - i) (by omega)
  have k1' : (x.getD i zX).ok = true := o1.1
  have k2' : (y.getD (q - i) zX).ok = true := o3.1
  have k3' : Vw (x.getD i zX).q := vw_of (ok_arg o1.1 o1.2)
  have k4' : Vw (y.getD (q - i) zX).q := vw_of (ok_arg o3.1 o3.2)
  have k5' := vm _ _ o1 o3 o2 o4
  have k6' := vb_of (vC i (by omega)).1
  have k7' := vb_of (vP i (by omega))
  have k8' := vp i hlt
  have k9' := pw_vw bt (show i ≤ 8 by omega)
  simp (maxSteps := 10000000) only [go_sem, seval, reduceCtorEq, Tse_known, Tse_Coef, Tse_Sum, Tiv_Right, Tref_Of, Tref_By, Tref_Plus, Tse_Pow, T7_within, Tref_Whole, rKB, rKA, ofO, hd, hpz, hpa, hpb, hph, hpx, hpy, hpt, cZ, sZ, w1, gVVJ, okc, oks, okt, kEx, hdq, gi, g10, hw1, e1, hw2, g11, gx, gy, ex, ey]
  repeat' with_reducible first | apply And.intro | apply condP <;> intro _
  all_goals first | (show chk _ _ = true; kernel_rfl) | (exact ih _ _ rfl) | with_reducible assumption | rfl | omega
 ·obtain rfl : i = q + 1 := by omega
  have gi : (((q + 1 : Nat) : Int) ≤ (q : Int)) = False := eq_false (by omega)
  have v1 := (vC (q + 1) (Nat.le_refl _)).1
  have v2 := vP (q + 1) (Nat.le_refl _)
  simp (maxSteps := 10000000) only [go_sem, seval, reduceCtorEq, Tse_known, Tse_Coef, Tse_Sum, Tiv_Right, Tref_Of, Tref_By, Tref_Plus, Tse_Pow, T7_within, Tref_Whole, rKB, rKA, ofO, hd, hpz, hpa, hpb, hph, hpx, hpy, hpt, cZ, sZ, w1, gVVJ, okc, oks, okt, kEx, hdq, gi]
  repeat' with_reducible first | apply And.intro | apply condP <;> intro _
  all_goals first | (show chk _ _ = true; kernel_rfl) | assumption | rfl | (simp only [go_sem, *] <;> rfl)
theorem seriesholds_walk (W : World) (a : Option Addr) (l c : Nat) (xs : List Nat) (hx : Arg W a l c xs) (ht : Tab W) : Calls Tryz.prog 5 #[.slice a l c] W fun e w' => e = .returned (.bool true) ∧ Below W.heap.size W w' := by
 have hA : RA envA (fun _ => false) W [.s (.lit (.slice a l c))] [.slice a l c] := ⟨_, _, rfl, RL.one.2 rfl, rfl⟩
 exact v_seh xs a l c W _ ht hx hA
end Go.Proofs.YtobcbhppmgnioaaGreatDoor
