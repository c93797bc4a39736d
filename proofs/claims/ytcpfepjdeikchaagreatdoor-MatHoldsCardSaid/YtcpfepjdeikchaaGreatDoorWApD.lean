/- MatHolds. -/
import Derived.Test.YtcpfepjdeikchaaGreatDoorWApC
import Derived.Test.YtcpfepjdeikchaaGreatDoorWAo5
namespace Go.Proofs.YtcpfepjdeikchaaGreatDoor
open Go.RowKit Nx
set_option linter.unusedVariables false
set_option linter.unusedSimpArgs false
attribute [local go_sem] dkO dpf_some rK rKI rKJ dk0 gVV gIJJI bxe tyM tiQ tiMM gA gE asZ asT asV1 asN1 asB_b asP_b asM_m asQ_m ite_self hoO hoK hpin hoO2 hoK2 hpin2 gINNIB
attribute [local go_sem ↓] cb_box cb_pts
attribute [local irreducible] chk
set_option maxRecDepth 100000 in
set_option maxHeartbeats 4000000 in
theorem v_mh (xs : List Nat) (A : Option Addr) (n c : Nat) : LC6 5 A n c xs [.s (.lit (.slice A n c))] := by
 refine lc6_of (O := orO ofO (orO (dkO 19 A n c (rK fun k => (k ≤ 900, iA ((dk xs k % 4 + 1 : Nat) : Int), k + 1))) (orO (dkO 20 A n c (rKI fun k z => (1 ≤ z ∧ z ≤ 100 ∧ k + 3 * z.toNat * z.toNat ≤ 800, .s (mL (matD xs z.toNat k).1), (matD xs z.toNat k).2))) (orO (dkO 22 A n c (rKI fun k z => (1 ≤ z ∧ z ≤ 100 ∧ k + 3 * z.toNat ≤ 800, .s (.sl true 6 (sbx xs z.toNat k).1.length (bC (sbx xs z.toNat k).1)), (sbx xs z.toNat k).2))) (orO (dkO 23 A n c (rK fun k => (k ≤ 900, iA (precD xs k).1, (precD xs k).2))) (orO (dkO 24 A n c (rKA asM fun k m => ((∀ r ∈ m, r.length = m.length ∧ ∀ j ∈ r, Good j) ∧ 1 ≤ m.length ∧ m.length ≤ 100 ∧ k + m.length * m.length ≤ 900, .s (qL (inmt xs m k).1), (inmt xs m k).2))) (orO (dkO 27 A n c (rKA asB fun k l => ((∀ j ∈ l, Good j) ∧ 1 ≤ l.length ∧ l.length ≤ 100 ∧ k + l.length ≤ 900, .s (.sl true 3 (inbx xs l k).1.length (pC (inbx xs l k).1)), (inbx xs l k).2))) (tblO (orT T7_known (orT TmMul (orT TmVec (orT Tref_RightIv (orT Tref_Of (orT Tref_By (orT Tref_Plus (orT Tref_Whole T7_within)))))))))))))))) (by kernel_rfl) tyM_ok (fun w hA hn => only_or ofO_only (ofO_ok _ _) (only_or dkO_only (dkO_ok (xs := xs) (ent Tryz.func19 (by kernel_rfl) rfl) (rK_ok fun k hp => d_dimS xs k hp) hA hn) (only_or dkO_only (dkO_ok (xs := xs) (ent Tryz.func20 (by kernel_rfl) rfl) (rKI_ok fun k z hp => d_mat' hp) hA hn) (only_or dkO_only (dkO_ok (xs := xs) (ent Tryz.func22 (by kernel_rfl) rfl) (rKI_ok fun k z hp => d_sbx' hp) hA hn) (only_or dkO_only (dkO_ok (xs := xs) (ent Tryz.func23 (by kernel_rfl) rfl) (rK_ok fun k hp => (precD_spec hp).2.2.2) hA hn) (only_or dkO_only (dkO_ok (xs := xs) (ent Tryz.func24 (by kernel_rfl) rfl) (rKA_ok asM_ok fun k m hp => d_inmt' hp) hA hn) (only_or dkO_only (dkO_ok (xs := xs) (ent Tryz.func27 (by kernel_rfl) rfl) (rKA_ok asB_ok fun k l hp => d_inbx' hp) hA hn) (tblO_ok (orT_ok T7_known_ok (orT_ok TmMul_ok (orT_ok TmVec_ok (orT_ok Tref_RightIv_ok (orT_ok Tref_Of_ok (orT_ok Tref_By_ok (orT_ok Tref_Plus_ok (orT_ok Tref_Whole_ok T7_within_ok)))))))) _ w) (fun d st args => by simp [orO, refO, dkO, ofO, tblO, orT, noT, one, T7_known, TmMul, TmVec, Tref_RightIv, Tref_Of, Tref_By, Tref_Plus, Tref_Whole, T7_within])) (fun d st args => by simp [orO, refO, dkO, ofO, tblO, orT, noT, one, T7_known, TmMul, TmVec, Tref_RightIv, Tref_Of, Tref_By, Tref_Plus, Tref_Whole, T7_within])) (fun d st args => by simp [orO, refO, dkO, ofO, tblO, orT, noT, one, T7_known, TmMul, TmVec, Tref_RightIv, Tref_Of, Tref_By, Tref_Plus, Tref_Whole, T7_within])) (fun d st args => by simp [orO, refO, dkO, ofO, tblO, orT, noT, one, T7_known, TmMul, TmVec, Tref_RightIv, Tref_Of, Tref_By, Tref_Plus, Tref_Whole, T7_within])) (fun d st args => by simp [orO, refO, dkO, ofO, tblO, orT, noT, one, T7_known, TmMul, TmVec, Tref_RightIv, Tref_Of, Tref_By, Tref_Plus, Tref_Whole, T7_within])) (fun d st args => by simp [orO, refO, dkO, ofO, tblO, orT, noT, one, T7_known, TmMul, TmVec, Tref_RightIv, Tref_Of, Tref_By, Tref_Plus, Tref_Whole, T7_within])) (fun d st args => by simp [orO, refO, dkO, ofO, tblO, orT, noT, one, T7_known, TmMul, TmVec, Tref_RightIv, Tref_Of, Tref_By, Tref_Plus, Tref_Whole, T7_within])) [9999996, 168, 9, 266, 13, 9999999, 4, 8, 18, 20, 22, 24, 28, 32, 9999999, 4, 8, 18, 20, 22, 24, 28, 32, 34, 35, 36, 38, 9999999, 4, 8, 18, 20, 22, 24, 28, 32, 34, 35, 36, 38, 40, 41, 42] ((dk xs 0 % 4 + 1 + 1) * 60000 + 1000) 180 [.tmp 2] Tryz.func5 rfl Tryz.ntmps5 (by rw [Tryz.results5]) (by simp) rfl (fun hsm hs => ?_)
 have hq : dk xs 0 % 4 ≤ 3 := by omega
 generalize hd : dk xs 0 % 4 = q at hq
 obtain ⟨s1, s2⟩ := sq4 hq
 have ga := matD_goodF (xs := xs) (m := q + 1) (k := 1) (by omega)
 have ua := matD_spec (xs := xs) (m := q + 1) (k := 1) (i := q + 1) (Nat.le_refl _) (by omega)
 replace ua : 1 ≤ (matD xs (q + 1) 1).2 ∧ (matD xs (q + 1) 1).2 ≤ 1 + 3 * (q + 1) * (q + 1) := ua
 generalize hpa : matD xs (q + 1) 1 = pa at ga ua
 obtain ⟨a, k1⟩ := pa
 replace ua : 1 ≤ k1 ∧ k1 ≤ 1 + 3 * (q + 1) * (q + 1) := ua
 replace ga : GoodF (q + 1) a := ga
 have wa : k1 ≤ 49 := by omega
 have gb := matD_goodF (xs := xs) (m := q + 1) (k := k1) (by omega)
 have ub := matD_spec (xs := xs) (m := q + 1) (k := k1) (i := q + 1) (Nat.le_refl _) (by omega)
 replace ub : k1 ≤ (matD xs (q + 1) k1).2 ∧ (matD xs (q + 1) k1).2 ≤ k1 + 3 * (q + 1) * (q + 1) := ub
 generalize hpb : matD xs (q + 1) k1 = pb at gb ub
 obtain ⟨b, k2⟩ := pb
 replace ub : k1 ≤ k2 ∧ k2 ≤ k1 + 3 * (q + 1) * (q + 1) := ub
 replace gb : GoodF (q + 1) b := gb
 have wb : k2 ≤ 97 := by omega
 obtain ⟨lv, gv, uv, tv⟩ := sbx_spec (xs := xs) (m := q + 1) (k := k2) (by omega)
 generalize hpv : sbx xs (q + 1) k2 = pv at lv gv uv tv
 obtain ⟨v, k3⟩ := pv
 replace lv : v.length = q + 1 := lv
 replace gv : ∀ j ∈ v, Good j ∧ FewJ j := gv
 replace tv : k3 ≤ k2 + 3 * (q + 1) := tv
 have wv : k3 ≤ 109 := by omega
 obtain ⟨gz, uz, tz, _⟩ := precD_spec (xs := xs) (k := k3) (by omega)
 generalize hpz : precD xs k3 = pz at gz uz tz
 obtain ⟨z, k4⟩ := pz
 replace gz : prl z = true := gz
 replace tz : k4 ≤ k3 + 2 := tz
 have wz : k4 ≤ 111 := by omega
 have hpx := inmt_pts (xs := xs) (k := k4) ga.1 (by omega)
 have hbx := inmt_bd (xs := xs) (k := k4) ga (by omega)
 have hex := inmt_end (xs := xs) (k := k4) ga.1
 generalize hpi : inmt xs a k4 = pi at hpx hbx hex
 obtain ⟨x, k5⟩ := pi
 replace hpx : PtsM (q + 1) a x := hpx
 replace hbx : PtsB (q + 1) x := hbx
 replace hex : k5 = k4 + (q + 1) * (q + 1) := hex
 have hpy := inmt_pts (xs := xs) (k := k5) gb.1 (by omega)
 have hby := inmt_bd (xs := xs) (k := k5) gb (by omega)
 have hey := inmt_end (xs := xs) (k := k5) gb.1
 generalize hpj : inmt xs b k5 = pj at hpy hby hey
 obtain ⟨y, k6⟩ := pj
 replace hpy : PtsM (q + 1) b y := hpy
 replace hby : PtsB (q + 1) y := hby
 replace hey : k6 = k5 + (q + 1) * (q + 1) := hey
 have lw : (inbx xs v k6).1.length = q + 1 := by rw [inbx_len, lv]
 have hw : ∀ k, k < q + 1 → GX ((inbx xs v k6).1.getD k zX) ∧ hasJ (v.getD k zJ) ((inbx xs v k6).1.getD k zX) = true ∧ Bd 132 ((inbx xs v k6).1.getD k zX).q := fun k hk => by
  rw [inbx_get (by rw [lv]; exact hk)]
  have hm := gv _ (List.mem_of_getElem? (at_get zJ (show k < v.length by rw [lv]; exact hk)))
  have := inD_spec (xs := xs) (j := v.getD k zJ) (k := k6 + k) hm.1 (by omega)
  exact ⟨this.1.1, this.1.2, this.2.2 hm.2⟩
 generalize hpw : inbx xs v k6 = pw at lw hw
 obtain ⟨w, k7⟩ := pw
 replace lw : w.length = q + 1 := lw
 replace hw : ∀ k, k < q + 1 → GX (w.getD k zX) ∧ hasJ (v.getD k zJ) (w.getD k zX) = true ∧ Bd 132 (w.getD k zX).q := hw
 obtain ⟨U, eU, lU, hU⟩ := mul_hold gz (by omega) (by omega) ga gb hpx hpy hbx hby
 obtain ⟨W, eW, lW, hW⟩ := vec_hold gz (by omega) (by omega) ga hpx hbx lv gv hw
 have la := ga.1.1
 have lb := gb.1.1
 have lx := hpx.1
 have ly := hpy.1
 have p1 : (1 : Int) ≤ ((q + 1 : Nat) : Int) := by omega
 have p2 : ((q + 1 : Nat) : Int) ≤ 100 := by omega
 have p3 : 1 + 3 * (q + 1) * (q + 1) ≤ 800 := by omega
 have p4 : k1 + 3 * (q + 1) * (q + 1) ≤ 800 := by omega
 have p5 : ∀ r ∈ a, r.length = a.length ∧ ∀ j ∈ r, Good j := fun r hr => ⟨by rw [la]; exact (ga.1.2 r hr).1, (ga.1.2 r hr).2⟩
 have p6 : k4 + a.length * a.length ≤ 900 := by rw [la]; omega
 have p7 : ∀ r ∈ b, r.length = b.length ∧ ∀ j ∈ r, Good j := fun r hr => ⟨by rw [lb]; exact (gb.1.2 r hr).1, (gb.1.2 r hr).2⟩
 have p8 : k5 + b.length * b.length ≤ 900 := by rw [lb]; omega
 have p9 : ∀ j ∈ v, Good j := fun j hj => (gv j hj).1
 have pA : k6 + v.length ≤ 900 := by omega
 have hbW : boxL W = .sl true 6 (q + 1) (bC W) := by
  rw [← lW]
  cases W with
  | nil => simp at lW
  | cons c W => rfl
 have vS : ∀ i, i < q + 1 → ∀ k, k ≤ q + 1 → Valid (sq (fun k => (px x i k).q) (fun k => (w.getD k zX).q) k) := fun i hi k hk =>
  (dot_hold (js := fun k => at2 a i k) (ks := fun k => v.getD k zJ) (xs := fun k => px x i k) (ys := fun k => w.getD k zX) (n := q + 1) gz (fun k hk => ⟨(at2_few ga hi hk).1, (at2_few ga hi hk).2, (gv _ (List.mem_of_getElem? (at_get zJ (show k < v.length by rw [lv]; exact hk)))).1, (gv _ (List.mem_of_getElem? (at_get zJ (show k < v.length by rw [lv]; exact hk)))).2, ((hpx.2 i hi).2 k hk).1, (hw k hk).1, ((hpx.2 i hi).2 k hk).2, (hw k hk).2.1, hbx i hi k hk, (hw k hk).2.2⟩) (by omega) k hk).1
 have vT : ∀ i, i < q + 1 → ∀ j, j < q + 1 → ∀ k, k ≤ q + 1 → Valid (sq (fun k => (px x i k).q) (fun k => (px y k j).q) k) := fun i hi j hj k hk =>
  (dot_hold (js := fun k => at2 a i k) (ks := fun k => at2 b k j) (xs := fun k => px x i k) (ys := fun k => px y k j) (n := q + 1) gz (fun k hk => ⟨(at2_few ga hi hk).1, (at2_few ga hi hk).2, (at2_few gb hk hj).1, (at2_few gb hk hj).2, ((hpx.2 i hi).2 k hk).1, ((hpy.2 k hk).2 j hj).1, ((hpx.2 i hi).2 k hk).2, ((hpy.2 k hk).2 j hj).2, hbx i hi k hk, hby k hk j hj⟩) (by omega) k hk).1
 have vm : ∀ x y : X, GX x → GX y → Bd 132 x.q → Bd 132 y.q → Vb (times x.q y.q) := fun x y _ _ h1 h2 => vb_of ⟨ofz_canon _ _, (bd_times h1 h2).fits (by omega)⟩
 have rx : ∀ i, i < q + 1 → (x.getD i []).length = q + 1 := fun i hi => (hpx.2 i hi).1
 have ry : ∀ i, i < q + 1 → (y.getD i []).length = q + 1 := fun i hi => (hpy.2 i hi).1
 have ox : ∀ i, i < q + 1 → ∀ k, k < q + 1 → GX (px x i k) ∧ Bd 132 (px x i k).q := fun i hi k hk => ⟨((hpx.2 i hi).2 k hk).1, hbx i hi k hk⟩
 have oy : ∀ i, i < q + 1 → ∀ k, k < q + 1 → GX (px y i k) ∧ Bd 132 (px y i k).q := fun i hi k hk => ⟨((hpy.2 i hi).2 k hk).1, hby i hi k hk⟩
 have ow : ∀ k, k < q + 1 → GX (w.getD k zX) ∧ Bd 132 (w.getD k zX).q := fun k hk => ⟨(hw k hk).1, (hw k hk).2.2⟩
 clear s1 s2 ua ub tv uv tz uz hpx hpy hbx hby hw ga gb gv gz
 simp (maxSteps := 10000000) only [go_sem, seval, reduceCtorEq, T7_known, TmMul, TmVec, Tref_RightIv, Tref_Of, Tref_By, Tref_Plus, Tref_Whole, T7_within, rKB, rKA, ofO, hd, hpa, hpb, hpv, hpz, hpi, hpj, hpw, eU, eW, hbW, lU, mL, qL, gVVJ]
 repeat' with_reducible first | apply And.intro | apply condP <;> intro _
 all_goals first | (show chk _ _ = true; kernel_rfl) | with_reducible assumption | omega | rfl | skip
 refine loop_ind 60000 (fun i => [(4, bA false), (8, iA ((q + 1 : Nat) : Int)), (18, .s (qL x)), (20, .s (qL y)), (22, .s (.sl true 3 w.length (pC w))), (24, .s (.sl true 1 (q + 1) (U.map rC))), (28, .s (.sl true 6 (q + 1) (bC W))), (32, iA (i : Int))]) (q + 1) (fun i => True) 0 (fun i _ => rfl) (fun i m1 _ hi _ ih => ?_) (by omega) trivial (by simp only [hdS, hdU, hd1, pick, look, seval, Option.isSome_none, Option.isSome_some, cond_true, cond_false, ↓cond_true, ↓cond_false, List.take_succ_cons, List.drop_succ_cons, List.take_zero, List.drop_zero, beq_self_eq_true, List.nil_append])
 rcases Nat.lt_or_ge i (q + 1) with hlt | hge
 case inr =>
  obtain rfl : i = q + 1 := by omega
  simp (maxSteps := 10000000) only [go_sem, seval, reduceCtorEq, T7_known, TmMul, TmVec, Tref_RightIv, Tref_Of, Tref_By, Tref_Plus, Tref_Whole, T7_within, rKB, rKA, ofO, hd, hpa, hpb, hpv, hpz, hpi, hpj, hpw, eU, eW, hbW, lU, mL, qL, gVVJ]
  repeat' with_reducible first | apply And.intro | apply condP <;> intro _
  all_goals first | (show chk _ _ = true; kernel_rfl) | assumption | rfl | (simp only [go_sem, *] <;> rfl)
 replace ih := ih hlt trivial
 have gi : (i < q + 1) = True := eq_true hlt
 have g10 : (0 ≤ (i : Int)) = True := eq_true (by omega)
 have hw1 := wrap_nat (j := i) (by omega)
 have eU1 := rC_at (at_get [] (show i < U.length by omega))
 obtain ⟨lUi, hUi⟩ := hU i hlt
 obtain ⟨gWi, hWi⟩ := hW i hlt
 have eW1 := bC_at' (at_get zJ (show i < W.length by omega))
 have ex := rP_at (at_get [] (show i < x.length by omega))
 have gx : (i < x.length) = True := eq_true (by omega)
 have lxi := rx i hlt
 have okW : okJ (W.getD i zJ) = true := gWi.1
 have gjW := gWi.2
 simp (maxSteps := 10000000) only [go_sem, seval, reduceCtorEq, T7_known, TmMul, TmVec, Tref_RightIv, Tref_Of, Tref_By, Tref_Plus, Tref_Whole, T7_within, rKB, rKA, ofO, hd, hpa, hpb, hpv, hpz, hpi, hpj, hpw, eU, eW, hbW, lU, mL, qL, gVVJ, gi, g10, eU1, lUi]
 refine loop_ind 500 (fun k => [(4, bA false), (8, iA ((q + 1 : Nat) : Int)), (18, .s (qL x)), (20, .s (qL y)), (22, .s (.sl true 3 w.length (pC w))), (24, .s (.sl true 1 (q + 1) (U.map rC))), (28, .s (.sl true 6 (q + 1) (bC W))), (32, iA (i : Int)), (34, .s (.own 17 0)), (35, .v true (vL (sq (fun k => (px x i k).q) (fun k => (w.getD k zX).q) k))), (36, iA (k : Int))]) (q + 1) (fun k => True) (m1 + 50000) (fun k _ => rfl) (fun k m2 hL2 hk _ ihK => ?_) (by omega) trivial rfl
 obtain ⟨r2, rfl⟩ := Nat.exists_eq_add_of_le hL2
 rcases Nat.lt_or_ge k (q + 1) with hlt2 | hge2
 ·replace ihK := ihK hlt2 trivial
  have gk : (k < (x.getD i []).length) = True := eq_true (by omega)
  have gk1 : (k < q + 1) = True := eq_true hlt2
  have gk0 : (0 ≤ (k : Int)) = True := eq_true (by omega)
  have hw2 := wrap_nat (j := k) (by omega)
  have ek := pC_at' (at_get zX (show k < (x.getD i []).length by omega))
  have ew := pC_at' (at_get zX (show k < w.length by omega))
  have gw : (k < w.length) = True := eq_true (by omega)
  obtain ⟨o1, o2⟩ := ox i hlt k hlt2
  obtain ⟨o3, o4⟩ := ow k hlt2
  have k1' : (px x i k).ok = true := o1.1
  have k2' : (w.getD k zX).ok = true := o3.1
  have k3 : Vw (px x i k).q := vw_of (ok_arg o1.1 o1.2)
  have k4' : Vw (w.getD k zX).q := vw_of (ok_arg o3.1 o3.2)
  have k5' := vm _ _ o1 o3 o2 o4
  have k6' := vb_of (vS i hlt k (by omega))
  simp (maxSteps := 10000000) only [go_sem, seval, reduceCtorEq, T7_known, TmMul, TmVec, Tref_RightIv, Tref_Of, Tref_By, Tref_Plus, Tref_Whole, T7_within, rKB, rKA, ofO, hd, hpa, hpb, hpv, hpz, hpi, hpj, hpw, eU, eW, hbW, lU, mL, qL, gVVJ, gi, g10, eU1, lUi, ex, gx, ek, gk, gk1, gk0, ew, gw, hw2]
  repeat' with_reducible first | apply And.intro | apply condP <;> intro _
  all_goals first | (show chk _ _ = true; kernel_rfl) | (exact ihK _ _ rfl) | with_reducible assumption | rfl
 ·obtain rfl : k = q + 1 := by omega
  have vs := vS i hlt (q + 1) (Nat.le_refl _)
  have gw1 : (i < q + 1) = True := gi
  simp (maxSteps := 10000000) only [go_sem, seval, reduceCtorEq, T7_known, TmMul, TmVec, Tref_RightIv, Tref_Of, Tref_By, Tref_Plus, Tref_Whole, T7_within, rKB, rKA, ofO, hd, hpa, hpb, hpv, hpz, hpi, hpj, hpw, eU, eW, hbW, lU, mL, qL, gVVJ, gi, g10, eU1, lUi, eW1, okW]
  repeat' with_reducible first | apply And.intro | apply condP <;> intro _
  all_goals first | (show chk _ _ = true; kernel_rfl) | with_reducible assumption | rfl | skip
  refine loop_ind 6000 (fun j => [(4, bA false), (8, iA ((q + 1 : Nat) : Int)), (18, .s (qL x)), (20, .s (qL y)), (22, .s (.sl true 3 w.length (pC w))), (24, .s (.sl true 1 (q + 1) (U.map rC))), (28, .s (.sl true 6 (q + 1) (bC W))), (32, iA (i : Int)), (34, .s (.own 17 0)), (35, .v true (vL (sq (fun k => (px x i k).q) (fun k => (w.getD k zX).q) (q + 1)))), (36, iA ((q + 1 : Nat) : Int)), (38, iA (j : Int))]) (q + 1) (fun j => True) m1 (fun j _ => rfl) (fun j m3 hL3 hj _ ihJ => ?_) (by omega) trivial rfl
  obtain ⟨r3, rfl⟩ := Nat.exists_eq_add_of_le hL3
  rcases Nat.lt_or_ge j (q + 1) with hlt3 | hge3
  ·replace ihJ := ihJ hlt3 trivial
   have gj1 : (j < q + 1) = True := eq_true hlt3
   have gj0 : (0 ≤ (j : Int)) = True := eq_true (by omega)
   have hw3 := wrap_nat (j := j) (by omega)
   obtain ⟨gUj, hUj⟩ := hUi j hlt3
   simp (maxSteps := 10000000) only [go_sem, seval, reduceCtorEq, T7_known, TmMul, TmVec, Tref_RightIv, Tref_Of, Tref_By, Tref_Plus, Tref_Whole, T7_within, rKB, rKA, ofO, hd, hpa, hpb, hpv, hpz, hpi, hpj, hpw, eU, eW, hbW, lU, mL, qL, gVVJ, gi, g10, eU1, lUi, gj1]
   refine loop_ind 500 (fun k => [(4, bA false), (8, iA ((q + 1 : Nat) : Int)), (18, .s (qL x)), (20, .s (qL y)), (22, .s (.sl true 3 w.length (pC w))), (24, .s (.sl true 1 (q + 1) (U.map rC))), (28, .s (.sl true 6 (q + 1) (bC W))), (32, iA (i : Int)), (34, .s (.own 17 0)), (35, .v true (vL (sq (fun k => (px x i k).q) (fun k => (w.getD k zX).q) (q + 1)))), (36, iA ((q + 1 : Nat) : Int)), (38, iA (j : Int)), (40, .s (.own 20 0)), (41, .v true (vL (sq (fun k => (px x i k).q) (fun k => (px y k j).q) k))), (42, iA (k : Int))]) (q + 1) (fun k => True) (m1 + r3) (fun k _ => rfl) (fun k m4 hL4 hk _ ihT => ?_) (by omega) trivial rfl
   obtain ⟨r4, rfl⟩ := Nat.exists_eq_add_of_le hL4
   rcases Nat.lt_or_ge k (q + 1) with hlt4 | hge4
   ·replace ihT := ihT hlt4 trivial
    have gk : (k < (x.getD i []).length) = True := eq_true (by omega)
    have gk1 : (k < q + 1) = True := eq_true hlt4
    have gk0 : (0 ≤ (k : Int)) = True := eq_true (by omega)
    have hw2 := wrap_nat (j := k) (by omega)
    have ek := pC_at' (at_get zX (show k < (x.getD i []).length by omega))
    have ey := rP_at (at_get [] (show k < y.length by omega))
    have gy : (k < y.length) = True := eq_true (by omega)
    have lyk := ry k hlt4
    have ew := pC_at' (at_get zX (show j < (y.getD k []).length by omega))
    have gw : (j < (y.getD k []).length) = True := eq_true (by omega)
    obtain ⟨o1, o2⟩ := ox i hlt k hlt4
    obtain ⟨o3, o4⟩ := oy k hlt4 j hlt3
    have k1' : (px x i k).ok = true := o1.1
    have k2' : (px y k j).ok = true := o3.1
    have k3 : Vw (px x i k).q := vw_of (ok_arg o1.1 o1.2)
    have k4' : Vw (px y k j).q := vw_of (ok_arg o3.1 o3.2)
    have k5' := vm _ _ o1 o3 o2 o4
    have k6' := vb_of (vT i hlt j hlt3 k (by omega))
    simp (maxSteps := 10000000) only [go_sem, seval, reduceCtorEq, T7_known, TmMul, TmVec, Tref_RightIv, Tref_Of, Tref_By, Tref_Plus, Tref_Whole, T7_within, rKB, rKA, ofO, hd, hpa, hpb, hpv, hpz, hpi, hpj, hpw, eU, eW, hbW, lU, mL, qL, gVVJ, gi, g10, eU1, lUi, ex, gx, ek, gk, gk1, gk0, ey, gy, ew, gw, gj0, hw2]
    repeat' with_reducible first | apply And.intro | apply condP <;> intro _
    all_goals first | (show chk _ _ = true; kernel_rfl) | (exact ihT _ _ rfl) | with_reducible assumption | rfl
   ·obtain rfl : k = q + 1 := by omega
    have vt := vT i hlt j hlt3 (q + 1) (Nat.le_refl _)
    have eU2 := bC_at' (at_get zJ (show j < (U.getD i []).length by omega))
    have okU : okJ ((U.getD i []).getD j zJ) = true := gUj.1
    have gjU : GJ ((U.getD i []).getD j zJ) := gUj.2
    have hUk : hasJ ((U.getD i []).getD j zJ) (qx (sq (fun k => (px x i k).q) (fun k => (px y k j).q) (q + 1))) = true := hUj
    have gUl : (j < (U.getD i []).length) = True := eq_true (by omega)
    simp (maxSteps := 10000000) only [go_sem, seval, reduceCtorEq, T7_known, TmMul, TmVec, Tref_RightIv, Tref_Of, Tref_By, Tref_Plus, Tref_Whole, T7_within, rKB, rKA, ofO, hd, hpa, hpb, hpv, hpz, hpi, hpj, hpw, eU, eW, hbW, mL, qL, gVVJ, gi, g10, eU1, eU2, okU, gUl, gj0, hw3, lU]
    repeat' with_reducible first | apply And.intro | apply condP <;> intro _
    all_goals first | (show chk _ _ = true; kernel_rfl) | (rw [Nat.add_assoc (m1 + r3)]; exact ihJ _ _ rfl) | with_reducible assumption | rfl
  ·obtain rfl : j = q + 1 := by omega
   simp (maxSteps := 10000000) only [go_sem, seval, reduceCtorEq, T7_known, TmMul, TmVec, Tref_RightIv, Tref_Of, Tref_By, Tref_Plus, Tref_Whole, T7_within, rKB, rKA, ofO, hd, hpa, hpb, hpv, hpz, hpi, hpj, hpw, eU, eW, hbW, lU, mL, qL, gVVJ, hw1]
   repeat' with_reducible first | apply And.intro | apply condP <;> intro _
   all_goals first | (show chk _ _ = true; kernel_rfl) | (simp only [Nat.add_assoc]; exact ih _ _ rfl) | with_reducible assumption | rfl
theorem matholds_walk (W : World) (a : Option Addr) (l c : Nat) (xs : List Nat) (hx : Arg W a l c xs) (ht : Tab W) : Calls Tryz.prog 5 #[.slice a l c] W fun e w' => e = .returned (.bool true) ∧ Below W.heap.size W w' := by
 have hA : RA envA (fun _ => false) W [.s (.lit (.slice a l c))] [.slice a l c] := ⟨_, _, rfl, RL.one.2 rfl, rfl⟩
 exact v_mh xs a l c W _ ht hx hA
end Go.Proofs.YtcpfepjdeikchaaGreatDoor
