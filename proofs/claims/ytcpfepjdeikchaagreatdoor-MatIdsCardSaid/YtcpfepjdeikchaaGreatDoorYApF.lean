/- MatIds. -/
import Derived.Test.YtcpfepjdeikchaaGreatDoorYApE
import Derived.Test.YtcpfepjdeikchaaGreatDoorYAo5
namespace Go.Proofs.YtcpfepjdeikchaaGreatDoor
open Go.RowKit Nx
set_option linter.unusedVariables false
set_option linter.unusedSimpArgs false
attribute [local go_sem] dkO dpf_some rK rKI rKJ dk0 gV gVV gIJJI bxe tyM tiQ tiMM gA gE asZ asT asV1 asN1 asB_b asP_b asM_m asQ_m ite_self hoO hoK hpin hoO2 hoK2 hpin2 gINNIB
attribute [local go_sem ↓] cb_box cb_pts
attribute [local irreducible] chk
set_option maxRecDepth 100000 in
set_option maxHeartbeats 4000000 in
theorem v_mi (xs : List Nat) (A : Option Addr) (n c : Nat) : LC6 6 A n c xs [.s (.lit (.slice A n c))] := by
 refine lc6_of (O := orO ofO (orO (dkO 19 A n c (rK fun k => (k ≤ 900, iA ((dk xs k % 4 + 1 : Nat) : Int), k + 1))) (orO (dkO 20 A n c (rKI fun k z => (1 ≤ z ∧ z ≤ 100 ∧ k + 3 * z.toNat * z.toNat ≤ 800, .s (mL (matD xs z.toNat k).1), (matD xs z.toNat k).2))) (orO (dkO 22 A n c (rKI fun k z => (1 ≤ z ∧ z ≤ 100 ∧ k + 3 * z.toNat ≤ 800, .s (.sl true 6 (sbx xs z.toNat k).1.length (bC (sbx xs z.toNat k).1)), (sbx xs z.toNat k).2))) (orO (dkO 23 A n c (rK fun k => (k ≤ 900, iA (precD xs k).1, (precD xs k).2))) (orO (dkO 24 A n c (rKA asM fun k m => ((∀ r ∈ m, r.length = m.length ∧ ∀ j ∈ r, Good j) ∧ 1 ≤ m.length ∧ m.length ≤ 100 ∧ k + m.length * m.length ≤ 900, .s (qL (inmt xs m k).1), (inmt xs m k).2))) (orO (dkO 27 A n c (rKA asB fun k l => ((∀ j ∈ l, Good j) ∧ 1 ≤ l.length ∧ l.length ≤ 100 ∧ k + l.length ≤ 900, .s (.sl true 3 (inbx xs l k).1.length (pC (inbx xs l k).1)), (inbx xs l k).2))) (tblO (orT T7_known (orT TmId (orT TmMul (orT TmNrm (orT Tm_In (orT Tref_Abs (orT Tref_Of (orT Tref_Order (orT Tref_By (orT Tref_Plus (orT Tref_Val_Sign (orT Tref_Val_Turned Tnum_Sign)))))))))))))))))))) (by kernel_rfl) tyM_ok (fun w hA hn => only_or ofO_only (ofO_ok _ _) (only_or dkO_only (dkO_ok (xs := xs) (ent Tryz.func19 (by kernel_rfl) rfl) (rK_ok fun k hp => d_dimS xs k hp) hA hn) (only_or dkO_only (dkO_ok (xs := xs) (ent Tryz.func20 (by kernel_rfl) rfl) (rKI_ok fun k z hp => d_mat' hp) hA hn) (only_or dkO_only (dkO_ok (xs := xs) (ent Tryz.func22 (by kernel_rfl) rfl) (rKI_ok fun k z hp => d_sbx' hp) hA hn) (only_or dkO_only (dkO_ok (xs := xs) (ent Tryz.func23 (by kernel_rfl) rfl) (rK_ok fun k hp => (precD_spec hp).2.2.2) hA hn) (only_or dkO_only (dkO_ok (xs := xs) (ent Tryz.func24 (by kernel_rfl) rfl) (rKA_ok asM_ok fun k m hp => d_inmt' hp) hA hn) (only_or dkO_only (dkO_ok (xs := xs) (ent Tryz.func27 (by kernel_rfl) rfl) (rKA_ok asB_ok fun k l hp => d_inbx' hp) hA hn) (tblO_ok (orT_ok T7_known_ok (orT_ok TmId_ok (orT_ok TmMul_ok (orT_ok TmNrm_ok (orT_ok Tm_In_ok (orT_ok Tref_Abs_ok (orT_ok Tref_Of_ok (orT_ok Tref_Order_ok (orT_ok Tref_By_ok (orT_ok Tref_Plus_ok (orT_ok Tref_Val_Sign_ok (orT_ok Tref_Val_Turned_ok Tnum_Sign_ok)))))))))))) _ w) (fun d st args => by simp [orO, refO, dkO, ofO, tblO, orT, noT, one, T7_known, TmId, TmMul, TmNrm, Tm_In, Tref_Abs, Tref_Of, Tref_Order, Tref_By, Tref_Plus, Tref_Val_Sign, Tref_Val_Turned, Tnum_Sign])) (fun d st args => by simp [orO, refO, dkO, ofO, tblO, orT, noT, one, T7_known, TmId, TmMul, TmNrm, Tm_In, Tref_Abs, Tref_Of, Tref_Order, Tref_By, Tref_Plus, Tref_Val_Sign, Tref_Val_Turned, Tnum_Sign])) (fun d st args => by simp [orO, refO, dkO, ofO, tblO, orT, noT, one, T7_known, TmId, TmMul, TmNrm, Tm_In, Tref_Abs, Tref_Of, Tref_Order, Tref_By, Tref_Plus, Tref_Val_Sign, Tref_Val_Turned, Tnum_Sign])) (fun d st args => by simp [orO, refO, dkO, ofO, tblO, orT, noT, one, T7_known, TmId, TmMul, TmNrm, Tm_In, Tref_Abs, Tref_Of, Tref_Order, Tref_By, Tref_Plus, Tref_Val_Sign, Tref_Val_Turned, Tnum_Sign])) (fun d st args => by simp [orO, refO, dkO, ofO, tblO, orT, noT, one, T7_known, TmId, TmMul, TmNrm, Tm_In, Tref_Abs, Tref_Of, Tref_Order, Tref_By, Tref_Plus, Tref_Val_Sign, Tref_Val_Turned, Tnum_Sign])) (fun d st args => by simp [orO, refO, dkO, ofO, tblO, orT, noT, one, T7_known, TmId, TmMul, TmNrm, Tm_In, Tref_Abs, Tref_Of, Tref_Order, Tref_By, Tref_Plus, Tref_Val_Sign, Tref_Val_Turned, Tnum_Sign])) (fun d st args => by simp [orO, refO, dkO, ofO, tblO, orT, noT, one, T7_known, TmId, TmMul, TmNrm, Tm_In, Tref_Abs, Tref_Of, Tref_Order, Tref_By, Tref_Plus, Tref_Val_Sign, Tref_Val_Turned, Tnum_Sign])) [9999997, 220, 11, 9999999, 4, 8, 24, 25, 28, 30, 32, 33, 34, 38, 9999999, 4, 8, 24, 25, 28, 30, 32, 33, 34, 38, 40, 41, 42] ((dk xs 0 % 4 + 1 + 1) * 500 + 52000) 144 [.tmp 2] Tryz.func6 rfl Tryz.ntmps6 (by rw [Tryz.results6]) (by simp) rfl (fun hsm hs => ?_)
 have hq : dk xs 0 % 4 ≤ 3 := by omega
 generalize hd : dk xs 0 % 4 = q at hq
 obtain ⟨s1, s2⟩ := sq4 hq
 have ga := matD_goodF (xs := xs) (m := q + 1) (k := 1) (by omega)
 have ua := matD_spec (xs := xs) (m := q + 1) (k := 1) (i := q + 1) (Nat.le_refl _) (by omega)
 replace ua : 1 ≤ (matD xs (q + 1) 1).2 ∧ (matD xs (q + 1) 1).2 ≤ 1 + 3 * (q + 1) * (q + 1) := ua
 generalize hpa : matD xs (q + 1) 1 = pa at ga ua
 obtain ⟨a, k1⟩ := pa
 replace ua : 1 ≤ k1 ∧ k1 ≤ 1 + 3 * (q + 1) * (q + 1) := ua
 replace ga : GoodF (q + 1) a := ga
 have wa : k1 ≤ 49 := by omega
 obtain ⟨lv, gv, uv, tv⟩ := sbx_spec (xs := xs) (m := q + 1) (k := k1) (by omega)
 generalize hpv : sbx xs (q + 1) k1 = pv at lv gv uv tv
 obtain ⟨v, k2⟩ := pv
 replace lv : v.length = q + 1 := lv
 replace gv : ∀ j ∈ v, Good j ∧ FewJ j := gv
 replace tv : k2 ≤ k1 + 3 * (q + 1) := tv
 have wv : k2 ≤ 61 := by omega
 obtain ⟨gz, uz, tz, _⟩ := precD_spec (xs := xs) (k := k2) (by omega)
 generalize hpz : precD xs k2 = pz at gz uz tz
 obtain ⟨z, k3⟩ := pz
 replace gz : prl z = true := gz
 replace tz : k3 ≤ k2 + 2 := tz
 have wz : k3 ≤ 63 := by omega
 have hpx := inmt_pts (xs := xs) (k := k3) ga.1 (by omega)
 have hbx := inmt_bd (xs := xs) (k := k3) ga (by omega)
 have hex := inmt_end (xs := xs) (k := k3) ga.1
 generalize hpi : inmt xs a k3 = pi at hpx hbx hex
 obtain ⟨x, k4⟩ := pi
 replace hpx : PtsM (q + 1) a x := hpx
 replace hbx : PtsB (q + 1) x := hbx
 replace hex : k4 = k3 + (q + 1) * (q + 1) := hex
 have lw : (inbx xs v k4).1.length = q + 1 := by rw [inbx_len, lv]
 have hw : ∀ k, k < q + 1 → GX ((inbx xs v k4).1.getD k zX) ∧ hasJ (v.getD k zJ) ((inbx xs v k4).1.getD k zX) = true ∧ Bd 132 ((inbx xs v k4).1.getD k zX).q := fun k hk => by
  rw [inbx_get (by rw [lv]; exact hk)]
  have hm := gv _ (List.mem_of_getElem? (at_get zJ (show k < v.length by rw [lv]; exact hk)))
  have := inD_spec (xs := xs) (j := v.getD k zJ) (k := k4 + k) hm.1 (by omega)
  exact ⟨this.1.1, this.1.2, this.2.2 hm.2⟩
 generalize hpw : inbx xs v k4 = pw at lw hw
 obtain ⟨w, k7⟩ := pw
 replace lw : w.length = q + 1 := lw
 replace hw : ∀ k, k < q + 1 → GX (w.getD k zX) ∧ hasJ (v.getD k zJ) (w.getD k zX) = true ∧ Bd 132 (w.getD k zX).q := hw
 obtain ⟨U, eU, iU⟩ := id_left gz (by omega) (by omega) ga
 obtain ⟨V, eV, iV⟩ := id_right gz (by omega) (by omega) ga
 obtain ⟨M, eM, nM, bM⟩ := norm_hold gz (by omega) (by omega) ga
 have eI : onZ ((q + 1 : Nat) : Int) = onM (q + 1) := by
  unfold onZ rng
  rw [decide_eq_true (show (1 : Int) ≤ ((q + 1 : Nat) : Int) by omega), cond_true, decide_eq_true (show ((q + 1 : Nat) : Int) ≤ 4 by omega), cond_true]; rfl
 have la := ga.1.1
 have lx := hpx.1
 have p1 : (1 : Int) ≤ ((q + 1 : Nat) : Int) := by omega
 have p2 : ((q + 1 : Nat) : Int) ≤ 100 := by omega
 have p3 : 1 + 3 * (q + 1) * (q + 1) ≤ 800 := by omega
 have p5 : ∀ r ∈ a, r.length = a.length ∧ ∀ j ∈ r, Good j := fun r hr => ⟨by rw [la]; exact (ga.1.2 r hr).1, (ga.1.2 r hr).2⟩
 have p6 : k3 + a.length * a.length ≤ 900 := by rw [la]; omega
 have p7 : ∀ r ∈ a, r.length ≤ 1000 := fun r hr => by rw [(ga.1.2 r hr).1]; omega
 have p9 : ∀ j ∈ v, Good j := fun j hj => (gv j hj).1
 have pA : k4 + v.length ≤ 900 := by omega
 have vS : ∀ i, i < q + 1 → ∀ k, k ≤ q + 1 → Valid (sq (fun k => (px x i k).q) (fun k => (w.getD k zX).q) k) := fun i hi k hk =>
  (dot_hold (js := fun k => at2 a i k) (ks := fun k => v.getD k zJ) (xs := fun k => px x i k) (ys := fun k => w.getD k zX) (n := q + 1) gz (fun k hk => ⟨(at2_few ga hi hk).1, (at2_few ga hi hk).2, (gv _ (List.mem_of_getElem? (at_get zJ (show k < v.length by rw [lv]; exact hk)))).1, (gv _ (List.mem_of_getElem? (at_get zJ (show k < v.length by rw [lv]; exact hk)))).2, ((hpx.2 i hi).2 k hk).1, (hw k hk).1, ((hpx.2 i hi).2 k hk).2, (hw k hk).2.1, hbx i hi k hk, (hw k hk).2.2⟩) (by omega) k hk).1
 have vm : ∀ x y : X, GX x → GX y → Bd 132 x.q → Bd 132 y.q → Vb (times x.q y.q) := fun x y _ _ h1 h2 => vb_of ⟨ofz_canon _ _, (bd_times h1 h2).fits (by omega)⟩
 have rx : ∀ i, i < q + 1 → (x.getD i []).length = q + 1 := fun i hi => (hpx.2 i hi).1
 have ox : ∀ i, i < q + 1 → ∀ k, k < q + 1 → GX (px x i k) ∧ Bd 132 (px x i k).q := fun i hi k hk => ⟨((hpx.2 i hi).2 k hk).1, hbx i hi k hk⟩
 have ow : ∀ k, k < q + 1 → GX (w.getD k zX) ∧ Bd 132 (w.getD k zX).q := fun k hk => ⟨(hw k hk).1, (hw k hk).2.2⟩
 have wv : ∀ k, k < q + 1 → Valid (qx (absx (w.getD k zX))).q ∧ (qx (absx (w.getD k zX))).q.s = false ∧ (qx (absx (w.getD k zX))).ok = true := fun k hk => by
  have g := abs_gx (ow k hk).1
  exact ⟨ok_arg g.1.1 g.1.2, abs_nn _, g.1.1⟩
 have vo : ∀ k, k ≤ q + 1 → Valid (mo (fun k => (qx (absx (w.getD k zX))).q) k) := fun k hk => (mo_ge (n := q + 1) (fun k hk => ⟨(wv k hk).1, (wv k hk).2.1⟩) k hk).1
 have vM := ok_arg nM.1.1 nM.1.2
 have okM : M.ok = true := nM.1.1
 have wM := vw_of vM
 have wo := vw_of (vo (q + 1) (Nat.le_refl _))
 have bB : ∀ i, i < q + 1 → ∀ t : Q, (t = sq (fun k => (px x i k).q) (fun k => (w.getD k zX).q) (q + 1) ∨ t = (sq (fun k => (px x i k).q) (fun k => (w.getD k zX).q) (q + 1)).neg) → cmpq t (times (mo (fun k => (qx (absx (w.getD k zX))).q) (q + 1)) M.q) ≤ 0 := fun i hi t ht => norm_bound ga hpx hi (fun k hk => (ow k hk).1) nM (bM i hi) ht (vS i hi (q + 1) (Nat.le_refl _)).1
 have vB : Vb (times (mo (fun k => (qx (absx (w.getD k zX))).q) (q + 1)) M.q) := fits_times (vo (q + 1) (Nat.le_refl _)) vM
 have sM : decide (0 ≤ signx M) = true := by
  refine decide_eq_true ?_
  unfold signx
  rw [if_pos okM, signq_at (E := 65536)]
  have h0 : ¬ M.q.at 65536 < 0 := by have := nn_v nM.2; unfold X.v at this; omega
  rw [if_neg h0]; split <;> omega
 clear s1 s2 ua uv uz hpx hbx hw ga gv gz bM nM
 simp (maxSteps := 10000000) only [go_sem, seval, reduceCtorEq, T7_known, TmId, TmMul, TmNrm, Tm_In, Tref_Abs, Tref_Of, Tref_Order, Tref_By, Tref_Plus, Tref_Val_Sign, Tref_Val_Turned, Tnum_Sign, rKB, rKA, ofO, hd, hpa, hpv, hpz, hpi, hpw, eU, eV, eM, iU, iV, eI, mL, qL, sM]
 repeat' with_reducible first | apply And.intro | apply condP <;> intro _
 all_goals first | (show chk _ _ = true; kernel_rfl) | with_reducible assumption | omega | rfl | skip
 refine loop_ind 500 (fun k => [(4, bA false), (8, iA ((q + 1 : Nat) : Int)), (24, .s (.own 12 0)), (25, .v true M.L), (28, .s (qL x)), (30, .s (.sl true 3 w.length (pC w))), (32, .s (.own 16 0)), (33, .v true (vL (mo (fun k => (qx (absx (w.getD k zX))).q) k))), (34, iA (k : Int))]) (q + 1) (fun k => True) 50000 (fun k _ => rfl) (fun k m1 hL1 hk _ ihK => ?_) (by omega) trivial (by simp only [hdS, hdT, hd1, pick, look, seval, Option.isSome_none, Option.isSome_some, cond_true, cond_false, ↓cond_true, ↓cond_false, List.take_succ_cons, List.drop_succ_cons, List.take_zero, List.drop_zero, beq_self_eq_true, List.nil_append]; rfl)
 rcases Nat.lt_or_ge k (q + 1) with hlt | hge
 ·replace ihK := ihK hlt trivial
  have gk1 : (k < q + 1) = True := eq_true hlt
  have gk0 : (0 ≤ (k : Int)) = True := eq_true (by omega)
  have gw : (k < w.length) = True := eq_true (by omega)
  have hw2 := wrap_nat (j := k) (by omega)
  have ew := pC_at' (at_get zX (show k < w.length by omega))
  obtain ⟨v1, v2, v3⟩ := wv k hlt
  have b1 := vb_of v1
  have b2 := vb_of (vo k (by omega))
  cases hC : decide (0 < cmpq (qx (absx (w.getD k zX))).q (mo (fun k => (qx (absx (w.getD k zX))).q) k)) with
  | true =>
   have e : (mo (fun k => (qx (absx (w.getD k zX))).q) (k + 1)) = (qx (absx (w.getD k zX))).q := by
    show (bif decide (0 < cmpq (qx (absx (w.getD k zX))).q (mo (fun k => (qx (absx (w.getD k zX))).q) k)) then _ else _) = _
    rw [hC]; rfl
   rw [e] at ihK
   simp (maxSteps := 10000000) only [go_sem, seval, reduceCtorEq, T7_known, TmId, TmMul, TmNrm, Tm_In, Tref_Abs, Tref_Of, Tref_Order, Tref_By, Tref_Plus, Tref_Val_Sign, Tref_Val_Turned, Tnum_Sign, rKB, rKA, ofO, hd, hpa, hpv, hpz, hpi, hpw, eU, eV, eM, iU, iV, eI, mL, qL, sM, gk1, gk0, gw, ew, hC, hw2]
   repeat' with_reducible first | apply And.intro | apply condP <;> intro _
   all_goals first | (show chk _ _ = true; kernel_rfl) | (exact ihK _ _ rfl) | with_reducible assumption | rfl
  | false =>
   have e : (mo (fun k => (qx (absx (w.getD k zX))).q) (k + 1)) = (mo (fun k => (qx (absx (w.getD k zX))).q) k) := by
    show (bif decide (0 < cmpq (qx (absx (w.getD k zX))).q (mo (fun k => (qx (absx (w.getD k zX))).q) k)) then _ else _) = _
    rw [hC]; rfl
   rw [e] at ihK
   simp (maxSteps := 10000000) only [go_sem, seval, reduceCtorEq, T7_known, TmId, TmMul, TmNrm, Tm_In, Tref_Abs, Tref_Of, Tref_Order, Tref_By, Tref_Plus, Tref_Val_Sign, Tref_Val_Turned, Tnum_Sign, rKB, rKA, ofO, hd, hpa, hpv, hpz, hpi, hpw, eU, eV, eM, iU, iV, eI, mL, qL, sM, gk1, gk0, gw, ew, hC, hw2]
   repeat' with_reducible first | apply And.intro | apply condP <;> intro _
   all_goals first | (show chk _ _ = true; kernel_rfl) | (exact ihK _ _ rfl) | with_reducible assumption | rfl
 ·obtain rfl : k = q + 1 := by omega
  obtain ⟨m1, rfl⟩ := Nat.exists_eq_add_of_le hL1
  simp (maxSteps := 10000000) only [go_sem, seval, reduceCtorEq, T7_known, TmId, TmMul, TmNrm, Tm_In, Tref_Abs, Tref_Of, Tref_Order, Tref_By, Tref_Plus, Tref_Val_Sign, Tref_Val_Turned, Tnum_Sign, rKB, rKA, ofO, hd, hpa, hpv, hpz, hpi, hpw, eU, eV, eM, iU, iV, eI, mL, qL, sM]
  repeat' with_reducible first | apply And.intro | apply condP <;> intro _
  all_goals first | (show chk _ _ = true; kernel_rfl) | with_reducible assumption | rfl | skip
  refine loop_ind 6000 (fun i => [(4, bA false), (8, iA ((q + 1 : Nat) : Int)), (24, .s (.own 12 0)), (25, .v true M.L), (28, .s (qL x)), (30, .s (.sl true 3 w.length (pC w))), (32, .s (.own 16 0)), (33, .v true (vL (times (mo (fun k => (qx (absx (w.getD k zX))).q) (q + 1)) M.q))), (34, iA ((q + 1 : Nat) : Int)), (38, iA (i : Int))]) (q + 1) (fun i => True) 0 (fun i _ => rfl) (fun i m2 _ hi _ ih => ?_) (by omega) trivial rfl
  rcases Nat.lt_or_ge i (q + 1) with hlt2 | hge2
  ·replace ih := ih hlt2 trivial
   have gi : (i < q + 1) = True := eq_true hlt2
   have g10 : (0 ≤ (i : Int)) = True := eq_true (by omega)
   have hw1 := wrap_nat (j := i) (by omega)
   have ex := rP_at (at_get [] (show i < x.length by omega))
   have gx : (i < x.length) = True := eq_true (by omega)
   have lxi := rx i hlt2
   simp (maxSteps := 10000000) only [go_sem, seval, reduceCtorEq, T7_known, TmId, TmMul, TmNrm, Tm_In, Tref_Abs, Tref_Of, Tref_Order, Tref_By, Tref_Plus, Tref_Val_Sign, Tref_Val_Turned, Tnum_Sign, rKB, rKA, ofO, hd, hpa, hpv, hpz, hpi, hpw, eU, eV, eM, iU, iV, eI, mL, qL, sM, gi]
   refine loop_ind 500 (fun k => [(4, bA false), (8, iA ((q + 1 : Nat) : Int)), (24, .s (.own 12 0)), (25, .v true M.L), (28, .s (qL x)), (30, .s (.sl true 3 w.length (pC w))), (32, .s (.own 16 0)), (33, .v true (vL (times (mo (fun k => (qx (absx (w.getD k zX))).q) (q + 1)) M.q))), (34, iA ((q + 1 : Nat) : Int)), (38, iA (i : Int)), (40, .s (.own 20 0)), (41, .v true (vL (sq (fun k => (px x i k).q) (fun k => (w.getD k zX).q) k))), (42, iA (k : Int))]) (q + 1) (fun k => True) m2 (fun k _ => rfl) (fun k m4 hL4 hk _ ihT => ?_) (by omega) trivial rfl
   obtain ⟨r4, rfl⟩ := Nat.exists_eq_add_of_le hL4
   rcases Nat.lt_or_ge k (q + 1) with hlt4 | hge4
   ·replace ihT := ihT hlt4 trivial
    have gk : (k < (x.getD i []).length) = True := eq_true (by omega)
    have gk1 : (k < q + 1) = True := eq_true hlt4
    have gk0 : (0 ≤ (k : Int)) = True := eq_true (by omega)
    have hw2 := wrap_nat (j := k) (by omega)
    have ek := pC_at' (at_get zX (show k < (x.getD i []).length by omega))
    have ew := pC_at' (at_get zX (show k < w.length by omega))
    have gw : (k < w.length) = True := eq_true (by omega)
    obtain ⟨o1, o2⟩ := ox i hlt2 k hlt4
    obtain ⟨o3, o4⟩ := ow k hlt4
    have k1' : (px x i k).ok = true := o1.1
    have k2' : (w.getD k zX).ok = true := o3.1
    have k3' : Vw (px x i k).q := vw_of (ok_arg o1.1 o1.2)
    have k4' : Vw (w.getD k zX).q := vw_of (ok_arg o3.1 o3.2)
    have k5' := vm _ _ o1 o3 o2 o4
    have k6' := vb_of (vS i hlt2 k (by omega))
    simp (maxSteps := 10000000) only [go_sem, seval, reduceCtorEq, T7_known, TmId, TmMul, TmNrm, Tm_In, Tref_Abs, Tref_Of, Tref_Order, Tref_By, Tref_Plus, Tref_Val_Sign, Tref_Val_Turned, Tnum_Sign, rKB, rKA, ofO, hd, hpa, hpv, hpz, hpi, hpw, eU, eV, eM, iU, iV, eI, mL, qL, sM, gi, g10, ex, gx, ek, gk, gk1, gk0, ew, gw, hw2]
    repeat' with_reducible first | apply And.intro | apply condP <;> intro _
    all_goals first | (show chk _ _ = true; kernel_rfl) | (exact ihT _ _ rfl) | with_reducible assumption | rfl
   ·obtain rfl : k = q + 1 := by omega
    have vt := vS i hlt2 (q + 1) (Nat.le_refl _)
    have bt := vb_of vt
    have bn := vb_neg bt
    have ct := vt.1
    have c1 : decide (0 < cmpq (sq (fun k => (px x i k).q) (fun k => (w.getD k zX).q) (q + 1)) (times (mo (fun k => (qx (absx (w.getD k zX))).q) (q + 1)) M.q)) = false := decide_eq_false (by have := bB i hlt2 _ (.inl rfl); omega)
    have c2 : decide (0 < cmpq (sq (fun k => (px x i k).q) (fun k => (w.getD k zX).q) (q + 1)).neg (times (mo (fun k => (qx (absx (w.getD k zX))).q) (q + 1)) M.q)) = false := decide_eq_false (by have := bB i hlt2 _ (.inr rfl); omega)
    cases hS : decide (signq (sq (fun k => (px x i k).q) (fun k => (w.getD k zX).q) (q + 1)) < 0) with
    | true =>
     simp (maxSteps := 10000000) only [go_sem, seval, reduceCtorEq, T7_known, TmId, TmMul, TmNrm, Tm_In, Tref_Abs, Tref_Of, Tref_Order, Tref_By, Tref_Plus, Tref_Val_Sign, Tref_Val_Turned, Tnum_Sign, rKB, rKA, ofO, hd, hpa, hpv, hpz, hpi, hpw, eU, eV, eM, iU, iV, eI, mL, qL, sM, hS, c1, c2, hw1]
     repeat' with_reducible first | apply And.intro | apply condP <;> intro _
     all_goals first | (show chk _ _ = true; kernel_rfl) | (simp only [Nat.add_assoc]; exact ih _ _ rfl) | with_reducible assumption | rfl
    | false =>
     simp (maxSteps := 10000000) only [go_sem, seval, reduceCtorEq, T7_known, TmId, TmMul, TmNrm, Tm_In, Tref_Abs, Tref_Of, Tref_Order, Tref_By, Tref_Plus, Tref_Val_Sign, Tref_Val_Turned, Tnum_Sign, rKB, rKA, ofO, hd, hpa, hpv, hpz, hpi, hpw, eU, eV, eM, iU, iV, eI, mL, qL, sM, hS, c1, c2, hw1]
     repeat' with_reducible first | apply And.intro | apply condP <;> intro _
     all_goals first | (show chk _ _ = true; kernel_rfl) | (simp only [Nat.add_assoc]; exact ih _ _ rfl) | with_reducible assumption | rfl
  ·obtain rfl : i = q + 1 := by omega
   simp (maxSteps := 10000000) only [go_sem, seval, reduceCtorEq, T7_known, TmId, TmMul, TmNrm, Tm_In, Tref_Abs, Tref_Of, Tref_Order, Tref_By, Tref_Plus, Tref_Val_Sign, Tref_Val_Turned, Tnum_Sign, rKB, rKA, ofO, hd, hpa, hpv, hpz, hpi, hpw, eU, eV, eM, iU, iV, eI, mL, qL, sM]
   repeat' with_reducible first | apply And.intro | apply condP <;> intro _
   all_goals first | (show chk _ _ = true; kernel_rfl) | assumption | rfl | (simp only [go_sem, *] <;> rfl)
theorem matids_walk (W : World) (a : Option Addr) (l c : Nat) (xs : List Nat) (hx : Arg W a l c xs) (ht : Tab W) : Calls Tryz.prog 6 #[.slice a l c] W fun e w' => e = .returned (.bool true) ∧ Below W.heap.size W w' := by
 have hA : RA envA (fun _ => false) W [.s (.lit (.slice a l c))] [.slice a l c] := ⟨_, _, rfl, RL.one.2 rfl, rfl⟩
 exact v_mi xs a l c W _ ht hx hA
end Go.Proofs.YtcpfepjdeikchaaGreatDoor
