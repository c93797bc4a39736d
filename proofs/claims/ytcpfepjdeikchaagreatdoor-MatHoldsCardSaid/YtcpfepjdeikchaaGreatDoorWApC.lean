/- Products of matrices hold the exact ones of points; what lies within an interval. -/
import Derived.Test.YtcpfepjdeikchaaGreatDoorWAp1
import Derived.Test.YtcpfepjdeikchaaGreatDoorWAo3
namespace Go.Proofs.YtcpfepjdeikchaaGreatDoor
open Go.RowKit Nx
set_option linter.unusedVariables false
set_option linter.unusedSimpArgs false
attribute [local irreducible] chk
theorem one_q : ofz 1 0 = ⟨false, 1, 0⟩ := by kernel_rfl
theorem times_one {a : Q} (hc : Canon a) : times a (ofz 1 0) = a := by
 have h1 : -(a.e.natAbs : Int) ≤ a.e := by omega
 have h0 : -((0 : Nat) : Int) ≤ (ofz 1 0).e := by rw [one_q]; show _ ≤ (0 : Int); omega
 have := low_times h1 h0
 refine at_inj (E := a.e.natAbs + 0) (ofz_canon _ _) hc this (by omega) ?_
 rw [at_times h1 h0, one_q]
 show _ * ((1 : Int) * 2 ^ ((0 : Int) + ((0 : Nat) : Int)).toNat) = _
 rw [show ((0 : Int) + ((0 : Nat) : Int)).toNat = 0 from rfl]
 simp
def GoodF (s : Nat) (m : List (List J)) : Prop := GoodM s m ∧ ∀ r ∈ m, ∀ j ∈ r, FewJ j
def PtsB (s : Nat) (p : List (List X)) : Prop := ∀ i, i < s → ∀ k, k < s → Bd 132 ((p.getD i []).getD k zX).q
theorem matD_goodF {xs : List Nat} {m k : Nat} (h : k + 3 * m * m ≤ 800) : GoodF m (matD xs m k).1 := ⟨matD_good h, fun r hr j hj => (((matD_rows h).2 r hr).2 j hj).2⟩
theorem inmt_bd {xs : List Nat} {s k : Nat} {m : List (List J)} (hm : GoodF s m) (hk : k + s * s ≤ 900) : PtsB s (inmt xs m k).1 := by
 intro i hi q hq
 have hi' : i < m.length := by rw [hm.1.1]; exact hi
 obtain ⟨h1, h2, h3⟩ := hm.1.row hi
 have h4 : s * (i + 1) ≤ s * s := Nat.mul_le_mul_left _ hi
 have h5 : s * (i + 1) = s * i + s := Nat.mul_succ _ _
 rw [inmt_row (s := s) (fun r hr => (hm.1.2 r hr).1) hi', inbx_get (by rw [h2]; exact hq)]
 have hj : (m.getD i []).getD q zJ ∈ m.getD i [] := List.mem_of_getElem? (at_get zJ (by rw [h2]; exact hq))
 exact (inD_spec (xs := xs) (j := (m.getD i []).getD q zJ) (k := k + s * i + q) (h3 _ hj) (by omega)).2.2 (hm.2 _ h1 _ hj)
theorem inmt_end {xs : List Nat} {s k : Nat} {m : List (List J)} (hm : GoodM s m) : (inmt xs m k).2 = k + s * s := by
 have := inmt_pos (xs := xs) (k := k) (fun r hr => (hm.2 r hr).1) m.length (Nat.le_refl _)
 unfold inmt
 rw [this, hm.1]
theorem at2_few {s i k : Nat} {m : List (List J)} (hm : GoodF s m) (hi : i < s) (hk : k < s) : Good (at2 m i k) ∧ FewJ (at2 m i k) := by
 obtain ⟨h1, h2, h3⟩ := hm.1.row hi
 have hj : at2 m i k ∈ m.getD i [] := List.mem_of_getElem? (at_get zJ (by rw [h2]; exact hk))
 exact ⟨h3 _ hj, hm.2 _ h1 _ hj⟩
abbrev px (p : List (List X)) (i k : Nat) : X := (p.getD i []).getD k zX
theorem frm_true {α : Type} (r : List α × Int) : frm true r = r := rfl
theorem mul_hold {s : Nat} {z : Int} {a b : List (List J)} {x y : List (List X)} (hz : prl z = true) (h1 : 1 ≤ s) (h4 : s ≤ 4) (ha : GoodF s a) (hb : GoodF s b) (hx : PtsM s a x) (hy : PtsM s b y) (bx : PtsB s x) (bY : PtsB s y) :
  ∃ U, frm (okMM a b z) (eachN (fun i => eachN (fun j => totN zJ (fun k => mulJ (at2 a i k) (at2 b k j) z) (fun s x => addJ s x z) a.length) a.length) a.length) = (U, 0) ∧ U.length = s ∧ ∀ i, i < s → (U.getD i []).length = s ∧ ∀ j, j < s → Good (at2 U i j) ∧ hasJ (at2 U i j) (qx (sq (fun k => (px x i k).q) (fun k => (px y k j).q) s)) = true := by
 have hok : okMM a b z = true := by
  unfold okMM
  rw [ha.1.right h1 h4, hb.1.right h1 h4, show rng z 8 256 = true from by
   unfold rng; unfold prl at hz; rw [Bool.and_eq_true] at hz; rw [hz.1, hz.2]; rfl, ha.1.1, hb.1.1, bne_self_eq_false]; rfl
 rw [hok, ha.1.1, frm_true]
 have key : ∀ i, i < s → ∀ j, j < s → ∃ r, totN zJ (fun k => mulJ (at2 a i k) (at2 b k j) z) (fun s x => addJ s x z) s = (r, 0) ∧ Good r ∧ hasJ r (qx (sq (fun k => (px x i k).q) (fun k => (px y k j).q) s)) = true := fun i hi j hj => by
  obtain ⟨_, _, h⟩ := dot_hold (js := fun k => at2 a i k) (ks := fun k => at2 b k j) (xs := fun k => px x i k) (ys := fun k => px y k j) (n := s) hz (fun k hk => ⟨(at2_few ha hi hk).1, (at2_few ha hi hk).2, (at2_few hb hk hj).1, (at2_few hb hk hj).2, ((hx.2 i hi).2 k hk).1, ((hy.2 k hk).2 j hj).1, ((hx.2 i hi).2 k hk).2, ((hy.2 k hk).2 j hj).2, bx i hi k hk, bY k hk j hj⟩) (by omega) s (Nat.le_refl _)
  obtain ⟨r, e, g, _, hr⟩ := h h1
  exact ⟨r, e, g, hr⟩
 have rows : ∀ i, i < s → (eachN (fun j => totN zJ (fun k => mulJ (at2 a i k) (at2 b k j) z) (fun s x => addJ s x z) s) s).2 = 0 := fun i hi => eachN_all fun j hj => by
  obtain ⟨r, e, _⟩ := key i hi j hj; rw [e]
 have all : (eachN (fun i => eachN (fun j => totN zJ (fun k => mulJ (at2 a i k) (at2 b k j) z) (fun s x => addJ s x z) s) s) s).2 = 0 := eachN_all rows
 refine ⟨_, Prod.ext rfl all, eachN_len all, fun i hi => ?_⟩
 have gi := (eachN_get all i hi).2
 have hrow : (eachN (fun i => eachN (fun j => totN zJ (fun k => mulJ (at2 a i k) (at2 b k j) z) (fun s x => addJ s x z) s) s) s).1.getD i [] = (eachN (fun j => totN zJ (fun k => mulJ (at2 a i k) (at2 b k j) z) (fun s x => addJ s x z) s) s).1 := by
  rw [List.getD_eq_getElem?_getD, gi]; rfl
 refine ⟨by rw [hrow]; exact eachN_len (rows i hi), fun j hj => ?_⟩
 have gj := (eachN_get (rows i hi) j hj).2
 obtain ⟨r, e, g, hr⟩ := key i hi j hj
 have he : at2 (eachN (fun i => eachN (fun j => totN zJ (fun k => mulJ (at2 a i k) (at2 b k j) z) (fun s x => addJ s x z) s) s) s).1 i j = r := by
  show ((eachN (fun i => eachN (fun j => totN zJ (fun k => mulJ (at2 a i k) (at2 b k j) z) (fun s x => addJ s x z) s) s) s).1.getD i []).getD j zJ = r
  rw [hrow, List.getD_eq_getElem?_getD, gj, e]; rfl
 rw [he]
 exact ⟨g, hr⟩
theorem vec_hold {s : Nat} {z : Int} {a : List (List J)} {v : List J} {x : List (List X)} {y : List X} (hz : prl z = true) (h1 : 1 ≤ s) (h4 : s ≤ 4) (ha : GoodF s a) (hx : PtsM s a x) (bx : PtsB s x) (lv : v.length = s) (hv : ∀ j ∈ v, Good j ∧ FewJ j) (hy : ∀ k, k < s → GX (y.getD k zX) ∧ hasJ (v.getD k zJ) (y.getD k zX) = true ∧ Bd 132 (y.getD k zX).q) :
  ∃ W, frm (okV a v z) (eachN (fun i => totN zJ (fun k => mulJ (at2 a i k) (v.getD k zJ) z) (fun s x => addJ s x z) a.length) a.length) = (W, 0) ∧ W.length = s ∧ ∀ i, i < s → Good (W.getD i zJ) ∧ hasJ (W.getD i zJ) (qx (sq (fun k => (px x i k).q) (fun k => (y.getD k zX).q) s)) = true := by
 have hg : ∀ k, k < s → Good (v.getD k zJ) ∧ FewJ (v.getD k zJ) := fun k hk => hv _ (List.mem_of_getElem? (at_get zJ (by rw [lv]; exact hk)))
 have hok : okV a v z = true := by
  unfold okV
  rw [ha.1.right h1 h4, rightB_good (fun j hj => (hv j hj).1) (by omega) (by omega), show rng z 8 256 = true from by
   unfold rng; unfold prl at hz; rw [Bool.and_eq_true] at hz; rw [hz.1, hz.2]; rfl, ha.1.1, lv, bne_self_eq_false]; rfl
 rw [hok, ha.1.1, frm_true]
 have key : ∀ i, i < s → ∃ r, totN zJ (fun k => mulJ (at2 a i k) (v.getD k zJ) z) (fun s x => addJ s x z) s = (r, 0) ∧ Good r ∧ hasJ r (qx (sq (fun k => (px x i k).q) (fun k => (y.getD k zX).q) s)) = true := fun i hi => by
  obtain ⟨_, _, h⟩ := dot_hold (js := fun k => at2 a i k) (ks := fun k => v.getD k zJ) (xs := fun k => px x i k) (ys := fun k => y.getD k zX) (n := s) hz (fun k hk => ⟨(at2_few ha hi hk).1, (at2_few ha hi hk).2, (hg k hk).1, (hg k hk).2, ((hx.2 i hi).2 k hk).1, (hy k hk).1, ((hx.2 i hi).2 k hk).2, (hy k hk).2.1, bx i hi k hk, (hy k hk).2.2⟩) (by omega) s (Nat.le_refl _)
  obtain ⟨r, e, g, _, hr⟩ := h h1
  exact ⟨r, e, g, hr⟩
 have all : (eachN (fun i => totN zJ (fun k => mulJ (at2 a i k) (v.getD k zJ) z) (fun s x => addJ s x z) s) s).2 = 0 := eachN_all fun i hi => by
  obtain ⟨r, e, _⟩ := key i hi; rw [e]
 refine ⟨_, Prod.ext rfl all, eachN_len all, fun i hi => ?_⟩
 have gi := (eachN_get all i hi).2
 obtain ⟨r, e, g, hr⟩ := key i hi
 have he : (eachN (fun i => totN zJ (fun k => mulJ (at2 a i k) (v.getD k zJ) z) (fun s x => addJ s x z) s) s).1.getD i zJ = r := by
  rw [List.getD_eq_getElem?_getD, gi, e]; rfl
 rw [he]
 exact ⟨g, hr⟩
set_option maxRecDepth 100000 in
set_option maxHeartbeats 4000000 in
theorem s_within (q : Q) (j : J) (h : hasJ j (qx q) = true ∧ Valid q ∧ GJ j) : Ct Tryz.prog 34 [vA q, vA (ofz 1 0), jA j] (· = bA true) := by
 obtain ⟨hh, vq, gj⟩ := h
 have hv := has_v hh
 obtain ⟨a1, a2, _⟩ := okJ_parts hv.1
 have v1 := ok_arg a1 gj.lo
 have v2 := ok_arg a2 gj.hi
 have e1 := times_one v1.1
 have e2 := times_one v2.1
 have w1 := vw_of v1
 have w2 := vw_of v2
 have b1 := vb_of v1
 have b2 := vb_of v2
 have bq := vb_of vq
 have wo : Vw (ofz 1 0) := by rw [one_q]; exact vw_of ⟨canon_one _ _, by show 1 < B64 ^ 64; exact Nat.one_lt_pow (by decide) (by decide), by show (-65536 : Int) ≤ 0; omega, by show (0 : Int) ≤ 65536; omega⟩
 have hc : cmpx j.lo (qx q) ≤ 0 ∧ cmpx (qx q) j.hi ≤ 0 := by
  unfold hasJ at hh
  simp only [Bool.and_eq_true, decide_eq_true_eq] at hh
  exact ⟨hh.1.2, hh.2⟩
 have q1 : (qx q).q = q := (qx_ok vq).2.2
 have d1 : decide (cmpq j.lo.q q ≤ 0) = true := by have := hc.1; rw [cmpx_q a1 (qx_ok vq).1, q1] at this; exact decide_eq_true this
 have d2 : decide (cmpq q j.hi.q ≤ 0) = true := by have := hc.2; rw [cmpx_q (qx_ok vq).1 a2, q1] at this; exact decide_eq_true this
 clear hh hc hv
 refine ct_of (O := tblO (orT Tref_Of (orT Tref_By Tref_Order))) (by kernel_rfl) tyM_ok (fun w => tblO_ok (orT_ok Tref_Of_ok (orT_ok Tref_By_ok Tref_Order_ok)) _ w) [] 1000 25 [.tmp 6] Tryz.func34 rfl Tryz.ntmps34 (by rw [Tryz.results34]) (by simp) rfl (fun hsm => ?_)
 simp (maxSteps := 10000000) only [run, seval, init, X.L, J.L, vL, X.eta, J.eta, Q.eta, List.cons_append, List.nil_append, brkK, brkf_b, brkf_t, exef_some, exif_some, condf_b, opf, bodyE, addR, skipE, stepOp, stepLoad, stepStore, stepField, stepCall, stepBS, stepB0, stepMk, stepSl, stepAp, apY, optI, okO, nilV, slT, stepBi, stepCv, stepIx, inL, mentA, ment, dom, evs, evl, evp, evd, okeys, look, fillA, capsOf, wordsOf, rowsOf, lenOf, convK, binV, shV, intV, unV, boolT, tyT, tiB, tiI, tiW, tiD, tiF, tiR, tiU, tiNum, tiIv, tiVal, tiSc, okLf, okD, keysOf, tblO, cvA, cvL, dnL, olA, olL, noO, noA, cbL, cbA, orT, ↓cond_true, ↓cond_false, ↓not_cond, noT, one, asNum, asIv, asVal, postf_some, resA, resB, outPs, outLs, outL, dnT, tupA, clA, clL, dropTo, decide_true, decide_false, reduceCtorEq, List.all_cons, List.all_nil, Bool.and_true, Bool.and_self, true_and, and_true, and_self, List.length_cons, List.length_nil, List.drop_succ_cons, List.drop_zero, List.take_succ_cons, List.take_zero, List.getElem?_cons_zero, List.getElem?_cons_succ, List.map_cons, List.map_nil, false_implies, true_implies, Option.bind_some, List.getElem?_toArray, Bool.false_eq_true, List.append_nil, List.flatMap_cons, List.flatMap_nil, true_or, or_true, forall_const, List.reverse_cons, List.reverse_nil, Option.isSome_some, Option.any_some, Nat.lt_irrefl, not_true_eq_false, Bool.not_true, Bool.not_false, imp_self, implies_true, Bool.not_eq_true', Bool.not_eq_false', Bool.true_eq_false, memOf, cntF, nmL, rnL, nmA, rnA, isV, noE, contsOf, ndB, refO, orO, pin, Int.toNat_zero, decide_eq_true_eq, wrap0, wrap1, ci1, ci2, BEq.rfl, beq_self_eq_true, Int.natCast_zero, ge_iff_le, gt_iff_lt, Int.le_refl, Nat.zero_mul, Nat.one_mul, Nat.zero_add, Nat.zero_lt_succ, Nat.lt_add_one, Nat.le_refl, List.append_eq, boxL_nil, boxL_cons, ptsL_nil, ptsL_cons, ↓outL_box, ↓outL_pts, ↓clL_box, ↓clL_pts, ↓okL_box, ↓okL_pts, ↓ment_box, ↓ment_pts, ↓olL_box, ↓olL_pts, ↓cvL_box, ↓cvL_pts, ↓noO_box, ↓noO_pts, ↓asB_box, ↓asP_pts, ↓len_box, ↓len_pts, bne_self_eq_false, wr2, wr3, wr4, wr5, wr6, wr7, wr8, gN, gNN, gNI, gI, gNIB, gNNIB, gJ, gJJ, gJN, gJJI, gJI, gB, gP, gBB, gBP, gBZ, gBBZ, bC_nil, bC_cons, pC_nil, pC_cons, fvO, Lc.up, tyB, tiS, tiBB, Int.toNat_natCast, List.replicate_succ, List.replicate_zero, List.flatten_cons, List.flatten_nil, Int.ofNat_lt, Int.cast_ofNat_Int, Int.ofNat_eq_natCast, List.isEmpty_nil, List.isEmpty_cons, and_false, false_and, List.cons_ne_nil, Nat.add_zero, ite_true, ite_false, if_true, if_false, Nat.le_zero_eq, eq_self, Bool.and_false, Bool.false_and, Bool.true_and, tyM, tiQ, tiMM, gA, gE, asZ, asT, asV1, asN1, asB_b, asP_b, asM_m, asQ_m, ite_self, hoO, hoK, hpin, hoO2, hoK2, hpin2, gIJJI, gINNIB, Tref_Of, Tref_By, Tref_Order, e1, e2, d1, d2, gVV, bxe, pxe, lpf, hdS, hd1, pick, forget, frh, frz, frS, frA, frL]
 repeat' with_reducible first | apply And.intro | apply condP <;> intro _
 all_goals first | (show chk _ _ = true; kernel_rfl) | assumption | rfl | (simp only [go_sem, *] <;> rfl)
def gVVJ (k : Q → Q → J → Prop × AV) : List AV → Option (Prop × AV)
 | [.v true mq, .v true mq1, .v true mj] => (match asVal mq, asVal mq1, asIv mj with
  | some q, some q1, some j => some (k q q1 j)
  | _, _, _ => none)
 | _ => none
noncomputable def T7_within : Tbl := one 34 (gVVJ fun q q1 j => (q1 = ofz 1 0 ∧ hasJ j (qx q) = true ∧ Valid q ∧ GJ j, bA true))
theorem T7_within_ok : TbOK Tryz.prog T7_within := one_ok (ent Tryz.func34 (by kernel_rfl) rfl) fun args e h hp => by
 unfold gVVJ at h
 split at h
 ·split at h
  ·rename_i mq mq1 mj q q1 j h1 h2 h3
   injection h with h; subst h
   rw [asVal_eq h1, asVal_eq h2, asIv_eq h3, hp.1]
   exact s_within q j hp.2
  ·cases h
 ·cases h
end Go.Proofs.YtcpfepjdeikchaaGreatDoor
