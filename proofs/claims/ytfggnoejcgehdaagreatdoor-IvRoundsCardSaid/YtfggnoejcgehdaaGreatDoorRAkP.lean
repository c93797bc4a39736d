/- The law IvRounds. -/
import Derived.Test.YtfggnoejcgehdaaGreatDoorRAk5
namespace Go.Proofs.YtfggnoejcgehdaaGreatDoor
open Go.RowKit Nx
set_option linter.unusedVariables false
set_option linter.unusedSimpArgs false
attribute [local go_sem] run init X.L J.L vL X.eta J.eta Q.eta List.cons_append List.nil_append brkK brkf_b brkf_t exef_some exif_some condf_b opf bodyE addR skipE stepOp stepLoad stepStore stepField stepCall stepBS stepBi stepCv stepIx lpf forget inL mentA ment dom evs evl evp evd okeys look fillA capsOf wordsOf rowsOf lenOf convK binV shV intV unV boolT tyT tiB tiI tiW tiD tiF tiR tiU tiNum tiIv tiVal tiSc okLf okD keysOf tblO orT noT one asNum asIv asVal postf_some resA tupA clA clL dropTo decide_true decide_false List.all_cons List.all_nil Bool.and_true Bool.and_self true_and and_true and_self List.length_cons List.length_nil List.drop_succ_cons List.drop_zero List.take_succ_cons List.take_zero List.getElem?_cons_zero List.getElem?_cons_succ List.map_cons List.map_nil false_implies true_implies Option.bind_some List.getElem?_toArray Bool.false_eq_true List.append_nil List.flatMap_cons List.flatMap_nil true_or or_true forall_const Option.isSome_some Option.any_some Nat.lt_irrefl not_true_eq_false Bool.not_true Bool.not_false imp_self implies_true Bool.not_eq_true' Bool.not_eq_false' Bool.true_eq_false memOf cntF nmL rnL nmA rnA isV contsOf ndB refO orO pin Int.toNat_zero decide_eq_true_eq wrap0 wrap1 ci1 ci2 BEq.rfl beq_self_eq_true Int.natCast_zero ge_iff_le gt_iff_lt Int.le_refl Nat.zero_mul Nat.one_mul Nat.zero_add Nat.zero_lt_succ Nat.lt_add_one Nat.le_refl List.append_eq ub wrap2 bits_in wrap_in Bool.not_eq_true dkO dpf_some rK rKI rKJ Int.toNat_natCast Int.natCast_nonneg dk0 gN gNN gNI gI gNNIB gNIB gV gVV gVIB gVVIB gWW gJ gJJ gJN gJJI gJI gJII gNNI gBWI gVVVV gVVVVI gVI gIJJI gJJN gJB AV.s cond_true cond_false Bool.true_and Bool.and_false Bool.false_and Bool.or_true Bool.true_or Bool.or_false Bool.false_or
set_option maxRecDepth 100000 in
set_option maxHeartbeats 4000000 in
theorem v_rounds1 (xs : List Nat) (A : Option Addr) (n c : Nat) (m r w : X) (f g : Int) (hm : midX ((ivD xs 0).1) ((precD xs (ivD xs 0).2).1) = (m, 2)) (hr : radX ((ivD xs 0).1) ((precD xs (ivD xs 0).2).1) = (r, f)) (hw : wideX ((ivD xs 0).1) ((precD xs (ivD xs 0).2).1) = (w, g)) : LCt 11 A n c xs [.s (.lit (.slice A n c))] := by
  refine lct_of (O := orO ofO (orO (dkO 16 A n c (rK fun k => (k ≤ 800, jA (ivD xs k).1, (ivD xs k).2))) (orO (dkO 21 A n c (rK fun k => (k ≤ 900, iA (precD xs k).1, (precD xs k).2))) (tblO (orT Tlaw5_known (orT Tlaw5_IvMids (orT Tiv_Mid (orT Tiv_Rad (orT Tiv_Wide (orT Tnum_Sub (orT Tnum_Add (orT Tiv_Has (Tnum_Cmp))))))))))))) (by kernel_rfl) tyT_ok (fun w hA hn => only_or ofO_only (ofO_ok _ _) (only_or dkO_only (dkO_ok (xs := xs) (ent Tryz.func16 (by kernel_rfl) rfl) (rK_ok fun k hp => (ivD_spec hp).2.2.2) hA hn) (only_or dkO_only (dkO_ok (xs := xs) (ent Tryz.func21 (by kernel_rfl) rfl) (rK_ok fun k hp => (precD_spec hp).2.2.2) hA hn) (tblO_ok (orT_ok Tlaw5_known_ok (orT_ok Tlaw5_IvMids_ok (orT_ok Tiv_Mid_ok (orT_ok Tiv_Rad_ok (orT_ok Tiv_Wide_ok (orT_ok Tnum_Sub_ok (orT_ok Tnum_Add_ok (orT_ok Tiv_Has_ok (Tnum_Cmp_ok))))))))) _ w) (fun d st args => by simp [orO, refO, dkO, ofO, tblO, orT, noT, one, Tlaw5_known, Tlaw5_IvMids, Tiv_Mid, Tiv_Rad, Tiv_Wide, Tnum_Sub, Tnum_Add, Tiv_Has, Tnum_Cmp])) (fun d st args => by simp [orO, refO, dkO, ofO, tblO, orT, noT, one, Tlaw5_known, Tlaw5_IvMids, Tiv_Mid, Tiv_Rad, Tiv_Wide, Tnum_Sub, Tnum_Add, Tiv_Has, Tnum_Cmp])) (fun d st args => by simp [orO, refO, dkO, ofO, tblO, orT, noT, one, Tlaw5_known, Tlaw5_IvMids, Tiv_Mid, Tiv_Rad, Tiv_Wide, Tnum_Sub, Tnum_Add, Tiv_Has, Tnum_Cmp])) [] 2000 127 [.tmp 2] Tryz.func11 rfl Tryz.ntmps11 (by rw [Tryz.results11]) (by simp) rfl (fun hsm hs => ?_)
  have s1 := ivD_spec (xs := xs) (k := 0) (by omega)
  have u1 := s1.2.1
  have u2 := s1.2.2.1
  simp (maxSteps := 10000000) (implicitDefEqProofs := false) only [go_sem, ↓cond_true, ↓cond_false, ↓not_cond, ↓reduceIte, Nat.reduceMul, Nat.reduceAdd, Nat.reduceEqDiff, Nat.reduceLeDiff, Nat.reduceLT, reduceCtorEq, Int.reduceNeg, Tlaw5_known, Tlaw5_IvMids, Tiv_Mid, Tiv_Rad, Tiv_Wide, Tnum_Sub, Tnum_Add, Tiv_Has, Tnum_Cmp, Int.reduceLT, Int.reduceLE, Int.reduceAdd, Int.reduceToNat, Nat.reduceBEq, Int.reduceMul, Int.reduceSub, Nat.reduceSub, Int.reduceEq, gC, gCC, asSc, SX.L, SX.eta, ofO, Int.reduceBNe, Int.reduceBEq, Bool.or_true, Bool.true_or, Bool.false_or, Bool.or_false, hm, hr, hw]
  repeat' first | (with_reducible apply And.intro) | (with_reducible apply condP <;> intro _)
  all_goals first | omega | (show chk _ _ = true; kernel_rfl) | with_reducible assumption | (simp only [go_sem, *]; done) | rfl | (simp only [go_sem, *]; rfl) | (exfalso; simp_all only [Bool.true_eq_false, Bool.false_eq_true, reduceCtorEq]; done)
set_option maxRecDepth 100000 in
set_option maxHeartbeats 4000000 in
theorem v_rounds2 (xs : List Nat) (A : Option Addr) (n c : Nat) (m r w : X) (f g : Int) (hm : midX ((ivD xs 0).1) ((precD xs (ivD xs 0).2).1) = (m, 0)) (hr : radX ((ivD xs 0).1) ((precD xs (ivD xs 0).2).1) = (r, 2)) (hw : wideX ((ivD xs 0).1) ((precD xs (ivD xs 0).2).1) = (w, g)) : LCt 11 A n c xs [.s (.lit (.slice A n c))] := by
  refine lct_of (O := orO ofO (orO (dkO 16 A n c (rK fun k => (k ≤ 800, jA (ivD xs k).1, (ivD xs k).2))) (orO (dkO 21 A n c (rK fun k => (k ≤ 900, iA (precD xs k).1, (precD xs k).2))) (tblO (orT Tlaw5_known (orT Tlaw5_IvMids (orT Tiv_Mid (orT Tiv_Rad (orT Tiv_Wide (orT Tnum_Sub (orT Tnum_Add (orT Tiv_Has (Tnum_Cmp))))))))))))) (by kernel_rfl) tyT_ok (fun w hA hn => only_or ofO_only (ofO_ok _ _) (only_or dkO_only (dkO_ok (xs := xs) (ent Tryz.func16 (by kernel_rfl) rfl) (rK_ok fun k hp => (ivD_spec hp).2.2.2) hA hn) (only_or dkO_only (dkO_ok (xs := xs) (ent Tryz.func21 (by kernel_rfl) rfl) (rK_ok fun k hp => (precD_spec hp).2.2.2) hA hn) (tblO_ok (orT_ok Tlaw5_known_ok (orT_ok Tlaw5_IvMids_ok (orT_ok Tiv_Mid_ok (orT_ok Tiv_Rad_ok (orT_ok Tiv_Wide_ok (orT_ok Tnum_Sub_ok (orT_ok Tnum_Add_ok (orT_ok Tiv_Has_ok (Tnum_Cmp_ok))))))))) _ w) (fun d st args => by simp [orO, refO, dkO, ofO, tblO, orT, noT, one, Tlaw5_known, Tlaw5_IvMids, Tiv_Mid, Tiv_Rad, Tiv_Wide, Tnum_Sub, Tnum_Add, Tiv_Has, Tnum_Cmp])) (fun d st args => by simp [orO, refO, dkO, ofO, tblO, orT, noT, one, Tlaw5_known, Tlaw5_IvMids, Tiv_Mid, Tiv_Rad, Tiv_Wide, Tnum_Sub, Tnum_Add, Tiv_Has, Tnum_Cmp])) (fun d st args => by simp [orO, refO, dkO, ofO, tblO, orT, noT, one, Tlaw5_known, Tlaw5_IvMids, Tiv_Mid, Tiv_Rad, Tiv_Wide, Tnum_Sub, Tnum_Add, Tiv_Has, Tnum_Cmp])) [] 2000 127 [.tmp 2] Tryz.func11 rfl Tryz.ntmps11 (by rw [Tryz.results11]) (by simp) rfl (fun hsm hs => ?_)
  have s1 := ivD_spec (xs := xs) (k := 0) (by omega)
  have u1 := s1.2.1
  have u2 := s1.2.2.1
  simp (maxSteps := 10000000) (implicitDefEqProofs := false) only [go_sem, ↓cond_true, ↓cond_false, ↓not_cond, ↓reduceIte, Nat.reduceMul, Nat.reduceAdd, Nat.reduceEqDiff, Nat.reduceLeDiff, Nat.reduceLT, reduceCtorEq, Int.reduceNeg, Tlaw5_known, Tlaw5_IvMids, Tiv_Mid, Tiv_Rad, Tiv_Wide, Tnum_Sub, Tnum_Add, Tiv_Has, Tnum_Cmp, Int.reduceLT, Int.reduceLE, Int.reduceAdd, Int.reduceToNat, Nat.reduceBEq, Int.reduceMul, Int.reduceSub, Nat.reduceSub, Int.reduceEq, gC, gCC, asSc, SX.L, SX.eta, ofO, Int.reduceBNe, Int.reduceBEq, Bool.or_true, Bool.true_or, Bool.false_or, Bool.or_false, hm, hr, hw]
  repeat' first | (with_reducible apply And.intro) | (with_reducible apply condP <;> intro _)
  all_goals first | omega | (show chk _ _ = true; kernel_rfl) | with_reducible assumption | (simp only [go_sem, *]; done) | rfl | (simp only [go_sem, *]; rfl) | (exfalso; simp_all only [Bool.true_eq_false, Bool.false_eq_true, reduceCtorEq]; done)
set_option maxRecDepth 100000 in
set_option maxHeartbeats 4000000 in
theorem v_rounds3 (xs : List Nat) (A : Option Addr) (n c : Nat) (m r w : X) (f g : Int) (hm : midX ((ivD xs 0).1) ((precD xs (ivD xs 0).2).1) = (m, 0)) (hr : radX ((ivD xs 0).1) ((precD xs (ivD xs 0).2).1) = (r, 0)) (hw : wideX ((ivD xs 0).1) ((precD xs (ivD xs 0).2).1) = (w, 2)) : LCt 11 A n c xs [.s (.lit (.slice A n c))] := by
  refine lct_of (O := orO ofO (orO (dkO 16 A n c (rK fun k => (k ≤ 800, jA (ivD xs k).1, (ivD xs k).2))) (orO (dkO 21 A n c (rK fun k => (k ≤ 900, iA (precD xs k).1, (precD xs k).2))) (tblO (orT Tlaw5_known (orT Tlaw5_IvMids (orT Tiv_Mid (orT Tiv_Rad (orT Tiv_Wide (orT Tnum_Sub (orT Tnum_Add (orT Tiv_Has (Tnum_Cmp))))))))))))) (by kernel_rfl) tyT_ok (fun w hA hn => only_or ofO_only (ofO_ok _ _) (only_or dkO_only (dkO_ok (xs := xs) (ent Tryz.func16 (by kernel_rfl) rfl) (rK_ok fun k hp => (ivD_spec hp).2.2.2) hA hn) (only_or dkO_only (dkO_ok (xs := xs) (ent Tryz.func21 (by kernel_rfl) rfl) (rK_ok fun k hp => (precD_spec hp).2.2.2) hA hn) (tblO_ok (orT_ok Tlaw5_known_ok (orT_ok Tlaw5_IvMids_ok (orT_ok Tiv_Mid_ok (orT_ok Tiv_Rad_ok (orT_ok Tiv_Wide_ok (orT_ok Tnum_Sub_ok (orT_ok Tnum_Add_ok (orT_ok Tiv_Has_ok (Tnum_Cmp_ok))))))))) _ w) (fun d st args => by simp [orO, refO, dkO, ofO, tblO, orT, noT, one, Tlaw5_known, Tlaw5_IvMids, Tiv_Mid, Tiv_Rad, Tiv_Wide, Tnum_Sub, Tnum_Add, Tiv_Has, Tnum_Cmp])) (fun d st args => by simp [orO, refO, dkO, ofO, tblO, orT, noT, one, Tlaw5_known, Tlaw5_IvMids, Tiv_Mid, Tiv_Rad, Tiv_Wide, Tnum_Sub, Tnum_Add, Tiv_Has, Tnum_Cmp])) (fun d st args => by simp [orO, refO, dkO, ofO, tblO, orT, noT, one, Tlaw5_known, Tlaw5_IvMids, Tiv_Mid, Tiv_Rad, Tiv_Wide, Tnum_Sub, Tnum_Add, Tiv_Has, Tnum_Cmp])) [] 2000 127 [.tmp 2] Tryz.func11 rfl Tryz.ntmps11 (by rw [Tryz.results11]) (by simp) rfl (fun hsm hs => ?_)
  have s1 := ivD_spec (xs := xs) (k := 0) (by omega)
  have u1 := s1.2.1
  have u2 := s1.2.2.1
  simp (maxSteps := 10000000) (implicitDefEqProofs := false) only [go_sem, ↓cond_true, ↓cond_false, ↓not_cond, ↓reduceIte, Nat.reduceMul, Nat.reduceAdd, Nat.reduceEqDiff, Nat.reduceLeDiff, Nat.reduceLT, reduceCtorEq, Int.reduceNeg, Tlaw5_known, Tlaw5_IvMids, Tiv_Mid, Tiv_Rad, Tiv_Wide, Tnum_Sub, Tnum_Add, Tiv_Has, Tnum_Cmp, Int.reduceLT, Int.reduceLE, Int.reduceAdd, Int.reduceToNat, Nat.reduceBEq, Int.reduceMul, Int.reduceSub, Nat.reduceSub, Int.reduceEq, gC, gCC, asSc, SX.L, SX.eta, ofO, Int.reduceBNe, Int.reduceBEq, Bool.or_true, Bool.true_or, Bool.false_or, Bool.or_false, hm, hr, hw]
  repeat' first | (with_reducible apply And.intro) | (with_reducible apply condP <;> intro _)
  all_goals first | omega | (show chk _ _ = true; kernel_rfl) | with_reducible assumption | (simp only [go_sem, *]; done) | rfl | (simp only [go_sem, *]; rfl) | (exfalso; simp_all only [Bool.true_eq_false, Bool.false_eq_true, reduceCtorEq]; done)
set_option maxRecDepth 100000 in
set_option maxHeartbeats 4000000 in
theorem v_rounds4 (xs : List Nat) (A : Option Addr) (n c : Nat) (m r w : X) (f g : Int) (hm : midX ((ivD xs 0).1) ((precD xs (ivD xs 0).2).1) = (m, 0)) (hr : radX ((ivD xs 0).1) ((precD xs (ivD xs 0).2).1) = (r, 0)) (hw : wideX ((ivD xs 0).1) ((precD xs (ivD xs 0).2).1) = (w, 0)) (hh : hasJ ((ivD xs 0).1) m = true) (h1 : ((two minus m r).2 != 0) = false → decide (cmpx (qx (two minus m r).1) ((ivD xs 0).1).lo ≤ 0) = true) (h2 : ((two plus m r).2 != 0) = false → decide (cmpx ((ivD xs 0).1).hi (qx (two plus m r).1) ≤ 0) = true) (h3 : ((two minus ((ivD xs 0).1).hi ((ivD xs 0).1).lo).2 != 0) = false → decide (cmpx (qx (two minus ((ivD xs 0).1).hi ((ivD xs 0).1).lo).1) w ≤ 0) = true) : LCt 11 A n c xs [.s (.lit (.slice A n c))] := by
  refine lct_of (O := orO ofO (orO (dkO 16 A n c (rK fun k => (k ≤ 800, jA (ivD xs k).1, (ivD xs k).2))) (orO (dkO 21 A n c (rK fun k => (k ≤ 900, iA (precD xs k).1, (precD xs k).2))) (tblO (orT Tlaw5_known (orT Tlaw5_IvMids (orT Tiv_Mid (orT Tiv_Rad (orT Tiv_Wide (orT Tnum_Sub (orT Tnum_Add (orT Tiv_Has (Tnum_Cmp))))))))))))) (by kernel_rfl) tyT_ok (fun w hA hn => only_or ofO_only (ofO_ok _ _) (only_or dkO_only (dkO_ok (xs := xs) (ent Tryz.func16 (by kernel_rfl) rfl) (rK_ok fun k hp => (ivD_spec hp).2.2.2) hA hn) (only_or dkO_only (dkO_ok (xs := xs) (ent Tryz.func21 (by kernel_rfl) rfl) (rK_ok fun k hp => (precD_spec hp).2.2.2) hA hn) (tblO_ok (orT_ok Tlaw5_known_ok (orT_ok Tlaw5_IvMids_ok (orT_ok Tiv_Mid_ok (orT_ok Tiv_Rad_ok (orT_ok Tiv_Wide_ok (orT_ok Tnum_Sub_ok (orT_ok Tnum_Add_ok (orT_ok Tiv_Has_ok (Tnum_Cmp_ok))))))))) _ w) (fun d st args => by simp [orO, refO, dkO, ofO, tblO, orT, noT, one, Tlaw5_known, Tlaw5_IvMids, Tiv_Mid, Tiv_Rad, Tiv_Wide, Tnum_Sub, Tnum_Add, Tiv_Has, Tnum_Cmp])) (fun d st args => by simp [orO, refO, dkO, ofO, tblO, orT, noT, one, Tlaw5_known, Tlaw5_IvMids, Tiv_Mid, Tiv_Rad, Tiv_Wide, Tnum_Sub, Tnum_Add, Tiv_Has, Tnum_Cmp])) (fun d st args => by simp [orO, refO, dkO, ofO, tblO, orT, noT, one, Tlaw5_known, Tlaw5_IvMids, Tiv_Mid, Tiv_Rad, Tiv_Wide, Tnum_Sub, Tnum_Add, Tiv_Has, Tnum_Cmp])) [] 2000 127 [.tmp 2] Tryz.func11 rfl Tryz.ntmps11 (by rw [Tryz.results11]) (by simp) rfl (fun hsm hs => ?_)
  have s1 := ivD_spec (xs := xs) (k := 0) (by omega)
  have u1 := s1.2.1
  have u2 := s1.2.2.1
  simp (maxSteps := 10000000) (implicitDefEqProofs := false) only [go_sem, ↓cond_true, ↓cond_false, ↓not_cond, ↓reduceIte, Nat.reduceMul, Nat.reduceAdd, Nat.reduceEqDiff, Nat.reduceLeDiff, Nat.reduceLT, reduceCtorEq, Int.reduceNeg, Tlaw5_known, Tlaw5_IvMids, Tiv_Mid, Tiv_Rad, Tiv_Wide, Tnum_Sub, Tnum_Add, Tiv_Has, Tnum_Cmp, Int.reduceLT, Int.reduceLE, Int.reduceAdd, Int.reduceToNat, Nat.reduceBEq, Int.reduceMul, Int.reduceSub, Nat.reduceSub, Int.reduceEq, gC, gCC, asSc, SX.L, SX.eta, ofO, Int.reduceBNe, Int.reduceBEq, Bool.or_true, Bool.true_or, Bool.false_or, Bool.or_false, hm, hr, hw, hh]
  repeat' first | (with_reducible apply And.intro) | (with_reducible apply condP <;> intro _)
  all_goals first | omega | (show chk _ _ = true; kernel_rfl) | with_reducible assumption | (simp only [go_sem, *]; done) | rfl | (simp only [go_sem, *]; rfl) | (exfalso; simp_all only [Bool.true_eq_false, Bool.false_eq_true, reduceCtorEq]; done)
theorem v_rounds (xs : List Nat) (A : Option Addr) (n c : Nat) : LCt 11 A n c xs [.s (.lit (.slice A n c))] := by
  obtain ⟨hg, u1, u2, -⟩ := ivD_spec (xs := xs) (k := 0) (by omega)
  obtain ⟨hz, -⟩ := precD_spec (xs := xs) (k := (ivD xs 0).2) (by omega)
  have em := mid_eq hg.2 (precD xs (ivD xs 0).2).1
  have er := rad_eq hg.2 ((precD xs (ivD xs 0).2).1)
  have ew := wide_eq (ivD xs 0).1 ((precD xs (ivD xs 0).2).1)
  obtain ⟨m1, m2⟩ := mid_facts hg hz
  obtain ⟨w1, w2⟩ := wide_facts hg hz
  have R1 := rad_facts hg hz
  obtain ⟨⟨m, e⟩, hm⟩ : ∃ p, p = rmid (ivD xs 0).1 (precD xs (ivD xs 0).2).1 := ⟨_, rfl⟩
  obtain ⟨⟨r, f⟩, hr⟩ : ∃ p, p = rrad (ivD xs 0).1 (precD xs (ivD xs 0).2).1 := ⟨_, rfl⟩
  obtain ⟨⟨w, g⟩, hw⟩ : ∃ p, p = rwide (ivD xs 0).1 (precD xs (ivD xs 0).2).1 := ⟨_, rfl⟩
  rw [← hm] at em m1 m2 R1
  rw [← hr] at er R1
  rw [← hw] at ew w1 w2
  have er : radX (ivD xs 0).1 (precD xs (ivD xs 0).2).1 = (qx r, f) := er
  have ew : wideX (ivD xs 0).1 (precD xs (ivD xs 0).2).1 = (qx w, g) := ew
  simp only at m1 m2 R1 w1 w2
  obtain ⟨a1, a2, a3⟩ := okJ_parts hg.1
  have c2 := (ok_arg a1 hg.2.lo).1
  rcases m1 with rfl | rfl
  · obtain ⟨gm, hh⟩ := m2 rfl
    obtain ⟨r1, r2⟩ := R1 rfl
    rcases r1 with rfl | rfl
    · obtain ⟨vr, l1, l2⟩ := r2 rfl
      rcases w1 with rfl | rfl
      · obtain ⟨vw, l3⟩ := w2 rfl
        have kr := ok_e (qx_ok vr).1
        rw [(qx_ok vr).2.2] at kr
        have f1 : m.v = m.q.at 65536 := rfl
        have f2 : (ivD xs 0).1.lo.v = (ivD xs 0).1.lo.q.at 65536 := rfl
        have f3 : (ivD xs 0).1.hi.v = (ivD xs 0).1.hi.q.at 65536 := rfl
        refine v_rounds4 xs A n c m (qx r) (qx w) 0 0 em er ew hh ?_ ?_ ?_
        · rw [two_ok gm.1 (qx_ok vr).1, (qx_ok vr).2.2]
          exact res_le (ofz_canon _ _) a1 (by rw [at_minus vr.1 (ok_e gm.1) kr]; omega)
        · rw [two_ok gm.1 (qx_ok vr).1, (qx_ok vr).2.2]
          exact res_ge (ofz_canon _ _) a2 (by rw [at_plus (ok_e gm.1) kr]; omega)
        · rw [two_ok a2 a1]
          exact res_le (ofz_canon _ _) (qx_ok vw).1 (by rw [at_minus c2 (ok_e a2) (ok_e a1), qx_v vw]; omega)
      · exact v_rounds3 xs A n c m (qx r) (qx w) 0 0 em er ew
    · exact v_rounds2 xs A n c m (qx r) (qx w) 0 g em er ew
  · exact v_rounds1 xs A n c m (qx r) (qx w) f g em er ew
theorem ivrounds_walk (W : World) (a0 : Option Addr) (l0 c0 : Nat) (xs0 : List Nat) (hx0 : Arg W a0 l0 c0 xs0) (ht : Tab W) :
    Calls Tryz.prog 11 #[.slice a0 l0 c0] W fun e W' => e = .returned (.bool true) ∧ Below W.heap.size W W' :=
  v_rounds xs0 a0 l0 c0 W _ ht hx0 ⟨_, _, rfl, r_slc, rfl⟩
end Go.Proofs.YtfggnoejcgehdaaGreatDoor
