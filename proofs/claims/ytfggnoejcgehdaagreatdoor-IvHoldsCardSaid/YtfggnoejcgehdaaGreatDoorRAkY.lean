/- The law IvHolds. -/
import Derived.Test.YtfggnoejcgehdaaGreatDoorRAk6
import Derived.Test.YtfggnoejcgehdaaGreatDoorRAk4
namespace Go.Proofs.YtfggnoejcgehdaaGreatDoor
open Go.RowKit Nx
set_option linter.unusedVariables false
set_option linter.unusedSimpArgs false
attribute [local go_sem] run init X.L J.L vL X.eta J.eta Q.eta List.cons_append List.nil_append brkK brkf_b brkf_t exef_some exif_some condf_b opf bodyE addR skipE stepOp stepLoad stepStore stepField stepCall stepBS stepBi stepCv stepIx lpf forget inL mentA ment dom evs evl evp evd okeys look fillA capsOf wordsOf rowsOf lenOf convK binV shV intV unV boolT tyT tiB tiI tiW tiD tiF tiR tiU tiNum tiIv tiVal tiSc okLf okD keysOf tblO orT noT one asNum asIv asVal postf_some resA tupA clA clL dropTo decide_true decide_false List.all_cons List.all_nil Bool.and_true Bool.and_self true_and and_true and_self List.length_cons List.length_nil List.drop_succ_cons List.drop_zero List.take_succ_cons List.take_zero List.getElem?_cons_zero List.getElem?_cons_succ List.map_cons List.map_nil false_implies true_implies Option.bind_some List.getElem?_toArray Bool.false_eq_true List.append_nil List.flatMap_cons List.flatMap_nil true_or or_true forall_const List.reverse_cons List.reverse_nil Option.isSome_some Option.any_some Nat.lt_irrefl not_true_eq_false Bool.not_true Bool.not_false imp_self implies_true Bool.not_eq_true' Bool.not_eq_false' Bool.true_eq_false memOf cntF nmL rnL nmA rnA isV contsOf ndB refO orO pin Int.toNat_zero decide_eq_true_eq wrap0 wrap1 ci1 ci2 BEq.rfl beq_self_eq_true Int.natCast_zero ge_iff_le gt_iff_lt Int.le_refl Nat.zero_mul Nat.one_mul Nat.zero_add Nat.zero_lt_succ Nat.lt_add_one Nat.le_refl List.append_eq ub wrap2 bits_in wrap_in Bool.not_eq_true dkO dpf_some rK rKI rKJ Int.toNat_natCast Int.natCast_nonneg dk0 gN gNN gNI gI gNNIB gNIB gV gVV gVIB gVVIB gWW gJ gJJ gJN gJJI gJI gJII gNNI gBWI gVVVV gVVVVI gVI gIJJI gJJN gJB AV.s cond_true cond_false Bool.true_and Bool.and_false Bool.false_and Bool.or_true Bool.true_or Bool.or_false Bool.false_or
attribute [local irreducible] chk
set_option maxRecDepth 100000 in
set_option maxHeartbeats 4000000 in
theorem v_holds1 (xs : List Nat) (A : Option Addr) (n c : Nat) (s t u w : J) (q1 q2 q3 q4 : Q) (e1 : addJ (sivD xs 0).1 (sivD xs (sivD xs 0).2).1 (precD xs (sivD xs (sivD xs 0).2).2).1 = (s, 0)) (e2 : subJ (sivD xs 0).1 (sivD xs (sivD xs 0).2).1 (precD xs (sivD xs (sivD xs 0).2).2).1 = (t, 0)) (e3 : mulJ (sivD xs 0).1 (sivD xs (sivD xs 0).2).1 (precD xs (sivD xs (sivD xs 0).2).2).1 = (u, 0)) (e4 : powJ (sivD xs 0).1 2 (precD xs (sivD xs (sivD xs 0).2).2).1 = (w, 0)) (f1 : two plus (inD xs (sivD xs 0).1 (precD xs (sivD xs (sivD xs 0).2).2).2) (inD xs (sivD xs (sivD xs 0).2).1 ((precD xs (sivD xs (sivD xs 0).2).2).2 + 1)) = (q1, 0)) (f2 : two minus (inD xs (sivD xs 0).1 (precD xs (sivD xs (sivD xs 0).2).2).2) (inD xs (sivD xs (sivD xs 0).2).1 ((precD xs (sivD xs (sivD xs 0).2).2).2 + 1)) = (q2, 0)) (f3 : two times (inD xs (sivD xs 0).1 (precD xs (sivD xs (sivD xs 0).2).2).2) (inD xs (sivD xs (sivD xs 0).2).1 ((precD xs (sivD xs (sivD xs 0).2).2).2 + 1)) = (q3, 0)) (f4 : two times (inD xs (sivD xs 0).1 (precD xs (sivD xs (sivD xs 0).2).2).2) (inD xs (sivD xs 0).1 (precD xs (sivD xs (sivD xs 0).2).2).2) = (q4, 0)) (h1 : hasJ s (qx q1) = true) (h2 : hasJ t (qx q2) = true) (h3 : hasJ u (qx q3) = true) (h4 : hasJ w (qx q4) = true) (e5 : divJ (sivD xs 0).1 (sivD xs (sivD xs 0).2).1 (precD xs (sivD xs (sivD xs 0).2).2).1 = (zJ, 3)) (h5 : hasJ (sivD xs (sivD xs 0).2).1 ⟨false, 0, []⟩ = true) : LCt 8 A n c xs [.s (.lit (.slice A n c))] := by
  refine lct_of (O := orO ofO (orO (dkO 25 A n c (rK fun k => (k ≤ 800, jA (sivD xs k).1, (sivD xs k).2))) (orO (dkO 21 A n c (rK fun k => (k ≤ 900, iA (precD xs k).1, (precD xs k).2))) (orO (dkO 17 A n c (rKJ fun k j => (Good j ∧ k ≤ 900, xA (inD xs j k), k + 1))) (tblO (orT Tlaw5_known (orT Tiv_Add (orT Tiv_Sub (orT Tiv_Mul (orT Tiv_Pow (orT Tnum_Add (orT Tnum_Sub (orT Tnum_Mul (orT Tiv_Has (orT Tiv_Div (Tiv_Of)))))))))))))))) (by kernel_rfl) tyT_ok (fun w hA hn => only_or ofO_only (ofO_ok _ _) (only_or dkO_only (dkO_ok (xs := xs) (ent Tryz.func25 (by kernel_rfl) rfl) (rK_ok fun k hp => (sivD_spec hp).2.2.2) hA hn) (only_or dkO_only (dkO_ok (xs := xs) (ent Tryz.func21 (by kernel_rfl) rfl) (rK_ok fun k hp => (precD_spec hp).2.2.2) hA hn) (only_or dkO_only (dkO_ok (xs := xs) (ent Tryz.func17 (by kernel_rfl) rfl) (rKJ_ok fun k j hp => (inD_spec hp.1 hp.2).2.1) hA hn) (tblO_ok (orT_ok Tlaw5_known_ok (orT_ok Tiv_Add_ok (orT_ok Tiv_Sub_ok (orT_ok Tiv_Mul_ok (orT_ok Tiv_Pow_ok (orT_ok Tnum_Add_ok (orT_ok Tnum_Sub_ok (orT_ok Tnum_Mul_ok (orT_ok Tiv_Has_ok (orT_ok Tiv_Div_ok (Tiv_Of_ok))))))))))) _ w) (fun d st args => by simp [orO, refO, dkO, ofO, tblO, orT, noT, one, Tlaw5_known, Tiv_Add, Tiv_Sub, Tiv_Mul, Tiv_Pow, Tnum_Add, Tnum_Sub, Tnum_Mul, Tiv_Has, Tiv_Div, Tiv_Of])) (fun d st args => by simp [orO, refO, dkO, ofO, tblO, orT, noT, one, Tlaw5_known, Tiv_Add, Tiv_Sub, Tiv_Mul, Tiv_Pow, Tnum_Add, Tnum_Sub, Tnum_Mul, Tiv_Has, Tiv_Div, Tiv_Of])) (fun d st args => by simp [orO, refO, dkO, ofO, tblO, orT, noT, one, Tlaw5_known, Tiv_Add, Tiv_Sub, Tiv_Mul, Tiv_Pow, Tnum_Add, Tnum_Sub, Tnum_Mul, Tiv_Has, Tiv_Div, Tiv_Of])) (fun d st args => by simp [orO, refO, dkO, ofO, tblO, orT, noT, one, Tlaw5_known, Tiv_Add, Tiv_Sub, Tiv_Mul, Tiv_Pow, Tnum_Add, Tnum_Sub, Tnum_Mul, Tiv_Has, Tiv_Div, Tiv_Of])) [] 2000 179 [.tmp 2] Tryz.func8 rfl Tryz.ntmps8 (by rw [Tryz.results8]) (by simp) rfl (fun hsm hs => ?_)
  have s1 := sivD_spec (xs := xs) (k := 0) (by omega)
  have u1 := s1.2.1
  have u2 := s1.2.2.1
  have s2 := sivD_spec (xs := xs) (k := (sivD xs 0).2) (by omega)
  have u3 := s2.2.1
  have u4 := s2.2.2.1
  have s3 := precD_spec (xs := xs) (k := (sivD xs (sivD xs 0).2).2) (by omega)
  have u5 := s3.2.1
  have u6 := s3.2.2.1
  have G1 := s1.1.1
  have G2 := s2.1.1
  have g1 := G1.2
  have g2 := G2.2
  clear s1 s2 s3
  simp (maxSteps := 10000000) only [go_sem, ↓cond_true, ↓cond_false, ↓not_cond, ↓reduceIte, Nat.reduceMul, Nat.reduceAdd, Nat.reduceEqDiff, Nat.reduceLeDiff, Nat.reduceLT, reduceCtorEq, Int.reduceNeg, Tlaw5_known, Tiv_Add, Tiv_Sub, Tiv_Mul, Tiv_Pow, Tnum_Add, Tnum_Sub, Tnum_Mul, Tiv_Has, Tiv_Div, Tiv_Of, Int.reduceLT, Int.reduceLE, Int.reduceAdd, Int.reduceToNat, Nat.reduceBEq, Int.reduceMul, Int.reduceSub, Nat.reduceSub, Int.reduceEq, gC, gCC, asSc, SX.L, SX.eta, ofO, Int.reduceBNe, Int.reduceBEq, Bool.or_true, Bool.true_or, Bool.false_or, Bool.or_false, e1, e2, e3, e4, f1, f2, f3, f4, h1, h2, h3, h4, e5, h5, zJ, zX]
  repeat' first | (with_reducible apply And.intro) | (with_reducible apply condP <;> intro _)
  all_goals first | omega | (show chk _ _ = true; kernel_rfl) | with_reducible assumption | (simp only [go_sem, *]; done) | rfl | (simp only [go_sem, *]; rfl) | (exfalso; simp_all only [Bool.true_eq_false, Bool.false_eq_true, reduceCtorEq]; done)
set_option maxRecDepth 100000 in
set_option maxHeartbeats 4000000 in
theorem v_holds2 (xs : List Nat) (A : Option Addr) (n c : Nat) (s t u w : J) (q1 q2 q3 q4 : Q) (c1 v : J) (e1 : addJ (sivD xs 0).1 (sivD xs (sivD xs 0).2).1 (precD xs (sivD xs (sivD xs 0).2).2).1 = (s, 0)) (e2 : subJ (sivD xs 0).1 (sivD xs (sivD xs 0).2).1 (precD xs (sivD xs (sivD xs 0).2).2).1 = (t, 0)) (e3 : mulJ (sivD xs 0).1 (sivD xs (sivD xs 0).2).1 (precD xs (sivD xs (sivD xs 0).2).2).1 = (u, 0)) (e4 : powJ (sivD xs 0).1 2 (precD xs (sivD xs (sivD xs 0).2).2).1 = (w, 0)) (f1 : two plus (inD xs (sivD xs 0).1 (precD xs (sivD xs (sivD xs 0).2).2).2) (inD xs (sivD xs (sivD xs 0).2).1 ((precD xs (sivD xs (sivD xs 0).2).2).2 + 1)) = (q1, 0)) (f2 : two minus (inD xs (sivD xs 0).1 (precD xs (sivD xs (sivD xs 0).2).2).2) (inD xs (sivD xs (sivD xs 0).2).1 ((precD xs (sivD xs (sivD xs 0).2).2).2 + 1)) = (q2, 0)) (f3 : two times (inD xs (sivD xs 0).1 (precD xs (sivD xs (sivD xs 0).2).2).2) (inD xs (sivD xs (sivD xs 0).2).1 ((precD xs (sivD xs (sivD xs 0).2).2).2 + 1)) = (q3, 0)) (f4 : two times (inD xs (sivD xs 0).1 (precD xs (sivD xs (sivD xs 0).2).2).2) (inD xs (sivD xs 0).1 (precD xs (sivD xs (sivD xs 0).2).2).2) = (q4, 0)) (h1 : hasJ s (qx q1) = true) (h2 : hasJ t (qx q2) = true) (h3 : hasJ u (qx q3) = true) (h4 : hasJ w (qx q4) = true) (e5 : divJ (sivD xs 0).1 (sivD xs (sivD xs 0).2).1 (precD xs (sivD xs (sivD xs 0).2).2).1 = (c1, 0)) (gc : GJ c1) (e6 : mulJ c1 ⟨(inD xs (sivD xs (sivD xs 0).2).1 ((precD xs (sivD xs (sivD xs 0).2).2).2 + 1)), (inD xs (sivD xs (sivD xs 0).2).1 ((precD xs (sivD xs (sivD xs 0).2).2).2 + 1))⟩ (precD xs (sivD xs (sivD xs 0).2).2).1 = (v, 0)) (h6 : hasJ v (inD xs (sivD xs 0).1 (precD xs (sivD xs (sivD xs 0).2).2).2) = true) : LCt 8 A n c xs [.s (.lit (.slice A n c))] := by
  refine lct_of (O := orO ofO (orO (dkO 25 A n c (rK fun k => (k ≤ 800, jA (sivD xs k).1, (sivD xs k).2))) (orO (dkO 21 A n c (rK fun k => (k ≤ 900, iA (precD xs k).1, (precD xs k).2))) (orO (dkO 17 A n c (rKJ fun k j => (Good j ∧ k ≤ 900, xA (inD xs j k), k + 1))) (tblO (orT Tlaw5_known (orT Tiv_Add (orT Tiv_Sub (orT Tiv_Mul (orT Tiv_Pow (orT Tnum_Add (orT Tnum_Sub (orT Tnum_Mul (orT Tiv_Has (orT Tiv_Div (Tiv_Of)))))))))))))))) (by kernel_rfl) tyT_ok (fun w hA hn => only_or ofO_only (ofO_ok _ _) (only_or dkO_only (dkO_ok (xs := xs) (ent Tryz.func25 (by kernel_rfl) rfl) (rK_ok fun k hp => (sivD_spec hp).2.2.2) hA hn) (only_or dkO_only (dkO_ok (xs := xs) (ent Tryz.func21 (by kernel_rfl) rfl) (rK_ok fun k hp => (precD_spec hp).2.2.2) hA hn) (only_or dkO_only (dkO_ok (xs := xs) (ent Tryz.func17 (by kernel_rfl) rfl) (rKJ_ok fun k j hp => (inD_spec hp.1 hp.2).2.1) hA hn) (tblO_ok (orT_ok Tlaw5_known_ok (orT_ok Tiv_Add_ok (orT_ok Tiv_Sub_ok (orT_ok Tiv_Mul_ok (orT_ok Tiv_Pow_ok (orT_ok Tnum_Add_ok (orT_ok Tnum_Sub_ok (orT_ok Tnum_Mul_ok (orT_ok Tiv_Has_ok (orT_ok Tiv_Div_ok (Tiv_Of_ok))))))))))) _ w) (fun d st args => by simp [orO, refO, dkO, ofO, tblO, orT, noT, one, Tlaw5_known, Tiv_Add, Tiv_Sub, Tiv_Mul, Tiv_Pow, Tnum_Add, Tnum_Sub, Tnum_Mul, Tiv_Has, Tiv_Div, Tiv_Of])) (fun d st args => by simp [orO, refO, dkO, ofO, tblO, orT, noT, one, Tlaw5_known, Tiv_Add, Tiv_Sub, Tiv_Mul, Tiv_Pow, Tnum_Add, Tnum_Sub, Tnum_Mul, Tiv_Has, Tiv_Div, Tiv_Of])) (fun d st args => by simp [orO, refO, dkO, ofO, tblO, orT, noT, one, Tlaw5_known, Tiv_Add, Tiv_Sub, Tiv_Mul, Tiv_Pow, Tnum_Add, Tnum_Sub, Tnum_Mul, Tiv_Has, Tiv_Div, Tiv_Of])) (fun d st args => by simp [orO, refO, dkO, ofO, tblO, orT, noT, one, Tlaw5_known, Tiv_Add, Tiv_Sub, Tiv_Mul, Tiv_Pow, Tnum_Add, Tnum_Sub, Tnum_Mul, Tiv_Has, Tiv_Div, Tiv_Of])) [] 2000 179 [.tmp 2] Tryz.func8 rfl Tryz.ntmps8 (by rw [Tryz.results8]) (by simp) rfl (fun hsm hs => ?_)
  have s1 := sivD_spec (xs := xs) (k := 0) (by omega)
  have u1 := s1.2.1
  have u2 := s1.2.2.1
  have s2 := sivD_spec (xs := xs) (k := (sivD xs 0).2) (by omega)
  have u3 := s2.2.1
  have u4 := s2.2.2.1
  have s3 := precD_spec (xs := xs) (k := (sivD xs (sivD xs 0).2).2) (by omega)
  have u5 := s3.2.1
  have u6 := s3.2.2.1
  have G1 := s1.1.1
  have G2 := s2.1.1
  have g1 := G1.2
  have g2 := G2.2
  clear s1 s2 s3
  have i1 := (inD_spec (xs := xs) (j := (sivD xs (sivD xs 0).2).1) (k := (precD xs (sivD xs (sivD xs 0).2).2).2 + 1) G2 (by omega)).1.1
  have gy : GJ ⟨(inD xs (sivD xs (sivD xs 0).2).1 ((precD xs (sivD xs (sivD xs 0).2).2).2 + 1)), (inD xs (sivD xs (sivD xs 0).2).1 ((precD xs (sivD xs (sivD xs 0).2).2).2 + 1))⟩ := ⟨i1.2, i1.2⟩
  clear i1
  simp (maxSteps := 10000000) only [go_sem, ↓cond_true, ↓cond_false, ↓not_cond, ↓reduceIte, Nat.reduceMul, Nat.reduceAdd, Nat.reduceEqDiff, Nat.reduceLeDiff, Nat.reduceLT, reduceCtorEq, Int.reduceNeg, Tlaw5_known, Tiv_Add, Tiv_Sub, Tiv_Mul, Tiv_Pow, Tnum_Add, Tnum_Sub, Tnum_Mul, Tiv_Has, Tiv_Div, Tiv_Of, Int.reduceLT, Int.reduceLE, Int.reduceAdd, Int.reduceToNat, Nat.reduceBEq, Int.reduceMul, Int.reduceSub, Nat.reduceSub, Int.reduceEq, gC, gCC, asSc, SX.L, SX.eta, ofO, Int.reduceBNe, Int.reduceBEq, Bool.or_true, Bool.true_or, Bool.false_or, Bool.or_false, e1, e2, e3, e4, f1, f2, f3, f4, h1, h2, h3, h4, e5, e6, h6]
  repeat' first | (with_reducible apply And.intro) | (with_reducible apply condP <;> intro _)
  all_goals first | omega | (show chk _ _ = true; kernel_rfl) | with_reducible assumption | (simp only [go_sem, *]; done) | rfl | (simp only [go_sem, *]; rfl) | (exfalso; simp_all only [Bool.true_eq_false, Bool.false_eq_true, reduceCtorEq]; done)
theorem v_holds (xs : List Nat) (A : Option Addr) (n c : Nat) : LCt 8 A n c xs [.s (.lit (.slice A n c))] := by
  have s1 := sivD_spec (xs := xs) (k := 0) (by omega)
  have s2 := sivD_spec (xs := xs) (k := (sivD xs 0).2) (by have := s1.2.2.1; omega)
  have s3 := precD_spec (xs := xs) (k := (sivD xs (sivD xs 0).2).2) (by have := s1.2.2.1; have := s2.2.2.1; omega)
  have G1 := s1.1.1
  have G2 := s2.1.1
  have hk : (precD xs (sivD xs (sivD xs 0).2).2).2 ≤ 800 := by have := s1.2.2.1; have := s2.2.2.1; have := s3.2.2.1; omega
  have i1 := inD_spec (xs := xs) (j := (sivD xs 0).1) (k := (precD xs (sivD xs (sivD xs 0).2).2).2) G1 (by omega)
  have i2 := inD_spec (xs := xs) (j := (sivD xs (sivD xs 0).2).1) (k := (precD xs (sivD xs (sivD xs 0).2).2).2 + 1) G2 (by omega)
  have b1 := fewj_bd s1.1.2
  have b2 := fewj_bd s2.1.2
  have B1 : BdJ 132 (sivD xs 0).1 := ⟨b1.1.mono (by omega), b1.2.mono (by omega)⟩
  have B2 : BdJ 132 (sivD xs (sivD xs 0).2).1 := ⟨b2.1.mono (by omega), b2.2.mono (by omega)⟩
  have hz := s3.1
  obtain ⟨⟨s, e1, h1⟩, f1⟩ := hold_add (z := (precD xs (sivD xs (sivD xs 0).2).2).1) G1 G2 hz B1 B2 (by omega) i1.1.1 i2.1.1 i1.1.2 i2.1.2 (i1.2.2 s1.1.2) (i2.2.2 s2.1.2)
  obtain ⟨⟨t, e2, h2⟩, f2⟩ := hold_sub (z := (precD xs (sivD xs (sivD xs 0).2).2).1) G1 G2 hz B1 B2 (by omega) i1.1.1 i2.1.1 i1.1.2 i2.1.2 (i1.2.2 s1.1.2) (i2.2.2 s2.1.2)
  obtain ⟨⟨u, e3, h3⟩, f3⟩ := hold_mul (z := (precD xs (sivD xs (sivD xs 0).2).2).1) G1 G2 hz B1 B2 (by omega) i1.1.1 i2.1.1 i1.1.2 i2.1.2 (i1.2.2 s1.1.2) (i2.2.2 s2.1.2)
  obtain ⟨⟨w, e4, h4⟩, f4⟩ := hold_sq (z := (precD xs (sivD xs (sivD xs 0).2).2).1) G1 hz B1 (by omega) i1.1.1 i1.1.2 (i1.2.2 s1.1.2)
  cases hn : hasJ (sivD xs (sivD xs 0).2).1 zX
  · obtain ⟨c1, v, e5, e6, h6⟩ := hold_back (z := (precD xs (sivD xs (sivD xs 0).2).2).1) G1 G2 hz B1 B2 (by omega) hn i1.1.1 i2.1.1 i1.1.2 i2.1.2 (i2.2.2 s2.1.2)
    obtain ⟨L, G, e, hq, _⟩ := quo_ex (z := (precD xs (sivD xs (sivD xs 0).2).2).1) G1 G2 hz B1 B2 (by omega) hn
    have gc : GJ c1 := by
      rw [e5] at e
      injection e with e _
      rw [e]; exact (ends_ok hq.1 hq.2.1 hq.2.2.1).2.2
    exact v_holds2 xs A n c s t u w _ _ _ _ c1 v e1 e2 e3 e4 f1 f2 f3 f4 h1 h2 h3 h4 e5 gc e6 h6
  · exact v_holds1 xs A n c s t u w _ _ _ _ e1 e2 e3 e4 f1 f2 f3 f4 h1 h2 h3 h4 (div_no G1 G2 hz hn) hn
theorem ivholds_walk (W : World) (a0 : Option Addr) (l0 c0 : Nat) (xs0 : List Nat) (hx0 : Arg W a0 l0 c0 xs0) (ht : Tab W) :
    Calls Tryz.prog 8 #[.slice a0 l0 c0] W fun e W' => e = .returned (.bool true) ∧ Below W.heap.size W W' :=
  v_holds xs0 a0 l0 c0 W _ ht hx0 ⟨_, _, rfl, r_slc, rfl⟩
end Go.Proofs.YtfggnoejcgehdaaGreatDoor
