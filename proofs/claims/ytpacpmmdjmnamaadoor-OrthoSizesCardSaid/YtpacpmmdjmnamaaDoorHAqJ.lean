/- OrthoRight. -/
import Derived.Test.YtpacpmmdjmnamaaDoorHAq3
import Derived.Test.YtpacpmmdjmnamaaDoorHAqG
namespace Go.Proofs.YtpacpmmdjmnamaaDoor
open Go.RowKit Nx
set_option linter.unusedVariables false
set_option linter.unusedSimpArgs false
set_option maxRecDepth 100000
set_option maxHeartbeats 4000000
attribute [local go_sem] run init X.L J.L vL X.eta J.eta Q.eta List.cons_append List.nil_append brkK brkf_b brkf_t exef_some exif_some condf_b opf bodyE addR skipE stepOp stepLoad stepStore stepField stepCall stepBS stepBi stepCv stepIx lpf hdS hd1 pick forget inL mentA ment dom evs evl evp evd okeys look fillA capsOf wordsOf rowsOf lenOf convK binV shV intV unV boolT tiB tiI tiW tiD tiF tiU tiNum tiIv tiVal tiSc okLf okD keysOf tblO cvA cvL dnL olA olL noO noA cbL cbA orT noT one asNum asIv asVal postf_some resA tupA clA clL dropTo decide_true decide_false List.all_cons List.all_nil Bool.and_true Bool.and_self true_and and_true and_self List.length_cons List.length_nil List.drop_succ_cons List.drop_zero List.take_succ_cons List.take_zero List.getElem?_cons_zero List.getElem?_cons_succ List.map_cons List.map_nil false_implies true_implies Option.bind_some List.getElem?_toArray Bool.false_eq_true List.append_nil List.flatMap_cons List.flatMap_nil true_or or_true forall_const List.reverse_cons List.reverse_nil Option.isSome_some Option.any_some Nat.lt_irrefl not_true_eq_false Bool.not_true Bool.not_false imp_self implies_true Bool.not_eq_true' Bool.not_eq_false' Bool.true_eq_false memOf cntF nmL rnL nmA rnA isV contsOf ndB refO orO pin Int.toNat_zero decide_eq_true_eq wrap0 wrap1 ci1 ci2 BEq.rfl beq_self_eq_true Int.natCast_zero ge_iff_le gt_iff_lt Int.le_refl Nat.zero_mul Nat.one_mul Nat.zero_add Nat.zero_lt_succ Nat.lt_add_one Nat.le_refl List.append_eq dkO dpf_some rK rKI Int.toNat_natCast gN gNN gNI gI gNNIB gNIB gJ gJJ gJN gJJI gJI stepB0 stepMk stepSl stepAp apY optI okO nilV slT resB outPs outLs outL dnT noE boxL_nil boxL_cons ptsL_nil ptsL_cons bxe pxe bne_self_eq_false wr2 wr3 wr4 wr5 wr6 wr7 wr8 gB gP gBB gBP gBZ gBBZ bC_nil bC_cons pC_nil pC_cons fvO Lc.up tiS List.replicate_succ List.replicate_zero List.flatten_cons List.flatten_nil Int.ofNat_lt Int.cast_ofNat_Int Int.ofNat_eq_natCast List.isEmpty_nil List.isEmpty_cons and_false false_and List.cons_ne_nil Nat.add_zero ite_true ite_false if_true if_false Nat.le_zero_eq eq_self Bool.and_false Bool.false_and Bool.true_and tiQ gA gE asZ asT asV1 asN1 asB_b asP_b asM_m asQ_m ite_self AV.s cond_true cond_false Bool.or_true Bool.true_or Bool.or_false Bool.false_or
attribute [local go_sem ↓] cond_true cond_false not_cond outL_box outL_pts clL_box clL_pts okL_box okL_pts ment_box ment_pts olL_box olL_pts cvL_box cvL_pts noO_box noO_pts asB_box asP_pts len_box len_pts
attribute [local irreducible] chk
def LO6 (f : FuncId) (A : Option Addr) (n c : Nat) (xs : List Nat) (args : List AV) : Prop := ∀ w us, Tab w → Arg w A n c xs → RA envA (fun _ => false) w args us →
  Calls Tryd.prog f us.toArray w fun e w' => e = .returned (.bool true) ∧ Below w.heap.size w w'
theorem lo6_of {ty : TypeId → Option TI} {O : Orac} (hm : Tryd.prog.follows .mixedOrders = true) (hty : ∀ t i, ty t = some i → TiOK Tryd.prog t i) {f : FuncId} {fn : Func} {c0 : Code} {args : List AV} {A : Option Addr} {n c : Nat} {xs : List Nat}
    (hO : ∀ w, Arg w A n c xs → (∀ ad, 0 < n → A = some ad → ¬ (fun _ : Nat => False) ad.block) → OrOK Tryd.prog O (fun _ => False) w) (fg : List Nat)
    (fuel N : Nat) (rs : List ResultVar) (hf : Tryd.prog.funcs[f]? = some fn) (hb : fn.body = some c0) (hN : fn.ntmps = N) (hr : fn.results.toList = rs) (hl : args.length ≤ N) (hc : args.all cbA = true)
    (h : smAs args → Small B64 xs → run ty O N (fun st => postf (· = bA true) (resA ty st rs)) fg fuel [.code c0] (init 0 args)) : LO6 f A n c xs args := by
  intro w us ht hX hA
  replace h := h hA.sm hX.2
  refine (call_of (mem := []) (ρ := ⟨fun n => n, w.heap.size, fun _ => undef, fun _ => 0, fun _ => false⟩) hm hty (hO w hX (fun _ _ _ h => h)) fg fuel N rs hf hb hN hr hl ht (fun k v h => by cases h) (fun b v h => by cases h) (fun b b' h => by cases h) (hA.closed hc fun _ _ => ⟨fun _ h => (by cases h), fun _ h => (by cases h)⟩) rfl rfl (by rw [List.append_nil]; exact h)).mono ?_
  rintro e w' ⟨u, r, rfl, rfl, hcl, hR, hb⟩
  rw [show u = .bool true from RL.one.1 (hR envA (fun _ => false) ⟨fun _ h => (by cases h), fun _ _ h => (by cases h), Nat.zero_le _⟩)]
  exact ⟨rfl, hb⟩
theorem neg_o {x : X} (h : x.ok = true) : negx x = x.q.neg := by
  unfold negx anssign
  unfold X.ok at h
  rw [if_pos h]; rfl
noncomputable def TkR (m0 : List (List X)) (z0 : Int) (R : AV) : Tbl := one 10 (gA asQ fun m => gA asZ fun z => gE (m = m0 ∧ z = z0, R))
theorem TkR_ok {m0 : List (List X)} {z0 : Int} {R : AV} (hR : Ct Tryd.prog 10 [qA_ m0, iA z0] (· = R)) : TbOK Tryd.prog (TkR m0 z0 R) := one_t (ent Tryd.func10 (by kernel_rfl) rfl) (.a asQ_ok fun m => .a asZ_ok fun z => .e fun h => by
  obtain ⟨rfl, rfl⟩ := h
  exact hR)
theorem k9qG (s1 s2 s3 s4 : Bool) (e1 e2 e3 e4 : Int) (w1 w2 w3 w4 : List Nat) : asQ (.v false [.sl false 1 2 [.sl 3 2 [.lit (.bool s1), .lit (.int .i64 e1), .ws w1, .lit (.bool s2), .lit (.int .i64 e2), .ws w2], .sl 3 2 [.lit (.bool s3), .lit (.int .i64 e3), .ws w3, .lit (.bool s4), .lit (.int .i64 e4), .ws w4]]]) = some [[⟨s1, e1, w1⟩, ⟨s2, e2, w2⟩], [⟨s3, e3, w3⟩, ⟨s4, e4, w4⟩]] := rfl
abbrev sqA (a b c d : X) : AV := .tup [(false, [.sl true 1 2 [.sl 3 2 [.lit (.bool a.s), .lit (.int .i64 a.e), .ws a.xs, .lit (.bool b.s), .lit (.int .i64 b.e), .ws b.xs], .sl 3 2 [.lit (.bool c.s), .lit (.int .i64 c.e), .ws c.xs, .lit (.bool d.s), .lit (.int .i64 d.e), .ws d.xs]]]), (false, [.lit (.int .i64 0)])]
theorem v_orA (xs : List Nat) (A : Option Addr) (n c : Nat) {a0 b0 a1 b1 : X} {p0 p1 : Q} (s1 : (signx (qx (osmallD xs 0)) == 0) = false) (hng : negx (qx (osmallD xs 1)) = (osmallD xs 1).neg) (hR : Ct Tryd.prog 10 [qA_ [[qx (osmallD xs 0), qx (osmallD xs 1).neg], [qx (osmallD xs 1), qx (osmallD xs 0)]], iA (max (oprecD xs 2).1 12)] (· = sqA a0 b0 a1 b1)) (h0 : two times a0 b0 = (p0, 0)) (h1 : two times a1 b1 = (p1, 0)) (h2 : two plus (qx p0) (qx p1) = (q0, 0)) (h3 : signx (qx q0) = 0) : LO6 4 A n c xs [.s (.lit (.slice A n c))] := by
  refine lo6_of (O := orO ofO (orO (dkO 15 A n c (rK fun k => (Small B64 xs ∧ k ≤ 900, nA (osmallD xs k), k + 1))) (orO (dkO 9 A n c (rK fun k => (k ≤ 900, iA (oprecD xs k).1, (oprecD xs k).2))) (orO (tblE (TkR [[qx (osmallD xs 0), qx (osmallD xs 1).neg], [qx (osmallD xs 1), qx (osmallD xs 0)]] (max (oprecD xs 2).1 12) (sqA a0 b0 a1 b1)) 10) (tblO (orT T9_known (orT Tnum_Sign (orT Tnum_Neg (orT Tnum_Mul Tnum_Add))))))))) (by kernel_rfl) tyO_ok (fun w hA hn => only_or ofO_only (ofO_ok _ _) (only_or dkO_only (dkO_ok (xs := xs) (ent Tryd.func15 (by kernel_rfl) rfl) (rK_ok fun k hp => osmallD_dct hp) hA hn) (only_or dkO_only (dkO_ok (xs := xs) (ent Tryd.func9 (by kernel_rfl) rfl) (rK_ok fun k hp => (oprecD_spec hp).2.2.2) hA hn) (only_or tblE_only (tblE_ok (TkR_ok hR)) (tblO_ok (orT_ok T9_known_ok (orT_ok Tnum_Sign_ok (orT_ok Tnum_Neg_ok (orT_ok Tnum_Mul_ok Tnum_Add_ok)))) _ w) (fun d st args => by simp [orO, refO, dkO, ofO, tblO, tblE, orT, noT, one, T9_known, Tnum_Sign, Tnum_Neg, Tnum_Mul, Tnum_Add])) (fun d st args => by simp [orO, refO, dkO, ofO, tblO, tblE, orT, noT, one, T9_known, Tnum_Sign, Tnum_Neg, Tnum_Mul, Tnum_Add])) (fun d st args => by simp [orO, refO, dkO, ofO, tblO, tblE, orT, noT, one, T9_known, Tnum_Sign, Tnum_Neg, Tnum_Mul, Tnum_Add])) (fun d st args => by simp [orO, refO, dkO, ofO, tblO, tblE, orT, noT, one, T9_known, Tnum_Sign, Tnum_Neg, Tnum_Mul, Tnum_Add])) [] 1500 119 [.tmp 2] Tryd.func4 rfl Tryd.ntmps4 (by rw [Tryd.results4]) (by simp) rfl (fun hsm hs => ?_)
  simp (maxSteps := 10000000) only [go_sem, ↓reduceIte, Nat.reduceMul, Nat.reduceDiv, Nat.reduceAdd, Nat.reduceEqDiff, Nat.reduceLeDiff, Nat.reduceLT, reduceCtorEq, Int.reduceNeg, Int.reduceLT, Int.reduceLE, Int.reduceAdd, Int.reduceToNat, Nat.reduceBEq, Int.reduceMul, Int.reduceSub, Nat.reduceSub, Int.reduceBNe, Nat.reduceBNe, tyO, T9_known, Tnum_Sign, Tnum_Neg, Tnum_Mul, Tnum_Add, ofO, tblE, TkR, k9qG, sqA, s1, hng, h0, h1, h2, h3, frh, frz, frS, frA, frL]
  repeat' first | (with_reducible apply And.intro) | (with_reducible apply condP <;> intro _)
  all_goals first | (show chk _ _ = true; kernel_rfl) | (simp only [inW]; decide) | with_reducible assumption | omega | rfl | (exact ⟨hs, by decide⟩) | (exact ⟨rfl, rfl⟩) | (simp only [AV.s, cond_true, cond_false, Bool.and_true, Bool.true_and, Bool.and_false, Bool.false_and, Bool.not_true, Bool.not_false, *]; done)
theorem v_orB (xs : List Nat) (A : Option Addr) (n c : Nat) {a0 b0 a1 b1 : X} {p0 p1 : Q} (s1 : (signx (qx (osmallD xs 0)) == 0) = true) (s2 : (signx (qx (osmallD xs 1)) == 0) = false) (hng : negx (qx (osmallD xs 1)) = (osmallD xs 1).neg) (hR : Ct Tryd.prog 10 [qA_ [[qx (osmallD xs 0), qx (osmallD xs 1).neg], [qx (osmallD xs 1), qx (osmallD xs 0)]], iA (max (oprecD xs 2).1 12)] (· = sqA a0 b0 a1 b1)) (h0 : two times a0 b0 = (p0, 0)) (h1 : two times a1 b1 = (p1, 0)) (h2 : two plus (qx p0) (qx p1) = (q0, 0)) (h3 : signx (qx q0) = 0) : LO6 4 A n c xs [.s (.lit (.slice A n c))] := by
  refine lo6_of (O := orO ofO (orO (dkO 15 A n c (rK fun k => (Small B64 xs ∧ k ≤ 900, nA (osmallD xs k), k + 1))) (orO (dkO 9 A n c (rK fun k => (k ≤ 900, iA (oprecD xs k).1, (oprecD xs k).2))) (orO (tblE (TkR [[qx (osmallD xs 0), qx (osmallD xs 1).neg], [qx (osmallD xs 1), qx (osmallD xs 0)]] (max (oprecD xs 2).1 12) (sqA a0 b0 a1 b1)) 10) (tblO (orT T9_known (orT Tnum_Sign (orT Tnum_Neg (orT Tnum_Mul Tnum_Add))))))))) (by kernel_rfl) tyO_ok (fun w hA hn => only_or ofO_only (ofO_ok _ _) (only_or dkO_only (dkO_ok (xs := xs) (ent Tryd.func15 (by kernel_rfl) rfl) (rK_ok fun k hp => osmallD_dct hp) hA hn) (only_or dkO_only (dkO_ok (xs := xs) (ent Tryd.func9 (by kernel_rfl) rfl) (rK_ok fun k hp => (oprecD_spec hp).2.2.2) hA hn) (only_or tblE_only (tblE_ok (TkR_ok hR)) (tblO_ok (orT_ok T9_known_ok (orT_ok Tnum_Sign_ok (orT_ok Tnum_Neg_ok (orT_ok Tnum_Mul_ok Tnum_Add_ok)))) _ w) (fun d st args => by simp [orO, refO, dkO, ofO, tblO, tblE, orT, noT, one, T9_known, Tnum_Sign, Tnum_Neg, Tnum_Mul, Tnum_Add])) (fun d st args => by simp [orO, refO, dkO, ofO, tblO, tblE, orT, noT, one, T9_known, Tnum_Sign, Tnum_Neg, Tnum_Mul, Tnum_Add])) (fun d st args => by simp [orO, refO, dkO, ofO, tblO, tblE, orT, noT, one, T9_known, Tnum_Sign, Tnum_Neg, Tnum_Mul, Tnum_Add])) (fun d st args => by simp [orO, refO, dkO, ofO, tblO, tblE, orT, noT, one, T9_known, Tnum_Sign, Tnum_Neg, Tnum_Mul, Tnum_Add])) [] 1500 119 [.tmp 2] Tryd.func4 rfl Tryd.ntmps4 (by rw [Tryd.results4]) (by simp) rfl (fun hsm hs => ?_)
  simp (maxSteps := 10000000) only [go_sem, ↓reduceIte, Nat.reduceMul, Nat.reduceDiv, Nat.reduceAdd, Nat.reduceEqDiff, Nat.reduceLeDiff, Nat.reduceLT, reduceCtorEq, Int.reduceNeg, Int.reduceLT, Int.reduceLE, Int.reduceAdd, Int.reduceToNat, Nat.reduceBEq, Int.reduceMul, Int.reduceSub, Nat.reduceSub, Int.reduceBNe, Nat.reduceBNe, tyO, T9_known, Tnum_Sign, Tnum_Neg, Tnum_Mul, Tnum_Add, ofO, tblE, TkR, k9qG, sqA, s1, s2, hng, h0, h1, h2, h3, frh, frz, frS, frA, frL]
  repeat' first | (with_reducible apply And.intro) | (with_reducible apply condP <;> intro _)
  all_goals first | (show chk _ _ = true; kernel_rfl) | (simp only [inW]; decide) | with_reducible assumption | omega | rfl | (exact ⟨hs, by decide⟩) | (exact ⟨rfl, rfl⟩) | (simp only [AV.s, cond_true, cond_false, Bool.and_true, Bool.true_and, Bool.and_false, Bool.false_and, Bool.not_true, Bool.not_false, *]; done)
theorem v_orC (xs : List Nat) (A : Option Addr) (n c : Nat) {a0 b0 a1 b1 : X} {p0 p1 : Q} (s1 : (signx (qx (osmallD xs 0)) == 0) = true) (s2 : (signx (qx (osmallD xs 1)) == 0) = true) (hng : negx (qx (osmallD xs 1)) = (osmallD xs 1).neg) (hR : Ct Tryd.prog 10 [qA_ [[(⟨false, 0, [1]⟩ : X), qx (osmallD xs 1).neg], [qx (osmallD xs 1), (⟨false, 0, [1]⟩ : X)]], iA (max (oprecD xs 2).1 12)] (· = sqA a0 b0 a1 b1)) (h0 : two times a0 b0 = (p0, 0)) (h1 : two times a1 b1 = (p1, 0)) (h2 : two plus (qx p0) (qx p1) = (q0, 0)) (h3 : signx (qx q0) = 0) : LO6 4 A n c xs [.s (.lit (.slice A n c))] := by
  refine lo6_of (O := orO ofO (orO (dkO 15 A n c (rK fun k => (Small B64 xs ∧ k ≤ 900, nA (osmallD xs k), k + 1))) (orO (dkO 9 A n c (rK fun k => (k ≤ 900, iA (oprecD xs k).1, (oprecD xs k).2))) (orO (tblE (TkR [[(⟨false, 0, [1]⟩ : X), qx (osmallD xs 1).neg], [qx (osmallD xs 1), (⟨false, 0, [1]⟩ : X)]] (max (oprecD xs 2).1 12) (sqA a0 b0 a1 b1)) 10) (tblO (orT T9_known (orT Tnum_Sign (orT Tnum_Neg (orT Tnum_Mul Tnum_Add))))))))) (by kernel_rfl) tyO_ok (fun w hA hn => only_or ofO_only (ofO_ok _ _) (only_or dkO_only (dkO_ok (xs := xs) (ent Tryd.func15 (by kernel_rfl) rfl) (rK_ok fun k hp => osmallD_dct hp) hA hn) (only_or dkO_only (dkO_ok (xs := xs) (ent Tryd.func9 (by kernel_rfl) rfl) (rK_ok fun k hp => (oprecD_spec hp).2.2.2) hA hn) (only_or tblE_only (tblE_ok (TkR_ok hR)) (tblO_ok (orT_ok T9_known_ok (orT_ok Tnum_Sign_ok (orT_ok Tnum_Neg_ok (orT_ok Tnum_Mul_ok Tnum_Add_ok)))) _ w) (fun d st args => by simp [orO, refO, dkO, ofO, tblO, tblE, orT, noT, one, T9_known, Tnum_Sign, Tnum_Neg, Tnum_Mul, Tnum_Add])) (fun d st args => by simp [orO, refO, dkO, ofO, tblO, tblE, orT, noT, one, T9_known, Tnum_Sign, Tnum_Neg, Tnum_Mul, Tnum_Add])) (fun d st args => by simp [orO, refO, dkO, ofO, tblO, tblE, orT, noT, one, T9_known, Tnum_Sign, Tnum_Neg, Tnum_Mul, Tnum_Add])) (fun d st args => by simp [orO, refO, dkO, ofO, tblO, tblE, orT, noT, one, T9_known, Tnum_Sign, Tnum_Neg, Tnum_Mul, Tnum_Add])) [] 1500 119 [.tmp 2] Tryd.func4 rfl Tryd.ntmps4 (by rw [Tryd.results4]) (by simp) rfl (fun hsm hs => ?_)
  simp (maxSteps := 10000000) only [go_sem, ↓reduceIte, Nat.reduceMul, Nat.reduceDiv, Nat.reduceAdd, Nat.reduceEqDiff, Nat.reduceLeDiff, Nat.reduceLT, reduceCtorEq, Int.reduceNeg, Int.reduceLT, Int.reduceLE, Int.reduceAdd, Int.reduceToNat, Nat.reduceBEq, Int.reduceMul, Int.reduceSub, Nat.reduceSub, Int.reduceBNe, Nat.reduceBNe, tyO, T9_known, Tnum_Sign, Tnum_Neg, Tnum_Mul, Tnum_Add, ofO, tblE, TkR, k9qG, sqA, s1, s2, hng, h0, h1, h2, h3, frh, frz, frS, frA, frL]
  repeat' first | (with_reducible apply And.intro) | (with_reducible apply condP <;> intro _)
  all_goals first | (show chk _ _ = true; kernel_rfl) | (simp only [inW]; decide) | with_reducible assumption | omega | rfl | (exact ⟨hs, by decide⟩) | (exact ⟨rfl, rfl⟩) | (simp only [AV.s, cond_true, cond_false, Bool.and_true, Bool.true_and, Bool.and_false, Bool.false_and, Bool.not_true, Bool.not_false, *]; done)
theorem right_go {a b : Q} {z : Int} (hz : 12 ≤ z ∧ z ≤ 256) (ha : Few a) (hb : Few b) (h0 : a.m ≠ 0 ∨ b.m ≠ 0) : ∃ (a0 b0 a1 b1 : X) (p0 p1 : Q), Ct Tryd.prog 10 [qA_ [[qx a, qx b.neg], [qx b, qx a]], iA z] (· = sqA a0 b0 a1 b1) ∧ two times a0 b0 = (p0, 0) ∧ two times a1 b1 = (p1, 0) ∧ two plus (qx p0) (qx p1) = (q0, 0) := by
  obtain ⟨k, l, hk, hl, hc⟩ := cols_right hz ha hb h0
  have A0 := sc_sx ha hk
  have B0 := sc_sx (few_neg hb) hl
  have A1 := sc_sx hb hk
  have B1 := sc_sx ha hl
  have V0 := tm_valid A0 B0
  have V1 := tm_valid A1 B1
  refine ⟨qx (scale a k), qx (scale b.neg l), qx (scale b k), qx (scale a l), times (scale a k) (scale b.neg l), times (scale b k) (scale a l), ?_, ?_, ?_, ?_⟩
  case refine_1 =>
    have := o_col [[qx a, qx b.neg], [qx b, qx a]] z (fun r hr x hx => by
      simp only [List.mem_cons, List.not_mem_nil, or_false] at hr
      rcases hr with rfl | rfl <;> simp only [List.mem_cons, List.not_mem_nil, or_false] at hx <;> rcases hx with rfl | rfl
      · exact (sx_gx (few_sx ha)).2
      · exact (sx_gx (few_sx (few_neg hb))).2
      · exact (sx_gx (few_sx hb)).2
      · exact (sx_gx (few_sx ha)).2)
    rw [hc] at this
    exact this
  case refine_2 => rw [two_o (sx_q A0).1 (sx_q B0).1, (sx_q A0).2, (sx_q B0).2]; exact res_ok V0.2
  case refine_3 => rw [two_o (sx_q A1).1 (sx_q B1).1, (sx_q A1).2, (sx_q B1).2]; exact res_ok V1.2
  case refine_4 => rw [two_o (qx_ok V0).1 (qx_ok V1).1, (qx_ok V0).2.2, (qx_ok V1).2.2, sc_cross ha hb hk hl]; exact res_ok fits0
theorem orthoright_walk (W : World) (a : Option Addr) (l c : Nat) (xs : List Nat) (hx : Arg W a l c xs) (ht : Tab W) : Calls Tryd.prog 4 #[.slice a l c] W fun e w' => e = .returned (.bool true) ∧ Below W.heap.size W w' := by
  have hA : RA envA (fun _ => false) W [.s (.lit (.slice a l c))] [.slice a l c] := ⟨_, _, rfl, RL.one.2 rfl, rfl⟩
  have ha := osmallD_few xs 0
  have hb := osmallD_few xs 1
  have hz : 12 ≤ max (oprecD xs 2).1 12 ∧ max (oprecD xs 2).1 12 ≤ 256 := by
    have := (oprecD_spec (xs := xs) (k := 2) (by omega)).1
    unfold prl at this
    simp only [Bool.and_eq_true, decide_eq_true_eq] at this
    omega
  have hng : negx (qx (osmallD xs 1)) = (osmallD xs 1).neg := by rw [neg_o (sx_q (few_sx hb)).1, (sx_q (few_sx hb)).2]
  have hq : signx (qx q0) = 0 := by rw [qx0]; rfl
  by_cases h1 : (osmallD xs 0).m = 0
  · by_cases h2 : (osmallD xs 1).m = 0
    · obtain ⟨a0, b0, a1, b1, p0, p1, hR, e0, e1, e2⟩ := right_go hz (few1 (e := 0) (by decide) (by decide)) hb (.inl (show (1 : Nat) ≠ 0 by decide))
      rw [show qx (⟨false, 1, 0⟩ : Q) = (⟨false, 0, [1]⟩ : X) by kernel_rfl] at hR
      exact v_orC xs a l c (sign_z' ha h1) (sign_z' hb h2) hng hR e0 e1 e2 hq W _ ht hx hA
    · obtain ⟨a0, b0, a1, b1, p0, p1, hR, e0, e1, e2⟩ := right_go hz ha hb (.inr h2)
      exact v_orB xs a l c (sign_z' ha h1) (sg_nz hb h2) hng hR e0 e1 e2 hq W _ ht hx hA
  · obtain ⟨a0, b0, a1, b1, p0, p1, hR, e0, e1, e2⟩ := right_go hz ha hb (.inl h1)
    exact v_orA xs a l c (sg_nz ha h1) hng hR e0 e1 e2 hq W _ ht hx hA
end Go.Proofs.YtpacpmmdjmnamaaDoor
