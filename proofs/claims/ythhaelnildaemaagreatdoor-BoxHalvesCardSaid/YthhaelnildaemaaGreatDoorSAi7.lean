/- Package iv: the selections as closures, the ends outward. -/
import Derived.Test.YthhaelnildaemaaGreatDoorSAiQ
namespace Go.Proofs.YthhaelnildaemaaGreatDoor
open Go.RowKit Nx
set_option linter.unusedVariables false
set_option linter.unusedSimpArgs false
attribute [local go_sem] run init X.L J.L vL X.eta J.eta Q.eta List.cons_append List.nil_append brkK brkf_b brkf_t exef_some exif_some condf_b opf bodyE addR skipE stepOp stepLoad stepStore stepField stepCall stepBS stepBi stepCv stepIx lpf hdS pick forget inL mentA ment dom evs evl evp evd okeys look fillA capsOf wordsOf rowsOf lenOf convK binV shV intV unV boolT tyT tiB tiI tiW tiD tiF tiR tiU tiNum tiIv tiVal tiSc okLf okD keysOf tblO cvA cvL dnL olA olL noO noA cbL cbA orT noT one asNum asIv asVal postf_some resA tupA clA clL dropTo decide_true decide_false List.all_cons List.all_nil Bool.and_true Bool.and_self true_and and_true and_self List.length_cons List.length_nil List.drop_succ_cons List.drop_zero List.take_succ_cons List.take_zero List.getElem?_cons_zero List.getElem?_cons_succ List.map_cons List.map_nil false_implies true_implies Option.bind_some List.getElem?_toArray Bool.false_eq_true List.append_nil List.flatMap_cons List.flatMap_nil true_or or_true forall_const List.reverse_cons List.reverse_nil Option.isSome_some Option.any_some Nat.lt_irrefl not_true_eq_false Bool.not_true Bool.not_false imp_self implies_true Bool.not_eq_true' Bool.not_eq_false' Bool.true_eq_false memOf cntF nmL rnL nmA rnA isV contsOf ndB refO orO pin Int.toNat_zero decide_eq_true_eq wrap0 wrap1 ci1 ci2 BEq.rfl beq_self_eq_true Int.natCast_zero ge_iff_le gt_iff_lt Int.le_refl Nat.zero_mul Nat.one_mul Nat.zero_add Nat.zero_lt_succ Nat.lt_add_one Nat.le_refl gN gNN gNI gI gNNIB gNIB gV gVV gVIB gVVIB gWW gJ gJJ gJN gJJI gJI gJII gNNI gBWI gVVVV gVVVVI gVI gJB stepB0 stepMk stepSl stepAp apY optI okO nilV slT resB outPs outLs outL dnT noE AV.s cond_true cond_false Bool.true_and Bool.and_false Bool.false_and Bool.or_true Bool.true_or Bool.or_false Bool.false_or
attribute [local go_sem ↓] cond_true cond_false not_cond
set_option maxRecDepth 100000 in
set_option maxHeartbeats 2000000 in
theorem i_add1 (j j1 : J) (z : Int) (b : Bool) : RCt Tryz.prog 118 [bA b, .s (.own 1000 0), .s (.own 1001 0), .s (.own 1002 0)] [j.L, j1.L, [.lit (.int .i64 z)]] (neA (rtwo (gadd z b) z (sdX j b) (sdX j1 b))) := by
  refine rct_of (O := tblO (orT Tiv_side (Tround_Add))) (by kernel_rfl) tyT_ok (fun w => tblO_ok (orT_ok Tiv_side_ok (Tround_Add_ok)) _ w) [] 300 18 [.cell 5 28, .tmp 6] Tryz.func118 rfl Tryz.ntmps118 (by rw [Tryz.results118]) (by simp) (fun hsm hsb => ?_)
  simp (maxSteps := 10000000) only [go_sem, ↓reduceIte, Nat.reduceMul, Nat.reduceDiv, Nat.reduceAdd, Nat.reduceEqDiff, Nat.reduceLeDiff, Nat.reduceLT, reduceCtorEq, Int.reduceNeg, Tiv_side, Tround_Add, Int.reduceLT, Int.reduceLE, Int.reduceAdd, Int.reduceToNat, Nat.reduceBEq, Int.reduceMul, Int.reduceSub, Nat.reduceSub, gC, gCC, asSc, SX.L, SX.eta]
  repeat' first | (with_reducible apply And.intro) | (with_reducible apply condP <;> intro _)
  all_goals first | (show chk _ _ = true; kernel_rfl) | assumption | (simp only [go_sem, *] <;> rfl) | rfl | (exfalso; simp_all only [Bool.true_eq_false, Bool.false_eq_true, reduceCtorEq]; done)
def outJ (c : Bool → X × Int) : J × Int := bif ((c false).2 != 0) then (zJ, (c false).2) else bif ((c true).2 != 0) then (zJ, (c true).2) else (⟨(c false).1, (c true).1⟩, 0)
def kOut (l1 l2 l3 : List Lf) (c : Bool → X × Int) : KT := fun args ls => match args with
  | .v false [.lit (.bool b)] :: r => some (r = [.s (.own 1000 0), .s (.own 1001 0), .s (.own 1002 0)] ∧ ls = [l1, l2, l3], xeA (c b))
  | _ => none
theorem kOut_ok {f : FuncId} {l1 l2 l3 : List Lf} {c : Bool → X × Int} (h : ∀ b, RCt Tryz.prog f [bA b, .s (.own 1000 0), .s (.own 1001 0), .s (.own 1002 0)] [l1, l2, l3] (xeA (c b))) : ∀ args ls e, kOut l1 l2 l3 c args ls = some e → e.1 → RCt Tryz.prog f args ls e.2 := by
  intro args ls e he hp
  unfold kOut at he
  split at he
  · injection he with he; subst he
    obtain ⟨rfl, rfl⟩ := hp
    exact h _
  · cases he
set_option maxRecDepth 100000 in
set_option maxHeartbeats 2000000 in
theorem i_outward {f : FuncId} {l1 l2 l3 : List Lf} {c : Bool → X × Int} (hen : ∀ (vs : Array Value) (w : World), (callFunc f vs).run Tryz.prog w = .ok (.enter f vs) w) (h : ∀ b, RCt Tryz.prog f [bA b, .s (.own 1000 0), .s (.own 1001 0), .s (.own 1002 0)] [l1, l2, l3] (xeA (c b)))
    (h1 : l1.all cbL = true) (h2 : l2.all cbL = true) (h3 : l3.all cbL = true) : RCt Tryz.prog 117 [.s (.clo f [1000, 1001, 1002])] [l1, l2, l3] (jeA (outJ c)) := by
  refine rct_of (O := refO f (kOut l1 l2 l3 c)) (by kernel_rfl) tyT_ok (fun w => refO_ok hen (kOut_ok h) _ _) [] 300 28 [.cell 2 40, .tmp 3] Tryz.func117 rfl Tryz.ntmps117 (by rw [Tryz.results117]) (by simp) (fun hsm hsb => ?_)
  simp (maxSteps := 10000000) only [go_sem, ↓reduceIte, Nat.reduceMul, Nat.reduceDiv, Nat.reduceAdd, Nat.reduceEqDiff, Nat.reduceLeDiff, Nat.reduceLT, reduceCtorEq, Int.reduceNeg, Int.reduceLT, Int.reduceLE, Int.reduceAdd, Int.reduceToNat, Nat.reduceBEq, Int.reduceMul, Int.reduceSub, Nat.reduceSub, gC, gCC, asSc, SX.L, SX.eta, kOut, h1, h2, h3]
  repeat' first | (with_reducible apply And.intro) | (with_reducible apply condP <;> intro _)
  all_goals first | (show chk _ _ = true; kernel_rfl) | assumption | (simp only [go_sem, *, outJ, zJ, zX] <;> rfl) | rfl | (exfalso; simp_all only [Bool.true_eq_false, Bool.false_eq_true, reduceCtorEq]; done)
end Go.Proofs.YthhaelnildaemaaGreatDoor
namespace Go.Proofs.YthhaelnildaemaaGreatDoor
open Go.RowKit Nx
set_option linter.unusedVariables false
set_option linter.unusedSimpArgs false
theorem only_or {P : Program} {A B : Orac} {g : FuncId} {F : Nat → Prop} {w0 : World} (ho : Only A g) (hA : OrOK P A F w0) (hB : OrOK P B F w0) (hn : ∀ d st args, B g d st args = none) : OrOK P (orO A B) F w0 :=
  orO_ok hA hB fun f d st args e he st' => by
    by_cases hf : f = g
    · subst hf; rw [hn] at he; cases he
    · exact ho f d st' args hf
noncomputable def prX (r : Q × Int) : X × Int := (qx r.1, r.2)
noncomputable def addJ (j j1 : J) (z : Int) : J × Int := bif okJ j && okJ j1 && prl z then outJ (fun b => prX (rtwo (gadd z b) z (sdX j b) (sdX j1 b))) else (zJ, 1)
set_option maxRecDepth 100000 in
set_option maxHeartbeats 2000000 in
theorem i_add (j : J) (j1 : J) (z : Int) : Ct Tryz.prog 69 [.v true j.L, .v true j1.L, iA z] (· = jeA (addJ j j1 z)) := by
  refine ct_of (O := orO (refO 116 (pin [iA z, .s (.osl 1000 2)] [j.L ++ j1.L] (bA (okJ j && okJ j1 && prl z)))) (orO (refO 117 (pin [.s (.clo 118 [1000, 1001, 1002])] [j.L, j1.L, [.lit (.int .i64 z)]] (jeA (outJ (fun b => prX (rtwo (gadd z b) z (sdX j b) (sdX j1 b))))))) (tblO noT))) (by kernel_rfl) tyT_ok (fun w => refO_or (refO_ok (ent Tryz.func116 (by kernel_rfl) rfl) (pin_ok (i_right2 j j1 z)) _ _) (refO_or (refO_ok (ent Tryz.func117 (by kernel_rfl) rfl) (pin_ok (i_outward (c := fun b => prX (rtwo (gadd z b) z (sdX j b) (sdX j1 b))) (ent Tryz.func118 (by kernel_rfl) rfl) (fun b => i_add1 j j1 z b) rfl rfl rfl)) _ _) (tblO_ok noT_ok _ w) (fun d st args => by simp [orO, refO, tblO, orT, noT, one])) (fun d st args => by simp [orO, refO, tblO, orT, noT, one])) [] 300 19 [.cell 6 40, .tmp 7] Tryz.func69 rfl Tryz.ntmps69 (by rw [Tryz.results69]) (by simp) rfl (fun hsm => ?_)
  simp (maxSteps := 10000000) only [run, init, X.L, J.L, vL, X.eta, J.eta, Q.eta, List.cons_append, List.nil_append, brkK, brkf_b, brkf_t, exef_some, exif_some, condf_b, opf, bodyE, addR, skipE, stepOp, stepLoad, stepStore, stepField, stepCall, stepBS, stepB0, stepMk, stepSl, stepAp, apY, optI, okO, nilV, slT, stepBi, stepCv, stepIx, lpf, hdS, pick, forget, inL, mentA, ment, dom, evs, evl, evp, evd, okeys, look, fillA, capsOf, wordsOf, rowsOf, lenOf, convK, binV, shV, intV, unV, boolT, tyT, tiB, tiI, tiW, tiD, tiF, tiR, tiU, tiNum, tiIv, tiVal, tiSc, okLf, okD, keysOf, tblO, cvA, cvL, dnL, olA, olL, noO, noA, cbL, cbA, orT, ↓cond_true, ↓cond_false, ↓not_cond, noT, one, asNum, asIv, asVal, postf_some, resA, resB, outPs, outLs, outL, dnT, tupA, clA, clL, dropTo, ↓reduceIte, Nat.reduceMul, Nat.reduceDiv, Nat.reduceAdd, Nat.reduceEqDiff, Nat.reduceLeDiff, Nat.reduceLT, decide_true, decide_false, reduceCtorEq, List.all_cons, List.all_nil, Bool.and_true, Bool.and_self, true_and, and_true, and_self, List.length_cons, List.length_nil, List.drop_succ_cons, List.drop_zero, List.take_succ_cons, List.take_zero, List.getElem?_cons_zero, List.getElem?_cons_succ, List.map_cons, List.map_nil, false_implies, true_implies, Option.bind_some, List.getElem?_toArray, Bool.false_eq_true, List.append_nil, List.flatMap_cons, List.flatMap_nil, true_or, or_true, forall_const, List.reverse_cons, List.reverse_nil, Option.isSome_some, Option.any_some, Nat.lt_irrefl, not_true_eq_false, Bool.not_true, Bool.not_false, imp_self, implies_true, Int.reduceNeg, Bool.not_eq_true', Bool.not_eq_false', Bool.true_eq_false, Bool.false_eq_true, gN, gNN, gNI, gI, gNNIB, gNIB, gV, gVV, gVIB, gVVIB, gWW, gJ, gJJ, gJN, gJJI, gJI, gJII, gNNI, gBWI, gVVVV, gVVVVI, gVI, memOf, cntF, nmL, rnL, nmA, rnA, isV, noE, contsOf, ndB, refO, orO, pin, List.map_cons, List.map_nil, Int.reduceLT, Int.reduceLE, Int.reduceAdd, Int.reduceToNat, Int.toNat_zero, decide_eq_true_eq, wrap0, wrap1, ci1, ci2, Nat.reduceBEq, BEq.rfl, beq_self_eq_true, Int.natCast_zero, ge_iff_le, gt_iff_lt, Int.le_refl, Nat.zero_mul, Nat.one_mul, Nat.zero_add, Nat.zero_lt_succ, Int.reduceMul, Int.reduceSub, Nat.lt_add_one, Nat.reduceSub, Nat.le_refl, gJB, gC, gCC, asSc, SX.L, SX.eta]
  repeat' first | (with_reducible apply And.intro) | (with_reducible apply condP <;> intro _)
  all_goals first | (show chk _ _ = true; kernel_rfl) | assumption | (simp only [AV.s, cond_true, cond_false, Bool.and_true, Bool.true_and, Bool.and_false, Bool.false_and, Bool.and_self, Bool.not_true, Bool.not_false, Bool.or_true, Bool.true_or, Bool.or_false, Bool.false_or, *, addJ, zJ, zX, J.L, X.L]; done) | rfl | (simp only [AV.s, cond_true, cond_false, Bool.and_true, Bool.true_and, Bool.and_false, Bool.false_and, Bool.and_self, Bool.not_true, Bool.not_false, Bool.or_true, Bool.true_or, Bool.or_false, Bool.false_or, *, addJ, zJ, zX, J.L, X.L]; rfl) | (exfalso; simp_all only [Bool.true_eq_false, Bool.false_eq_true, reduceCtorEq]; done)
noncomputable def Tiv_Add : Tbl := one 69 (gJJI fun j j1 z => (True, jeA (addJ j j1 z)))
theorem Tiv_Add_ok : TbOK Tryz.prog Tiv_Add := one_ok (ent Tryz.func69 (by kernel_rfl) rfl) fun args e h hp => by obtain ⟨j, j1, z, rfl, rfl⟩ := gJJI_eq h; exact i_add j j1 z
end Go.Proofs.YthhaelnildaemaaGreatDoor
