/- The document's sums, differences, products: intervals and numbers; no quotients. -/
import Derived.Test.YthhaelnildaemaaGreatDoorTAl2
import Derived.Test.YthhaelnildaemaaGreatDoorTAi4
namespace Go.Proofs.YthhaelnildaemaaGreatDoor
open Go.RowKit Nx
set_option linter.unusedVariables false
set_option linter.unusedSimpArgs false
set_option maxRecDepth 100000
set_option maxHeartbeats 4000000
attribute [local go_sem] run init X.L J.L vL X.eta J.eta Q.eta List.cons_append List.nil_append brkK brkf_b brkf_t exef_some exif_some condf_b opf bodyE addR skipE stepOp stepLoad stepStore stepField stepCall stepBS stepBi stepCv stepIx lpf hdS pick forget inL mentA ment dom evs evl evp evd okeys look fillA capsOf wordsOf rowsOf lenOf convK binV shV intV unV boolT tyT tiB tiI tiW tiD tiF tiR tiU tiNum tiIv tiVal tiSc okLf okD keysOf tblO cvA cvL dnL olA olL noO noA cbL cbA orT noT one asNum asIv asVal postf_some resA tupA clA clL dropTo decide_true decide_false List.all_cons List.all_nil Bool.and_true Bool.and_self true_and and_true and_self List.length_cons List.length_nil List.drop_succ_cons List.drop_zero List.take_succ_cons List.take_zero List.getElem?_cons_zero List.getElem?_cons_succ List.map_cons List.map_nil false_implies true_implies Option.bind_some List.getElem?_toArray Bool.false_eq_true List.append_nil List.flatMap_cons List.flatMap_nil true_or or_true forall_const List.reverse_cons List.reverse_nil Option.isSome_some Option.any_some Nat.lt_irrefl not_true_eq_false Bool.not_true Bool.not_false imp_self implies_true Bool.not_eq_true' Bool.not_eq_false' Bool.true_eq_false memOf cntF nmL rnL nmA rnA isV contsOf ndB refO orO pin Int.toNat_zero decide_eq_true_eq wrap0 wrap1 ci1 ci2 BEq.rfl beq_self_eq_true Int.natCast_zero ge_iff_le gt_iff_lt Int.le_refl Nat.zero_mul Nat.one_mul Nat.zero_add Nat.zero_lt_succ Nat.lt_add_one Nat.le_refl List.append_eq Int.toNat_natCast gN gNN gNI gI gNNIB gNIB gJ gJJ gJN gJJI gJI stepB0 stepMk stepSl stepAp apY optI okO nilV slT resB outPs outLs outL dnT noE boxL_nil boxL_cons ptsL_nil ptsL_cons bxe pxe bne_self_eq_false wr2 wr3 wr4 wr5 wr6 wr7 wr8 gB gP gBB gBP gBZ gBBZ asB asP nilB asJs asXs wsOf bC_nil bC_cons pC_nil pC_cons fvO Lc.up tyB tiS tiBB List.replicate_succ List.replicate_zero List.flatten_cons List.flatten_nil Int.ofNat_lt Int.cast_ofNat_Int Int.ofNat_eq_natCast List.isEmpty_nil List.isEmpty_cons and_false false_and List.cons_ne_nil Nat.add_zero ite_true ite_false if_true if_false Nat.le_zero_eq eq_self Bool.and_false Bool.false_and Bool.true_and AV.s cond_true cond_false Bool.or_true Bool.true_or Bool.or_false Bool.false_or
attribute [local go_sem ↓] cond_true cond_false not_cond outL_box outL_pts clL_box clL_pts okL_box okL_pts ment_box ment_pts olL_box olL_pts cvL_box cvL_pts noO_box noO_pts asB_box asP_pts len_box len_pts
attribute [local irreducible] chk
theorem r_op0x (j j1 : J) (z1 : Int) : Ct Tryz.prog 112 [iA 0, .v true j.L, .v true j1.L, iA z1] (· = jeA (opQ 0 j j1 z1)) := by
  refine ct_of (O := tblO (orT Tref_RightIv (orT Tref_precs (orT Tref_Of (orT Tref_Plus (orT Tref_Round Tref_ends)))))) (by kernel_rfl) tyB_ok (fun w => tblO_ok (orT_ok Tref_RightIv_ok (orT_ok Tref_precs_ok (orT_ok Tref_Of_ok (orT_ok Tref_Plus_ok (orT_ok Tref_Round_ok Tref_ends_ok))))) _ w) [] 1500 110 [.cell 8 40, .tmp 9] Tryz.func112 rfl Tryz.ntmps112 (by rw [Tryz.results112]) (by simp) rfl (fun hsm => ?_)
  have g0 : GJ j := ⟨hsm.2.1.2.2.1.1, hsm.2.1.2.2.2.2.2.1.1⟩
  have g1 : GJ j1 := ⟨hsm.2.2.1.2.2.1.1, hsm.2.2.1.2.2.2.2.2.1.1⟩
  simp (maxSteps := 10000000) only [go_sem, ↓reduceIte, Nat.reduceMul, Nat.reduceDiv, Nat.reduceAdd, Nat.reduceEqDiff, Nat.reduceLeDiff, Nat.reduceLT, reduceCtorEq, Int.reduceNeg, Int.reduceLT, Int.reduceLE, Int.reduceAdd, Int.reduceToNat, Nat.reduceBEq, Int.reduceMul, Int.reduceSub, Nat.reduceSub, Int.reduceBNe, Nat.reduceBNe, Tref_RightIv, Tref_precs, Tref_Of, Tref_Plus, Tref_Round, Tref_ends, gVIB, gVV, gV, gVVVV, zJ, zX, Int.reduceBEq]
  repeat' first | (with_reducible apply And.intro) | (with_reducible apply condP <;> intro _)
  all_goals try first | with_reducible exact okJ_lo (by assumption) | with_reducible exact okJ_hi (by assumption) | with_reducible exact pr_of (by assumption) | with_reducible exact vb_of (jlo g0 (by assumption)) | with_reducible exact vb_of (jlo g1 (by assumption)) | with_reducible exact vb_of (jhi g0 (by assumption)) | with_reducible exact vb_of (jhi g1 (by assumption)) | with_reducible exact vm_vw (vm_plus (jlo g0 (by assumption)) (jlo g1 (by assumption))) | with_reducible exact rnd_vm (pr_of (by assumption)) _ (vm_plus (jlo g0 (by assumption)) (jlo g1 (by assumption))) | with_reducible exact vm_vw (vm_plus (jhi g0 (by assumption)) (jhi g1 (by assumption))) | with_reducible exact rnd_vm (pr_of (by assumption)) _ (vm_plus (jhi g0 (by assumption)) (jhi g1 (by assumption)))
  all_goals first | (show chk _ _ = true; kernel_rfl) | assumption | (simp only [go_sem, *, opQ, zJ, zX] <;> rfl) | rfl | (exfalso; simp_all only [Bool.true_eq_false, Bool.false_eq_true, reduceCtorEq]; done)
theorem r_op1x (j j1 : J) (z1 : Int) : Ct Tryz.prog 112 [iA 1, .v true j.L, .v true j1.L, iA z1] (· = jeA (opQ 1 j j1 z1)) := by
  refine ct_of (O := tblO (orT Tref_RightIv (orT Tref_precs (orT Tref_Of (orT Tref_Less (orT Tref_Round Tref_ends)))))) (by kernel_rfl) tyB_ok (fun w => tblO_ok (orT_ok Tref_RightIv_ok (orT_ok Tref_precs_ok (orT_ok Tref_Of_ok (orT_ok Tref_Less_ok (orT_ok Tref_Round_ok Tref_ends_ok))))) _ w) [] 1500 110 [.cell 8 40, .tmp 9] Tryz.func112 rfl Tryz.ntmps112 (by rw [Tryz.results112]) (by simp) rfl (fun hsm => ?_)
  have g0 : GJ j := ⟨hsm.2.1.2.2.1.1, hsm.2.1.2.2.2.2.2.1.1⟩
  have g1 : GJ j1 := ⟨hsm.2.2.1.2.2.1.1, hsm.2.2.1.2.2.2.2.2.1.1⟩
  simp (maxSteps := 10000000) only [go_sem, ↓reduceIte, Nat.reduceMul, Nat.reduceDiv, Nat.reduceAdd, Nat.reduceEqDiff, Nat.reduceLeDiff, Nat.reduceLT, reduceCtorEq, Int.reduceNeg, Int.reduceLT, Int.reduceLE, Int.reduceAdd, Int.reduceToNat, Nat.reduceBEq, Int.reduceMul, Int.reduceSub, Nat.reduceSub, Int.reduceBNe, Nat.reduceBNe, Tref_RightIv, Tref_precs, Tref_Of, Tref_Less, Tref_Round, Tref_ends, gVIB, gVV, gV, gVVVV, zJ, zX, Int.reduceBEq]
  repeat' first | (with_reducible apply And.intro) | (with_reducible apply condP <;> intro _)
  all_goals try first | with_reducible exact okJ_lo (by assumption) | with_reducible exact okJ_hi (by assumption) | with_reducible exact pr_of (by assumption) | with_reducible exact vb_of (jlo g0 (by assumption)) | with_reducible exact vb_of (jlo g1 (by assumption)) | with_reducible exact vb_of (jhi g0 (by assumption)) | with_reducible exact vb_of (jhi g1 (by assumption)) | with_reducible exact vm_vw (vm_minus (jlo g0 (by assumption)) (jhi g1 (by assumption))) | with_reducible exact rnd_vm (pr_of (by assumption)) _ (vm_minus (jlo g0 (by assumption)) (jhi g1 (by assumption))) | with_reducible exact vm_vw (vm_minus (jhi g0 (by assumption)) (jlo g1 (by assumption))) | with_reducible exact rnd_vm (pr_of (by assumption)) _ (vm_minus (jhi g0 (by assumption)) (jlo g1 (by assumption)))
  all_goals first | (show chk _ _ = true; kernel_rfl) | assumption | (simp only [go_sem, *, opQ, zJ, zX] <;> rfl) | rfl | (exfalso; simp_all only [Bool.true_eq_false, Bool.false_eq_true, reduceCtorEq]; done)
theorem r_op2x (j j1 : J) (z1 : Int) : Ct Tryz.prog 112 [iA 2, .v true j.L, .v true j1.L, iA z1] (· = jeA (opQ 2 j j1 z1)) := by
  refine ct_of (O := tblO (orT Tref_RightIv (orT Tref_precs (orT Tref_Of (orT Tref_least (orT Tref_greatest (orT Tref_Round Tref_ends))))))) (by kernel_rfl) tyB_ok (fun w => tblO_ok (orT_ok Tref_RightIv_ok (orT_ok Tref_precs_ok (orT_ok Tref_Of_ok (orT_ok Tref_least_ok (orT_ok Tref_greatest_ok (orT_ok Tref_Round_ok Tref_ends_ok)))))) _ w) [] 1500 110 [.cell 8 40, .tmp 9] Tryz.func112 rfl Tryz.ntmps112 (by rw [Tryz.results112]) (by simp) rfl (fun hsm => ?_)
  have g0 : GJ j := ⟨hsm.2.1.2.2.1.1, hsm.2.1.2.2.2.2.2.1.1⟩
  have g1 : GJ j1 := ⟨hsm.2.2.1.2.2.1.1, hsm.2.2.1.2.2.2.2.2.1.1⟩
  simp (maxSteps := 10000000) only [go_sem, ↓reduceIte, Nat.reduceMul, Nat.reduceDiv, Nat.reduceAdd, Nat.reduceEqDiff, Nat.reduceLeDiff, Nat.reduceLT, reduceCtorEq, Int.reduceNeg, Int.reduceLT, Int.reduceLE, Int.reduceAdd, Int.reduceToNat, Nat.reduceBEq, Int.reduceMul, Int.reduceSub, Nat.reduceSub, Int.reduceBNe, Nat.reduceBNe, Tref_RightIv, Tref_precs, Tref_Of, Tref_least, Tref_greatest, Tref_Round, Tref_ends, gVIB, gVV, gV, gVVVV, zJ, zX, Int.reduceBEq]
  repeat' first | (with_reducible apply And.intro) | (with_reducible apply condP <;> intro _)
  all_goals try first | with_reducible exact okJ_lo (by assumption) | with_reducible exact okJ_hi (by assumption) | with_reducible exact pr_of (by assumption) | with_reducible exact vb_of (jlo g0 (by assumption)) | with_reducible exact vb_of (jlo g1 (by assumption)) | with_reducible exact vb_of (jhi g0 (by assumption)) | with_reducible exact vb_of (jhi g1 (by assumption)) | with_reducible exact jlo g0 (by assumption) | with_reducible exact jlo g1 (by assumption) | with_reducible exact jhi g0 (by assumption) | with_reducible exact jhi g1 (by assumption) | with_reducible exact vm_vw (vm_vb (vb_least (jlo g0 (by assumption)) (jhi g0 (by assumption)) (jlo g1 (by assumption)) (jhi g1 (by assumption)))) | with_reducible exact rnd_vm (pr_of (by assumption)) _ (vm_vb (vb_least (jlo g0 (by assumption)) (jhi g0 (by assumption)) (jlo g1 (by assumption)) (jhi g1 (by assumption)))) | with_reducible exact vm_vw (vm_vb (vb_great (jlo g0 (by assumption)) (jhi g0 (by assumption)) (jlo g1 (by assumption)) (jhi g1 (by assumption)))) | with_reducible exact rnd_vm (pr_of (by assumption)) _ (vm_vb (vb_great (jlo g0 (by assumption)) (jhi g0 (by assumption)) (jlo g1 (by assumption)) (jhi g1 (by assumption))))
  all_goals first | (show chk _ _ = true; kernel_rfl) | assumption | (simp only [go_sem, *, opQ, zJ, zX] <;> rfl) | rfl | (exfalso; simp_all only [Bool.true_eq_false, Bool.false_eq_true, reduceCtorEq]; done)
noncomputable def Tref_Op3 : Tbl := one 112 (gIJJI fun k j j1 z => (k = 0 ∨ k = 1 ∨ k = 2, jeA (opQ k j j1 z)))
theorem Tref_Op3_ok : TbOK Tryz.prog Tref_Op3 := one_ok (ent Tryz.func112 (by kernel_rfl) rfl) fun args e h hp => by
  obtain ⟨k, j, j1, z, rfl, rfl⟩ := gIJJI_eq h
  rcases hp with rfl | rfl | rfl
  · exact r_op0x j j1 z
  · exact r_op1x j j1 z
  · exact r_op2x j j1 z
def badB (z : Int) (a b : X) : Bool := bif a.ok then (bif b.ok then (bif decide (z < 8) then true else decide (256 < z)) else true) else true
theorem badB_not {z : Int} {a b : X} : badB z a b = false ↔ a.ok = true ∧ b.ok = true ∧ prb z = true := by
  unfold badB prb
  cases a.ok <;> cases b.ok <;> by_cases h1 : z < 8 <;> by_cases h2 : 256 < z <;> simp [h1, h2] <;> omega
theorem y_bad (z : Int) (a b : X) : Ct Tryz.prog 175 [iA z, pA_ [a, b]] (· = bA (badB z a b)) := by
  refine ct_of (O := tblO Tref_Right) (by kernel_rfl) tyB_ok (fun w => tblO_ok Tref_Right_ok _ w) [] 1500 24 [.tmp 4] Tryz.func175 rfl Tryz.ntmps175 (by rw [Tryz.results175]) (by simp) rfl (fun hsm => ?_)
  simp (maxSteps := 10000000) only [go_sem, ↓reduceIte, Nat.reduceMul, Nat.reduceDiv, Nat.reduceAdd, Nat.reduceEqDiff, Nat.reduceLeDiff, Nat.reduceLT, reduceCtorEq, Int.reduceNeg, Int.reduceLT, Int.reduceLE, Int.reduceAdd, Int.reduceToNat, Nat.reduceBEq, Int.reduceMul, Int.reduceSub, Nat.reduceSub, Int.reduceBNe, Nat.reduceBNe, Tref_Right]
  repeat' first | (with_reducible apply And.intro) | (with_reducible apply condP <;> intro _)
  all_goals first | (show chk _ _ = true; kernel_rfl) | assumption | (simp only [go_sem, *, badB] <;> rfl) | rfl | (exfalso; simp_all only [Bool.true_eq_false, Bool.false_eq_true, reduceCtorEq]; done)
def gIP2 (k : Int → X → X → Prop × AV) : List AV → Option (Prop × AV)
  | [.v false [.lit (.int .i64 z)], x] => (match asP x with
    | some [a, b] => some (k z a b)
    | _ => none)
  | _ => none
noncomputable def Tref_bad : Tbl := one 175 (gIP2 fun z a b => (True, bA (badB z a b)))
theorem Tref_bad_ok : TbOK Tryz.prog Tref_bad := one_ok (ent Tryz.func175 (by kernel_rfl) rfl) fun args e h hp => by
  unfold gIP2 at h
  split at h
  · split at h
    · rename_i z x _ a b hx
      injection h with h; subst h
      exact (y_bad z a b).of fun ρ D w => RA.c (fun u h => h) (RA.c (fun u => asP_R hx) fun us h => h)
    · cases h
  · cases h
def gIVV (k : Int → Q → Q → Prop × AV) : List AV → Option (Prop × AV)
  | [.v false [.lit (.int .i64 z)], .v true mq, .v true mq1] => (match asVal mq, asVal mq1 with
    | some q, some q1 => some (k z q q1)
    | _, _ => none)
  | _ => none
theorem gIVV_eq {k : Int → Q → Q → Prop × AV} {args : List AV} {e : Prop × AV} (h : gIVV k args = some e) : ∃ z q q1, args = [iA z, .v true (vL q), .v true (vL q1)] ∧ e = k z q q1 := by
  unfold gIVV at h
  split at h
  · rename_i z mq mq1
    obtain ⟨q, q1, h1, h2⟩ := gVV_eq (k := k z) (args := [.v true mq, .v true mq1]) h
    injection h1 with h3 h1; injection h1 with h4 h1
    exact ⟨z, q, q1, by rw [h3, h4], h2⟩
  · cases h
theorem y_ex0 (q q1 : Q) (h : Vb q) (h1 : Vb q1) : Ct Tryz.prog 177 [iA 0, .v true (vL q), .v true (vL q1)] (· = .v true (vL (plus q q1))) := by
  refine ct_of (O := tblO (orT Tref_Plus Tref_Less)) (by kernel_rfl) tyB_ok (fun w => tblO_ok (orT_ok Tref_Plus_ok Tref_Less_ok) _ w) [] 1500 21 [.cell 6 88] Tryz.func177 rfl Tryz.ntmps177 (by rw [Tryz.results177]) (by simp) rfl (fun hsm => ?_)
  simp (maxSteps := 10000000) only [go_sem, ↓reduceIte, Nat.reduceMul, Nat.reduceDiv, Nat.reduceAdd, Nat.reduceEqDiff, Nat.reduceLeDiff, Nat.reduceLT, reduceCtorEq, Int.reduceNeg, Int.reduceLT, Int.reduceLE, Int.reduceAdd, Int.reduceToNat, Nat.reduceBEq, Int.reduceMul, Int.reduceSub, Nat.reduceSub, Int.reduceBNe, Nat.reduceBNe, Tref_Plus, Tref_Less, gVV, Int.reduceBEq]
  repeat' first | (with_reducible apply And.intro) | (with_reducible apply condP <;> intro _)
  all_goals first | (show chk _ _ = true; kernel_rfl) | assumption | (simp only [go_sem, *] <;> rfl) | rfl | (exfalso; simp_all only [Bool.true_eq_false, Bool.false_eq_true, reduceCtorEq]; done)
theorem y_ex1 (q q1 : Q) (h : Vb q) (h1 : Vb q1) : Ct Tryz.prog 177 [iA 1, .v true (vL q), .v true (vL q1)] (· = .v true (vL (minus q q1))) := by
  refine ct_of (O := tblO (orT Tref_Plus Tref_Less)) (by kernel_rfl) tyB_ok (fun w => tblO_ok (orT_ok Tref_Plus_ok Tref_Less_ok) _ w) [] 1500 21 [.cell 6 88] Tryz.func177 rfl Tryz.ntmps177 (by rw [Tryz.results177]) (by simp) rfl (fun hsm => ?_)
  simp (maxSteps := 10000000) only [go_sem, ↓reduceIte, Nat.reduceMul, Nat.reduceDiv, Nat.reduceAdd, Nat.reduceEqDiff, Nat.reduceLeDiff, Nat.reduceLT, reduceCtorEq, Int.reduceNeg, Int.reduceLT, Int.reduceLE, Int.reduceAdd, Int.reduceToNat, Nat.reduceBEq, Int.reduceMul, Int.reduceSub, Nat.reduceSub, Int.reduceBNe, Nat.reduceBNe, Tref_Plus, Tref_Less, gVV, Int.reduceBEq]
  repeat' first | (with_reducible apply And.intro) | (with_reducible apply condP <;> intro _)
  all_goals first | (show chk _ _ = true; kernel_rfl) | assumption | (simp only [go_sem, *] <;> rfl) | rfl | (exfalso; simp_all only [Bool.true_eq_false, Bool.false_eq_true, reduceCtorEq]; done)
noncomputable def Tref_Exact : Tbl := one 177 (gIVV fun k q q1 => ((k = 0 ∨ k = 1) ∧ Vb q ∧ Vb q1, .v true (vL (bif k == 0 then plus q q1 else minus q q1))))
theorem Tref_Exact_ok : TbOK Tryz.prog Tref_Exact := one_ok (ent Tryz.func177 (by kernel_rfl) rfl) fun args e h hp => by
  obtain ⟨k, q, q1, rfl, rfl⟩ := gIVV_eq h
  obtain ⟨hk, h1, h2⟩ := hp
  rcases hk with rfl | rfl
  · exact y_ex0 q q1 h1 h2
  · exact y_ex1 q q1 h1 h2
theorem prc {z : Int} (h : precb z = true) : prl z = true := by
  simp only [precb, decide_eq_true_eq] at h
  unfold prl
  rw [decide_eq_true h.1, decide_eq_true h.2]; rfl
theorem rtwo_bad {g : Q → Q → Q × Int} {z : Int} {x x1 : X} (h : badB z x x1 = true) : rtwo g z x x1 = (q0, 1) := by
  unfold rtwo ansr
  rw [if_neg]
  intro hc
  rw [Bool.and_eq_true, Bool.and_eq_true] at hc
  have : badB z x x1 = false := badB_not.2 ⟨hc.1.1, hc.1.2, by rw [prl_prb]; exact prc hc.2⟩
  rw [this] at h; cases h
theorem y_rk0b (x x1 : X) (z : Int) (b : Bool) (h : badB z x x1 = true) : Ct Tryz.prog 115 [iA 0, xA x, xA x1, iA z, bA b] (· = neA (q0, 1)) := by
  refine ct_of (O := tblO Tref_bad) (by kernel_rfl) tyB_ok (fun w => tblO_ok Tref_bad_ok _ w) [] 1500 49 [.cell 10 28, .tmp 11] Tryz.func115 rfl Tryz.ntmps115 (by rw [Tryz.results115]) (by simp) rfl (fun hsm => ?_)
  simp (maxSteps := 10000000) only [go_sem, ↓reduceIte, Nat.reduceMul, Nat.reduceDiv, Nat.reduceAdd, Nat.reduceEqDiff, Nat.reduceLeDiff, Nat.reduceLT, reduceCtorEq, Int.reduceNeg, Int.reduceLT, Int.reduceLE, Int.reduceAdd, Int.reduceToNat, Nat.reduceBEq, Int.reduceMul, Int.reduceSub, Nat.reduceSub, Int.reduceBNe, Nat.reduceBNe, Tref_bad, gIP2, h, zX]
  repeat' first | (with_reducible apply And.intro) | (with_reducible apply condP <;> intro _)
  all_goals first | (show chk _ _ = true; kernel_rfl) | assumption | (simp only [go_sem, *, qx0, zX, neA] <;> rfl) | rfl | (exfalso; simp_all only [Bool.true_eq_false, Bool.false_eq_true, reduceCtorEq]; done)
theorem y_rk0g (x x1 : X) (z : Int) (b : Bool) (h : badB z x x1 = false) : Ct Tryz.prog 115 [iA 0, xA x, xA x1, iA z, bA b] (· = neA (res (rnd z.toNat b (plus x.q x1.q)))) := by
  refine ct_of (O := tblO (orT Tref_bad (orT Tref_Of (orT Tref_Exact (orT Tref_Round Tref_Val_Num))))) (by kernel_rfl) tyB_ok (fun w => tblO_ok (orT_ok Tref_bad_ok (orT_ok Tref_Of_ok (orT_ok Tref_Exact_ok (orT_ok Tref_Round_ok Tref_Val_Num_ok)))) _ w) [] 1500 49 [.cell 10 28, .tmp 11] Tryz.func115 rfl Tryz.ntmps115 (by rw [Tryz.results115]) (by simp) rfl (fun hsm => ?_)
  obtain ⟨hx, hx1, hz⟩ := badB_not.1 h
  have v0 := ok_arg hx hsm.2.1.2.2.1.1
  have v1 := ok_arg hx1 hsm.2.2.1.2.2.1.1
  have b0 := vb_of v0
  have b1 := vb_of v1
  have hp := pr_of hz
  have w0 := vm_vw (vm_plus v0 v1)
  have w1 := rnd_vm hp b (vm_plus v0 v1)
  simp (maxSteps := 10000000) only [go_sem, ↓reduceIte, Nat.reduceMul, Nat.reduceDiv, Nat.reduceAdd, Nat.reduceEqDiff, Nat.reduceLeDiff, Nat.reduceLT, reduceCtorEq, Int.reduceNeg, Int.reduceLT, Int.reduceLE, Int.reduceAdd, Int.reduceToNat, Nat.reduceBEq, Int.reduceMul, Int.reduceSub, Nat.reduceSub, Int.reduceBNe, Nat.reduceBNe, Tref_bad, Tref_Of, Tref_Exact, Tref_Round, Tref_Val_Num, gIP2, gIVV, h, gVIB, gV, Int.reduceBEq]
  repeat' first | (with_reducible apply And.intro) | (with_reducible apply condP <;> intro _)
  all_goals first | (show chk _ _ = true; kernel_rfl) | assumption | (simp only [go_sem, *, neA] <;> rfl) | rfl | (exfalso; simp_all only [Bool.true_eq_false, Bool.false_eq_true, reduceCtorEq]; done)
theorem y_rk0 (x x1 : X) (z : Int) (b : Bool) : Ct Tryz.prog 115 [iA 0, xA x, xA x1, iA z, bA b] (· = neA (rtwo (gk 0 z b) z x x1)) := by
  cases h : badB z x x1 with
  | true => rw [rtwo_bad h]; exact y_rk0b x x1 z b h
  | false =>
    obtain ⟨hx, hx1, hz⟩ := badB_not.1 h
    rw [rtwo_ok hx hx1 (by rw [← prl_prb]; exact hz), gk_0]
    exact y_rk0g x x1 z b h
theorem y_rk1b (x x1 : X) (z : Int) (b : Bool) (h : badB z x x1 = true) : Ct Tryz.prog 115 [iA 1, xA x, xA x1, iA z, bA b] (· = neA (q0, 1)) := by
  refine ct_of (O := tblO Tref_bad) (by kernel_rfl) tyB_ok (fun w => tblO_ok Tref_bad_ok _ w) [] 1500 49 [.cell 10 28, .tmp 11] Tryz.func115 rfl Tryz.ntmps115 (by rw [Tryz.results115]) (by simp) rfl (fun hsm => ?_)
  simp (maxSteps := 10000000) only [go_sem, ↓reduceIte, Nat.reduceMul, Nat.reduceDiv, Nat.reduceAdd, Nat.reduceEqDiff, Nat.reduceLeDiff, Nat.reduceLT, reduceCtorEq, Int.reduceNeg, Int.reduceLT, Int.reduceLE, Int.reduceAdd, Int.reduceToNat, Nat.reduceBEq, Int.reduceMul, Int.reduceSub, Nat.reduceSub, Int.reduceBNe, Nat.reduceBNe, Tref_bad, gIP2, h, zX]
  repeat' first | (with_reducible apply And.intro) | (with_reducible apply condP <;> intro _)
  all_goals first | (show chk _ _ = true; kernel_rfl) | assumption | (simp only [go_sem, *, qx0, zX, neA] <;> rfl) | rfl | (exfalso; simp_all only [Bool.true_eq_false, Bool.false_eq_true, reduceCtorEq]; done)
theorem y_rk1g (x x1 : X) (z : Int) (b : Bool) (h : badB z x x1 = false) : Ct Tryz.prog 115 [iA 1, xA x, xA x1, iA z, bA b] (· = neA (res (rnd z.toNat b (minus x.q x1.q)))) := by
  refine ct_of (O := tblO (orT Tref_bad (orT Tref_Of (orT Tref_Exact (orT Tref_Round Tref_Val_Num))))) (by kernel_rfl) tyB_ok (fun w => tblO_ok (orT_ok Tref_bad_ok (orT_ok Tref_Of_ok (orT_ok Tref_Exact_ok (orT_ok Tref_Round_ok Tref_Val_Num_ok)))) _ w) [] 1500 49 [.cell 10 28, .tmp 11] Tryz.func115 rfl Tryz.ntmps115 (by rw [Tryz.results115]) (by simp) rfl (fun hsm => ?_)
  obtain ⟨hx, hx1, hz⟩ := badB_not.1 h
  have v0 := ok_arg hx hsm.2.1.2.2.1.1
  have v1 := ok_arg hx1 hsm.2.2.1.2.2.1.1
  have b0 := vb_of v0
  have b1 := vb_of v1
  have hp := pr_of hz
  have w0 := vm_vw (vm_minus v0 v1)
  have w1 := rnd_vm hp b (vm_minus v0 v1)
  simp (maxSteps := 10000000) only [go_sem, ↓reduceIte, Nat.reduceMul, Nat.reduceDiv, Nat.reduceAdd, Nat.reduceEqDiff, Nat.reduceLeDiff, Nat.reduceLT, reduceCtorEq, Int.reduceNeg, Int.reduceLT, Int.reduceLE, Int.reduceAdd, Int.reduceToNat, Nat.reduceBEq, Int.reduceMul, Int.reduceSub, Nat.reduceSub, Int.reduceBNe, Nat.reduceBNe, Tref_bad, Tref_Of, Tref_Exact, Tref_Round, Tref_Val_Num, gIP2, gIVV, h, gVIB, gV, Int.reduceBEq]
  repeat' first | (with_reducible apply And.intro) | (with_reducible apply condP <;> intro _)
  all_goals first | (show chk _ _ = true; kernel_rfl) | assumption | (simp only [go_sem, *, neA] <;> rfl) | rfl | (exfalso; simp_all only [Bool.true_eq_false, Bool.false_eq_true, reduceCtorEq]; done)
theorem y_rk1 (x x1 : X) (z : Int) (b : Bool) : Ct Tryz.prog 115 [iA 1, xA x, xA x1, iA z, bA b] (· = neA (rtwo (gk 1 z b) z x x1)) := by
  cases h : badB z x x1 with
  | true => rw [rtwo_bad h]; exact y_rk1b x x1 z b h
  | false =>
    obtain ⟨hx, hx1, hz⟩ := badB_not.1 h
    rw [rtwo_ok hx hx1 (by rw [← prl_prb]; exact hz), gk_1]
    exact y_rk1g x x1 z b h
def gINNIB (k : Int → X → X → Int → Bool → Prop × AV) : List AV → Option (Prop × AV)
  | [.v false [.lit (.int .i64 kd)], .v true mx, .v true mx1, .v false [.lit (.int .i64 z)], .v false [.lit (.bool b)]] => (match asNum mx, asNum mx1 with
    | some x, some x1 => some (k kd x x1 z b)
    | _, _ => none)
  | _ => none
theorem gINNIB_eq {k : Int → X → X → Int → Bool → Prop × AV} {args : List AV} {e : Prop × AV} (h : gINNIB k args = some e) : ∃ kd x x1 z b, args = [iA kd, .v true x.L, .v true x1.L, iA z, bA b] ∧ e = k kd x x1 z b := by
  unfold gINNIB at h
  split at h
  · split at h
    · rename_i kd mx mx1 z b _ _ x x1 hx hx1
      injection h with h; subst h
      exact ⟨kd, x, x1, z, b, by rw [asNum_eq hx, asNum_eq hx1], rfl⟩
    · cases h
  · cases h
noncomputable def Tref_Reckon : Tbl := one 115 (gINNIB fun kd x x1 z b => (kd = 0 ∨ kd = 1, neA (rtwo (gk kd z b) z x x1)))
theorem Tref_Reckon_ok : TbOK Tryz.prog Tref_Reckon := one_ok (ent Tryz.func115 (by kernel_rfl) rfl) fun args e h hp => by
  obtain ⟨kd, x, x1, z, b, rfl, rfl⟩ := gINNIB_eq h
  rcases hp with rfl | rfl
  · exact y_rk0 x x1 z b
  · exact y_rk1 x x1 z b
end Go.Proofs.YthhaelnildaemaaGreatDoor
