/- The statements' helper parts returns true. -/
import Derived.Test.YtfggnoejcgehdaaGreatDoorRAj2
import Derived.Test.YtfggnoejcgehdaaGreatDoorRAkG
namespace Go.Proofs.YtfggnoejcgehdaaGreatDoor
open Go.RowKit Nx
set_option linter.unusedVariables false
set_option linter.unusedSimpArgs false
def gJJN (k : J → J → X → Prop × AV) : List AV → Option (Prop × AV)
  | [.v true mj, .v true mj1, .v true mx] => (match asIv mj, asIv mj1, asNum mx with
    | some j, some j1, some x => some (k j j1 x)
    | _, _, _ => none)
  | _ => none
end Go.Proofs.YtfggnoejcgehdaaGreatDoor
namespace Go.Proofs.YtfggnoejcgehdaaGreatDoor
open Go.RowKit Nx
set_option linter.unusedVariables false
set_option linter.unusedSimpArgs false
attribute [local go_sem] run init X.L J.L vL X.eta J.eta Q.eta List.cons_append List.nil_append brkK brkf_b brkf_t exef_some exif_some condf_b opf bodyE addR skipE stepOp stepLoad stepStore stepField stepCall stepBS stepBi stepCv stepIx lpf forget inL mentA ment dom evs evl evp evd okeys look fillA capsOf wordsOf rowsOf lenOf convK binV shV intV unV boolT tyT tiB tiI tiW tiD tiF tiR tiU tiNum tiIv tiVal tiSc okLf okD keysOf tblO orT noT one asNum asIv asVal postf_some resA tupA clA clL dropTo decide_true decide_false List.all_cons List.all_nil Bool.and_true Bool.and_self true_and and_true and_self List.length_cons List.length_nil List.drop_succ_cons List.drop_zero List.take_succ_cons List.take_zero List.getElem?_cons_zero List.getElem?_cons_succ List.map_cons List.map_nil false_implies true_implies Option.bind_some List.getElem?_toArray Bool.false_eq_true List.append_nil List.flatMap_cons List.flatMap_nil true_or or_true forall_const List.reverse_cons List.reverse_nil Option.isSome_some Option.any_some Nat.lt_irrefl not_true_eq_false Bool.not_true Bool.not_false imp_self implies_true Bool.not_eq_true' Bool.not_eq_false' Bool.true_eq_false memOf cntF nmL rnL nmA rnA isV contsOf ndB refO orO pin Int.toNat_zero decide_eq_true_eq wrap0 wrap1 ci1 ci2 BEq.rfl beq_self_eq_true Int.natCast_zero ge_iff_le gt_iff_lt Int.le_refl Nat.zero_mul Nat.one_mul Nat.zero_add Nat.zero_lt_succ Nat.lt_add_one Nat.le_refl List.append_eq gN gNN gNI gI gNNIB gNIB gV gVV gVIB gVVIB gWW gJ gJJ gJN gJJI gJI gJII gNNI gBWI gVVVV gVVVVI gVI gIJJI gJB AV.s cond_true cond_false Bool.true_and Bool.and_false Bool.false_and Bool.or_true Bool.true_or Bool.or_false Bool.false_or
theorem ends_lit {a b : Q} (fa : Fits a) (fb : Fits b) : endsQ a b = (⟨qx a, qx b⟩, 0) := by unfold endsQ; rw [res_ok fa, res_ok fb]; rfl
theorem fit_lit {s : Bool} {m : Nat} {e : Int} (h1 : nbits m ≤ 256) (h2 : -65536 ≤ e) (h3 : e ≤ 65536) : Fits ⟨s, m, e⟩ := fits_few h1 h2 h3
theorem gj_a : GJ (⟨⟨true, 0, [1]⟩, ⟨false, 1, [1]⟩⟩ : J) := ⟨small1 (by decide), small1 (by decide)⟩
theorem gj_b : GJ (⟨⟨false, 0, [3]⟩, ⟨false, 2, [1]⟩⟩ : J) := ⟨small1 (by decide), small1 (by decide)⟩
theorem k_make1 : makeJ ⟨true, 0, [1]⟩ ⟨false, 1, [1]⟩ = (⟨⟨true, 0, [1]⟩, ⟨false, 1, [1]⟩⟩, 0) := by kernel_rfl
theorem k_make2 : makeJ ⟨false, 0, [3]⟩ ⟨false, 2, [1]⟩ = (⟨⟨false, 0, [3]⟩, ⟨false, 2, [1]⟩⟩, 0) := by kernel_rfl
theorem k_mul : mulJ (⟨⟨true, 0, [1]⟩, ⟨false, 1, [1]⟩⟩ : J) (⟨⟨false, 0, [3]⟩, ⟨false, 2, [1]⟩⟩ : J) 16 = (⟨⟨true, 2, [1]⟩, ⟨false, 3, [1]⟩⟩, 0) := by
  rw [mul_eq gj_a gj_b, show opQ 2 (⟨⟨true, 0, [1]⟩, ⟨false, 1, [1]⟩⟩ : J) (⟨⟨false, 0, [3]⟩, ⟨false, 2, [1]⟩⟩ : J) 16 = endsQ ⟨true, 1, 2⟩ ⟨false, 1, 3⟩ by kernel_rfl, ends_lit (fit_lit (by decide) (by decide) (by decide)) (fit_lit (by decide) (by decide) (by decide))]
  kernel_rfl
theorem k_add : addJ (⟨⟨true, 0, [1]⟩, ⟨false, 1, [1]⟩⟩ : J) (⟨⟨false, 0, [3]⟩, ⟨false, 2, [1]⟩⟩ : J) 16 = (⟨⟨false, 1, [1]⟩, ⟨false, 1, [3]⟩⟩, 0) := by
  rw [add_eq, show opQ 0 (⟨⟨true, 0, [1]⟩, ⟨false, 1, [1]⟩⟩ : J) (⟨⟨false, 0, [3]⟩, ⟨false, 2, [1]⟩⟩ : J) 16 = endsQ ⟨false, 1, 1⟩ ⟨false, 3, 1⟩ by kernel_rfl, ends_lit (fit_lit (by decide) (by decide) (by decide)) (fit_lit (by decide) (by decide) (by decide))]
  kernel_rfl
theorem k_sub : subJ (⟨⟨false, 0, [3]⟩, ⟨false, 2, [1]⟩⟩ : J) (⟨⟨true, 0, [1]⟩, ⟨false, 1, [1]⟩⟩ : J) 16 = (⟨⟨false, 0, [1]⟩, ⟨false, 0, [5]⟩⟩, 0) := by
  rw [sub_eq, show opQ 1 (⟨⟨false, 0, [3]⟩, ⟨false, 2, [1]⟩⟩ : J) (⟨⟨true, 0, [1]⟩, ⟨false, 1, [1]⟩⟩ : J) 16 = endsQ ⟨false, 1, 0⟩ ⟨false, 5, 0⟩ by kernel_rfl, ends_lit (fit_lit (by decide) (by decide) (by decide)) (fit_lit (by decide) (by decide) (by decide))]
  kernel_rfl
theorem k_pow : powJ (⟨⟨true, 0, [1]⟩, ⟨false, 1, [1]⟩⟩ : J) 2 16 = (⟨⟨false, 0, []⟩, ⟨false, 2, [1]⟩⟩, 0) := by
  rw [pow_eq gj_a, show rpow (⟨⟨true, 0, [1]⟩, ⟨false, 1, [1]⟩⟩ : J) 2 16 = endsQ q0 ⟨false, 1, 2⟩ by kernel_rfl, ends_lit fits0 (fit_lit (by decide) (by decide) (by decide))]
  kernel_rfl
theorem k_div : divJ (⟨⟨false, 0, [3]⟩, ⟨false, 2, [1]⟩⟩ : J) (⟨⟨true, 0, [1]⟩, ⟨false, 1, [1]⟩⟩ : J) 16 = (zJ, 3) := by
  rw [div_eq gj_a]
  kernel_rfl
theorem k_mid : midX (⟨⟨false, 0, [3]⟩, ⟨false, 2, [1]⟩⟩ : J) 16 = (⟨false, -1, [7]⟩, 0) := by
  rw [mid_eq gj_b]
  unfold rmid
  rw [show rnd (Int.toNat 16) false (hlf (plus (⟨⟨false, 0, [3]⟩, ⟨false, 2, [1]⟩⟩ : J).lo.q (⟨⟨false, 0, [3]⟩, ⟨false, 2, [1]⟩⟩ : J).hi.q)) = ⟨false, 7, -1⟩ by kernel_rfl, res_ok (fit_lit (by decide) (by decide) (by decide))]
  kernel_rfl
theorem k_zero : samex ⟨false, 0, []⟩ ⟨false, 0, []⟩ = true := by kernel_rfl
theorem k_has : hasJ ⟨⟨false, 1, [1]⟩, ⟨false, 1, [3]⟩⟩ ⟨false, 0, [3]⟩ = true := by kernel_rfl
theorem k_in : inJ ⟨⟨false, 0, [1]⟩, ⟨false, 0, [1]⟩⟩ (⟨⟨true, 0, [1]⟩, ⟨false, 1, [1]⟩⟩ : J) = true := by kernel_rfl
theorem k_ins : insJ (⟨⟨true, 0, [1]⟩, ⟨false, 1, [1]⟩⟩ : J) (⟨⟨true, 0, [1]⟩, ⟨false, 1, [1]⟩⟩ : J) = false := by kernel_rfl
theorem k_ok : okJ ⟨⟨false, 0, [1]⟩, ⟨false, 0, [5]⟩⟩ = true := by kernel_rfl
theorem k_neg1 : negJ (⟨⟨true, 0, [1]⟩, ⟨false, 1, [1]⟩⟩ : J) = ⟨⟨true, 1, [1]⟩, ⟨false, 0, [1]⟩⟩ := by kernel_rfl
theorem k_neg2 : negJ ⟨⟨true, 1, [1]⟩, ⟨false, 0, [1]⟩⟩ = (⟨⟨true, 0, [1]⟩, ⟨false, 1, [1]⟩⟩ : J) := by kernel_rfl
theorem k_mag : magJ (⟨⟨true, 0, [1]⟩, ⟨false, 1, [1]⟩⟩ : J) = ⟨false, 1, [1]⟩ := by kernel_rfl
set_option maxRecDepth 100000 in
set_option maxHeartbeats 4000000 in
theorem l_zero (x : X) : Ct Tryz.prog 46 [.v true x.L] (· = bA (samex x ⟨false, 0, []⟩)) := by
  refine ct_of (O := tblO (Tref_Same)) (by kernel_rfl) tyT_ok (fun w => tblO_ok (Tref_Same_ok) _ w) [] 2000 6 [.tmp 2] Tryz.func46 rfl Tryz.ntmps46 (by rw [Tryz.results46]) (by simp) rfl (fun hsm => ?_)
  simp (maxSteps := 10000000) only [go_sem, ↓cond_true, ↓cond_false, ↓not_cond, ↓reduceIte, Nat.reduceMul, Nat.reduceAdd, Nat.reduceEqDiff, Nat.reduceLeDiff, Nat.reduceLT, reduceCtorEq, Int.reduceNeg, Tref_Same, Int.reduceLT, Int.reduceLE, Int.reduceAdd, Int.reduceToNat, Nat.reduceBEq, Int.reduceMul, Int.reduceSub, Nat.reduceSub, Int.reduceEq, gC, gCC, asSc, SX.L, SX.eta]
  repeat' first | (with_reducible apply And.intro) | (with_reducible apply condP <;> intro _)
  all_goals first | (show chk _ _ = true; kernel_rfl) | assumption | (simp only [go_sem, *]; done) | rfl | (simp only [go_sem, *]; rfl) | (exfalso; simp_all only [Bool.true_eq_false, Bool.false_eq_true, reduceCtorEq]; done)
noncomputable def Thelp_Zero : Tbl := one 46 (gN fun x => (True, bA (samex x ⟨false, 0, []⟩)))
theorem Thelp_Zero_ok : TbOK Tryz.prog Thelp_Zero := one_ok (ent Tryz.func46 (by kernel_rfl) rfl) fun args e h hp => by obtain ⟨x, rfl, rfl⟩ := gN_eq h; exact l_zero x
noncomputable def Thelp_Words : Tbl := one 49 (gWW fun l l1 => (l = l1, bA true))
theorem Thelp_Words_ok : TbOK Tryz.prog Thelp_Words := one_ok (ent Tryz.func49 (by kernel_rfl) rfl) fun args e h hp => by
  obtain ⟨l, l1, rfl, rfl⟩ := gWW_eq h
  have hp : l = l1 := hp
  subst hp
  exact ctWW rfl (fun w Al nl cl Al1 nl1 cl1 ht hl hn hl1 hn1 => (words_same w 0 w.heap.size 0 w.heap.size Al Al1 nl cl nl1 cl1 l hl.1 hl1.1 (by omega)).mono fun _ _ h => by obtain ⟨m, he, hw⟩ := h; subst hw; exact post_b ⟨he, below_drewN (Below.refl _ _) m⟩)
set_option maxRecDepth 100000 in
set_option maxHeartbeats 4000000 in
theorem l_known  : Ct Tryz.prog 12 [] (· = bA true) := by
  refine ct_of (O := tblO (orT Tiv_Make (orT Tiv_Mul (orT Tiv_Pow (orT Tiv_Add (orT Tiv_Sub (orT Tiv_Div (orT Tiv_Mid (orT Thelp_Zero (orT Tiv_Has (orT Tiv_Of (orT Tiv_In (orT Tiv_Inside (orT Tiv_Right (orT Thelp_Words (orT Tiv_Neg (orT Tiv_Same (Tiv_Mag)))))))))))))))))) (by kernel_rfl) tyT_ok (fun w => tblO_ok (orT_ok Tiv_Make_ok (orT_ok Tiv_Mul_ok (orT_ok Tiv_Pow_ok (orT_ok Tiv_Add_ok (orT_ok Tiv_Sub_ok (orT_ok Tiv_Div_ok (orT_ok Tiv_Mid_ok (orT_ok Thelp_Zero_ok (orT_ok Tiv_Has_ok (orT_ok Tiv_Of_ok (orT_ok Tiv_In_ok (orT_ok Tiv_Inside_ok (orT_ok Tiv_Right_ok (orT_ok Thelp_Words_ok (orT_ok Tiv_Neg_ok (orT_ok Tiv_Same_ok (Tiv_Mag_ok))))))))))))))))) _ w) [] 2000 177 [.tmp 0] Tryz.func12 rfl Tryz.ntmps12 (by rw [Tryz.results12]) (by simp) rfl (fun hsm => ?_)
  have g1 := gj_a
  simp (maxSteps := 10000000) only [go_sem, ↓cond_true, ↓cond_false, ↓not_cond, ↓reduceIte, Nat.reduceMul, Nat.reduceAdd, Nat.reduceEqDiff, Nat.reduceLeDiff, Nat.reduceLT, reduceCtorEq, Int.reduceNeg, Tiv_Make, Tiv_Mul, Tiv_Pow, Tiv_Add, Tiv_Sub, Tiv_Div, Tiv_Mid, Thelp_Zero, Tiv_Has, Tiv_Of, Tiv_In, Tiv_Inside, Tiv_Right, Thelp_Words, Tiv_Neg, Tiv_Same, Tiv_Mag, Int.reduceLT, Int.reduceLE, Int.reduceAdd, Int.reduceToNat, Nat.reduceBEq, Int.reduceMul, Int.reduceSub, Nat.reduceSub, Int.reduceEq, gC, gCC, asSc, SX.L, SX.eta, gNIIB, Int.toNat_one, inW, k_make1, k_make2, k_mul, k_add, k_sub, k_pow, k_div, k_mid, k_zero, k_has, k_in, k_ins, k_ok, k_neg1, k_neg2, k_mag, sameJ_refl, zJ, zX]
  repeat' first | (with_reducible apply And.intro) | (with_reducible apply condP <;> intro _)
  all_goals first | (show chk _ _ = true; kernel_rfl) | assumption | (simp only [inW]; decide) | (simp only [go_sem, *]; done) | rfl | (simp only [go_sem, *]; rfl) | (exfalso; simp_all only [Bool.true_eq_false, Bool.false_eq_true, reduceCtorEq]; done)
noncomputable def Tlaw5_known : Tbl := one 12 (fun args => match args with
  | [] => some (True, bA true)
  | _ => none)
theorem Tlaw5_known_ok : TbOK Tryz.prog Tlaw5_known := one_ok (ent Tryz.func12 (by kernel_rfl) rfl) fun args e h hp => by
  split at h
  · injection h with h; subst h; exact l_known
  · cases h
end Go.Proofs.YtfggnoejcgehdaaGreatDoor
