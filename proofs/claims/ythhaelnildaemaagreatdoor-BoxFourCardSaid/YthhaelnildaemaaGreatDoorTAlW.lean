/- The statements' helper reckons returns true. -/
import Derived.Test.YthhaelnildaemaaGreatDoorTAm3
import Derived.Test.YthhaelnildaemaaGreatDoorTAl9
namespace Go.Proofs.YthhaelnildaemaaGreatDoor
open Go.RowKit Nx
set_option linter.unusedVariables false
set_option linter.unusedSimpArgs false
set_option maxRecDepth 100000
set_option maxHeartbeats 4000000
attribute [local go_sem] run init X.L J.L vL X.eta J.eta Q.eta List.cons_append List.nil_append brkK brkf_b brkf_t exef_some exif_some condf_b opf bodyE addR skipE stepOp stepLoad stepStore stepField stepCall stepBS stepBi stepCv stepIx lpf hdS pick forget inL mentA ment dom evs evl evp evd okeys look fillA capsOf wordsOf rowsOf lenOf convK binV shV intV unV boolT tyT tiB tiI tiW tiD tiF tiR tiU tiNum tiIv tiVal tiSc okLf okD keysOf tblO cvA cvL dnL olA olL noO noA cbL cbA orT noT one asNum asIv asVal postf_some resA tupA clA clL dropTo decide_true decide_false List.all_cons List.all_nil Bool.and_true Bool.and_self true_and and_true and_self List.length_cons List.length_nil List.drop_succ_cons List.drop_zero List.take_succ_cons List.take_zero List.getElem?_cons_zero List.getElem?_cons_succ List.map_cons List.map_nil false_implies true_implies Option.bind_some List.getElem?_toArray Bool.false_eq_true List.append_nil List.flatMap_cons List.flatMap_nil true_or or_true forall_const List.reverse_cons List.reverse_nil Option.isSome_some Option.any_some Nat.lt_irrefl not_true_eq_false Bool.not_true Bool.not_false imp_self implies_true Bool.not_eq_true' Bool.not_eq_false' Bool.true_eq_false memOf cntF nmL rnL nmA rnA isV contsOf ndB refO orO pin Int.toNat_zero decide_eq_true_eq wrap0 wrap1 ci1 ci2 BEq.rfl beq_self_eq_true Int.natCast_zero ge_iff_le gt_iff_lt Int.le_refl Nat.zero_mul Nat.one_mul Nat.zero_add Nat.zero_lt_succ Nat.lt_add_one Nat.le_refl List.append_eq Int.toNat_natCast gN gNN gNI gI gNNIB gNIB gJ gJJ gJN gJJI gJI stepB0 stepMk stepSl stepAp apY optI okO nilV slT resB outPs outLs outL dnT noE boxL_nil boxL_cons ptsL_nil ptsL_cons bxe pxe bne_self_eq_false wr2 wr3 wr4 wr5 wr6 wr7 wr8 gB gP gBB gBP gBZ gBBZ bC_nil bC_cons pC_nil pC_cons fvO Lc.up tyB tiS tiBB List.replicate_succ List.replicate_zero List.flatten_cons List.flatten_nil Int.ofNat_lt Int.cast_ofNat_Int Int.ofNat_eq_natCast List.isEmpty_nil List.isEmpty_cons and_false false_and List.cons_ne_nil Nat.add_zero ite_true ite_false if_true if_false Nat.le_zero_eq eq_self Bool.and_false Bool.false_and Bool.true_and AV.s cond_true cond_false Bool.or_true Bool.true_or Bool.or_false Bool.false_or
attribute [local go_sem ↓] cond_true cond_false not_cond outL_box outL_pts clL_box clL_pts okL_box okL_pts ment_box ment_pts olL_box olL_pts cvL_box cvL_pts noO_box noO_pts asB_box asP_pts len_box len_pts
attribute [local irreducible] chk
def numsB : List X → List X → Bool := all2 samex
theorem h_nums0  : Ct Tryz.prog 65 [pA_ [], pA_ []] (· = bA (numsB [] [])) := by
  refine ct_of (O := tblO Tref_Same) (by kernel_rfl) tyB_ok (fun w => tblO_ok Tref_Same_ok _ w) [] 2500 27 [.tmp 4] Tryz.func65 rfl Tryz.ntmps65 (by rw [Tryz.results65]) (by simp) rfl (fun hsm => ?_)
  simp (maxSteps := 10000000) only [go_sem, ↓reduceIte, Nat.reduceMul, Nat.reduceDiv, Nat.reduceAdd, Nat.reduceEqDiff, Nat.reduceLeDiff, Nat.reduceLT, reduceCtorEq, Int.reduceNeg, Int.reduceLT, Int.reduceLE, Int.reduceAdd, Int.reduceToNat, Nat.reduceBEq, Int.reduceMul, Int.reduceSub, Nat.reduceSub, Int.reduceBNe, Nat.reduceBNe, asB, asP, nilB, asJs, asXs, wsOf, Tref_Same]
  repeat' first | (with_reducible apply And.intro) | (with_reducible apply condP <;> intro _)
  all_goals first | (show chk _ _ = true; kernel_rfl) | assumption | (simp only [go_sem, *, Nat.reduceAdd, numsB, all2] <;> rfl) | rfl | (exfalso; simp_all only [Bool.true_eq_false, Bool.false_eq_true, reduceCtorEq]; done)
theorem h_nums1 (a s : X)  : Ct Tryz.prog 65 [pA_ [a], pA_ [s]] (· = bA (numsB [a] [s])) := by
  refine ct_of (O := tblO Tref_Same) (by kernel_rfl) tyB_ok (fun w => tblO_ok Tref_Same_ok _ w) [] 2500 27 [.tmp 4] Tryz.func65 rfl Tryz.ntmps65 (by rw [Tryz.results65]) (by simp) rfl (fun hsm => ?_)
  simp (maxSteps := 10000000) only [go_sem, ↓reduceIte, Nat.reduceMul, Nat.reduceDiv, Nat.reduceAdd, Nat.reduceEqDiff, Nat.reduceLeDiff, Nat.reduceLT, reduceCtorEq, Int.reduceNeg, Int.reduceLT, Int.reduceLE, Int.reduceAdd, Int.reduceToNat, Nat.reduceBEq, Int.reduceMul, Int.reduceSub, Nat.reduceSub, Int.reduceBNe, Nat.reduceBNe, asB, asP, nilB, asJs, asXs, wsOf, Tref_Same]
  repeat' first | (with_reducible apply And.intro) | (with_reducible apply condP <;> intro _)
  all_goals first | (show chk _ _ = true; kernel_rfl) | assumption | (simp only [go_sem, *, Nat.reduceAdd, numsB, all2] <;> rfl) | rfl | (exfalso; simp_all only [Bool.true_eq_false, Bool.false_eq_true, reduceCtorEq]; done)
theorem h_nums2 (a b s t : X)  : Ct Tryz.prog 65 [pA_ [a, b], pA_ [s, t]] (· = bA (numsB [a, b] [s, t])) := by
  refine ct_of (O := tblO Tref_Same) (by kernel_rfl) tyB_ok (fun w => tblO_ok Tref_Same_ok _ w) [] 2500 27 [.tmp 4] Tryz.func65 rfl Tryz.ntmps65 (by rw [Tryz.results65]) (by simp) rfl (fun hsm => ?_)
  simp (maxSteps := 10000000) only [go_sem, ↓reduceIte, Nat.reduceMul, Nat.reduceDiv, Nat.reduceAdd, Nat.reduceEqDiff, Nat.reduceLeDiff, Nat.reduceLT, reduceCtorEq, Int.reduceNeg, Int.reduceLT, Int.reduceLE, Int.reduceAdd, Int.reduceToNat, Nat.reduceBEq, Int.reduceMul, Int.reduceSub, Nat.reduceSub, Int.reduceBNe, Nat.reduceBNe, asB, asP, nilB, asJs, asXs, wsOf, Tref_Same]
  repeat' first | (with_reducible apply And.intro) | (with_reducible apply condP <;> intro _)
  all_goals first | (show chk _ _ = true; kernel_rfl) | assumption | (simp only [go_sem, *, Nat.reduceAdd, numsB, all2] <;> rfl) | rfl | (exfalso; simp_all only [Bool.true_eq_false, Bool.false_eq_true, reduceCtorEq]; done)
theorem h_nums3 (a b c s t u : X)  : Ct Tryz.prog 65 [pA_ [a, b, c], pA_ [s, t, u]] (· = bA (numsB [a, b, c] [s, t, u])) := by
  refine ct_of (O := tblO Tref_Same) (by kernel_rfl) tyB_ok (fun w => tblO_ok Tref_Same_ok _ w) [] 2500 27 [.tmp 4] Tryz.func65 rfl Tryz.ntmps65 (by rw [Tryz.results65]) (by simp) rfl (fun hsm => ?_)
  simp (maxSteps := 10000000) only [go_sem, ↓reduceIte, Nat.reduceMul, Nat.reduceDiv, Nat.reduceAdd, Nat.reduceEqDiff, Nat.reduceLeDiff, Nat.reduceLT, reduceCtorEq, Int.reduceNeg, Int.reduceLT, Int.reduceLE, Int.reduceAdd, Int.reduceToNat, Nat.reduceBEq, Int.reduceMul, Int.reduceSub, Nat.reduceSub, Int.reduceBNe, Nat.reduceBNe, asB, asP, nilB, asJs, asXs, wsOf, Tref_Same]
  repeat' first | (with_reducible apply And.intro) | (with_reducible apply condP <;> intro _)
  all_goals first | (show chk _ _ = true; kernel_rfl) | assumption | (simp only [go_sem, *, Nat.reduceAdd, numsB, all2] <;> rfl) | rfl | (exfalso; simp_all only [Bool.true_eq_false, Bool.false_eq_true, reduceCtorEq]; done)
theorem h_nums4 (a b c d s t u v : X)  : Ct Tryz.prog 65 [pA_ [a, b, c, d], pA_ [s, t, u, v]] (· = bA (numsB [a, b, c, d] [s, t, u, v])) := by
  refine ct_of (O := tblO Tref_Same) (by kernel_rfl) tyB_ok (fun w => tblO_ok Tref_Same_ok _ w) [] 2500 27 [.tmp 4] Tryz.func65 rfl Tryz.ntmps65 (by rw [Tryz.results65]) (by simp) rfl (fun hsm => ?_)
  simp (maxSteps := 10000000) only [go_sem, ↓reduceIte, Nat.reduceMul, Nat.reduceDiv, Nat.reduceAdd, Nat.reduceEqDiff, Nat.reduceLeDiff, Nat.reduceLT, reduceCtorEq, Int.reduceNeg, Int.reduceLT, Int.reduceLE, Int.reduceAdd, Int.reduceToNat, Nat.reduceBEq, Int.reduceMul, Int.reduceSub, Nat.reduceSub, Int.reduceBNe, Nat.reduceBNe, asB, asP, nilB, asJs, asXs, wsOf, Tref_Same]
  repeat' first | (with_reducible apply And.intro) | (with_reducible apply condP <;> intro _)
  all_goals first | (show chk _ _ = true; kernel_rfl) | assumption | (simp only [go_sem, *, Nat.reduceAdd, numsB, all2] <;> rfl) | rfl | (exfalso; simp_all only [Bool.true_eq_false, Bool.false_eq_true, reduceCtorEq]; done)
theorem h_numsx (l m : List X) (h : l.length ≠ m.length) : Ct Tryz.prog 65 [pA_ l, pA_ m] (· = bA (numsB l m)) := by
  have h1 : ((l.length : Int) != (m.length : Int)) = true := bne_iff_ne.2 (by omega)
  refine ct_of (O := tblO Tref_Same) (by kernel_rfl) tyB_ok (fun w => tblO_ok Tref_Same_ok _ w) [] 2500 27 [.tmp 4] Tryz.func65 rfl Tryz.ntmps65 (by rw [Tryz.results65]) (by simp) rfl (fun hsm => ?_)
  simp (maxSteps := 10000000) only [go_sem, ↓reduceIte, Nat.reduceMul, Nat.reduceDiv, Nat.reduceAdd, Nat.reduceEqDiff, Nat.reduceLeDiff, Nat.reduceLT, reduceCtorEq, Int.reduceNeg, Int.reduceLT, Int.reduceLE, Int.reduceAdd, Int.reduceToNat, Nat.reduceBEq, Int.reduceMul, Int.reduceSub, Nat.reduceSub, Int.reduceBNe, Nat.reduceBNe, asB, asP, nilB, asJs, asXs, wsOf, Tref_Same, h1]
  repeat' first | (with_reducible apply And.intro) | (with_reducible apply condP <;> intro _)
  all_goals first | (show chk _ _ = true; kernel_rfl) | assumption | (simp only [go_sem, *, Nat.reduceAdd, numsB, all2_len h] <;> rfl) | rfl | (exfalso; simp_all only [Bool.true_eq_false, Bool.false_eq_true, reduceCtorEq]; done)
theorem h_nums (l m : List X) (hl : l.length ≤ 4) : Ct Tryz.prog 65 [pA_ l, pA_ m] (· = bA (numsB l m)) := by
  by_cases h : l.length = m.length
  case neg => exact h_numsx l m h
  match l, m, h, hl with
  | [], [], _, _ => exact h_nums0
  | [a], [s], _, _ => exact h_nums1 a s
  | [a, b], [s, t], _, _ => exact h_nums2 a b s t
  | [a, b, c], [s, t, u], _, _ => exact h_nums3 a b c s t u
  | [a, b, c, d], [s, t, u, v], _, _ => exact h_nums4 a b c d s t u v
  | _ :: _ :: _ :: _ :: _ :: _, _, _, h => simp at h
def gPP (k : List X → List X → Prop × AV) : List AV → Option (Prop × AV)
  | [x, y] => (match asP x, asP y with
    | some l, some m => some (k l m)
    | _, _ => none)
  | _ => none
theorem gPP_ct {P : Program} {f : FuncId} {k : List X → List X → Prop × AV} (h : ∀ l m, (k l m).1 → Ct P f [pA_ l, pA_ m] (· = (k l m).2)) {args : List AV} {e : Prop × AV} (he : gPP k args = some e) (hp : e.1) : Ct P f args (· = e.2) := by
  unfold gPP at he
  split at he
  · split at he
    · rename_i l m hl hm
      injection he with he; subst he
      exact (h l m hp).of fun ρ D w => RA.c (fun u => asP_R hl) (RA.c (fun u => asP_R hm) fun us h => h)
    · cases he
  · cases he
noncomputable def Th6_Nums : Tbl := one 65 (gPP fun l m => (l.length ≤ 4, bA (numsB l m)))
theorem Th6_Nums_ok : TbOK Tryz.prog Th6_Nums := one_ok (ent Tryz.func65 (by kernel_rfl) rfl) fun args e h hp => gPP_ct (fun l m h => h_nums l m h) h hp
theorem numsB_refl (l : List X) : numsB l l = true := by
  unfold numsB
  induction l with
  | nil => rfl
  | cons a l ih => unfold all2; rw [samex_refl, ih]; rfl
theorem zipP_len4 {φ : J → J → X × Int} : ∀ (l m : List J), (zipP φ l m).1.length ≤ l.length := by
  intro l
  induction l with
  | nil => intro m; exact Nat.zero_le _
  | cons a l ih =>
    intro m
    cases m with
    | nil => exact Nat.zero_le _
    | cons b m =>
      unfold zipP
      cases (φ a b).2 != 0
      · rw [cond_false]
        cases (zipP φ l m).2 != 0
        · rw [cond_false]; simp only [List.length_cons]; exact Nat.succ_le_succ (ih m)
        · exact Nat.zero_le _
      · exact Nat.zero_le _
theorem bothP_len4 {φ : J → J → X × Int} (l m : List J) : (bothP φ l m).1.length ≤ 4 := by
  unfold bothP
  cases h : rightB l && rightB m && decide (l.length = m.length) with
  | false => exact Nat.zero_le _
  | true =>
    rw [Bool.and_eq_true, Bool.and_eq_true] at h
    have := rightB_len h.1.1
    have := zipP_len4 (φ := φ) l m
    rw [cond_true]; omega
theorem l6_reckons (a b : List J) (x : J) (z : Int) : Ct Tryz.prog 20 [bA_ a, bA_ b, jA x, iA z] (· = bA true) := by
  refine ct_of (O := tblO (orT Tbox_Add (orT Tbox_Sub (orT Tbox_Times (orT Tbox_Mid (orT Tbox_Wide (orT Tbox_Blow (orT T6_Op (orT T6_Times (orT T6_Mid (orT T6_Wide (orT T6_Blow (orT T6_Same (orT Th6_Nums Tref_Same)))))))))))))) (by kernel_rfl) tyB_ok (fun w => tblO_ok (orT_ok Tbox_Add_ok (orT_ok Tbox_Sub_ok (orT_ok Tbox_Times_ok (orT_ok Tbox_Mid_ok (orT_ok Tbox_Wide_ok (orT_ok Tbox_Blow_ok (orT_ok T6_Op_ok (orT_ok T6_Times_ok (orT_ok T6_Mid_ok (orT_ok T6_Wide_ok (orT_ok T6_Blow_ok (orT_ok T6_Same_ok (orT_ok Th6_Nums_ok Tref_Same_ok))))))))))))) _ w) [] 2000 169 [.tmp 8] Tryz.func20 rfl Tryz.ntmps20 (by rw [Tryz.results20]) (by simp) rfl (fun hsm => ?_)
  have hs : Sm a := sm_of hsm.1.1
  have hx : GJ x := ⟨hsm.2.2.1.2.2.1.1, hsm.2.2.1.2.2.2.2.2.1.1⟩
  have eT : bothB (fun c _ => mulJ x c z) a a = bothB (fun c _ => opQ 2 x c z) a a := bothB_congr fun _ _ c hc _ _ => mul_eq hx (hs c hc) z
  have eM : bothP (fun c _ => midX c z) a a = bothP (fun c _ => rmid c z) a a := bothP_congr fun _ _ c hc _ _ => mid_eq (hs c hc) z
  have eW : widS a z = rwidS a z := wide_same hs z
  have eB : bothB (fun c _ => blowJ c z) a a = bothB (fun c _ => rblowJ c z) a a := bothB_congr fun h _ c hc _ _ => blow_same ⟨right_ok h c hc, hs c hc⟩ z
  simp (maxSteps := 10000000) only [go_sem, ↓reduceIte, Nat.reduceMul, Nat.reduceDiv, Nat.reduceAdd, Nat.reduceEqDiff, Nat.reduceLeDiff, Nat.reduceLT, reduceCtorEq, Int.reduceNeg, Int.reduceLT, Int.reduceLE, Int.reduceAdd, Int.reduceToNat, Nat.reduceBEq, Int.reduceMul, Int.reduceSub, Nat.reduceSub, Int.reduceBNe, Nat.reduceBNe, Tbox_Add, Tbox_Sub, Tbox_Times, Tbox_Mid, Tbox_Wide, Tbox_Blow, T6_Op, T6_Times, T6_Mid, T6_Wide, T6_Blow, T6_Same, Th6_Nums, Tref_Same, add_eq, sub_eq, eT, eM, eW, eB, sameB_refl, numsB_refl, samex_refl, asB_b, asP_b, gIBBI, gJBI, gPP]
  repeat' first | (with_reducible apply And.intro) | (with_reducible apply condP <;> intro _)
  all_goals try first | exact bothB_len _ _ | exact bothP_len4 _ _ | decide
  all_goals first | (show chk _ _ = true; kernel_rfl) | assumption | (simp only [go_sem, *, bothB_len, bothP_len4, samex_refl] <;> rfl) | rfl | (exfalso; simp_all only [Bool.true_eq_false, Bool.false_eq_true, reduceCtorEq]; done)
def gBBJI (k : List J → List J → J → Int → Prop × AV) : List AV → Option (Prop × AV)
  | [x, y, .v true mj, .v false [.lit (.int .i64 z)]] => (match asB x, asB y, asIv mj with
    | some l, some m, some j => some (k l m j z)
    | _, _, _ => none)
  | _ => none
theorem gBBJI_ct {P : Program} {f : FuncId} {k : List J → List J → J → Int → Prop × AV} (h : ∀ l m j z, (k l m j z).1 → Ct P f [bA_ l, bA_ m, jA j, iA z] (· = (k l m j z).2)) {args : List AV} {e : Prop × AV} (he : gBBJI k args = some e) (hp : e.1) : Ct P f args (· = e.2) := by
  unfold gBBJI at he
  split at he
  · split at he
    · rename_i l m j hl hm hj
      injection he with he; subst he
      rw [asIv_eq hj]
      exact (h l m j _ hp).of fun ρ D w => RA.c (fun u => asB_R hl) (RA.c (fun u => asB_R hm) fun us h => h)
    · cases he
  · cases he
noncomputable def Tlaw6_reckons : Tbl := one 20 (gBBJI fun _ _ _ _ => (True, bA true))
theorem Tlaw6_reckons_ok : TbOK Tryz.prog Tlaw6_reckons := one_ok (ent Tryz.func20 (by kernel_rfl) rfl) fun args e h hp => gBBJI_ct (fun l m j z _ => l6_reckons l m j z) h hp
end Go.Proofs.YthhaelnildaemaaGreatDoor
