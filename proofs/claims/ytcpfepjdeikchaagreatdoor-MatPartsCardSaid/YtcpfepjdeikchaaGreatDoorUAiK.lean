/- The document's side of package iv (fathomlineref1). -/
import Derived.Test.YtcpfepjdeikchaaGreatDoorUAiJ
namespace Go.Proofs.YtcpfepjdeikchaaGreatDoor
open Go.RowKit Nx
set_option linter.unusedVariables false
set_option linter.unusedSimpArgs false
set_option maxRecDepth 100000
set_option maxHeartbeats 4000000
attribute [local go_sem] run init X.L J.L vL X.eta J.eta Q.eta List.cons_append List.nil_append brkK brkf_b brkf_t exef_some exif_some condf_b opf bodyE addR skipE stepOp stepLoad stepStore stepField stepCall stepBS stepBi stepCv stepIx lpf hdS hd1 pick forget inL mentA ment dom evs evl evp evd okeys look fillA capsOf wordsOf rowsOf lenOf convK binV shV intV unV boolT tyT tiB tiI tiW tiD tiF tiR tiU tiNum tiIv tiVal tiSc okLf okD keysOf tblO cvA cvL dnL olA olL noO noA cbL cbA orT noT one asNum asIv asVal postf_some resA tupA clA clL dropTo decide_true decide_false List.all_cons List.all_nil Bool.and_true Bool.and_self true_and and_true and_self List.length_cons List.length_nil List.drop_succ_cons List.drop_zero List.take_succ_cons List.take_zero List.getElem?_cons_zero List.getElem?_cons_succ List.map_cons List.map_nil false_implies true_implies Option.bind_some List.getElem?_toArray Bool.false_eq_true List.append_nil List.flatMap_cons List.flatMap_nil true_or or_true forall_const List.reverse_cons List.reverse_nil Option.isSome_some Option.any_some Nat.lt_irrefl not_true_eq_false Bool.not_true Bool.not_false imp_self implies_true Bool.not_eq_true' Bool.not_eq_false' Bool.true_eq_false gN gNN gNI gI gNNIB gNIB gV gVV gVIB gVVIB gWW gJ gJJ gJN gJJI gJI gJII gNNI gBWI gVVVV gVVVVI gVI stepB0 stepMk stepSl stepAp apY optI okO nilV slT resB outPs outLs outL dnT AV.s cond_true cond_false Bool.true_and Bool.and_false Bool.false_and Bool.or_true Bool.true_or Bool.or_false Bool.false_or
attribute [local go_sem ↓] cond_true cond_false not_cond
def uppX (x y : X) : X := bif decide (cmpx y x > 0) then y else x
def prb (p : Int) : Bool := decide (p ≥ 8) && decide (p ≤ 256)
noncomputable def endsQ (a b : Q) : J × Int := bif ((res a).2 != 0) || ((res b).2 != 0) then (zJ, 2) else (⟨qx (res a).1, qx (res b).1⟩, 0)
def leastQ (x y u v : Q) : Q := bif decide (signq x ≥ 0) && decide (signq u ≥ 0) then times x u else bif decide (signq x ≥ 0) then times y u else bif decide (signq u ≥ 0) then times x v else
  bif decide (signq y ≤ 0) && decide (signq v ≤ 0) then times y v else bif decide (cmpq (times y u) (times x v) < 0) then times y u else times x v
def greatQ (x y u v : Q) : Q := (leastQ y.neg x.neg u v).neg
noncomputable def quotP (x y u v : Q) (p : Int) : J × Int := endsQ (ratq p.toNat false x (bif decide (signq x < 0) then u else v)) (ratq p.toNat true y (bif decide (signq y < 0) then v else u))
noncomputable def quotQ (x y u v : Q) (p : Int) : J × Int := bif decide (signq v < 0) then quotP y.neg x.neg v.neg u.neg p else quotP x y u v p
noncomputable def opQ (k : Int) (a b : J) (p : Int) : J × Int :=
  bif !(okJ a) || !(okJ b) || !(prb p) then (zJ, 1) else bif (k == 3) && hasJ b zX then (zJ, 3) else
  bif (k == 0) then endsQ (rnd p.toNat false (plus a.lo.q b.lo.q)) (rnd p.toNat true (plus a.hi.q b.hi.q)) else
  bif (k == 1) then endsQ (rnd p.toNat false (minus a.lo.q b.hi.q)) (rnd p.toNat true (minus a.hi.q b.lo.q)) else
  bif (k == 3) then quotQ a.lo.q a.hi.q b.lo.q b.hi.q p else
  endsQ (rnd p.toNat false (leastQ a.lo.q a.hi.q b.lo.q b.hi.q)) (rnd p.toNat true (greatQ a.lo.q a.hi.q b.lo.q b.hi.q))
set_option maxHeartbeats 2000000 in
theorem r_right (j : J) : Ct Tryz.prog 33 [.v true j.L] (· = bA (okJ j)) := by
  refine ct_of (O := tblO (orT Tref_Right (Tref_CmpNum))) (by kernel_rfl) tyT_ok (fun w => tblO_ok (orT_ok Tref_Right_ok (Tref_CmpNum_ok)) _ w) [] 300 19 [.tmp 2] Tryz.func33 rfl Tryz.ntmps33 (by rw [Tryz.results33]) (by simp) rfl (fun hsm => ?_)
  simp (maxSteps := 10000000) only [go_sem, ↓reduceIte, Nat.reduceMul, Nat.reduceDiv, Nat.reduceAdd, Nat.reduceEqDiff, Nat.reduceLeDiff, Nat.reduceLT, reduceCtorEq, Int.reduceNeg, Tref_Right, Tref_CmpNum]
  repeat' first | (with_reducible apply And.intro) | (with_reducible apply condP <;> intro _)
  all_goals first | (show chk _ _ = true; kernel_rfl) | assumption | (simp only [go_sem, *, okJ] <;> rfl) | rfl | (exfalso; simp_all only [Bool.true_eq_false, Bool.false_eq_true, reduceCtorEq]; done)
set_option maxHeartbeats 2000000 in
theorem r_point (x : X) : Ct Tryz.prog 61 [.v true x.L] (· = jA ⟨x, x⟩) := by
  refine ct_of (O := tblO noT) (by kernel_rfl) tyT_ok (fun w => tblO_ok noT_ok _ w) [] 300 6 [.cell 2 39] Tryz.func61 rfl Tryz.ntmps61 (by rw [Tryz.results61]) (by simp) rfl (fun hsm => ?_)
  simp (maxSteps := 10000000) only [go_sem, ↓reduceIte, Nat.reduceMul, Nat.reduceDiv, Nat.reduceAdd, Nat.reduceEqDiff, Nat.reduceLeDiff, Nat.reduceLT, reduceCtorEq, Int.reduceNeg]
  repeat' first | (with_reducible apply And.intro) | (with_reducible apply condP <;> intro _)
  all_goals first | (show chk _ _ = true; kernel_rfl) | assumption | (simp only [go_sem, *] <;> rfl) | rfl | (exfalso; simp_all only [Bool.true_eq_false, Bool.false_eq_true, reduceCtorEq]; done)
set_option maxHeartbeats 2000000 in
theorem r_same (j : J) (j1 : J) : Ct Tryz.prog 115 [.v true j.L, .v true j1.L] (· = bA (sameJ j j1)) := by
  refine ct_of (O := tblO (Tref_Same)) (by kernel_rfl) tyT_ok (fun w => tblO_ok (Tref_Same_ok) _ w) [] 300 17 [.tmp 4] Tryz.func115 rfl Tryz.ntmps115 (by rw [Tryz.results115]) (by simp) rfl (fun hsm => ?_)
  simp (maxSteps := 10000000) only [go_sem, ↓reduceIte, Nat.reduceMul, Nat.reduceDiv, Nat.reduceAdd, Nat.reduceEqDiff, Nat.reduceLeDiff, Nat.reduceLT, reduceCtorEq, Int.reduceNeg, Tref_Same]
  repeat' first | (with_reducible apply And.intro) | (with_reducible apply condP <;> intro _)
  all_goals first | (show chk _ _ = true; kernel_rfl) | assumption | (simp only [go_sem, *, sameJ] <;> rfl) | rfl | (exfalso; simp_all only [Bool.true_eq_false, Bool.false_eq_true, reduceCtorEq]; done)
noncomputable def Tref_RightIv : Tbl := one 33 (gJ fun j => (True, bA (okJ j)))
theorem Tref_RightIv_ok : TbOK Tryz.prog Tref_RightIv := one_ok (ent Tryz.func33 (by kernel_rfl) rfl) fun args e h hp => by obtain ⟨j, rfl, rfl⟩ := gJ_eq h; exact r_right j
noncomputable def Tref_Point : Tbl := one 61 (gN fun x => (True, jA ⟨x, x⟩))
theorem Tref_Point_ok : TbOK Tryz.prog Tref_Point := one_ok (ent Tryz.func61 (by kernel_rfl) rfl) fun args e h hp => by obtain ⟨x, rfl, rfl⟩ := gN_eq h; exact r_point x
noncomputable def Tref_SameIv : Tbl := one 115 (gJJ fun j j1 => (True, bA (sameJ j j1)))
theorem Tref_SameIv_ok : TbOK Tryz.prog Tref_SameIv := one_ok (ent Tryz.func115 (by kernel_rfl) rfl) fun args e h hp => by obtain ⟨j, j1, rfl, rfl⟩ := gJJ_eq h; exact r_same j j1
set_option maxHeartbeats 2000000 in
theorem r_in (j : J) (j1 : J) : Ct Tryz.prog 117 [.v true j.L, .v true j1.L] (· = bA (inJ j j1)) := by
  refine ct_of (O := tblO (orT Tref_RightIv (Tref_CmpNum))) (by kernel_rfl) tyT_ok (fun w => tblO_ok (orT_ok Tref_RightIv_ok (Tref_CmpNum_ok)) _ w) [] 300 27 [.tmp 4] Tryz.func117 rfl Tryz.ntmps117 (by rw [Tryz.results117]) (by simp) rfl (fun hsm => ?_)
  simp (maxSteps := 10000000) only [go_sem, ↓reduceIte, Nat.reduceMul, Nat.reduceDiv, Nat.reduceAdd, Nat.reduceEqDiff, Nat.reduceLeDiff, Nat.reduceLT, reduceCtorEq, Int.reduceNeg, Tref_RightIv, Tref_CmpNum]
  repeat' first | (with_reducible apply And.intro) | (with_reducible apply condP <;> intro _)
  all_goals first | (show chk _ _ = true; kernel_rfl) | assumption | (simp only [go_sem, *, inJ] <;> rfl) | rfl | (exfalso; simp_all only [Bool.true_eq_false, Bool.false_eq_true, reduceCtorEq]; done)
noncomputable def Tref_In : Tbl := one 117 (gJJ fun j j1 => (True, bA (inJ j j1)))
theorem Tref_In_ok : TbOK Tryz.prog Tref_In := one_ok (ent Tryz.func117 (by kernel_rfl) rfl) fun args e h hp => by obtain ⟨j, j1, rfl, rfl⟩ := gJJ_eq h; exact r_in j j1
theorem lt64 {m a b : Nat} (hab : a ≤ b) (h : m < B64 ^ a) : m < B64 ^ b := Nat.lt_of_lt_of_le h (Nat.pow_le_pow_right (by decide) hab)
theorem words_bits {m k : Nat} (h : m < B64 ^ k) : nbits m ≤ 64 * k := nbits_le (by rw [← pow64]; exact h)
theorem neg_valid {q : Q} (h : Valid q) : Valid q.neg := by
  refine ⟨neg_canon h.1, by rw [m_neg]; exact h.2.1, ?_, ?_⟩
  · rw [e_neg h.1]; exact h.2.2.1
  · rw [e_neg h.1]; exact h.2.2.2
end Go.Proofs.YtcpfepjdeikchaaGreatDoor
