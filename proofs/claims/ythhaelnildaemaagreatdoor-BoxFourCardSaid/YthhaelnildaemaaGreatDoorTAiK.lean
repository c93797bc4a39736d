/- The document's side of package iv (fathomlineref1). -/
import Derived.Test.YthhaelnildaemaaGreatDoorTAiJ
namespace Go.Proofs.YthhaelnildaemaaGreatDoor
open Go.RowKit Nx
set_option linter.unusedVariables false
set_option linter.unusedSimpArgs false
set_option maxRecDepth 100000
set_option maxHeartbeats 4000000
attribute [local go_sem] run init X.L J.L vL X.eta J.eta Q.eta List.cons_append List.nil_append brkK brkf_b brkf_t exef_some exif_some condf_b opf bodyE addR skipE stepOp stepLoad stepStore stepField stepCall stepBS stepBi stepCv stepIx lpf hdS pick forget inL mentA ment dom evs evl evp evd okeys look fillA capsOf wordsOf rowsOf lenOf convK binV shV intV unV boolT tyT tiB tiI tiW tiD tiF tiR tiU tiNum tiIv tiVal tiSc okLf okD keysOf tblO cvA cvL dnL olA olL noO noA cbL cbA orT noT one asNum asIv asVal postf_some resA tupA clA clL dropTo decide_true decide_false List.all_cons List.all_nil Bool.and_true Bool.and_self true_and and_true and_self List.length_cons List.length_nil List.drop_succ_cons List.drop_zero List.take_succ_cons List.take_zero List.getElem?_cons_zero List.getElem?_cons_succ List.map_cons List.map_nil false_implies true_implies Option.bind_some List.getElem?_toArray Bool.false_eq_true List.append_nil List.flatMap_cons List.flatMap_nil true_or or_true forall_const List.reverse_cons List.reverse_nil Option.isSome_some Option.any_some Nat.lt_irrefl not_true_eq_false Bool.not_true Bool.not_false imp_self implies_true Bool.not_eq_true' Bool.not_eq_false' Bool.true_eq_false gN gNN gNI gI gNNIB gNIB gV gVV gVIB gVVIB gWW gJ gJJ gJN gJJI gJI gJII gNNI gBWI gVVVV gVVVVI gVI stepB0 stepMk stepSl stepAp apY optI okO nilV slT resB outPs outLs outL dnT AV.s cond_true cond_false Bool.true_and Bool.and_false Bool.false_and Bool.or_true Bool.true_or Bool.or_false Bool.false_or
attribute [local go_sem ↓] cond_true cond_false not_cond
def uppX (x y : X) : X := bif decide (cmpx y x > 0) then y else x
def prb (p : Int) : Bool := decide (p ≥ 8) && decide (p ≤ 256)
noncomputable def endsQ (a b : Q) : J × Int := bif ((res a).2 != 0) || ((res b).2 != 0) then (zJ, 2) else (⟨qx (res a).1, qx (res b).1⟩, 0)
def leastQ (x y u v : Q) : Q := bif decide (signq x ≥ 0) && decide (signq u ≥ 0) then times x u else bif decide (signq x ≥ 0) then times y u else bif decide (signq u ≥ 0) then times x v else
  bif decide (signq y ≤ 0) && decide (signq v ≤ 0) then times y v else bif decide (cmpq (times y u) (times x v) < 0) then times y u else times x v
def greatQ (x y u v : Q) : Q := (leastQ y.neg x.neg u v).neg
noncomputable def quotP (x y u v : Q) (p : Int) : J × Int := endsQ (ratq p.toNat false x (bif decide (signq x < 0) then u else v)) (ratq p.toNat true y (bif decide (signq y < 0) then v else u))
noncomputable def quotQ (x y u v : Q) (p : Int) : J × Int := bif decide (signq v < 0) then quotP y.neg x.neg v.neg u.neg p else quotP x y u v p
noncomputable def opQ (k : Int) (a b : J) (p : Int) : J × Int :=
  bif !(okJ a) || !(okJ b) || !(prb p) then (zJ, 1) else bif (k == 3) && hasJ b zX then (zJ, 3) else
  bif (k == 0) then endsQ (rnd p.toNat false (plus a.lo.q b.lo.q)) (rnd p.toNat true (plus a.hi.q b.hi.q)) else
  bif (k == 1) then endsQ (rnd p.toNat false (minus a.lo.q b.hi.q)) (rnd p.toNat true (minus a.hi.q b.lo.q)) else
  bif (k == 3) then quotQ a.lo.q a.hi.q b.lo.q b.hi.q p else
  endsQ (rnd p.toNat false (leastQ a.lo.q a.hi.q b.lo.q b.hi.q)) (rnd p.toNat true (greatQ a.lo.q a.hi.q b.lo.q b.hi.q))
set_option maxHeartbeats 2000000 in
theorem r_right (j : J) : Ct Tryz.prog 104 [.v true j.L] (· = bA (okJ j)) := by
  refine ct_of (O := tblO (orT Tref_Right (Tref_CmpNum))) (by kernel_rfl) tyT_ok (fun w => tblO_ok (orT_ok Tref_Right_ok (Tref_CmpNum_ok)) _ w) [] 300 19 [.tmp 2] Tryz.func104 rfl Tryz.ntmps104 (by rw [Tryz.results104]) (by simp) rfl (fun hsm => ?_)
  simp (maxSteps := 10000000) only [go_sem, ↓reduceIte, Nat.reduceMul, Nat.reduceDiv, Nat.reduceAdd, Nat.reduceEqDiff, Nat.reduceLeDiff, Nat.reduceLT, reduceCtorEq, Int.reduceNeg, Tref_Right, Tref_CmpNum]
  repeat' first | (with_reducible apply And.intro) | (with_reducible apply condP <;> intro _)
  all_goals first | (show chk _ _ = true; kernel_rfl) | assumption | (simp only [go_sem, *, okJ] <;> rfl) | rfl | (exfalso; simp_all only [Bool.true_eq_false, Bool.false_eq_true, reduceCtorEq]; done)
set_option maxHeartbeats 2000000 in
theorem r_point (x : X) : Ct Tryz.prog 54 [.v true x.L] (· = jA ⟨x, x⟩) := by
  refine ct_of (O := tblO noT) (by kernel_rfl) tyT_ok (fun w => tblO_ok noT_ok _ w) [] 300 6 [.cell 2 40] Tryz.func54 rfl Tryz.ntmps54 (by rw [Tryz.results54]) (by simp) rfl (fun hsm => ?_)
  simp (maxSteps := 10000000) only [go_sem, ↓reduceIte, Nat.reduceMul, Nat.reduceDiv, Nat.reduceAdd, Nat.reduceEqDiff, Nat.reduceLeDiff, Nat.reduceLT, reduceCtorEq, Int.reduceNeg]
  repeat' first | (with_reducible apply And.intro) | (with_reducible apply condP <;> intro _)
  all_goals first | (show chk _ _ = true; kernel_rfl) | assumption | (simp only [go_sem, *] <;> rfl) | rfl | (exfalso; simp_all only [Bool.true_eq_false, Bool.false_eq_true, reduceCtorEq]; done)
set_option maxHeartbeats 2000000 in
theorem r_same (j : J) (j1 : J) : Ct Tryz.prog 96 [.v true j.L, .v true j1.L] (· = bA (sameJ j j1)) := by
  refine ct_of (O := tblO (Tref_Same)) (by kernel_rfl) tyT_ok (fun w => tblO_ok (Tref_Same_ok) _ w) [] 300 17 [.tmp 4] Tryz.func96 rfl Tryz.ntmps96 (by rw [Tryz.results96]) (by simp) rfl (fun hsm => ?_)
  simp (maxSteps := 10000000) only [go_sem, ↓reduceIte, Nat.reduceMul, Nat.reduceDiv, Nat.reduceAdd, Nat.reduceEqDiff, Nat.reduceLeDiff, Nat.reduceLT, reduceCtorEq, Int.reduceNeg, Tref_Same]
  repeat' first | (with_reducible apply And.intro) | (with_reducible apply condP <;> intro _)
  all_goals first | (show chk _ _ = true; kernel_rfl) | assumption | (simp only [go_sem, *, sameJ] <;> rfl) | rfl | (exfalso; simp_all only [Bool.true_eq_false, Bool.false_eq_true, reduceCtorEq]; done)
set_option maxHeartbeats 2000000 in
theorem r_prec (z : Int) : Ct Tryz.prog 159 [iA z] (· = bA (prb z)) := by
  refine ct_of (O := tblO noT) (by kernel_rfl) tyT_ok (fun w => tblO_ok noT_ok _ w) [] 300 9 [.tmp 2] Tryz.func159 rfl Tryz.ntmps159 (by rw [Tryz.results159]) (by simp) rfl (fun hsm => ?_)
  simp (maxSteps := 10000000) only [go_sem, ↓reduceIte, Nat.reduceMul, Nat.reduceDiv, Nat.reduceAdd, Nat.reduceEqDiff, Nat.reduceLeDiff, Nat.reduceLT, reduceCtorEq, Int.reduceNeg]
  repeat' first | (with_reducible apply And.intro) | (with_reducible apply condP <;> intro _)
  all_goals first | (show chk _ _ = true; kernel_rfl) | assumption | (simp only [go_sem, *, prb] <;> rfl) | rfl | (exfalso; simp_all only [Bool.true_eq_false, Bool.false_eq_true, reduceCtorEq]; done)
set_option maxHeartbeats 2000000 in
theorem r_ends (q : Q) (q1 : Q) (hp : Vw q ∧ Vw q1) : Ct Tryz.prog 170 [.v true (vL q), .v true (vL q1)] (· = jeA (endsQ q q1)) := by
  obtain ⟨h1, h2⟩ := hp
  refine ct_of (O := tblO (Tref_Val_Num)) (by kernel_rfl) tyT_ok (fun w => tblO_ok (Tref_Val_Num_ok) _ w) [] 300 30 [.cell 4 40, .tmp 5] Tryz.func170 rfl Tryz.ntmps170 (by rw [Tryz.results170]) (by simp) rfl (fun hsm => ?_)
  simp (maxSteps := 10000000) only [go_sem, ↓reduceIte, Nat.reduceMul, Nat.reduceDiv, Nat.reduceAdd, Nat.reduceEqDiff, Nat.reduceLeDiff, Nat.reduceLT, reduceCtorEq, Int.reduceNeg, Tref_Val_Num]
  repeat' first | (with_reducible apply And.intro) | (with_reducible apply condP <;> intro _)
  all_goals first | (show chk _ _ = true; kernel_rfl) | assumption | (simp only [go_sem, *, endsQ, zJ, zX] <;> rfl) | rfl | (exfalso; simp_all only [Bool.true_eq_false, Bool.false_eq_true, reduceCtorEq]; done)
noncomputable def Tref_RightIv : Tbl := one 104 (gJ fun j => (True, bA (okJ j)))
theorem Tref_RightIv_ok : TbOK Tryz.prog Tref_RightIv := one_ok (ent Tryz.func104 (by kernel_rfl) rfl) fun args e h hp => by obtain ⟨j, rfl, rfl⟩ := gJ_eq h; exact r_right j
noncomputable def Tref_Point : Tbl := one 54 (gN fun x => (True, jA ⟨x, x⟩))
theorem Tref_Point_ok : TbOK Tryz.prog Tref_Point := one_ok (ent Tryz.func54 (by kernel_rfl) rfl) fun args e h hp => by obtain ⟨x, rfl, rfl⟩ := gN_eq h; exact r_point x
noncomputable def Tref_SameIv : Tbl := one 96 (gJJ fun j j1 => (True, bA (sameJ j j1)))
theorem Tref_SameIv_ok : TbOK Tryz.prog Tref_SameIv := one_ok (ent Tryz.func96 (by kernel_rfl) rfl) fun args e h hp => by obtain ⟨j, j1, rfl, rfl⟩ := gJJ_eq h; exact r_same j j1
noncomputable def Tref_precs : Tbl := one 159 (gI fun z => (True, bA (prb z)))
theorem Tref_precs_ok : TbOK Tryz.prog Tref_precs := one_ok (ent Tryz.func159 (by kernel_rfl) rfl) fun args e h hp => by obtain ⟨z, rfl, rfl⟩ := gI_eq h; exact r_prec z
noncomputable def Tref_ends : Tbl := one 170 (gVV fun q q1 => (Vw q ∧ Vw q1, jeA (endsQ q q1)))
theorem Tref_ends_ok : TbOK Tryz.prog Tref_ends := one_ok (ent Tryz.func170 (by kernel_rfl) rfl) fun args e h hp => by obtain ⟨q, q1, rfl, rfl⟩ := gVV_eq h; exact r_ends q q1 hp
theorem lt64 {m a b : Nat} (hab : a ≤ b) (h : m < B64 ^ a) : m < B64 ^ b := Nat.lt_of_lt_of_le h (Nat.pow_le_pow_right (by decide) hab)
theorem pow_words {p k : Nat} (h : p < 64 * k) : 2 ^ p < B64 ^ k := by rw [pow64]; exact Nat.pow_lt_pow_right (by decide) h
theorem words_bits {m k : Nat} (h : m < B64 ^ k) : nbits m ≤ 64 * k := nbits_le (by rw [← pow64]; exact h)
theorem vw_of {q : Q} (h : Valid q) : Vw q := ⟨h.1, lt64 (a := 64) (b := 5000) (by decide) h.2.1, by have := h.2.2.1; omega, by have := h.2.2.2; omega⟩
theorem vb_of {q : Q} (h : Valid q) : Vb q := ⟨h.1, lt64 (a := 64) (b := 3000) (by decide) h.2.1, by have := h.2.2.1; omega, by have := h.2.2.2; omega⟩
theorem fits_times {a b : Q} (ha : Valid a) (hb : Valid b) : Vb (times a b) := by
  by_cases h0 : a.m = 0 ∨ b.m = 0
  · rw [times_zero ha.1 hb.1 h0]; exact vb_of valid0
  · obtain ⟨s, M, e⟩ := a
    obtain ⟨t, K, f⟩ := b
    have h1 : M ≠ 0 := fun h => h0 (.inl h)
    have h2 : K ≠ 0 := fun h => h0 (.inr h)
    have hc : Canon (times ⟨s, M, e⟩ ⟨t, K, f⟩) := ofz_canon _ _
    rw [times_odd ha.1 hb.1 h1 h2] at hc ⊢
    have hm : M * K < B64 ^ (64 + 64) := lt_mul ha.2.1 hb.2.1
    refine ⟨hc, lt64 (a := 64 + 64) (b := 3000) (by decide) hm, ?_, ?_⟩
    · have := ha.2.2.1; have := hb.2.2.1; simp only at *; omega
    · have := ha.2.2.2; have := hb.2.2.2; simp only at *; omega
theorem vw_vb {q : Q} (h : Vb q) : Vw q := ⟨h.1, lt64 (a := 3000) (b := 5000) (by decide) h.2.1, by have := h.2.2.1; omega, by have := h.2.2.2; omega⟩
theorem neg_valid {q : Q} (h : Valid q) : Valid q.neg := by
  refine ⟨neg_canon h.1, by rw [m_neg]; exact h.2.1, ?_, ?_⟩
  · rw [e_neg h.1]; exact h.2.2.1
  · rw [e_neg h.1]; exact h.2.2.2
theorem least_in (x y u v : Q) : leastQ x y u v = times x u ∨ leastQ x y u v = times y u ∨ leastQ x y u v = times x v ∨ leastQ x y u v = times y v := by
  unfold leastQ
  cases decide (signq x ≥ 0) && decide (signq u ≥ 0) <;> cases decide (signq x ≥ 0) <;> cases decide (signq u ≥ 0) <;> cases decide (signq y ≤ 0) && decide (signq v ≤ 0) <;> cases decide (cmpq (times y u) (times x v) < 0) <;> simp
theorem vb_least {x y u v : Q} (hx : Valid x) (hy : Valid y) (hu : Valid u) (hv : Valid v) : Vb (leastQ x y u v) := by
  rcases least_in x y u v with h | h | h | h <;> rw [h]
  · exact fits_times hx hu
  · exact fits_times hy hu
  · exact fits_times hx hv
  · exact fits_times hy hv
theorem vb_neg {q : Q} (h : Vb q) : Vb q.neg := ⟨neg_canon h.1, by rw [m_neg]; exact h.2.1, by rw [e_neg h.1]; exact h.2.2.1, by rw [e_neg h.1]; exact h.2.2.2⟩
theorem rnd_e {p : Nat} (up : Bool) (q : Q) (b : Int) (hb : 0 ≤ b) (h1 : -b ≤ q.e) (h2 : q.e + 64 * 5000 ≤ b) (hm : q.m < B64 ^ 5000) (hp : 1 ≤ p) (hp2 : p ≤ 256) : -b ≤ (rnd p up q).e ∧ (rnd p up q).e ≤ b + 64 * 5 := by
  have hn : nbits q.m ≤ 64 * 5000 := words_bits (k := 5000) hm
  unfold rnd
  refine nm_e_bd (k := 5) ?_ (by omega) (by omega) hb
  exact Nat.lt_of_le_of_lt (rndm_top _ _ _) (pow_words (k := 5) (by omega))
theorem rnd_vw {p : Int} (hp : Pr p) (up : Bool) {q : Q} (h : Vw q) (h1 : -20000000 ≤ q.e) (h2 : q.e ≤ 20000000) : Vw (rnd p.toNat up q) := by
  have hb := nbits_rnd up q (p := p.toNat) (by have := hp.1; omega)
  have he := rnd_e (p := p.toNat) up q 30000000 (by omega) (by omega) (by omega) h.2.1 (by have := hp.1; omega) (by have := hp.2; omega)
  exact ⟨rnd_canon p.toNat up q, bits_words (k := 5000) hb (by have := hp.2; omega), by omega, by omega⟩
set_option maxHeartbeats 2000000 in
theorem r_least (q : Q) (q1 : Q) (q2 : Q) (q3 : Q) (hp : Valid q ∧ Valid q1 ∧ Valid q2 ∧ Valid q3) : Ct Tryz.prog 173 [.v true (vL q), .v true (vL q1), .v true (vL q2), .v true (vL q3)] (· = vA (leastQ q q1 q2 q3)) := by
  obtain ⟨v0, v1, v2, v3⟩ := hp
  have w0 := vw_of v0; have w1 := vw_of v1; have w2 := vw_of v2; have w3 := vw_of v3
  have b0 := fits_times v1 v2; have b1 := fits_times v0 v3
  refine ct_of (O := tblO (orT Tref_Val_Sign (orT Tref_By (Tref_Order)))) (by kernel_rfl) tyT_ok (fun w => tblO_ok (orT_ok Tref_Val_Sign_ok (orT_ok Tref_By_ok (Tref_Order_ok))) _ w) [] 300 61 [.cell 8 88] Tryz.func173 rfl Tryz.ntmps173 (by rw [Tryz.results173]) (by simp) rfl (fun hsm => ?_)
  simp (maxSteps := 10000000) only [go_sem, ↓reduceIte, Nat.reduceMul, Nat.reduceDiv, Nat.reduceAdd, Nat.reduceEqDiff, Nat.reduceLeDiff, Nat.reduceLT, reduceCtorEq, Int.reduceNeg, Tref_Val_Sign, Tref_By, Tref_Order]
  repeat' first | (with_reducible apply And.intro) | (with_reducible apply condP <;> intro _)
  all_goals first | (show chk _ _ = true; kernel_rfl) | assumption | (simp only [go_sem, *, leastQ] <;> rfl) | rfl | (exfalso; simp_all only [Bool.true_eq_false, Bool.false_eq_true, reduceCtorEq]; done)
noncomputable def Tref_least : Tbl := one 173 (gVVVV fun q q1 q2 q3 => (Valid q ∧ Valid q1 ∧ Valid q2 ∧ Valid q3, vA (leastQ q q1 q2 q3)))
theorem Tref_least_ok : TbOK Tryz.prog Tref_least := one_ok (ent Tryz.func173 (by kernel_rfl) rfl) fun args e h hp => by obtain ⟨q, q1, q2, q3, rfl, rfl⟩ := gVVVV_eq h; exact r_least q q1 q2 q3 hp
set_option maxHeartbeats 2000000 in
theorem r_great (q : Q) (q1 : Q) (q2 : Q) (q3 : Q) (hp : Valid q ∧ Valid q1 ∧ Valid q2 ∧ Valid q3) : Ct Tryz.prog 174 [.v true (vL q), .v true (vL q1), .v true (vL q2), .v true (vL q3)] (· = vA (greatQ q q1 q2 q3)) := by
  obtain ⟨v0, v1, v2, v3⟩ := hp
  have c0 := v0.1; have c1 := v1.1; have n0 := neg_valid v0; have n1 := neg_valid v1; have c2 := (vb_least n1 n0 v2 v3).1
  refine ct_of (O := tblO (orT Tref_Val_Turned (Tref_least))) (by kernel_rfl) tyT_ok (fun w => tblO_ok (orT_ok Tref_Val_Turned_ok (Tref_least_ok)) _ w) [] 300 17 [.cell 8 88] Tryz.func174 rfl Tryz.ntmps174 (by rw [Tryz.results174]) (by simp) rfl (fun hsm => ?_)
  simp (maxSteps := 10000000) only [go_sem, ↓reduceIte, Nat.reduceMul, Nat.reduceDiv, Nat.reduceAdd, Nat.reduceEqDiff, Nat.reduceLeDiff, Nat.reduceLT, reduceCtorEq, Int.reduceNeg, Tref_Val_Turned, Tref_least]
  repeat' first | (with_reducible apply And.intro) | (with_reducible apply condP <;> intro _)
  all_goals first | (show chk _ _ = true; kernel_rfl) | assumption | (simp only [go_sem, *, greatQ] <;> rfl) | rfl | (exfalso; simp_all only [Bool.true_eq_false, Bool.false_eq_true, reduceCtorEq]; done)
noncomputable def Tref_greatest : Tbl := one 174 (gVVVV fun q q1 q2 q3 => (Valid q ∧ Valid q1 ∧ Valid q2 ∧ Valid q3, vA (greatQ q q1 q2 q3)))
theorem Tref_greatest_ok : TbOK Tryz.prog Tref_greatest := one_ok (ent Tryz.func174 (by kernel_rfl) rfl) fun args e h hp => by obtain ⟨q, q1, q2, q3, rfl, rfl⟩ := gVVVV_eq h; exact r_great q q1 q2 q3 hp
end Go.Proofs.YthhaelnildaemaaGreatDoor
