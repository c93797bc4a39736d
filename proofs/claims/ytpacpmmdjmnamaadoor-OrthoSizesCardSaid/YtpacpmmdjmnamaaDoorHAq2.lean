/- Package ortho: what is right, rows and columns exchanged. -/
import Derived.Test.YtpacpmmdjmnamaaDoorHAq1
import Derived.Test.YtpacpmmdjmnamaaDoorHAj1
import Derived.Test.YtpacpmmdjmnamaaDoorHAk7
namespace Go.Proofs.YtpacpmmdjmnamaaDoor
open Go.RowKit Nx
set_option linter.unusedVariables false
set_option linter.unusedSimpArgs false
set_option maxRecDepth 100000
set_option maxHeartbeats 4000000
attribute [local go_sem] run init X.L J.L vL X.eta J.eta Q.eta List.cons_append List.nil_append brkK brkf_b brkf_t exef_some exif_some condf_b opf bodyE addR skipE stepOp stepLoad stepStore stepField stepCall stepBS stepBi stepCv stepIx lpf hdS hd1 pick forget inL mentA ment dom evs evl evp evd okeys look fillA capsOf wordsOf rowsOf lenOf convK binV shV intV unV boolT tiB tiI tiW tiD tiF tiU tiNum tiIv tiVal tiSc okLf okD keysOf tblO cvA cvL dnL olA olL noO noA cbL cbA orT noT one asNum asIv asVal postf_some resA tupA clA clL dropTo decide_true decide_false List.all_cons List.all_nil Bool.and_true Bool.and_self true_and and_true and_self List.length_cons List.length_nil List.drop_succ_cons List.drop_zero List.take_succ_cons List.take_zero List.getElem?_cons_zero List.getElem?_cons_succ List.map_cons List.map_nil false_implies true_implies Option.bind_some List.getElem?_toArray Bool.false_eq_true List.append_nil List.flatMap_cons List.flatMap_nil true_or or_true forall_const List.reverse_cons List.reverse_nil Option.isSome_some Option.any_some Nat.lt_irrefl not_true_eq_false Bool.not_true Bool.not_false imp_self implies_true Bool.not_eq_true' Bool.not_eq_false' Bool.true_eq_false memOf cntF nmL rnL nmA rnA isV contsOf ndB refO orO pin Int.toNat_zero decide_eq_true_eq wrap0 wrap1 ci1 ci2 BEq.rfl beq_self_eq_true Int.natCast_zero ge_iff_le gt_iff_lt Int.le_refl Nat.zero_mul Nat.one_mul Nat.zero_add Nat.zero_lt_succ Nat.lt_add_one Nat.le_refl List.append_eq Int.toNat_natCast gN gNN gNI gI gNNIB gNIB gJ gJJ gJN gJJI gJI stepB0 stepMk stepSl stepAp apY optI okO nilV slT resB outPs outLs outL dnT noE boxL_nil boxL_cons ptsL_nil ptsL_cons bxe pxe bne_self_eq_false wr2 wr3 wr4 wr5 wr6 wr7 wr8 gB gP gBB gBP gBZ gBBZ bC_nil bC_cons pC_nil pC_cons fvO Lc.up tiS List.replicate_succ List.replicate_zero List.flatten_cons List.flatten_nil Int.ofNat_lt Int.cast_ofNat_Int Int.ofNat_eq_natCast List.isEmpty_nil List.isEmpty_cons and_false false_and List.cons_ne_nil Nat.add_zero ite_true ite_false if_true if_false Nat.le_zero_eq eq_self Bool.and_false Bool.false_and Bool.true_and tiQ gA gE asZ asT asV1 asN1 asB_b asP_b asM_m asQ_m ite_self AV.s cond_true cond_false Bool.or_true Bool.true_or Bool.or_false Bool.false_or
attribute [local go_sem ↓] cond_true cond_false not_cond outL_box outL_pts clL_box clL_pts okL_box okL_pts ment_box ment_pts olL_box olL_pts cvL_box cvL_pts noO_box noO_pts asB_box asP_pts len_box len_pts
attribute [local irreducible] chk
def trn (m : List (List X)) : List (List X) := (List.range m.length).map fun j => m.map fun r => r.getD j zX
def rowL (m : List (List X)) : List Lf := m.flatMap fun r => [.sl true 3 r.length (pC r)]
def SqX (n : Nat) (m : List (List X)) : Prop := m.length = n ∧ ∀ r ∈ m, r.length = n
theorem len_s {α : Type} {l : List α} {n : Nat} (h : l.length = n + 1) : ∃ a r, l = a :: r ∧ r.length = n := by
  cases l with
  | nil => cases h
  | cons a r => exact ⟨a, r, rfl, by simpa using h⟩
theorem len_0 {α : Type} {l : List α} (h : l.length = 0) : l = [] := List.eq_nil_of_length_eq_zero h
theorem o_trn1 (x00 : X) : Gd Tryd.prog 23 [qA_ [[x00]]] (.one ⟨1, 35, 1, rowL [[x00]]⟩) := by
  refine gd_of (O := tblO noT) (by kernel_rfl) tyO_ok (fun w => tblO_ok noT_ok _ w) [9999997, 78, 10, 9999998, 19, 9999999, 0, 6, 19, 20, 22, 24, 39, 9999999, 0, 6, 19, 8, 20, 22, 24, 39, 42, 44, 46] 1400 41 [.tmp 2] Tryd.func23 rfl Tryd.ntmps23 (by rw [Tryd.results23]) (by simp) rfl (fun hsm => ?_)
  simp (maxSteps := 10000000) only [go_sem, ↓reduceIte, Nat.reduceMul, Nat.reduceDiv, Nat.reduceAdd, Nat.reduceEqDiff, Nat.reduceLeDiff, Nat.reduceLT, reduceCtorEq, Int.reduceNeg, Int.reduceLT, Int.reduceLE, Int.reduceAdd, Int.reduceToNat, Nat.reduceBEq, Int.reduceMul, Int.reduceSub, Nat.reduceSub, Int.reduceBNe, Nat.reduceBNe, tyO, grp_one, glf_osl, rP, rowL, hdT, Option.isSome_none, frL_osl, frh, frz, frS, frA, frL]
  repeat' first | (with_reducible apply And.intro) | (with_reducible apply condP <;> intro _)
  all_goals first | (show chk _ _ = true; kernel_rfl) | assumption | rfl | (simp only [AV.s, cond_true, cond_false, Bool.and_true, Bool.true_and, Bool.and_false, Bool.false_and, Bool.not_true, Bool.not_false, *] <;> rfl)
theorem o_trn2 (x00 x01 x10 x11 : X) : Gd Tryd.prog 23 [qA_ [[x00, x01], [x10, x11]]] (.one ⟨2, 35, 1, rowL [[x00, x10], [x01, x11]]⟩) := by
  refine gd_of (O := tblO noT) (by kernel_rfl) tyO_ok (fun w => tblO_ok noT_ok _ w) [9999997, 78, 10, 9999998, 19, 9999999, 0, 6, 19, 20, 22, 24, 39, 9999999, 0, 6, 19, 8, 20, 22, 24, 39, 42, 44, 46] 3200 41 [.tmp 2] Tryd.func23 rfl Tryd.ntmps23 (by rw [Tryd.results23]) (by simp) rfl (fun hsm => ?_)
  simp (maxSteps := 10000000) only [go_sem, ↓reduceIte, Nat.reduceMul, Nat.reduceDiv, Nat.reduceAdd, Nat.reduceEqDiff, Nat.reduceLeDiff, Nat.reduceLT, reduceCtorEq, Int.reduceNeg, Int.reduceLT, Int.reduceLE, Int.reduceAdd, Int.reduceToNat, Nat.reduceBEq, Int.reduceMul, Int.reduceSub, Nat.reduceSub, Int.reduceBNe, Nat.reduceBNe, tyO, grp_one, glf_osl, rP, rowL, hdT, Option.isSome_none, frL_osl, frh, frz, frS, frA, frL]
  repeat' first | (with_reducible apply And.intro) | (with_reducible apply condP <;> intro _)
  all_goals first | (show chk _ _ = true; kernel_rfl) | assumption | rfl | (simp only [AV.s, cond_true, cond_false, Bool.and_true, Bool.true_and, Bool.and_false, Bool.false_and, Bool.not_true, Bool.not_false, *] <;> rfl)
theorem o_trn3 (x00 x01 x02 x10 x11 x12 x20 x21 x22 : X) : Gd Tryd.prog 23 [qA_ [[x00, x01, x02], [x10, x11, x12], [x20, x21, x22]]] (.one ⟨3, 35, 1, rowL [[x00, x10, x20], [x01, x11, x21], [x02, x12, x22]]⟩) := by
  refine gd_of (O := tblO noT) (by kernel_rfl) tyO_ok (fun w => tblO_ok noT_ok _ w) [9999997, 78, 10, 9999998, 19, 9999999, 0, 6, 19, 20, 22, 24, 39, 9999999, 0, 6, 19, 8, 20, 22, 24, 39, 42, 44, 46] 6200 41 [.tmp 2] Tryd.func23 rfl Tryd.ntmps23 (by rw [Tryd.results23]) (by simp) rfl (fun hsm => ?_)
  simp (maxSteps := 10000000) only [go_sem, ↓reduceIte, Nat.reduceMul, Nat.reduceDiv, Nat.reduceAdd, Nat.reduceEqDiff, Nat.reduceLeDiff, Nat.reduceLT, reduceCtorEq, Int.reduceNeg, Int.reduceLT, Int.reduceLE, Int.reduceAdd, Int.reduceToNat, Nat.reduceBEq, Int.reduceMul, Int.reduceSub, Nat.reduceSub, Int.reduceBNe, Nat.reduceBNe, tyO, grp_one, glf_osl, rP, rowL, hdT, Option.isSome_none, frL_osl, frh, frz, frS, frA, frL]
  repeat' first | (with_reducible apply And.intro) | (with_reducible apply condP <;> intro _)
  all_goals first | (show chk _ _ = true; kernel_rfl) | assumption | rfl | (simp only [AV.s, cond_true, cond_false, Bool.and_true, Bool.true_and, Bool.and_false, Bool.false_and, Bool.not_true, Bool.not_false, *] <;> rfl)
theorem o_trn4 (x00 x01 x02 x03 x10 x11 x12 x13 x20 x21 x22 x23 x30 x31 x32 x33 : X) : Gd Tryd.prog 23 [qA_ [[x00, x01, x02, x03], [x10, x11, x12, x13], [x20, x21, x22, x23], [x30, x31, x32, x33]]] (.one ⟨4, 35, 1, rowL [[x00, x10, x20, x30], [x01, x11, x21, x31], [x02, x12, x22, x32], [x03, x13, x23, x33]]⟩) := by
  refine gd_of (O := tblO noT) (by kernel_rfl) tyO_ok (fun w => tblO_ok noT_ok _ w) [9999997, 78, 10, 9999998, 19, 9999999, 0, 6, 19, 20, 22, 24, 39, 9999999, 0, 6, 19, 8, 20, 22, 24, 39, 42, 44, 46] 10400 41 [.tmp 2] Tryd.func23 rfl Tryd.ntmps23 (by rw [Tryd.results23]) (by simp) rfl (fun hsm => ?_)
  simp (maxSteps := 10000000) only [go_sem, ↓reduceIte, Nat.reduceMul, Nat.reduceDiv, Nat.reduceAdd, Nat.reduceEqDiff, Nat.reduceLeDiff, Nat.reduceLT, reduceCtorEq, Int.reduceNeg, Int.reduceLT, Int.reduceLE, Int.reduceAdd, Int.reduceToNat, Nat.reduceBEq, Int.reduceMul, Int.reduceSub, Nat.reduceSub, Int.reduceBNe, Nat.reduceBNe, tyO, grp_one, glf_osl, rP, rowL, hdT, Option.isSome_none, frL_osl, frh, frz, frS, frA, frL]
  repeat' first | (with_reducible apply And.intro) | (with_reducible apply condP <;> intro _)
  all_goals first | (show chk _ _ = true; kernel_rfl) | assumption | rfl | (simp only [AV.s, cond_true, cond_false, Bool.and_true, Bool.true_and, Bool.and_false, Bool.false_and, Bool.not_true, Bool.not_false, *] <;> rfl)
theorem o_trn {m : List (List X)} {n : Nat} (h : SqX n m) (h1 : 1 ≤ n) (h4 : n ≤ 4) : Gd Tryd.prog 23 [qA_ m] (.one ⟨n, 35, 1, rowL (trn m)⟩) := by
  obtain ⟨hl, hr⟩ := h
  have hn : n = 1 ∨ n = 2 ∨ n = 3 ∨ n = 4 := by omega
  rcases hn with rfl | rfl | rfl | rfl
  · obtain ⟨r0, m0, rfl, hl0⟩ := len_s hl
    obtain rfl := len_0 hl0
    have q0 : r0.length = 1 := hr r0 (by simp)
    clear hr
    obtain ⟨x00, s00, rfl, p00⟩ := len_s q0
    obtain rfl := len_0 p00
    exact o_trn1 x00
  · obtain ⟨r0, m0, rfl, hl0⟩ := len_s hl
    obtain ⟨r1, m1, rfl, hl1⟩ := len_s hl0
    obtain rfl := len_0 hl1
    have q0 : r0.length = 2 := hr r0 (by simp)
    have q1 : r1.length = 2 := hr r1 (by simp)
    clear hr
    obtain ⟨x00, s00, rfl, p00⟩ := len_s q0
    obtain ⟨x01, s01, rfl, p01⟩ := len_s p00
    obtain rfl := len_0 p01
    obtain ⟨x10, s10, rfl, p10⟩ := len_s q1
    obtain ⟨x11, s11, rfl, p11⟩ := len_s p10
    obtain rfl := len_0 p11
    exact o_trn2 x00 x01 x10 x11
  · obtain ⟨r0, m0, rfl, hl0⟩ := len_s hl
    obtain ⟨r1, m1, rfl, hl1⟩ := len_s hl0
    obtain ⟨r2, m2, rfl, hl2⟩ := len_s hl1
    obtain rfl := len_0 hl2
    have q0 : r0.length = 3 := hr r0 (by simp)
    have q1 : r1.length = 3 := hr r1 (by simp)
    have q2 : r2.length = 3 := hr r2 (by simp)
    clear hr
    obtain ⟨x00, s00, rfl, p00⟩ := len_s q0
    obtain ⟨x01, s01, rfl, p01⟩ := len_s p00
    obtain ⟨x02, s02, rfl, p02⟩ := len_s p01
    obtain rfl := len_0 p02
    obtain ⟨x10, s10, rfl, p10⟩ := len_s q1
    obtain ⟨x11, s11, rfl, p11⟩ := len_s p10
    obtain ⟨x12, s12, rfl, p12⟩ := len_s p11
    obtain rfl := len_0 p12
    obtain ⟨x20, s20, rfl, p20⟩ := len_s q2
    obtain ⟨x21, s21, rfl, p21⟩ := len_s p20
    obtain ⟨x22, s22, rfl, p22⟩ := len_s p21
    obtain rfl := len_0 p22
    exact o_trn3 x00 x01 x02 x10 x11 x12 x20 x21 x22
  · obtain ⟨r0, m0, rfl, hl0⟩ := len_s hl
    obtain ⟨r1, m1, rfl, hl1⟩ := len_s hl0
    obtain ⟨r2, m2, rfl, hl2⟩ := len_s hl1
    obtain ⟨r3, m3, rfl, hl3⟩ := len_s hl2
    obtain rfl := len_0 hl3
    have q0 : r0.length = 4 := hr r0 (by simp)
    have q1 : r1.length = 4 := hr r1 (by simp)
    have q2 : r2.length = 4 := hr r2 (by simp)
    have q3 : r3.length = 4 := hr r3 (by simp)
    clear hr
    obtain ⟨x00, s00, rfl, p00⟩ := len_s q0
    obtain ⟨x01, s01, rfl, p01⟩ := len_s p00
    obtain ⟨x02, s02, rfl, p02⟩ := len_s p01
    obtain ⟨x03, s03, rfl, p03⟩ := len_s p02
    obtain rfl := len_0 p03
    obtain ⟨x10, s10, rfl, p10⟩ := len_s q1
    obtain ⟨x11, s11, rfl, p11⟩ := len_s p10
    obtain ⟨x12, s12, rfl, p12⟩ := len_s p11
    obtain ⟨x13, s13, rfl, p13⟩ := len_s p12
    obtain rfl := len_0 p13
    obtain ⟨x20, s20, rfl, p20⟩ := len_s q2
    obtain ⟨x21, s21, rfl, p21⟩ := len_s p20
    obtain ⟨x22, s22, rfl, p22⟩ := len_s p21
    obtain ⟨x23, s23, rfl, p23⟩ := len_s p22
    obtain rfl := len_0 p23
    obtain ⟨x30, s30, rfl, p30⟩ := len_s q3
    obtain ⟨x31, s31, rfl, p31⟩ := len_s p30
    obtain ⟨x32, s32, rfl, p32⟩ := len_s p31
    obtain ⟨x33, s33, rfl, p33⟩ := len_s p32
    obtain rfl := len_0 p33
    exact o_trn4 x00 x01 x02 x03 x10 x11 x12 x13 x20 x21 x22 x23 x30 x31 x32 x33
end Go.Proofs.YtpacpmmdjmnamaaDoor
namespace Go.Proofs.YtpacpmmdjmnamaaDoor
open Go.RowKit Nx
set_option linter.unusedVariables false
set_option linter.unusedSimpArgs false
set_option maxRecDepth 100000
set_option maxHeartbeats 4000000
attribute [local go_sem] run init X.L J.L vL X.eta J.eta Q.eta List.cons_append List.nil_append brkK brkf_b brkf_t exef_some exif_some condf_b opf bodyE addR skipE stepOp stepLoad stepStore stepField stepCall stepBS stepBi stepCv stepIx inL mentA ment dom evs evl evp evd okeys look fillA capsOf wordsOf rowsOf lenOf convK binV shV intV unV boolT tiB tiI tiW tiD tiF tiU tiNum tiIv tiVal tiSc okLf okD keysOf tblO cvA cvL dnL olA olL noO noA cbL cbA orT noT one asNum asIv asVal postf_some resA tupA clA clL dropTo decide_true decide_false List.all_cons List.all_nil Bool.and_true Bool.and_self true_and and_true and_self List.length_cons List.length_nil List.drop_succ_cons List.drop_zero List.take_succ_cons List.take_zero List.getElem?_cons_zero List.getElem?_cons_succ List.map_cons List.map_nil false_implies true_implies Option.bind_some List.getElem?_toArray Bool.false_eq_true List.append_nil List.flatMap_cons List.flatMap_nil true_or or_true forall_const List.reverse_cons List.reverse_nil Option.isSome_some Option.any_some Nat.lt_irrefl not_true_eq_false Bool.not_true Bool.not_false imp_self implies_true Bool.not_eq_true' Bool.not_eq_false' Bool.true_eq_false memOf cntF nmL rnL nmA rnA isV contsOf ndB refO orO pin Int.toNat_zero decide_eq_true_eq wrap0 wrap1 ci1 ci2 BEq.rfl beq_self_eq_true Int.natCast_zero ge_iff_le gt_iff_lt Int.le_refl Nat.zero_mul Nat.one_mul Nat.zero_add Nat.zero_lt_succ Nat.lt_add_one Nat.le_refl List.append_eq Int.toNat_natCast gN gNN gNI gI gNNIB gNIB gJ gJJ gJN gJJI gJI stepB0 stepMk stepSl stepAp apY optI okO nilV slT resB outPs outLs outL dnT noE boxL_nil boxL_cons ptsL_nil ptsL_cons bne_self_eq_false wr2 wr3 wr4 wr5 wr6 wr7 wr8 gB gP gBB gBP gBZ gBBZ bC_nil bC_cons pC_nil pC_cons fvO Lc.up tiS List.replicate_succ List.replicate_zero List.flatten_cons List.flatten_nil Int.ofNat_lt Int.cast_ofNat_Int Int.ofNat_eq_natCast List.isEmpty_nil List.isEmpty_cons and_false false_and List.cons_ne_nil Nat.add_zero ite_true ite_false if_true if_false Nat.le_zero_eq eq_self Bool.and_false Bool.false_and Bool.true_and tiQ gA gE asZ asT asV1 asN1 asB_b asP_b asM_m asQ_m ite_self AV.s cond_true cond_false Bool.or_true Bool.true_or Bool.or_false Bool.false_or
attribute [local go_sem ↓] cond_true cond_false not_cond outL_box outL_pts clL_box clL_pts okL_box okL_pts ment_box ment_pts olL_box olL_pts cvL_box cvL_pts noO_box noO_pts asB_box asP_pts len_box len_pts
attribute [local irreducible] chk
theorem rP_at2 {m : List (List X)} {j : Nat} {r : List X} (h : m[j]? = some r) : List.take 1 (List.drop (j * 1) (List.map rP m)) = [Lc.sl 3 r.length (pC r)] := by
  rw [Nat.mul_one, ← List.map_drop, ← List.map_take]
  have hlt : j < m.length := (List.getElem?_eq_some_iff.1 h).1
  rw [List.drop_eq_getElem_cons hlt, List.take_succ_cons, List.take_zero, (List.getElem?_eq_some_iff.1 h).2]
  rfl
def rowQ (n : Nat) (r : List X) : Bool := bif ((r.length : Int) != (n : Int)) then false else r.all X.ok
def rightQ (m : List (List X)) (z : Int) : Bool := bif decide ((m.length : Int) < 1) then false else bif decide (4 < (m.length : Int)) then false else bif decide (z < 8) then false else bif decide (256 < z) then false else m.all (rowQ m.length)
theorem rightQ_sq {m : List (List X)} {z : Int} (h : rightQ m z = true) : SqX m.length m ∧ (1 ≤ m.length ∧ m.length ≤ 4) ∧ (8 ≤ z ∧ z ≤ 256) ∧ ∀ r ∈ m, ∀ x ∈ r, X.ok x = true := by
  unfold rightQ at h
  cases h1 : decide ((m.length : Int) < 1) with
  | true => rw [h1] at h; cases h
  | false =>
  rw [h1, cond_false] at h
  cases h2 : decide (4 < (m.length : Int)) with
  | true => rw [h2] at h; cases h
  | false =>
  rw [h2, cond_false] at h
  cases h3 : decide (z < 8) with
  | true => rw [h3] at h; cases h
  | false =>
  rw [h3, cond_false] at h
  cases h4 : decide (256 < z) with
  | true => rw [h4] at h; cases h
  | false =>
  rw [h4, cond_false] at h
  have h1 := of_decide_eq_false h1
  have h2 := of_decide_eq_false h2
  have h3 := of_decide_eq_false h3
  have h4 := of_decide_eq_false h4
  have h5 := List.all_eq_true.1 h
  have h6 : ∀ r ∈ m, r.length = m.length ∧ r.all X.ok = true := fun r hr => by
    have := h5 r hr
    unfold rowQ at this
    cases h7 : ((r.length : Int) != (m.length : Int)) with
    | true => rw [h7] at this; cases this
    | false => rw [h7, cond_false] at this; exact ⟨by have : (r.length : Int) = (m.length : Int) := by simpa using h7
                                                      omega, this⟩
  exact ⟨⟨rfl, fun r hr => (h6 r hr).1⟩, ⟨by omega, by omega⟩, ⟨by omega, by omega⟩, fun r hr => List.all_eq_true.1 (h6 r hr).2⟩
theorem o_rt_0 (m : List (List X)) (z : Int)  (c0 : decide ((m.length : Int) < 1) = true) : Ct Tryd.prog 22 [qA_ m, iA z] (· = bA false) := by
  refine ct_of (O := tblO Tnum_Right) (by kernel_rfl) tyO_ok (fun w => tblO_ok Tnum_Right_ok _ w) [] 600 47 [.tmp 4] Tryd.func22 rfl Tryd.ntmps22 (by rw [Tryd.results22]) (by simp) rfl (fun hsm => ?_)
  simp (maxSteps := 10000000) only [go_sem, ↓reduceIte, Nat.reduceMul, Nat.reduceDiv, Nat.reduceAdd, Nat.reduceEqDiff, Nat.reduceLeDiff, Nat.reduceLT, reduceCtorEq, Int.reduceNeg, Int.reduceLT, Int.reduceLE, Int.reduceAdd, Int.reduceToNat, Nat.reduceBEq, Int.reduceMul, Int.reduceSub, Nat.reduceSub, Int.reduceBNe, Nat.reduceBNe, tyO, Tnum_Right, c0, bxe, pxe, lpf, hdS, hd1, pick, forget, frh, frz, frS, frA, frL]
  repeat' first | (with_reducible apply And.intro) | (with_reducible apply condP <;> intro _)
  all_goals first | (show chk _ _ = true; kernel_rfl) | assumption | rfl | (simp only [AV.s, cond_true, cond_false, Bool.and_true, Bool.true_and, Bool.and_false, Bool.false_and, Bool.not_true, Bool.not_false, *] <;> rfl)
theorem o_rt_1 (m : List (List X)) (z : Int) (c0 : decide ((m.length : Int) < 1) = false) (c1 : decide (4 < (m.length : Int)) = true) : Ct Tryd.prog 22 [qA_ m, iA z] (· = bA false) := by
  refine ct_of (O := tblO Tnum_Right) (by kernel_rfl) tyO_ok (fun w => tblO_ok Tnum_Right_ok _ w) [] 600 47 [.tmp 4] Tryd.func22 rfl Tryd.ntmps22 (by rw [Tryd.results22]) (by simp) rfl (fun hsm => ?_)
  simp (maxSteps := 10000000) only [go_sem, ↓reduceIte, Nat.reduceMul, Nat.reduceDiv, Nat.reduceAdd, Nat.reduceEqDiff, Nat.reduceLeDiff, Nat.reduceLT, reduceCtorEq, Int.reduceNeg, Int.reduceLT, Int.reduceLE, Int.reduceAdd, Int.reduceToNat, Nat.reduceBEq, Int.reduceMul, Int.reduceSub, Nat.reduceSub, Int.reduceBNe, Nat.reduceBNe, tyO, Tnum_Right, c0, c1, bxe, pxe, lpf, hdS, hd1, pick, forget, frh, frz, frS, frA, frL]
  repeat' first | (with_reducible apply And.intro) | (with_reducible apply condP <;> intro _)
  all_goals first | (show chk _ _ = true; kernel_rfl) | assumption | rfl | (simp only [AV.s, cond_true, cond_false, Bool.and_true, Bool.true_and, Bool.and_false, Bool.false_and, Bool.not_true, Bool.not_false, *] <;> rfl)
theorem o_rt_2 (m : List (List X)) (z : Int) (c0 : decide ((m.length : Int) < 1) = false) (c1 : decide (4 < (m.length : Int)) = false) (c2 : decide (z < 8) = true) : Ct Tryd.prog 22 [qA_ m, iA z] (· = bA false) := by
  refine ct_of (O := tblO Tnum_Right) (by kernel_rfl) tyO_ok (fun w => tblO_ok Tnum_Right_ok _ w) [] 600 47 [.tmp 4] Tryd.func22 rfl Tryd.ntmps22 (by rw [Tryd.results22]) (by simp) rfl (fun hsm => ?_)
  simp (maxSteps := 10000000) only [go_sem, ↓reduceIte, Nat.reduceMul, Nat.reduceDiv, Nat.reduceAdd, Nat.reduceEqDiff, Nat.reduceLeDiff, Nat.reduceLT, reduceCtorEq, Int.reduceNeg, Int.reduceLT, Int.reduceLE, Int.reduceAdd, Int.reduceToNat, Nat.reduceBEq, Int.reduceMul, Int.reduceSub, Nat.reduceSub, Int.reduceBNe, Nat.reduceBNe, tyO, Tnum_Right, c0, c1, c2, bxe, pxe, lpf, hdS, hd1, pick, forget, frh, frz, frS, frA, frL]
  repeat' first | (with_reducible apply And.intro) | (with_reducible apply condP <;> intro _)
  all_goals first | (show chk _ _ = true; kernel_rfl) | assumption | rfl | (simp only [AV.s, cond_true, cond_false, Bool.and_true, Bool.true_and, Bool.and_false, Bool.false_and, Bool.not_true, Bool.not_false, *] <;> rfl)
theorem o_rt_3 (m : List (List X)) (z : Int) (c0 : decide ((m.length : Int) < 1) = false) (c1 : decide (4 < (m.length : Int)) = false) (c2 : decide (z < 8) = false) (c3 : decide (256 < z) = true) : Ct Tryd.prog 22 [qA_ m, iA z] (· = bA false) := by
  refine ct_of (O := tblO Tnum_Right) (by kernel_rfl) tyO_ok (fun w => tblO_ok Tnum_Right_ok _ w) [] 600 47 [.tmp 4] Tryd.func22 rfl Tryd.ntmps22 (by rw [Tryd.results22]) (by simp) rfl (fun hsm => ?_)
  simp (maxSteps := 10000000) only [go_sem, ↓reduceIte, Nat.reduceMul, Nat.reduceDiv, Nat.reduceAdd, Nat.reduceEqDiff, Nat.reduceLeDiff, Nat.reduceLT, reduceCtorEq, Int.reduceNeg, Int.reduceLT, Int.reduceLE, Int.reduceAdd, Int.reduceToNat, Nat.reduceBEq, Int.reduceMul, Int.reduceSub, Nat.reduceSub, Int.reduceBNe, Nat.reduceBNe, tyO, Tnum_Right, c0, c1, c2, c3, bxe, pxe, lpf, hdS, hd1, pick, forget, frh, frz, frS, frA, frL]
  repeat' first | (with_reducible apply And.intro) | (with_reducible apply condP <;> intro _)
  all_goals first | (show chk _ _ = true; kernel_rfl) | assumption | rfl | (simp only [AV.s, cond_true, cond_false, Bool.and_true, Bool.true_and, Bool.and_false, Bool.false_and, Bool.not_true, Bool.not_false, *] <;> rfl)
theorem o_rt_ok (m : List (List X)) (z : Int) (c0 : decide ((m.length : Int) < 1) = false) (c1 : decide (4 < (m.length : Int)) = false) (c2 : decide (z < 8) = false) (c3 : decide (256 < z) = false) : Ct Tryd.prog 22 [qA_ m, iA z] (· = bA (m.all (rowQ m.length))) := by
  refine ct_of (O := tblO Tnum_Right) (by kernel_rfl) tyO_ok (fun w => tblO_ok Tnum_Right_ok _ w) [9999997, 92, 7, 9999999, 0, 2, 10, 52, 54, 56, 9999999, 0, 2, 10, 52, 54, 56, 14, 72, 74, 76] ((m.length + 1) * 3000 + 500) 47 [.tmp 4] Tryd.func22 rfl Tryd.ntmps22 (by rw [Tryd.results22]) (by simp) rfl (fun hsm => ?_)
  have hl1 : 1 ≤ m.length := by have := of_decide_eq_false c0; omega
  have hl4 : m.length ≤ 4 := by have := of_decide_eq_false c1; omega
  simp (maxSteps := 10000000) only [go_sem, ↓reduceIte, Nat.reduceMul, Nat.reduceDiv, Nat.reduceAdd, Nat.reduceEqDiff, Nat.reduceLeDiff, Nat.reduceLT, reduceCtorEq, Int.reduceNeg, Int.reduceLT, Int.reduceLE, Int.reduceAdd, Int.reduceToNat, Nat.reduceBEq, Int.reduceMul, Int.reduceSub, Nat.reduceSub, Int.reduceBNe, Nat.reduceBNe, tyO, Tnum_Right, c0, c1, c2, c3]
  refine loop_ind 3000 (fun i => [(0, qA_ m), (2, iA z), (10, iA (m.length : Int)), (52, qA_ m), (54, iA (m.length : Int)), (56, iA (i : Int))]) m.length (fun i => (m.take i).all (rowQ m.length) = true) 0 (fun i _ => rfl) (fun i m1 _ hi hI ih => ?_) (by omega) rfl rfl
  rcases Nat.lt_or_ge i m.length with hlt | hge
  · have hx := at_get [] hlt
    generalize m.getD i [] = r at hx
    have ht : m.take (i + 1) = m.take i ++ [r] := by rw [List.take_add_one, hx]; rfl
    have e1 := rP_at2 hx
    have d := decide_eq_true (show (i : Int) < (m.length : Int) by omega)
    have g1 : (i < m.length) = True := eq_true hlt
    have g0 : (0 ≤ (i : Int)) = True := eq_true (by omega)
    have hw := wrap_nat (j := i) (by omega)
    have hbad : rowQ m.length r = false → m.all (rowQ m.length) = false := fun h => List.all_eq_false.2 ⟨r, List.mem_of_getElem? hx, by rw [h]; simp⟩
    cases hq : ((r.length : Int) != (m.length : Int)) with
    | true =>
      rw [hbad (by unfold rowQ; rw [hq]; rfl)]
      simp (maxSteps := 10000000) only [go_sem, ↓reduceIte, Nat.reduceMul, Nat.reduceDiv, Nat.reduceAdd, Nat.reduceEqDiff, Nat.reduceLeDiff, Nat.reduceLT, reduceCtorEq, Int.reduceNeg, Int.reduceLT, Int.reduceLE, Int.reduceAdd, Int.reduceToNat, Nat.reduceBEq, Int.reduceMul, Int.reduceSub, Nat.reduceSub, Int.reduceBNe, Nat.reduceBNe, tyO, Tnum_Right, d, g0, g1, e1, hw, hq]
      repeat' first | (with_reducible apply And.intro) | (with_reducible apply condP <;> intro _)
      all_goals first | (show chk _ _ = true; kernel_rfl) | assumption | rfl | (simp only [AV.s, cond_true, cond_false, Bool.and_true, Bool.true_and, Bool.and_false, Bool.false_and, Bool.not_true, Bool.not_false, *] <;> rfl)
    | false =>
      have hrl : r.length = m.length := by have : (r.length : Int) = (m.length : Int) := by simpa using hq
                                           omega
      have hrq : rowQ m.length r = r.all X.ok := by unfold rowQ; rw [hq]; rfl
      simp (maxSteps := 10000000) only [go_sem, ↓reduceIte, Nat.reduceMul, Nat.reduceDiv, Nat.reduceAdd, Nat.reduceEqDiff, Nat.reduceLeDiff, Nat.reduceLT, reduceCtorEq, Int.reduceNeg, Int.reduceLT, Int.reduceLE, Int.reduceAdd, Int.reduceToNat, Nat.reduceBEq, Int.reduceMul, Int.reduceSub, Nat.reduceSub, Int.reduceBNe, Nat.reduceBNe, tyO, Tnum_Right, d, g0, g1, e1, hw, hq]
      refine loop_ind 500 (fun j => [(0, qA_ m), (2, iA z), (10, iA (m.length : Int)), (52, qA_ m), (54, iA (m.length : Int)), (56, iA (i : Int)), (14, pA_ r), (72, pA_ r), (74, iA (r.length : Int)), (76, iA (j : Int))]) r.length (fun j => (r.take j).all X.ok = true) m1 (fun j _ => rfl) (fun j m2 hL2 hj hJ ihJ => ?_) (by omega) rfl rfl
      obtain ⟨r2, rfl⟩ := Nat.exists_eq_add_of_le hL2
      rcases Nat.lt_or_ge j r.length with hlt2 | hge2
      · have hy := at_get zX hlt2
        generalize r.getD j zX = x at hy
        have ht2 : r.take (j + 1) = r.take j ++ [x] := by rw [List.take_add_one, hy]; rfl
        have e2 := pC_at' hy
        have d2 := decide_eq_true (show (j : Int) < (r.length : Int) by omega)
        have h1 : (j < r.length) = True := eq_true hlt2
        have h0 : (0 ≤ (j : Int)) = True := eq_true (by omega)
        have hw2 := wrap_nat (j := j) (by omega)
        cases hok : x.ok with
        | false =>
          rw [hbad (by rw [hrq]; exact List.all_eq_false.2 ⟨x, List.mem_of_getElem? hy, by rw [hok]; simp⟩)]
          simp (maxSteps := 10000000) only [go_sem, ↓reduceIte, Nat.reduceMul, Nat.reduceDiv, Nat.reduceAdd, Nat.reduceEqDiff, Nat.reduceLeDiff, Nat.reduceLT, reduceCtorEq, Int.reduceNeg, Int.reduceLT, Int.reduceLE, Int.reduceAdd, Int.reduceToNat, Nat.reduceBEq, Int.reduceMul, Int.reduceSub, Nat.reduceSub, Int.reduceBNe, Nat.reduceBNe, tyO, Tnum_Right, hdT, Option.isSome_none, d2, h0, h1, e2, hw2, hok]
          repeat' first | (with_reducible apply And.intro) | (with_reducible apply condP <;> intro _)
          all_goals first | (show chk _ _ = true; kernel_rfl) | assumption | rfl | (simp only [AV.s, cond_true, cond_false, Bool.and_true, Bool.true_and, Bool.and_false, Bool.false_and, Bool.not_true, Bool.not_false, *] <;> rfl)
        | true =>
          replace ihJ := ihJ hlt2 (by rw [ht2, List.all_append, hJ, List.all_cons, hok]; rfl)
          simp (maxSteps := 10000000) only [go_sem, ↓reduceIte, Nat.reduceMul, Nat.reduceDiv, Nat.reduceAdd, Nat.reduceEqDiff, Nat.reduceLeDiff, Nat.reduceLT, reduceCtorEq, Int.reduceNeg, Int.reduceLT, Int.reduceLE, Int.reduceAdd, Int.reduceToNat, Nat.reduceBEq, Int.reduceMul, Int.reduceSub, Nat.reduceSub, Int.reduceBNe, Nat.reduceBNe, tyO, Tnum_Right, hdT, Option.isSome_none, d2, h0, h1, e2, hw2, hok]
          repeat' first | (with_reducible apply And.intro) | (with_reducible apply condP <;> intro _)
          all_goals first | (show chk _ _ = true; kernel_rfl) | (exact ihJ _ _ rfl) | assumption | rfl
      · obtain rfl : j = r.length := by omega
        rw [List.take_length] at hJ
        replace ih := ih hlt (by rw [ht, List.all_append, hI, List.all_cons, hrq, hJ]; rfl)
        have d2 : decide ((r.length : Int) < (r.length : Int)) = false := decide_eq_false (by omega)
        simp (maxSteps := 10000000) only [go_sem, ↓reduceIte, Nat.reduceMul, Nat.reduceDiv, Nat.reduceAdd, Nat.reduceEqDiff, Nat.reduceLeDiff, Nat.reduceLT, reduceCtorEq, Int.reduceNeg, Int.reduceLT, Int.reduceLE, Int.reduceAdd, Int.reduceToNat, Nat.reduceBEq, Int.reduceMul, Int.reduceSub, Nat.reduceSub, Int.reduceBNe, Nat.reduceBNe, tyO, Tnum_Right, hdT, Option.isSome_none, d2, hw]
        repeat' first | (with_reducible apply And.intro) | (with_reducible apply condP <;> intro _)
        all_goals first | (show chk _ _ = true; kernel_rfl) | (rw [Nat.add_assoc]; exact ih _ _ rfl) | assumption | rfl
  · obtain rfl : i = m.length := by omega
    rw [List.take_length] at hI
    rw [hI]
    have d : decide ((m.length : Int) < (m.length : Int)) = false := decide_eq_false (by omega)
    simp (maxSteps := 10000000) only [go_sem, ↓reduceIte, Nat.reduceMul, Nat.reduceDiv, Nat.reduceAdd, Nat.reduceEqDiff, Nat.reduceLeDiff, Nat.reduceLT, reduceCtorEq, Int.reduceNeg, Int.reduceLT, Int.reduceLE, Int.reduceAdd, Int.reduceToNat, Nat.reduceBEq, Int.reduceMul, Int.reduceSub, Nat.reduceSub, Int.reduceBNe, Nat.reduceBNe, tyO, Tnum_Right, d]
    repeat' first | (with_reducible apply And.intro) | (with_reducible apply condP <;> intro _)
    all_goals first | (show chk _ _ = true; kernel_rfl) | assumption | rfl | (simp only [AV.s, cond_true, cond_false, Bool.and_true, Bool.true_and, Bool.and_false, Bool.false_and, Bool.not_true, Bool.not_false, *] <;> rfl)
theorem o_rt (m : List (List X)) (z : Int) : Ct Tryd.prog 22 [qA_ m, iA z] (· = bA (rightQ m z)) := by
  unfold rightQ
  cases c0 : decide ((m.length : Int) < 1) with
  | true => exact o_rt_0 m z c0
  | false =>
  cases c1 : decide (4 < (m.length : Int)) with
  | true => exact o_rt_1 m z c0 c1
  | false =>
  cases c2 : decide (z < 8) with
  | true => exact o_rt_2 m z c0 c1 c2
  | false =>
  cases c3 : decide (256 < z) with
  | true => exact o_rt_3 m z c0 c1 c2 c3
  | false =>
  exact o_rt_ok m z c0 c1 c2 c3
noncomputable def Tor_right : Tbl := one 22 (gA asQ fun m => gA asZ fun z => gE (True, bA (rightQ m z)))
theorem Tor_right_ok : TbOK Tryd.prog Tor_right := one_t (ent Tryd.func22 (by kernel_rfl) rfl) (.a asQ_ok fun m => .a asZ_ok fun z => .e fun _ => o_rt m z)
theorem rt_valid {g : Q → Q → Q × Int} (hg : ∀ a b, Valid (g a b).1) {z : Int} {x y : X} : Valid (rtwo g z x y).1 := by
  have h0 : Valid q0 := ⟨canon0, by decide, by decide, by decide⟩
  unfold rtwo ansr
  split
  · exact hg _ _
  · exact h0
theorem val_gsub {z : Int} {b : Bool} (x y : Q) : Valid (gsub z b x y).1 := resv (rnd_canon _ _ _)
theorem les_gx {z : Int} {c x y : X} (h : (lesX z c x y).2 = 0) : GX (lesX z c x y).1 := by
  unfold lesX at h ⊢
  cases hM : (rtwo (gmul z false) z c x).2 != 0 with
  | true =>
    rw [hM, cond_true] at h
    have h : (rtwo (gmul z false) z c x).2 = 0 := h
    rw [h] at hM; cases hM
  | false => exact gx_q (rt_valid val_gsub)
theorem scale_gx (x : X) (k : Int) : GX (qx (scalex x k).1) := by
  refine gx_q ?_
  unfold scalex ans1
  split
  · exact resv (nm_canon _ _ _)
  · exact ⟨canon0, by decide, by decide, by decide⟩
theorem each_mem {α : Type} {F : Nat → α × Int} {n : Nat} {p : α → Prop} (h : (eachN F n).2 = 0) (hp : ∀ j, j < n → (F j).2 = 0 → p (F j).1) : ∀ a ∈ (eachN F n).1, p a := by
  intro a ha
  obtain ⟨i, hi, e⟩ := List.getElem_of_mem ha
  have hl := eachN_len h
  obtain ⟨h1, h2⟩ := eachN_get h i (by omega)
  rw [List.getElem?_eq_getElem hi] at h2
  injection h2 with h2
  rw [← e, h2]
  exact hp i (by omega) h1
theorem wit_gx {z : Int} {v u : List X} (h : (witS z v u).2 = 0) : (witS z v u).1.length = u.length ∧ ∀ x ∈ (witS z v u).1, GX x := by
  unfold witS at h ⊢
  cases he : (facS z v u).2 != 0 with
  | true =>
    rw [he, cond_true] at h
    have h : (facS z v u).2 = 0 := h
    rw [h] at he; cases he
  | false =>
    rw [he, cond_false] at h
    exact ⟨eachN_len h, each_mem h fun j _ hj => les_gx hj⟩
theorem sca_gx {v : List X} (h : (scaS v).2 = 0) : (scaS v).1.length = v.length ∧ ∀ x ∈ (scaS v).1, GX x := by
  unfold scaS at h ⊢
  cases he : signx (grN v v.length) == 0 with
  | true => rw [he, cond_true] at h; cases h
  | false =>
    rw [he, cond_false] at h
    exact ⟨eachN_len h, each_mem h fun j _ _ => scale_gx _ _⟩
theorem gx_nil : GX zX := by
  rw [← qx0]; exact gx_q (q := q0) ⟨canon0, by decide, by decide, by decide⟩
theorem gr_ok {v : List X} (hv : ∀ x ∈ v, GX x) : ∀ j, GX (grN v j) := by
  intro j
  have h0 : GX zX := gx_nil
  induction j with
  | zero => exact h0
  | succ j ih =>
    show GX (bif _ then _ else _)
    cases decide (0 < cmpx (qx (absx (v.getD j zX))) (grN v j)) with
    | false => exact ih
    | true =>
      rw [cond_true]
      rcases Nat.lt_or_ge j v.length with h | h
      · exact (abs_gx (hv _ (List.mem_of_getElem? (at_get zX h)))).1
      · rw [List.getD_eq_getElem?_getD, List.getElem?_eq_none h]; exact (abs_gx h0).1
theorem gr_pos {v : List X} (hv : ∀ x ∈ v, GX x) (h : (signx (grN v v.length) == 0) = false) : (grN v v.length).ok = true ∧ 0 < (grN v v.length).xs.length := by
  have h1 := gr_ok hv v.length
  refine ⟨h1.1, ?_⟩
  rcases Nat.eq_zero_or_pos (grN v v.length).xs.length with h2 | h2
  · exfalso
    have h3 := List.eq_nil_of_length_eq_zero h2
    have : signx (grN v v.length) = 0 := by
      unfold signx
      rw [if_pos h1.1]
      unfold X.q
      rw [h3]
      unfold signq nval
      rfl
    rw [this] at h; cases h
  · exact h2
end Go.Proofs.YtpacpmmdjmnamaaDoor
namespace Go.Proofs.YtpacpmmdjmnamaaDoor
open Go.RowKit Nx
set_option linter.unusedVariables false
set_option linter.unusedSimpArgs false
attribute [local go_sem] run init X.L J.L vL X.eta J.eta Q.eta List.cons_append List.nil_append brkK brkf_b brkf_t exef_some exif_some condf_b opf bodyE addR skipE stepOp stepLoad stepStore stepField stepCall stepBS stepBi stepCv stepIx inL mentA ment dom evs evl evp evd okeys look fillA capsOf wordsOf rowsOf lenOf convK binV shV intV unV boolT tiB tiI tiW tiD tiF tiU tiNum tiIv tiVal tiSc okLf okD keysOf tblO cvA cvL dnL olA olL noO noA cbL cbA orT noT one asNum asIv asVal postf_some resA tupA clA clL dropTo decide_true decide_false List.all_cons List.all_nil Bool.and_true Bool.and_self true_and and_true and_self List.length_cons List.length_nil List.drop_succ_cons List.drop_zero List.take_succ_cons List.take_zero List.getElem?_cons_zero List.getElem?_cons_succ List.map_cons List.map_nil false_implies true_implies Option.bind_some List.getElem?_toArray Bool.false_eq_true List.append_nil List.flatMap_cons List.flatMap_nil true_or or_true forall_const List.reverse_cons List.reverse_nil Option.isSome_some Option.any_some Nat.lt_irrefl not_true_eq_false Bool.not_true Bool.not_false imp_self implies_true Bool.not_eq_true' Bool.not_eq_false' Bool.true_eq_false memOf cntF nmL rnL nmA rnA isV contsOf ndB refO orO pin Int.toNat_zero decide_eq_true_eq wrap0 wrap1 ci1 ci2 BEq.rfl beq_self_eq_true Int.natCast_zero ge_iff_le gt_iff_lt Int.le_refl Nat.zero_mul Nat.one_mul Nat.zero_add Nat.zero_lt_succ Nat.lt_add_one Nat.le_refl List.append_eq Int.toNat_natCast gN gNN gNI gI gNNIB gNIB gJ gJJ gJN gJJI gJI stepB0 stepMk stepSl stepAp apY optI okO nilV slT resB outPs outLs outL dnT noE boxL_nil boxL_cons ptsL_nil ptsL_cons bne_self_eq_false wr2 wr3 wr4 wr5 wr6 wr7 wr8 gB gP gBB gBP gBZ gBBZ bC_nil bC_cons pC_nil pC_cons fvO Lc.up tiS List.replicate_succ List.replicate_zero List.flatten_cons List.flatten_nil Int.ofNat_lt Int.cast_ofNat_Int Int.ofNat_eq_natCast List.isEmpty_nil List.isEmpty_cons and_false false_and List.cons_ne_nil Nat.add_zero ite_true ite_false if_true if_false Nat.le_zero_eq eq_self Bool.and_false Bool.false_and Bool.true_and tiQ gA gE asZ asT asV1 asN1 asB_b asP_b asM_m asQ_m ite_self AV.s cond_true cond_false Bool.or_true Bool.true_or Bool.or_false Bool.false_or
attribute [local go_sem ↓] cond_true cond_false not_cond outL_box outL_pts clL_box clL_pts okL_box okL_pts ment_box ment_pts olL_box olL_pts cvL_box cvL_pts noO_box noO_pts asB_box asP_pts len_box len_pts
attribute [local irreducible] chk
theorem rowL_at {m : List (List X)} {j : Nat} {r : List X} (h : m[j]? = some r) : (rowL m)[j * 1]? = some (.sl true 3 r.length (pC r)) := by
  rw [Nat.mul_one]
  unfold rowL
  rw [fm_one, List.getElem?_map, h]; rfl
theorem rowL_len (m : List (List X)) : (rowL m).length = m.length * 1 := fm_len (s := 1) (fun _ => rfl) m
theorem rowL_me (st : St) (m : List (List X)) : (rowL m).all (ment st) = true := flat_all (p := ment st) (fun _ => rfl) m
theorem rowL_dn (m : List (List X)) : dnT (rowL m) = some (m.map rP) := by rw [← fm_one]; exact dnT_fm (fun _ => rfl) m
theorem rowL_dl : ∀ (m : List (List X)), dnL (rowL m) = some (m.map rP) := by
  intro m
  induction m with
  | nil => rfl
  | cons a m ih =>
    show (match dnL (rowL m) with
      | some k => some (Lc.sl 3 a.length (pC a) :: k)
      | none => none) = _
    rw [ih]; rfl
theorem rowL_set {A v : List (List X)} {j : Nat} (y : List X) (h : A.length = j) (hj : j < v.length) : List.take (j * 1) (rowL (mixN A v)) ++ [.sl true 3 y.length (pC y)] ++ List.drop (j * 1 + 1) (rowL (mixN A v)) = rowL (mixN (A ++ [y]) v) := by
  subst h
  have e1 : (rowL A).length = A.length * 1 := rowL_len A
  have e0 : ∀ a b, rowL (a ++ b) = rowL a ++ rowL b := fun a b => List.flatMap_append
  unfold mixN
  rw [List.length_append, List.length_singleton, e0, ← e1, List.take_left, List.drop_append, List.drop_eq_nil_of_le (by omega), List.nil_append, List.drop_eq_getElem_cons hj, e0, e0]
  congr 1
  rw [show (rowL A).length + 1 - (rowL A).length = 1 by omega]
  rfl
theorem mix_get {α : Type} {A v : List α} {i : Nat} (h : i < A.length) : (mixN A v)[i]? = A[i]? := List.getElem?_append_left h
noncomputable def witN (z : Int) (us : List (List X)) (v : List X) : Nat → List X × Int
  | 0 => (v, 0)
  | i + 1 => bif (witN z us v i).2 != 0 then ([], (witN z us v i).2) else witS z (witN z us v i).1 (us.getD i [])
theorem witN_bad {z : Int} {us : List (List X)} {v : List X} {i n : Nat} {e : Int} (h : witN z us v (i + 1) = ([], e)) (he : (e != 0) = true) (hn : i < n) : witN z us v n = ([], e) := by
  induction n with
  | zero => omega
  | succ n ih =>
    rcases Nat.lt_or_ge i n with h1 | h1
    · show (bif _ then _ else _) = _
      rw [ih h1]
      show (bif e != 0 then _ else _) = _
      rw [he]; rfl
    · obtain rfl : i = n := by omega
      exact h
noncomputable def colN (z : Int) (t : List (List X)) : Nat → List (List X) × Int
  | 0 => ([], 0)
  | k + 1 => bif (colN z t k).2 != 0 then ([], (colN z t k).2) else
    bif (witN z (colN z t k).1 (t.getD k []) k).2 != 0 then ([], (witN z (colN z t k).1 (t.getD k []) k).2) else
    bif (scaS (witN z (colN z t k).1 (t.getD k []) k).1).2 != 0 then ([], (scaS (witN z (colN z t k).1 (t.getD k []) k).1).2) else
    ((colN z t k).1 ++ [(scaS (witN z (colN z t k).1 (t.getD k []) k).1).1], 0)
theorem colN_bad {z : Int} {t : List (List X)} {k n : Nat} {e : Int} (h : colN z t (k + 1) = ([], e)) (he : (e != 0) = true) (hn : k < n) : colN z t n = ([], e) := by
  induction n with
  | zero => omega
  | succ n ih =>
    rcases Nat.lt_or_ge k n with h1 | h1
    · show (bif _ then _ else _) = _
      rw [ih h1]
      show (bif e != 0 then _ else _) = _
      rw [he]; rfl
    · obtain rfl : k = n := by omega
      exact h
noncomputable def colsS (z : Int) (m : List (List X)) : List (List X) × Int := bif rightQ m z then (bif (colN z (trn m) m.length).2 != 0 then ([], (colN z (trn m) m.length).2) else (trn (colN z (trn m) m.length).1, 0)) else ([], 1)
theorem witN_gx {z : Int} {us : List (List X)} {v : List X} {n : Nat} (hv : v.length = n ∧ ∀ x ∈ v, GX x) (hu : ∀ r ∈ us, r.length = n) : ∀ i, i ≤ us.length → (witN z us v i).2 = 0 → (witN z us v i).1.length = n ∧ ∀ x ∈ (witN z us v i).1, GX x := by
  intro i
  induction i with
  | zero => intro _ _; exact hv
  | succ i _ =>
    intro hi h
    have e : witN z us v (i + 1) = bif (witN z us v i).2 != 0 then ([], (witN z us v i).2) else witS z (witN z us v i).1 (us.getD i []) := rfl
    cases hw : (witN z us v i).2 != 0 with
    | true =>
      rw [e, hw, cond_true] at h
      have h : (witN z us v i).2 = 0 := h
      rw [h] at hw; cases hw
    | false =>
      rw [hw, cond_false] at e
      rw [e] at h ⊢
      have := wit_gx h
      rw [hu _ (List.mem_of_getElem? (at_get [] (show i < us.length by omega)))] at this
      exact this
theorem colN_gx {z : Int} {t : List (List X)} {n : Nat} (ht : ∀ r ∈ t, r.length = n ∧ ∀ x ∈ r, GX x) : ∀ k, k ≤ t.length → (colN z t k).2 = 0 → (colN z t k).1.length = k ∧ ∀ r ∈ (colN z t k).1, r.length = n ∧ ∀ x ∈ r, GX x := by
  intro k
  induction k with
  | zero => intro _ _; exact ⟨rfl, fun r hr => by cases hr⟩
  | succ k ih =>
    intro hk h
    have e : colN z t (k + 1) = bif (colN z t k).2 != 0 then ([], (colN z t k).2) else
      bif (witN z (colN z t k).1 (t.getD k []) k).2 != 0 then ([], (witN z (colN z t k).1 (t.getD k []) k).2) else
      bif (scaS (witN z (colN z t k).1 (t.getD k []) k).1).2 != 0 then ([], (scaS (witN z (colN z t k).1 (t.getD k []) k).1).2) else
      ((colN z t k).1 ++ [(scaS (witN z (colN z t k).1 (t.getD k []) k).1).1], 0) := rfl
    have bad : ∀ q : Int, (q != 0) = true → ¬ (q = 0) := fun q hq e => by rw [e] at hq; cases hq
    cases h1 : (colN z t k).2 != 0 with
    | true => rw [e, h1, cond_true] at h; exact absurd h (bad _ h1)
    | false =>
      rw [h1, cond_false] at e
      have h10 : (colN z t k).2 = 0 := by simpa using h1
      obtain ⟨i1, i2⟩ := ih (by omega) h10
      cases h2 : (witN z (colN z t k).1 (t.getD k []) k).2 != 0 with
      | true => rw [e, h2, cond_true] at h; exact absurd h (bad _ h2)
      | false =>
        rw [h2, cond_false] at e
        cases h3 : (scaS (witN z (colN z t k).1 (t.getD k []) k).1).2 != 0 with
        | true => rw [e, h3, cond_true] at h; exact absurd h (bad _ h3)
        | false =>
          rw [h3, cond_false] at e
          rw [e]
          have h20 : (witN z (colN z t k).1 (t.getD k []) k).2 = 0 := by simpa using h2
          have h30 : (scaS (witN z (colN z t k).1 (t.getD k []) k).1).2 = 0 := by simpa using h3
          have j1 := witN_gx (ht _ (List.mem_of_getElem? (at_get [] (show k < t.length by omega)))) (fun r hr => (i2 r hr).1) k (by omega) h20
          have j2 := sca_gx h30
          refine ⟨by rw [List.length_append, i1]; rfl, fun r hr => ?_⟩
          rcases List.mem_append.1 hr with h4 | h4
          · exact i2 r h4
          · rw [List.mem_singleton] at h4; subst h4; exact ⟨by rw [j2.1, j1.1], j2.2⟩
theorem trn_len (m : List (List X)) : (trn m).length = m.length := by unfold trn; simp
theorem trn_rows {m : List (List X)} : ∀ r ∈ trn m, r.length = m.length := by
  intro r hr
  unfold trn at hr
  obtain ⟨j, _, rfl⟩ := List.mem_map.1 hr
  simp
theorem trn_gx {m : List (List X)} (h : ∀ r ∈ m, ∀ x ∈ r, GX x) : ∀ r ∈ trn m, ∀ x ∈ r, GX x := by
  intro r hr x hx
  unfold trn at hr
  obtain ⟨j, _, rfl⟩ := List.mem_map.1 hr
  obtain ⟨s, hs, rfl⟩ := List.mem_map.1 hx
  rcases Nat.lt_or_ge j s.length with h1 | h1
  · exact h s hs _ (List.mem_of_getElem? (at_get zX h1))
  · rw [List.getD_eq_getElem?_getD, List.getElem?_eq_none h1]; exact gx_nil
def kTrn : List AV → Option (Prop × GR) := uA asQ fun m => uE (SqX m.length m ∧ 1 ≤ m.length ∧ m.length ≤ 4, .one ⟨m.length, 35, 1, rowL (trn m)⟩)
theorem ktrn_ok (w : World) : OrOK Tryd.prog (gdO 23 kTrn) (fun _ => False) w := gdO_t (ent Tryd.func23 (by kernel_rfl) rfl) (GdT.a asQ_ok fun m => GdT.e fun h => o_trn h.1 h.2.1 h.2.2)
theorem each_bad {α : Type} {F : Nat → α × Int} {n : Nat} (h : ((eachN F n).2 != 0) = true) : eachN F n = ([], (eachN F n).2) := by
  induction n with
  | zero => cases h
  | succ n ih =>
    have e : eachN F (n + 1) = bif (eachN F n).2 != 0 then eachN F n else bif (F n).2 != 0 then ([], (F n).2) else ((eachN F n).1 ++ [(F n).1], 0) := rfl
    cases h1 : (eachN F n).2 != 0 with
    | true => rw [e, h1, cond_true]; exact ih h1
    | false =>
      rw [h1, cond_false] at e
      cases h2 : (F n).2 != 0 with
      | true => rw [e, h2]; rfl
      | false => rw [e, h2] at h; cases h
theorem wit_bad {z : Int} {v u : List X} (h : ((witS z v u).2 != 0) = true) : witS z v u = ([], (witS z v u).2) := by
  unfold witS at h ⊢
  cases he : (facS z v u).2 != 0 with
  | true => rfl
  | false =>
    rw [he, cond_false] at h
    rw [cond_false]
    exact each_bad h
theorem eachR_Q (x : List (List X) × Int) : Wk1 (eachR rP x) (qxe x) := by
  obtain ⟨l, e⟩ := x
  cases l with
  | nil => exact wk_tup (fun _ _ _ _ h => nil_sl h) rfl
  | cons a l => exact wk_tup (fun _ _ _ _ h => h) rfl
set_option maxRecDepth 100000 in
set_option maxHeartbeats 4000000 in
theorem o_col_e (m : List (List X)) (z : Int) (hr : rightQ m z = false) : Ct Tryd.prog 10 [qA_ m, iA z] (· = eachR rP ([], 1)) := by
  refine ct_of (O := orO (gdO 23 kTrn) (tblO (orT Tor_right (orT Tor_wit Tor_sca)))) (by kernel_rfl) tyO_ok (fun w => gdO_or (ktrn_ok w) (tblO_ok (orT_ok Tor_right_ok (orT_ok Tor_wit_ok Tor_sca_ok)) _ w) (fun _ _ _ => tblO_none fun _ => orT_none (one_none (by decide)) (orT_none (one_none (by decide)) (one_none (by decide))))) [] 600 59 [.tmp 4, .tmp 5] Tryd.func10 rfl Tryd.ntmps10 (by rw [Tryd.results10]) (by simp) rfl (fun hsm => ?_)
  simp (maxSteps := 10000000) only [go_sem, ↓reduceIte, Nat.reduceMul, Nat.reduceDiv, Nat.reduceAdd, Nat.reduceEqDiff, Nat.reduceLeDiff, Nat.reduceLT, reduceCtorEq, Int.reduceNeg, Int.reduceLT, Int.reduceLE, Int.reduceAdd, Int.reduceToNat, Nat.reduceBEq, Int.reduceMul, Int.reduceSub, Nat.reduceSub, Int.reduceBNe, Nat.reduceBNe, tyO, Tor_right, Tor_wit, Tor_sca, gdO, kTrn, uA, uE, grU, eachR, hr, bxe, pxe, lpf, hdS, hd1, pick, forget, frh, frz, frS, frA, frL]
  repeat' first | (with_reducible apply And.intro) | (with_reducible apply condP <;> intro _)
  all_goals first | (show chk _ _ = true; kernel_rfl) | assumption | rfl | (simp only [AV.s, cond_true, cond_false, Bool.and_true, Bool.true_and, Bool.and_false, Bool.false_and, Bool.not_true, Bool.not_false, *] <;> rfl)
set_option maxRecDepth 100000 in
set_option maxHeartbeats 4000000 in
theorem o_col_ok (m : List (List X)) (z : Int) (hr : rightQ m z = true) (hg : ∀ r ∈ m, ∀ x ∈ r, GX x) : Ct Tryd.prog 10 [qA_ m, iA z] (· = eachR rP (colsS z m)) := by
  refine ct_of (O := orO (gdO 23 kTrn) (tblO (orT Tor_right (orT Tor_wit Tor_sca)))) (by kernel_rfl) tyO_ok (fun w => gdO_or (ktrn_ok w) (tblO_ok (orT_ok Tor_right_ok (orT_ok Tor_wit_ok Tor_sca_ok)) _ w) (fun _ _ _ => tblO_none fun _ => orT_none (one_none (by decide)) (orT_none (one_none (by decide)) (one_none (by decide))))) [9999997, 106, 9, 9999999, 0, 2, 12, 14, 35, 36, 38, 40, 9999999, 0, 2, 12, 14, 35, 36, 38, 40, 16, 18, 54, 56, 58] ((m.length + 1) * 4000 + 800) 59 [.tmp 4, .tmp 5] Tryd.func10 rfl Tryd.ntmps10 (by rw [Tryd.results10]) (by simp) rfl (fun hsm => ?_)
  obtain ⟨hsq, ⟨hl1, hl4⟩, hz, hok⟩ := rightQ_sq hr
  have q1 : SqX m.length m = True := eq_true hsq
  have q2 : (1 ≤ m.length) = True := eq_true hl1
  have q3 : (m.length ≤ 4) = True := eq_true hl4
  have hT0 : (trn m).length = m.length := trn_len m
  have ht : ∀ r ∈ trn m, r.length = m.length ∧ ∀ x ∈ r, GX x := fun r hr => ⟨trn_rows r hr, trn_gx hg r hr⟩
  simp (maxSteps := 10000000) only [go_sem, ↓reduceIte, Nat.reduceMul, Nat.reduceDiv, Nat.reduceAdd, Nat.reduceEqDiff, Nat.reduceLeDiff, Nat.reduceLT, reduceCtorEq, Int.reduceNeg, Int.reduceLT, Int.reduceLE, Int.reduceAdd, Int.reduceToNat, Nat.reduceBEq, Int.reduceMul, Int.reduceSub, Nat.reduceSub, Int.reduceBNe, Nat.reduceBNe, tyO, Tor_right, Tor_wit, Tor_sca, gdO, kTrn, uA, uE, grU, eachR, hr, q1, q2, q3]
  generalize hC : colN z (trn m) = C
  have hCg : ∀ k, k ≤ m.length → (C k).2 = 0 → (C k).1.length = k ∧ ∀ r ∈ (C k).1, r.length = m.length ∧ ∀ x ∈ r, GX x := fun k hk h => by rw [← hC] at h ⊢; exact colN_gx ht k (by omega) h
  have hs : ∀ k, C (k + 1) = bif (C k).2 != 0 then ([], (C k).2) else
      bif (witN z (C k).1 ((trn m).getD k []) k).2 != 0 then ([], (witN z (C k).1 ((trn m).getD k []) k).2) else
      bif (scaS (witN z (C k).1 ((trn m).getD k []) k).1).2 != 0 then ([], (scaS (witN z (C k).1 ((trn m).getD k []) k).1).2) else
      ((C k).1 ++ [(scaS (witN z (C k).1 ((trn m).getD k []) k).1).1], 0) := fun k => by rw [← hC]; rfl
  have hbad : ∀ k e, C (k + 1) = ([], e) → (e != 0) = true → k < m.length → C m.length = ([], e) := fun k e h1 h2 h3 => by rw [← hC] at h1 ⊢; exact colN_bad h1 h2 h3
  refine loop_ind 4000 (fun k => [(0, qA_ m), (2, iA z), (12, .s (.ol 17 m.length)), (14, iA 0), (35, .pre 35 1 (rowL (mixN (C k).1 (trn m)))), (36, .s (.ol 17 m.length)), (38, iA (m.length : Int)), (40, iA (k : Int))]) m.length (fun k => (C k).2 = 0) 0 (fun k _ => by simp only [List.all_cons, List.all_nil, mentA, ment, rowL_me, Bool.and_true]; rfl) (fun k m1 _ hk hI ih => ?_) (by omega) (by rw [← hC]; rfl) (by rw [← hC]; rfl)
  obtain ⟨hCl, hCr⟩ := hCg k hk hI
  have hI0 : ((C k).2 != 0) = false := by rw [hI]; rfl
  have hsk := hs k
  rw [hI0, cond_false] at hsk
  generalize hM : mixN (C k).1 (trn m) = M
  have hml : (rowL M).length = m.length * 1 := by rw [rowL_len, ← hM, mix_len (by omega), hT0]
  rcases Nat.lt_or_ge k m.length with hlt | hge
  · have hvk := at_get [] (show k < (trn m).length by omega)
    have hbad := fun e h1 h2 => hbad k e h1 h2 hlt
    have hvg := ht _ (List.mem_of_getElem? hvk)
    generalize (trn m).getD k [] = v at *
    have e1 : (rowL M)[k * 1]? = some (.sl true 3 v.length (pC v)) := rowL_at (by rw [← hM]; exact (mix_at hCl).trans hvk)
    have hset : ∀ y, List.take (k * 1) (rowL M) ++ [.sl true 3 y.length (pC y)] ++ List.drop (k * 1 + 1) (rowL M) = rowL (mixN ((C k).1 ++ [y]) (trn m)) := fun y => by rw [← hM]; exact rowL_set y hCl (by omega)
    have d := decide_eq_true (show (k : Int) < (m.length : Int) by omega)
    have g0 : (0 ≤ (k : Int)) = True := eq_true (by omega)
    have g1 : (k < m.length) = True := eq_true hlt
    have g2 : (k ≤ m.length) = True := eq_true hk
    have g3 : (k * 1 + 1 ≤ m.length * 1) = True := eq_true (by omega)
    have hw := wrap_nat (j := k) (by omega)
    generalize hV : witN z (C k).1 v = V at *
    have hVg : ∀ i, i ≤ k → (V i).2 = 0 → (V i).1.length = m.length ∧ ∀ x ∈ (V i).1, GX x := fun i hi h => by rw [← hV] at h ⊢; exact witN_gx hvg (fun r hr => (hCr r hr).1) i (by omega) h
    have hVs : ∀ i, V (i + 1) = bif (V i).2 != 0 then ([], (V i).2) else witS z (V i).1 ((C k).1.getD i []) := fun i => by rw [← hV]; rfl
    have hVb : ∀ i e, V (i + 1) = ([], e) → (e != 0) = true → i < k → V k = ([], e) := fun i e h1 h2 h3 => by rw [← hV] at h1 ⊢; exact witN_bad h1 h2 h3
    simp (maxSteps := 10000000) only [go_sem, ↓reduceIte, Nat.reduceMul, Nat.reduceDiv, Nat.reduceAdd, Nat.reduceEqDiff, Nat.reduceLeDiff, Nat.reduceLT, reduceCtorEq, Int.reduceNeg, Int.reduceLT, Int.reduceLE, Int.reduceAdd, Int.reduceToNat, Nat.reduceBEq, Int.reduceMul, Int.reduceSub, Nat.reduceSub, Int.reduceBNe, Nat.reduceBNe, tyO, Tor_right, Tor_wit, Tor_sca, gdO, kTrn, uA, uE, grU, eachR, hdT, Option.isSome_none, Nat.sub_zero, Nat.zero_le, d, g0, g1, g2, hml, e1]
    refine loop_ind 500 (fun i => [(0, qA_ m), (2, iA z), (12, .s (.ol 17 m.length)), (14, iA 0), (35, .pre 35 1 (rowL M)), (36, .s (.ol 17 m.length)), (38, iA (m.length : Int)), (40, iA (k : Int)), (16, iA (k : Int)), (18, .s (.sl true 3 (V i).1.length (pC (V i).1))), (54, .s (.ov 17 m.length 0 k)), (56, iA (k : Int)), (58, iA (i : Int))]) k (fun i => (V i).2 = 0) m1 (fun i _ => by simp only [List.all_cons, List.all_nil, mentA, ment, rowL_me, Bool.and_true]; rfl) (fun i m2 hL2 hi hJ ihJ => ?_) (by omega) (by rw [← hV]; rfl) (by rw [← hV]; rfl)
    obtain ⟨r2, rfl⟩ := Nat.exists_eq_add_of_le hL2
    obtain ⟨hVl, hVx⟩ := hVg i hi hJ
    rcases Nat.lt_or_ge i k with hlt2 | hge2
    · have huk := at_get [] (show i < (C k).1.length by omega)
      have hul := (hCr _ (List.mem_of_getElem? huk)).1
      have hVi := hVs i
      have hVb := fun e h1 h2 => hVb i e h1 h2 hlt2
      generalize (C k).1.getD i [] = u at *
      have e2 : (rowL M)[i * 1]? = some (.sl true 3 u.length (pC u)) := rowL_at (by rw [← hM, mix_get (by omega)]; exact huk)
      have d2 := decide_eq_true (show (i : Int) < (k : Int) by omega)
      have f0 : (0 ≤ (i : Int)) = True := eq_true (by omega)
      have f1 : (i < k) = True := eq_true hlt2
      have f2 : ((V i).1.length = u.length) = True := eq_true (by omega)
      have f3 : (1 ≤ u.length) = True := eq_true (by omega)
      have f4 : (u.length ≤ 1000) = True := eq_true (by omega)
      have hw2 := wrap_nat (j := i) (by omega)
      have hJ0 : ((V i).2 != 0) = false := by rw [hJ]; rfl
      rw [hJ0, cond_false] at hVi
      cases hW : (witS z (V i).1 u).2 != 0 with
      | true =>
        have hwb : witS z (V i).1 u = ([], (witS z (V i).1 u).2) := wit_bad hW
        have hVk : V k = ([], (witS z (V i).1 u).2) := hVb _ (hVi.trans hwb) hW
        have hCn : C m.length = ([], (witS z (V i).1 u).2) := hbad _ (by rw [hsk, hVk]; show (bif (witS z (V i).1 u).2 != 0 then _ else _) = _; rw [hW]; rfl) hW
        have hfin : colsS z m = ([], (witS z (V i).1 u).2) := by unfold colsS; rw [hr, cond_true, hC, hCn]; show (bif (witS z (V i).1 u).2 != 0 then _ else _) = _; rw [hW]; rfl
        rw [hfin]
        simp (maxSteps := 10000000) only [go_sem, ↓reduceIte, Nat.reduceMul, Nat.reduceDiv, Nat.reduceAdd, Nat.reduceEqDiff, Nat.reduceLeDiff, Nat.reduceLT, reduceCtorEq, Int.reduceNeg, Int.reduceLT, Int.reduceLE, Int.reduceAdd, Int.reduceToNat, Nat.reduceBEq, Int.reduceMul, Int.reduceSub, Nat.reduceSub, Int.reduceBNe, Nat.reduceBNe, tyO, Tor_right, Tor_wit, Tor_sca, gdO, kTrn, uA, uE, grU, eachR, hdT, Option.isSome_none, Nat.sub_zero, Nat.zero_le, d2, f0, f1, f2, f3, f4, hml, e2, hW]
        repeat' first | (with_reducible apply And.intro) | (with_reducible apply condP <;> intro _)
        all_goals first | (show chk _ _ = true; kernel_rfl) | assumption | rfl | (simp only [AV.s, cond_true, cond_false, Bool.and_true, Bool.true_and, Bool.and_false, Bool.false_and, Bool.not_true, Bool.not_false, *] <;> rfl)
      | false =>
        have hW0 : (witS z (V i).1 u).2 = 0 := by simpa using hW
        replace ihJ := ihJ hlt2 (by rw [hVi]; exact hW0)
        simp (maxSteps := 10000000) only [go_sem, ↓reduceIte, Nat.reduceMul, Nat.reduceDiv, Nat.reduceAdd, Nat.reduceEqDiff, Nat.reduceLeDiff, Nat.reduceLT, reduceCtorEq, Int.reduceNeg, Int.reduceLT, Int.reduceLE, Int.reduceAdd, Int.reduceToNat, Nat.reduceBEq, Int.reduceMul, Int.reduceSub, Nat.reduceSub, Int.reduceBNe, Nat.reduceBNe, tyO, Tor_right, Tor_wit, Tor_sca, gdO, kTrn, uA, uE, grU, eachR, hdT, Option.isSome_none, Nat.sub_zero, Nat.zero_le, d2, f0, f1, f2, f3, f4, hml, e2, hW, hW0, hw2]
        repeat' first | (with_reducible apply And.intro) | (with_reducible apply condP <;> intro _)
        all_goals first | (show chk _ _ = true; kernel_rfl) | (exact ihJ _ _ (by rw [hVi]; rfl)) | assumption | rfl
    · obtain rfl : i = k := by omega
      have hJ0 : ((V i).2 != 0) = false := by rw [hJ]; rfl
      rw [hJ0, cond_false] at hsk
      have d2 : decide ((i : Int) < (i : Int)) = false := decide_eq_false (by omega)
      have f3 : (1 ≤ (V i).1.length) = True := eq_true (by omega)
      have f4 : ((V i).1.length ≤ 1000) = True := eq_true (by omega)
      have f5 : ((signx (grN (V i).1 (V i).1.length) == 0) = false → (grN (V i).1 (V i).1.length).ok = true ∧ 0 < (grN (V i).1 (V i).1.length).xs.length) = True := eq_true (gr_pos hVx)
      cases hW : (scaS (V i).1).2 != 0 with
      | true =>
        have hCn : C m.length = ([], (scaS (V i).1).2) := hbad _ (by rw [hsk, hW]; rfl) hW
        have hfin : colsS z m = ([], (scaS (V i).1).2) := by unfold colsS; rw [hr, cond_true, hC, hCn]; show (bif (scaS (V i).1).2 != 0 then _ else _) = _; rw [hW]; rfl
        rw [hfin]
        simp (maxSteps := 10000000) only [go_sem, ↓reduceIte, Nat.reduceMul, Nat.reduceDiv, Nat.reduceAdd, Nat.reduceEqDiff, Nat.reduceLeDiff, Nat.reduceLT, reduceCtorEq, Int.reduceNeg, Int.reduceLT, Int.reduceLE, Int.reduceAdd, Int.reduceToNat, Nat.reduceBEq, Int.reduceMul, Int.reduceSub, Nat.reduceSub, Int.reduceBNe, Nat.reduceBNe, tyO, Tor_right, Tor_wit, Tor_sca, gdO, kTrn, uA, uE, grU, eachR, hdT, Option.isSome_none, Nat.sub_zero, Nat.zero_le, d2, g0, g1, g3, f3, f4, f5, hml, hW]
        repeat' first | (with_reducible apply And.intro) | (with_reducible apply condP <;> intro _)
        all_goals first | (show chk _ _ = true; kernel_rfl) | assumption | rfl | (simp only [AV.s, cond_true, cond_false, Bool.and_true, Bool.true_and, Bool.and_false, Bool.false_and, Bool.not_true, Bool.not_false, *] <;> rfl)
      | false =>
        rw [hW, cond_false] at hsk
        have hW0 : (scaS (V i).1).2 = 0 := by simpa using hW
        replace ih := ih hlt (by rw [hsk])
        simp (maxSteps := 10000000) only [go_sem, ↓reduceIte, Nat.reduceMul, Nat.reduceDiv, Nat.reduceAdd, Nat.reduceEqDiff, Nat.reduceLeDiff, Nat.reduceLT, reduceCtorEq, Int.reduceNeg, Int.reduceLT, Int.reduceLE, Int.reduceAdd, Int.reduceToNat, Nat.reduceBEq, Int.reduceMul, Int.reduceSub, Nat.reduceSub, Int.reduceBNe, Nat.reduceBNe, tyO, Tor_right, Tor_wit, Tor_sca, gdO, kTrn, uA, uE, grU, eachR, hdT, Option.isSome_none, Nat.sub_zero, Nat.zero_le, d2, g0, g1, g3, f3, f4, f5, hml, hW, hW0, hw, hset]
        repeat' first | (with_reducible apply And.intro) | (with_reducible apply condP <;> intro _)
        all_goals first | (show chk _ _ = true; kernel_rfl) | (rw [Nat.add_assoc]; exact ih _ _ (by rw [hsk]; rfl)) | assumption | rfl
  · obtain rfl : k = m.length := by omega
    have hMC : M = (C m.length).1 := by rw [← hM]; exact mix_full (by omega)
    have hMl : M.length = m.length := by rw [hMC, hCl]
    have hMr : ∀ r ∈ M, r.length = m.length := fun r h => by rw [hMC] at h; exact (hCr r h).1
    have hfin : colsS z m = (trn M, 0) := by unfold colsS; rw [hr, cond_true, hC, hI0, cond_false, hMC]
    have d : decide ((m.length : Int) < (m.length : Int)) = false := decide_eq_false (by omega)
    have hdl := rowL_dl M
    have hdn := rowL_dn (trn M)
    have asn : asQ (.v false [.sl false 1 m.length (M.map rP)]) = some M := by rw [← hMl]; exact asQ_m M
    have q4 : SqX M.length M = True := eq_true ⟨rfl, fun r h => by rw [hMl]; exact hMr r h⟩
    have q5 : (1 ≤ M.length) = True := eq_true (by omega)
    have q6 : (M.length ≤ 4) = True := eq_true (by omega)
    have q7 : (rowL (trn M)).length = M.length * 1 := by rw [rowL_len, trn_len]
    have hemp : (trn M).isEmpty = false := by
      cases hq : trn M with
      | nil => have := trn_len M; rw [hq] at this; simp at this; omega
      | cons a l => rfl
    have htl := trn_len M
    rw [hfin]
    simp (maxSteps := 10000000) only [go_sem, ↓reduceIte, Nat.reduceMul, Nat.reduceDiv, Nat.reduceAdd, Nat.reduceEqDiff, Nat.reduceLeDiff, Nat.reduceLT, reduceCtorEq, Int.reduceNeg, Int.reduceLT, Int.reduceLE, Int.reduceAdd, Int.reduceToNat, Nat.reduceBEq, Int.reduceMul, Int.reduceSub, Nat.reduceSub, Int.reduceBNe, Nat.reduceBNe, tyO, Tor_right, Tor_wit, Tor_sca, gdO, kTrn, uA, uE, grU, eachR, hdT, Option.isSome_none, Nat.sub_zero, Nat.zero_le, d, hml, hdl, hdn, asn, q4, q5, q6, q7, hemp, htl]
    repeat' first | (with_reducible apply And.intro) | (with_reducible apply condP <;> intro _)
    all_goals first | (show chk _ _ = true; kernel_rfl) | assumption | rfl | (simp only [AV.s, cond_true, cond_false, Bool.and_true, Bool.true_and, Bool.and_false, Bool.false_and, Bool.not_true, Bool.not_false, *] <;> rfl)
theorem o_col (m : List (List X)) (z : Int) (hg : ∀ r ∈ m, ∀ x ∈ r, Small B64 x.xs) : Ct Tryd.prog 10 [qA_ m, iA z] (· = qxe (colsS z m)) := by
  refine Ct.wk ?_ (eachR_Q _)
  cases hr : rightQ m z with
  | false =>
    have e : colsS z m = ([], 1) := by unfold colsS; rw [hr]; rfl
    rw [e]; exact o_col_e m z hr
  | true => exact o_col_ok m z hr fun r h x hx => ⟨(rightQ_sq hr).2.2.2 r h x hx, hg r h x hx⟩
noncomputable def Tor_col : Tbl := one 10 (gA asQ fun m => gA asZ fun z => gE (∀ r ∈ m, ∀ x ∈ r, Small B64 x.xs, qxe (colsS z m)))
theorem Tor_col_ok : TbOK Tryd.prog Tor_col := one_t (ent Tryd.func10 (by kernel_rfl) rfl) (.a asQ_ok fun m => .a asZ_ok fun z => .e fun h => o_col m z h)
end Go.Proofs.YtpacpmmdjmnamaaDoor
