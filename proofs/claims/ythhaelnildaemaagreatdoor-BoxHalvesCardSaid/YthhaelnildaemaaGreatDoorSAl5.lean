/- Boxes of which only the lengths are looked at. -/
import Derived.Test.YthhaelnildaemaaGreatDoorSAl2
namespace Go.Proofs.YthhaelnildaemaaGreatDoor
open Go.RowKit Nx
set_option linter.unusedVariables false
set_option linter.unusedSimpArgs false
structure K where
  (u0 u1 : Value) (A : Option Addr) (n c : Nat) (u3 u4 : Value) (B : Option Addr) (m d : Nat)
def K.C (k : K) : List Lc := [.lit k.u0, .lit k.u1, .lit (.slice k.A k.n k.c), .lit k.u3, .lit k.u4, .lit (.slice k.B k.m k.d)]
def kC (l : List K) : List Lc := l.flatMap K.C
theorem kC_nil : kC [] = [] := rfl
theorem kC_cons {k : K} {l : List K} : kC (k :: l) = .lit k.u0 :: .lit k.u1 :: .lit (.slice k.A k.n k.c) :: .lit k.u3 :: .lit k.u4 :: .lit (.slice k.B k.m k.d) :: kC l := rfl
theorem kC_len : ∀ (l : List K), (kC l).length = l.length * 6 := by
  intro l
  induction l with
  | nil => rfl
  | cons k l ih => rw [kC_cons]; simp only [List.length_cons, ih]; omega
def lk (x y : Nat) : Bool := bif decide ((70 : Int) < (x : Int)) then false else bif decide ((70 : Int) < (y : Int)) then false else true
def lks : List (Nat × Nat) → Bool
  | [] => true
  | p :: l => lk p.1 p.2 && lks l
def lightK (l : List (Nat × Nat)) : Bool := bif decide ((6 : Int) < (l.length : Int)) then false else lks l
abbrev K.p (k : K) : Nat × Nat := (k.n, k.m)
abbrev kA1 (a : List K) : AV := .s (.sl false 1 1 [.sl 6 a.length (kC a)])
abbrev J.p (j : J) : Nat × Nat := (j.lo.xs.length, j.hi.xs.length)
structure Kp where
  (u0 u1 : Value) (A : Option Addr) (n c : Nat)
def Kp.C (k : Kp) : List Lc := [.lit k.u0, .lit k.u1, .lit (.slice k.A k.n k.c)]
def rC (l : List Kp) : List Lc := l.flatMap Kp.C
theorem rC_cons {k : Kp} {l : List Kp} : rC (k :: l) = .lit k.u0 :: .lit k.u1 :: .lit (.slice k.A k.n k.c) :: rC l := rfl
theorem rC_len : ∀ (l : List Kp), (rC l).length = l.length * 3 := by
  intro l
  induction l with
  | nil => rfl
  | cons k l ih => rw [rC_cons]; simp only [List.length_cons, ih]; omega
def lnOf : Lc → Option Nat
  | .ws xs => some xs.length
  | .lit (.slice _ n _) => some n
  | _ => none
def asKs : List Lc → Option (List (Nat × Nat))
  | [] => some []
  | _ :: _ :: a :: _ :: _ :: b :: r => (match lnOf a, lnOf b, asKs r with
    | some x, some y, some l => some ((x, y) :: l)
    | _, _, _ => none)
  | _ => none
section
variable {S : Nat → Prop} {w : World}
theorem lnOf_R {c : Lc} {x : Nat} {u : Value} (h : lnOf c = some x) (hR : c.R S w u) : ∃ A d, u = .slice A x d := by
  unfold lnOf at h
  split at h
  · injection h with h; subst h
    obtain ⟨A, n, d, rfl, hA, _⟩ := hR
    exact ⟨A, d, by rw [hA.1.1]⟩
  · injection h with h; subst h
    exact ⟨_, _, hR⟩
  · cases h
theorem asKs_R : ∀ (n : Nat) {ls : List Lc} {l : List (Nat × Nat)}, ls.length ≤ n → asKs ls = some l → ls.length = l.length * 6 ∧ ∀ us, LcL S w ls us → ∃ ks : List K, LcL S w (kC ks) us ∧ ks.map K.p = l := by
  intro n
  induction n with
  | zero =>
    intro ls l h0 h
    have : ls = [] := List.eq_nil_of_length_eq_zero (by omega)
    subst this
    injection h with h; subst h; exact ⟨rfl, fun us h => ⟨[], h, rfl⟩⟩
  | succ n ih =>
    intro ls l h0 h
    unfold asKs at h
    split at h
    · injection h with h; subst h; exact ⟨rfl, fun us h => ⟨[], h, rfl⟩⟩
    · split at h
      · rename_i x y l' h1 h2 hl
        injection h with h; subst h
        have ih := ih (by simp at h0; omega) hl
        refine ⟨by simp only [List.length_cons]; rw [ih.1]; omega, ?_⟩
        rintro us ⟨u0, _, rfl, r0, u1, _, rfl, r1, u2, _, rfl, r2, u3, _, rfl, r3, u4, _, rfl, r4, u5, vs, rfl, r5, hr⟩
        obtain ⟨A, c, rfl⟩ := lnOf_R h1 r2
        obtain ⟨B, d, rfl⟩ := lnOf_R h2 r5
        obtain ⟨ks, h3, h4⟩ := ih.2 _ hr
        exact ⟨⟨u0, u1, A, x, c, u3, u4, B, y, d⟩ :: ks, ⟨_, _, rfl, rfl, _, _, rfl, rfl, _, _, rfl, rfl, _, _, rfl, rfl, _, _, rfl, rfl, _, _, rfl, rfl, h3⟩, by simp only [List.map_cons, h4]⟩
      · cases h
    · cases h
theorem slK {n : Nat} {ls : List Lc} {l : List (Nat × Nat)} {v : Value} (h : asKs ls = some l) (hR : (Lc.sl 6 n ls).R S w v) : ∃ ks : List K, (Lc.sl 6 ks.length (kC ks)).R S w v ∧ ks.map K.p = l := by
  obtain ⟨h1, A, c, e, hc, h2⟩ := hR
  obtain ⟨h3, h4⟩ := asKs_R (S := S) (w := w) _ (Nat.le_refl _) h
  rcases h2 with rfl | ⟨ad, T, cs, e1, e2, hS, hB, h5, h6⟩
  · injection h with h; subst h
    have : n = 0 := by simp only [List.length_nil] at h1; omega
    subst this
    exact ⟨[], ⟨rfl, A, c, e, hc, .inl rfl⟩, rfl⟩
  · obtain ⟨ks, h7, h8⟩ := h4 _ h6
    have hk : ks.length = l.length := by rw [← h8, List.length_map]
    have hn : ks.length = n := by omega
    have hl : (kC ks).length = ls.length := by rw [kC_len, hk, h3]
    exact ⟨ks, ⟨kC_len ks, A, c, by rw [hn]; exact e, by rw [hn]; exact hc, .inr ⟨ad, T, cs, e1, e2, hS, hB, by rw [hl]; exact h5, by rw [hl]; exact h7⟩⟩, h8⟩
end
end Go.Proofs.YthhaelnildaemaaGreatDoor
namespace Go.Proofs.YthhaelnildaemaaGreatDoor
open Go.RowKit Nx
set_option linter.unusedVariables false
set_option linter.unusedSimpArgs false
attribute [local irreducible] chk
set_option maxRecDepth 100000 in
set_option maxHeartbeats 4000000 in
theorem lo4 (a b c d : K) : Ct Tryz.prog 9 [kA1 [a, b, c, d]] (· = bA (lightK [(a.n, a.m), (b.n, b.m), (c.n, c.m), (d.n, d.m)])) := by
  refine ct_of (O := tblO noT) (by kernel_rfl) tyB_ok (fun w => tblO_ok noT_ok _ w) [] 4000 50 [.tmp 2] Tryz.func9 rfl Tryz.ntmps9 (by rw [Tryz.results9]) (by simp) rfl (fun hsm => ?_)
  simp (maxSteps := 10000000) only [run, init, X.L, J.L, vL, X.eta, J.eta, Q.eta, List.cons_append, List.nil_append, brkK, brkf_b, brkf_t, exef_some, exif_some, condf_b, opf, bodyE, addR, skipE, stepOp, stepLoad, stepStore, stepField, stepCall, stepBS, stepB0, stepMk, stepSl, stepAp, apY, optI, okO, nilV, slT, stepBi, stepCv, stepIx, lpf, hdS, pick, forget, inL, mentA, ment, dom, evs, evl, evp, evd, okeys, look, fillA, capsOf, wordsOf, rowsOf, lenOf, convK, binV, shV, intV, unV, boolT, tyT, tiB, tiI, tiW, tiD, tiF, tiR, tiU, tiNum, tiIv, tiVal, tiSc, okLf, okD, keysOf, tblO, cvA, cvL, dnL, olA, olL, noO, noA, cbL, cbA, orT, ↓cond_true, ↓cond_false, ↓not_cond, noT, one, asNum, asIv, asVal, postf_some, resA, resB, outPs, outLs, outL, dnT, tupA, clA, clL, dropTo, ↓reduceIte, Nat.reduceMul, Nat.reduceDiv, Nat.reduceAdd, Nat.reduceEqDiff, Nat.reduceLeDiff, Nat.reduceLT, decide_true, decide_false, reduceCtorEq, List.all_cons, List.all_nil, Bool.and_true, Bool.and_self, true_and, and_true, and_self, List.length_cons, List.length_nil, List.drop_succ_cons, List.drop_zero, List.take_succ_cons, List.take_zero, List.getElem?_cons_zero, List.getElem?_cons_succ, List.map_cons, List.map_nil, false_implies, true_implies, Option.bind_some, List.getElem?_toArray, Bool.false_eq_true, List.append_nil, List.flatMap_cons, List.flatMap_nil, true_or, or_true, forall_const, List.reverse_cons, List.reverse_nil, Option.isSome_some, Option.any_some, Nat.lt_irrefl, not_true_eq_false, Bool.not_true, Bool.not_false, imp_self, implies_true, Int.reduceNeg, Bool.not_eq_true', Bool.not_eq_false', Bool.true_eq_false, memOf, cntF, nmL, rnL, nmA, rnA, isV, noE, contsOf, ndB, refO, orO, pin, Int.reduceLT, Int.reduceLE, Int.reduceAdd, Int.reduceToNat, Int.toNat_zero, decide_eq_true_eq, wrap0, wrap1, ci1, ci2, Nat.reduceBEq, BEq.rfl, beq_self_eq_true, Int.natCast_zero, ge_iff_le, gt_iff_lt, Int.le_refl, Nat.zero_mul, Nat.one_mul, Nat.zero_add, Nat.zero_lt_succ, Int.reduceMul, Int.reduceSub, Nat.lt_add_one, Nat.reduceSub, Nat.le_refl, boxL_nil, boxL_cons, ptsL_nil, ptsL_cons, ↓outL_box, ↓outL_pts, ↓clL_box, ↓clL_pts, ↓okL_box, ↓okL_pts, ↓ment_box, ↓ment_pts, ↓olL_box, ↓olL_pts, ↓cvL_box, ↓cvL_pts, ↓noO_box, ↓noO_pts, ↓asB_box, ↓asP_pts, ↓len_box, ↓len_pts, bxe, pxe, bne_self_eq_false, Int.reduceBNe, Nat.reduceBNe, wr2, wr3, wr4, wr5, wr6, wr7, wr8, gN, gNN, gNI, gI, gNIB, gNNIB, gJ, gJJ, gJN, gJJI, gJI, gB, gP, gBB, gBP, gBZ, gBBZ, asB, asP, nilB, asJs, asXs, wsOf, bC_nil, bC_cons, pC_nil, pC_cons, fvO, Lc.up, tyB, tiS, tiBB, Int.toNat_natCast, List.replicate_succ, List.replicate_zero, List.flatten_cons, List.flatten_nil, Int.ofNat_lt, Int.cast_ofNat_Int, Int.ofNat_eq_natCast, List.isEmpty_nil, List.isEmpty_cons, and_false, false_and, List.cons_ne_nil, Nat.add_zero, ite_true, ite_false, if_true, if_false, Nat.le_zero_eq, eq_self, Bool.and_false, Bool.false_and, Bool.true_and, kC_cons, kC_nil]
  repeat' first | (with_reducible apply And.intro) | (with_reducible apply condP <;> intro _)
  all_goals first | (show chk _ _ = true; kernel_rfl) | assumption | (simp only [AV.s, cond_true, cond_false, Bool.and_true, Bool.true_and, Bool.and_false, Bool.false_and, Bool.and_self, Bool.not_true, Bool.not_false, Bool.or_true, Bool.true_or, Bool.or_false, Bool.false_or, *, lightK, lks, lk, K.p, List.map_cons, List.map_nil, List.length_cons, List.length_nil, Nat.reduceAdd, decide_true, decide_false, Int.reduceLT, Int.cast_ofNat_Int, kC_cons, kC_nil]; done) | rfl | (simp only [AV.s, cond_true, cond_false, Bool.and_true, Bool.true_and, Bool.and_false, Bool.false_and, Bool.and_self, Bool.not_true, Bool.not_false, Bool.or_true, Bool.true_or, Bool.or_false, Bool.false_or, *, lightK, lks, lk, K.p, List.map_cons, List.map_nil, List.length_cons, List.length_nil, Nat.reduceAdd, decide_true, decide_false, Int.reduceLT, Int.cast_ofNat_Int, kC_cons, kC_nil]; rfl) | (exfalso; simp_all only [Bool.true_eq_false, Bool.false_eq_true, reduceCtorEq]; done)
end Go.Proofs.YthhaelnildaemaaGreatDoor
namespace Go.Proofs.YthhaelnildaemaaGreatDoor
open Go.RowKit Nx
set_option linter.unusedVariables false
set_option linter.unusedSimpArgs false
attribute [local irreducible] chk
set_option maxRecDepth 100000 in
set_option maxHeartbeats 4000000 in
theorem lo6 (a b c d e g : K) : Ct Tryz.prog 9 [kA1 [a, b, c, d, e, g]] (· = bA (lightK [(a.n, a.m), (b.n, b.m), (c.n, c.m), (d.n, d.m), (e.n, e.m), (g.n, g.m)])) := by
  refine ct_of (O := tblO noT) (by kernel_rfl) tyB_ok (fun w => tblO_ok noT_ok _ w) [] 4000 50 [.tmp 2] Tryz.func9 rfl Tryz.ntmps9 (by rw [Tryz.results9]) (by simp) rfl (fun hsm => ?_)
  simp (maxSteps := 10000000) only [run, init, X.L, J.L, vL, X.eta, J.eta, Q.eta, List.cons_append, List.nil_append, brkK, brkf_b, brkf_t, exef_some, exif_some, condf_b, opf, bodyE, addR, skipE, stepOp, stepLoad, stepStore, stepField, stepCall, stepBS, stepB0, stepMk, stepSl, stepAp, apY, optI, okO, nilV, slT, stepBi, stepCv, stepIx, lpf, hdS, pick, forget, inL, mentA, ment, dom, evs, evl, evp, evd, okeys, look, fillA, capsOf, wordsOf, rowsOf, lenOf, convK, binV, shV, intV, unV, boolT, tyT, tiB, tiI, tiW, tiD, tiF, tiR, tiU, tiNum, tiIv, tiVal, tiSc, okLf, okD, keysOf, tblO, cvA, cvL, dnL, olA, olL, noO, noA, cbL, cbA, orT, ↓cond_true, ↓cond_false, ↓not_cond, noT, one, asNum, asIv, asVal, postf_some, resA, resB, outPs, outLs, outL, dnT, tupA, clA, clL, dropTo, ↓reduceIte, Nat.reduceMul, Nat.reduceDiv, Nat.reduceAdd, Nat.reduceEqDiff, Nat.reduceLeDiff, Nat.reduceLT, decide_true, decide_false, reduceCtorEq, List.all_cons, List.all_nil, Bool.and_true, Bool.and_self, true_and, and_true, and_self, List.length_cons, List.length_nil, List.drop_succ_cons, List.drop_zero, List.take_succ_cons, List.take_zero, List.getElem?_cons_zero, List.getElem?_cons_succ, List.map_cons, List.map_nil, false_implies, true_implies, Option.bind_some, List.getElem?_toArray, Bool.false_eq_true, List.append_nil, List.flatMap_cons, List.flatMap_nil, true_or, or_true, forall_const, List.reverse_cons, List.reverse_nil, Option.isSome_some, Option.any_some, Nat.lt_irrefl, not_true_eq_false, Bool.not_true, Bool.not_false, imp_self, implies_true, Int.reduceNeg, Bool.not_eq_true', Bool.not_eq_false', Bool.true_eq_false, memOf, cntF, nmL, rnL, nmA, rnA, isV, noE, contsOf, ndB, refO, orO, pin, Int.reduceLT, Int.reduceLE, Int.reduceAdd, Int.reduceToNat, Int.toNat_zero, decide_eq_true_eq, wrap0, wrap1, ci1, ci2, Nat.reduceBEq, BEq.rfl, beq_self_eq_true, Int.natCast_zero, ge_iff_le, gt_iff_lt, Int.le_refl, Nat.zero_mul, Nat.one_mul, Nat.zero_add, Nat.zero_lt_succ, Int.reduceMul, Int.reduceSub, Nat.lt_add_one, Nat.reduceSub, Nat.le_refl, boxL_nil, boxL_cons, ptsL_nil, ptsL_cons, ↓outL_box, ↓outL_pts, ↓clL_box, ↓clL_pts, ↓okL_box, ↓okL_pts, ↓ment_box, ↓ment_pts, ↓olL_box, ↓olL_pts, ↓cvL_box, ↓cvL_pts, ↓noO_box, ↓noO_pts, ↓asB_box, ↓asP_pts, ↓len_box, ↓len_pts, bxe, pxe, bne_self_eq_false, Int.reduceBNe, Nat.reduceBNe, wr2, wr3, wr4, wr5, wr6, wr7, wr8, gN, gNN, gNI, gI, gNIB, gNNIB, gJ, gJJ, gJN, gJJI, gJI, gB, gP, gBB, gBP, gBZ, gBBZ, asB, asP, nilB, asJs, asXs, wsOf, bC_nil, bC_cons, pC_nil, pC_cons, fvO, Lc.up, tyB, tiS, tiBB, Int.toNat_natCast, List.replicate_succ, List.replicate_zero, List.flatten_cons, List.flatten_nil, Int.ofNat_lt, Int.cast_ofNat_Int, Int.ofNat_eq_natCast, List.isEmpty_nil, List.isEmpty_cons, and_false, false_and, List.cons_ne_nil, Nat.add_zero, ite_true, ite_false, if_true, if_false, Nat.le_zero_eq, eq_self, Bool.and_false, Bool.false_and, Bool.true_and, kC_cons, kC_nil]
  repeat' first | (with_reducible apply And.intro) | (with_reducible apply condP <;> intro _)
  all_goals first | (show chk _ _ = true; kernel_rfl) | assumption | (simp only [AV.s, cond_true, cond_false, Bool.and_true, Bool.true_and, Bool.and_false, Bool.false_and, Bool.and_self, Bool.not_true, Bool.not_false, Bool.or_true, Bool.true_or, Bool.or_false, Bool.false_or, *, lightK, lks, lk, K.p, List.map_cons, List.map_nil, List.length_cons, List.length_nil, Nat.reduceAdd, decide_true, decide_false, Int.reduceLT, Int.cast_ofNat_Int, kC_cons, kC_nil]; done) | rfl | (simp only [AV.s, cond_true, cond_false, Bool.and_true, Bool.true_and, Bool.and_false, Bool.false_and, Bool.and_self, Bool.not_true, Bool.not_false, Bool.or_true, Bool.true_or, Bool.or_false, Bool.false_or, *, lightK, lks, lk, K.p, List.map_cons, List.map_nil, List.length_cons, List.length_nil, Nat.reduceAdd, decide_true, decide_false, Int.reduceLT, Int.cast_ofNat_Int, kC_cons, kC_nil]; rfl) | (exfalso; simp_all only [Bool.true_eq_false, Bool.false_eq_true, reduceCtorEq]; done)
end Go.Proofs.YthhaelnildaemaaGreatDoor
namespace Go.Proofs.YthhaelnildaemaaGreatDoor
open Go.RowKit Nx
set_option linter.unusedVariables false
set_option linter.unusedSimpArgs false
set_option maxRecDepth 100000
set_option maxHeartbeats 4000000
attribute [local go_sem] run init X.L J.L vL X.eta J.eta Q.eta List.cons_append List.nil_append brkK brkf_b brkf_t exef_some exif_some condf_b opf bodyE addR skipE stepOp stepLoad stepStore stepField stepCall stepBS stepBi stepCv stepIx lpf hdS pick forget inL mentA ment dom evs evl evp evd okeys look fillA capsOf wordsOf rowsOf lenOf convK binV shV intV unV boolT tyT tiB tiI tiW tiD tiF tiR tiU tiNum tiIv tiVal tiSc okLf okD keysOf tblO cvA cvL dnL olA olL noO noA cbL cbA orT noT one asNum asIv asVal postf_some resA tupA clA clL dropTo decide_true decide_false List.all_cons List.all_nil Bool.and_true Bool.and_self true_and and_true and_self List.length_cons List.length_nil List.drop_succ_cons List.drop_zero List.take_succ_cons List.take_zero List.getElem?_cons_zero List.getElem?_cons_succ List.map_cons List.map_nil false_implies true_implies Option.bind_some List.getElem?_toArray Bool.false_eq_true List.append_nil List.flatMap_cons List.flatMap_nil true_or or_true forall_const List.reverse_cons List.reverse_nil Option.isSome_some Option.any_some Nat.lt_irrefl not_true_eq_false Bool.not_true Bool.not_false imp_self implies_true Bool.not_eq_true' Bool.not_eq_false' Bool.true_eq_false memOf cntF nmL rnL nmA rnA isV contsOf ndB refO orO pin Int.toNat_zero decide_eq_true_eq wrap0 wrap1 ci1 ci2 BEq.rfl beq_self_eq_true Int.natCast_zero ge_iff_le gt_iff_lt Int.le_refl Nat.zero_mul Nat.one_mul Nat.zero_add Nat.zero_lt_succ Nat.lt_add_one Nat.le_refl Int.toNat_natCast gN gNN gNI gI gNNIB gNIB gJ gJJ gJN gJJI gJI stepB0 stepMk stepSl stepAp apY optI okO nilV slT resB outPs outLs outL dnT noE boxL_nil boxL_cons ptsL_nil ptsL_cons bxe pxe bne_self_eq_false wr2 wr3 wr4 wr5 wr6 wr7 wr8 gB gP gBB gBP gBZ gBBZ asB asP nilB asJs asXs wsOf bC_nil bC_cons pC_nil pC_cons fvO Lc.up tyB tiS tiBB List.replicate_succ List.replicate_zero List.flatten_cons List.flatten_nil Int.ofNat_lt Int.cast_ofNat_Int Int.ofNat_eq_natCast List.isEmpty_nil List.isEmpty_cons and_false false_and List.cons_ne_nil Nat.add_zero ite_true ite_false if_true if_false Nat.le_zero_eq eq_self Bool.and_false Bool.false_and Bool.true_and AV.s cond_true cond_false Bool.or_true Bool.true_or Bool.or_false Bool.false_or
attribute [local go_sem ↓] cond_true cond_false not_cond outL_box outL_pts clL_box clL_pts okL_box okL_pts ment_box ment_pts olL_box olL_pts cvL_box cvL_pts noO_box noO_pts asB_box asP_pts len_box len_pts
attribute [local irreducible] chk
theorem lo0  : Ct Tryz.prog 9 [kA1 []] (· = bA (lightK [])) := by
  refine ct_of (O := tblO noT) (by kernel_rfl) tyB_ok (fun w => tblO_ok noT_ok _ w) [] 4000 50 [.tmp 2] Tryz.func9 rfl Tryz.ntmps9 (by rw [Tryz.results9]) (by simp) rfl (fun hsm => ?_)
  simp (maxSteps := 10000000) only [go_sem, ↓reduceIte, Nat.reduceMul, Nat.reduceDiv, Nat.reduceAdd, Nat.reduceEqDiff, Nat.reduceLeDiff, Nat.reduceLT, reduceCtorEq, Int.reduceNeg, Int.reduceLT, Int.reduceLE, Int.reduceAdd, Int.reduceToNat, Nat.reduceBEq, Int.reduceMul, Int.reduceSub, Nat.reduceSub, Int.reduceBNe, Nat.reduceBNe, kC_cons, kC_nil]
  repeat' first | (with_reducible apply And.intro) | (with_reducible apply condP <;> intro _)
  all_goals first | (show chk _ _ = true; kernel_rfl) | assumption | (simp only [go_sem, *, lightK, lks, lk, K.p, Nat.reduceAdd, Int.reduceLT, kC_cons, kC_nil] <;> rfl) | rfl | (exfalso; simp_all only [Bool.true_eq_false, Bool.false_eq_true, reduceCtorEq]; done)
theorem lo1 (a : K) : Ct Tryz.prog 9 [kA1 [a]] (· = bA (lightK [(a.n, a.m)])) := by
  refine ct_of (O := tblO noT) (by kernel_rfl) tyB_ok (fun w => tblO_ok noT_ok _ w) [] 4000 50 [.tmp 2] Tryz.func9 rfl Tryz.ntmps9 (by rw [Tryz.results9]) (by simp) rfl (fun hsm => ?_)
  simp (maxSteps := 10000000) only [go_sem, ↓reduceIte, Nat.reduceMul, Nat.reduceDiv, Nat.reduceAdd, Nat.reduceEqDiff, Nat.reduceLeDiff, Nat.reduceLT, reduceCtorEq, Int.reduceNeg, Int.reduceLT, Int.reduceLE, Int.reduceAdd, Int.reduceToNat, Nat.reduceBEq, Int.reduceMul, Int.reduceSub, Nat.reduceSub, Int.reduceBNe, Nat.reduceBNe, kC_cons, kC_nil]
  repeat' first | (with_reducible apply And.intro) | (with_reducible apply condP <;> intro _)
  all_goals first | (show chk _ _ = true; kernel_rfl) | assumption | (simp only [go_sem, *, lightK, lks, lk, K.p, Nat.reduceAdd, Int.reduceLT, kC_cons, kC_nil] <;> rfl) | rfl | (exfalso; simp_all only [Bool.true_eq_false, Bool.false_eq_true, reduceCtorEq]; done)
theorem lo3 (a b c : K) : Ct Tryz.prog 9 [kA1 [a, b, c]] (· = bA (lightK [(a.n, a.m), (b.n, b.m), (c.n, c.m)])) := by
  refine ct_of (O := tblO noT) (by kernel_rfl) tyB_ok (fun w => tblO_ok noT_ok _ w) [] 4000 50 [.tmp 2] Tryz.func9 rfl Tryz.ntmps9 (by rw [Tryz.results9]) (by simp) rfl (fun hsm => ?_)
  simp (maxSteps := 10000000) only [go_sem, ↓reduceIte, Nat.reduceMul, Nat.reduceDiv, Nat.reduceAdd, Nat.reduceEqDiff, Nat.reduceLeDiff, Nat.reduceLT, reduceCtorEq, Int.reduceNeg, Int.reduceLT, Int.reduceLE, Int.reduceAdd, Int.reduceToNat, Nat.reduceBEq, Int.reduceMul, Int.reduceSub, Nat.reduceSub, Int.reduceBNe, Nat.reduceBNe, kC_cons, kC_nil]
  repeat' first | (with_reducible apply And.intro) | (with_reducible apply condP <;> intro _)
  all_goals first | (show chk _ _ = true; kernel_rfl) | assumption | (simp only [go_sem, *, lightK, lks, lk, K.p, Nat.reduceAdd, Int.reduceLT, kC_cons, kC_nil] <;> rfl) | rfl | (exfalso; simp_all only [Bool.true_eq_false, Bool.false_eq_true, reduceCtorEq]; done)
theorem lox (a : List K) (h : decide ((6 : Int) < (a.length : Int)) = true) : Ct Tryz.prog 9 [kA1 a] (· = bA (lightK (a.map K.p))) := by
  refine ct_of (O := tblO noT) (by kernel_rfl) tyB_ok (fun w => tblO_ok noT_ok _ w) [] 4000 50 [.tmp 2] Tryz.func9 rfl Tryz.ntmps9 (by rw [Tryz.results9]) (by simp) rfl (fun hsm => ?_)
  simp (maxSteps := 10000000) only [go_sem, ↓reduceIte, Nat.reduceMul, Nat.reduceDiv, Nat.reduceAdd, Nat.reduceEqDiff, Nat.reduceLeDiff, Nat.reduceLT, reduceCtorEq, Int.reduceNeg, Int.reduceLT, Int.reduceLE, Int.reduceAdd, Int.reduceToNat, Nat.reduceBEq, Int.reduceMul, Int.reduceSub, Nat.reduceSub, Int.reduceBNe, Nat.reduceBNe, kC_cons, kC_nil, h]
  repeat' first | (with_reducible apply And.intro) | (with_reducible apply condP <;> intro _)
  all_goals first | (show chk _ _ = true; kernel_rfl) | assumption | (simp only [go_sem, *, lightK, lks, lk, K.p, Nat.reduceAdd, Int.reduceLT, kC_cons, kC_nil, List.length_map] <;> rfl) | rfl | (exfalso; simp_all only [Bool.true_eq_false, Bool.false_eq_true, reduceCtorEq]; done)
end Go.Proofs.YthhaelnildaemaaGreatDoor
namespace Go.Proofs.YthhaelnildaemaaGreatDoor
open Go.RowKit Nx
set_option linter.unusedVariables false
set_option linter.unusedSimpArgs false
attribute [local go_sem] run init X.L J.L vL X.eta J.eta Q.eta List.cons_append List.nil_append brkK brkf_b brkf_t exef_some exif_some condf_b opf bodyE addR skipE stepOp stepLoad stepStore stepField stepCall stepBS stepBi stepCv stepIx lpf hdS pick forget inL mentA ment dom evs evl evp evd okeys look fillA capsOf wordsOf rowsOf lenOf convK binV shV intV unV boolT tyT tiB tiI tiW tiD tiF tiR tiU tiNum tiIv tiVal tiSc okLf okD keysOf tblO cvA cvL dnL olA olL noO noA cbL cbA orT noT one asNum asIv asVal postf_some resA tupA clA clL dropTo decide_true decide_false List.all_cons List.all_nil Bool.and_true Bool.and_self true_and and_true and_self List.length_cons List.length_nil List.drop_succ_cons List.drop_zero List.take_succ_cons List.take_zero List.getElem?_cons_zero List.getElem?_cons_succ List.map_cons List.map_nil false_implies true_implies Option.bind_some List.getElem?_toArray Bool.false_eq_true List.append_nil List.flatMap_cons List.flatMap_nil true_or or_true forall_const List.reverse_cons List.reverse_nil Option.isSome_some Option.any_some Nat.lt_irrefl not_true_eq_false Bool.not_true Bool.not_false imp_self implies_true Bool.not_eq_true' Bool.not_eq_false' Bool.true_eq_false memOf cntF nmL rnL nmA rnA isV contsOf ndB refO orO pin Int.toNat_zero decide_eq_true_eq wrap0 wrap1 ci1 ci2 BEq.rfl beq_self_eq_true Int.natCast_zero ge_iff_le gt_iff_lt Int.le_refl Nat.zero_mul Nat.one_mul Nat.zero_add Nat.zero_lt_succ Nat.lt_add_one Nat.le_refl Int.toNat_natCast gN gNN gNI gI gNNIB gNIB gJ gJJ gJN gJJI gJI stepB0 stepMk stepSl stepAp apY optI okO nilV slT resB outPs outLs outL dnT noE boxL_nil boxL_cons ptsL_nil ptsL_cons bxe pxe bne_self_eq_false wr2 wr3 wr4 wr5 wr6 wr7 wr8 gB gP gBB gBP gBZ gBBZ asB asP nilB asJs asXs wsOf bC_nil bC_cons pC_nil pC_cons fvO Lc.up tyB tiS tiBB List.replicate_succ List.replicate_zero List.flatten_cons List.flatten_nil Int.ofNat_lt Int.cast_ofNat_Int Int.ofNat_eq_natCast List.isEmpty_nil List.isEmpty_cons and_false false_and List.cons_ne_nil Nat.add_zero ite_true ite_false if_true if_false Nat.le_zero_eq eq_self Bool.and_false Bool.false_and Bool.true_and AV.s cond_true cond_false Bool.or_true Bool.true_or Bool.or_false Bool.false_or
attribute [local go_sem ↓] cond_true cond_false not_cond outL_box outL_pts clL_box clL_pts okL_box okL_pts ment_box ment_pts olL_box olL_pts cvL_box cvL_pts noO_box noO_pts asB_box asP_pts len_box len_pts
attribute [local irreducible] chk
set_option maxRecDepth 100000 in
set_option maxHeartbeats 4000000 in
theorem lo2 (a b : K) : Ct Tryz.prog 9 [kA1 [a, b]] (· = bA (lightK [(a.n, a.m), (b.n, b.m)])) := by
  refine ct_of (O := tblO noT) (by kernel_rfl) tyB_ok (fun w => tblO_ok noT_ok _ w) [] 4000 50 [.tmp 2] Tryz.func9 rfl Tryz.ntmps9 (by rw [Tryz.results9]) (by simp) rfl (fun hsm => ?_)
  simp (maxSteps := 10000000) only [go_sem, ↓reduceIte, Nat.reduceMul, Nat.reduceDiv, Nat.reduceAdd, Nat.reduceEqDiff, Nat.reduceLeDiff, Nat.reduceLT, reduceCtorEq, Int.reduceNeg, Int.reduceLT, Int.reduceLE, Int.reduceAdd, Int.reduceToNat, Nat.reduceBEq, Int.reduceMul, Int.reduceSub, Nat.reduceSub, Int.reduceBNe, Nat.reduceBNe, kC_cons, kC_nil]
  repeat' first | (with_reducible apply And.intro) | (with_reducible apply condP <;> intro _)
  all_goals first | (show chk _ _ = true; kernel_rfl) | assumption | (simp only [go_sem, *, lightK, lks, lk, K.p, Nat.reduceAdd, Int.reduceLT, kC_cons, kC_nil] <;> rfl) | rfl | (exfalso; simp_all only [Bool.true_eq_false, Bool.false_eq_true, reduceCtorEq]; done)
set_option maxRecDepth 100000 in
set_option maxHeartbeats 4000000 in
theorem lo5 (a b c d e : K) : Ct Tryz.prog 9 [kA1 [a, b, c, d, e]] (· = bA (lightK [(a.n, a.m), (b.n, b.m), (c.n, c.m), (d.n, d.m), (e.n, e.m)])) := by
  refine ct_of (O := tblO noT) (by kernel_rfl) tyB_ok (fun w => tblO_ok noT_ok _ w) [] 4000 50 [.tmp 2] Tryz.func9 rfl Tryz.ntmps9 (by rw [Tryz.results9]) (by simp) rfl (fun hsm => ?_)
  simp (maxSteps := 10000000) only [go_sem, ↓reduceIte, Nat.reduceMul, Nat.reduceDiv, Nat.reduceAdd, Nat.reduceEqDiff, Nat.reduceLeDiff, Nat.reduceLT, reduceCtorEq, Int.reduceNeg, Int.reduceLT, Int.reduceLE, Int.reduceAdd, Int.reduceToNat, Nat.reduceBEq, Int.reduceMul, Int.reduceSub, Nat.reduceSub, Int.reduceBNe, Nat.reduceBNe, kC_cons, kC_nil]
  repeat' first | (with_reducible apply And.intro) | (with_reducible apply condP <;> intro _)
  all_goals first | (show chk _ _ = true; kernel_rfl) | assumption | (simp only [go_sem, *, lightK, lks, lk, K.p, Nat.reduceAdd, Int.reduceLT, kC_cons, kC_nil] <;> rfl) | rfl | (exfalso; simp_all only [Bool.true_eq_false, Bool.false_eq_true, reduceCtorEq]; done)
end Go.Proofs.YthhaelnildaemaaGreatDoor
namespace Go.Proofs.YthhaelnildaemaaGreatDoor
open Go.RowKit Nx
set_option linter.unusedVariables false
set_option linter.unusedSimpArgs false
theorem l6_1 (a : List K) : Ct Tryz.prog 9 [kA1 a] (· = bA (lightK (a.map K.p))) := by
  rcases Nat.lt_or_ge 6 a.length with h | h
  · exact lox a (decide_eq_true (by omega))
  match a, h with
  | [], _ => exact lo0
  | [a], _ => exact lo1 a
  | [a, b], _ => exact lo2 a b
  | [a, b, c], _ => exact lo3 a b c
  | [a, b, c, d], _ => exact lo4 a b c d
  | [a, b, c, d, e], _ => exact lo5 a b c d e
  | [a, b, c, d, e, g], _ => exact lo6 a b c d e g
  | _ :: _ :: _ :: _ :: _ :: _ :: _ :: _, h => exact absurd h (by simp)
theorem l6_1r {n : Nat} {ls : List Lc} {a : List (Nat × Nat)} (ha : asKs ls = some a) : Ct Tryz.prog 9 [.s (.sl false 1 1 [.sl 6 n ls])] (· = bA (lightK a)) := by
  intro ρ D w us ht hA
  obtain ⟨u, r, rfl, h1, h2⟩ := hA
  have h1 : (Lc.sl 1 1 [.sl 6 n ls]).R (SepF false ρ D) w u := RL.one.1 h1
  obtain ⟨h3, A, c, e, hc, h4⟩ := h1
  rcases h4 with h4 | ⟨ad, T, cs, e1, e2, hS, hB, h5, v1, vs, e3, r1, r3⟩
  · cases h4
  obtain ⟨ka, ra, rfl⟩ := slK ha r1
  exact l6_1 ka ρ D w _ ht ⟨u, r, rfl, RL.one.2 ⟨rfl, A, c, e, hc, .inr ⟨ad, T, cs, e1, e2, hS, hB, h5, v1, vs, e3, ra, r3⟩⟩, h2⟩
end Go.Proofs.YthhaelnildaemaaGreatDoor
