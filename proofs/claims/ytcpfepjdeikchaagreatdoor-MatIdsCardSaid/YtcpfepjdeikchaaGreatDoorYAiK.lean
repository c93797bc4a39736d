/- The document's side of package iv (fathomlineref1). -/
import Derived.Test.YtcpfepjdeikchaaGreatDoorYAiJ
namespace Go.Proofs.YtcpfepjdeikchaaGreatDoor
open Go.RowKit Nx
set_option linter.unusedVariables false
set_option linter.unusedSimpArgs false
def uppX (x y : X) : X := bif decide (cmpx y x > 0) then y else x
def rmag (a : J) : X := bif okJ a then uppX (qx (absx a.lo)) (qx (absx a.hi)) else zX
def prb (p : Int) : Bool := decide (p ≥ 8) && decide (p ≤ 256)
noncomputable def endsQ (a b : Q) : J × Int := bif ((res a).2 != 0) || ((res b).2 != 0) then (zJ, 2) else (⟨qx (res a).1, qx (res b).1⟩, 0)
def leastQ (x y u v : Q) : Q := bif decide (signq x ≥ 0) && decide (signq u ≥ 0) then times x u else bif decide (signq x ≥ 0) then times y u else bif decide (signq u ≥ 0) then times x v else
 bif decide (signq y ≤ 0) && decide (signq v ≤ 0) then times y v else bif decide (cmpq (times y u) (times x v) < 0) then times y u else times x v
def greatQ (x y u v : Q) : Q := (leastQ y.neg x.neg u v).neg
noncomputable def quotP (x y u v : Q) (p : Int) : J × Int := endsQ (ratq p.toNat false x (bif decide (signq x < 0) then u else v)) (ratq p.toNat true y (bif decide (signq y < 0) then v else u))
noncomputable def quotQ (x y u v : Q) (p : Int) : J × Int := bif decide (signq v < 0) then quotP y.neg x.neg v.neg u.neg p else quotP x y u v p
noncomputable def opQ (k : Int) (a b : J) (p : Int) : J × Int :=
 bif !(okJ a) || !(okJ b) || !(prb p) then (zJ, 1) else bif (k == 3) && hasJ b zX then (zJ, 3) else
 bif (k == 0) then endsQ (rnd p.toNat false (plus a.lo.q b.lo.q)) (rnd p.toNat true (plus a.hi.q b.hi.q)) else
 bif (k == 1) then endsQ (rnd p.toNat false (minus a.lo.q b.hi.q)) (rnd p.toNat true (minus a.hi.q b.lo.q)) else
 bif (k == 3) then quotQ a.lo.q a.hi.q b.lo.q b.hi.q p else
 endsQ (rnd p.toNat false (leastQ a.lo.q a.hi.q b.lo.q b.hi.q)) (rnd p.toNat true (greatQ a.lo.q a.hi.q b.lo.q b.hi.q))
set_option maxRecDepth 100000 in
set_option maxHeartbeats 2000000 in
theorem r_point (x : X) : Ct Tryz.prog 61 [.v true x.L] (· = jA ⟨x, x⟩) := by
 refine ct_of (O := tblO noT) (by kernel_rfl) tyT_ok (fun w => tblO_ok noT_ok _ w) [] 300 6 [.cell 2 39] Tryz.func61 rfl Tryz.ntmps61 (by rw [Tryz.results61]) (by simp) rfl (fun hsm => ?_)
 simp (maxSteps := 10000000) only [run, seval, init, X.L, J.L, vL, X.eta, J.eta, Q.eta, List.cons_append, List.nil_append, brkK, brkf_b, brkf_t, exef_some, exif_some, condf_b, opf, bodyE, addR, skipE, stepOp, stepLoad, stepStore, stepField, stepCall, stepBS, stepB0, stepMk, stepSl, stepAp, apY, optI, okO, nilV, slT, stepBi, stepCv, stepIx, lpf, hdS, hd1, pick, forget, inL, mentA, ment, dom, evs, evl, evp, evd, okeys, look, fillA, capsOf, wordsOf, rowsOf, lenOf, convK, binV, shV, intV, unV, boolT, tyT, tiB, tiI, tiW, tiD, tiF, tiR, tiU, tiNum, tiIv, tiVal, tiSc, okLf, okD, keysOf, tblO, cvA, cvL, dnL, olA, olL, noO, noA, cbL, cbA, orT, ↓cond_true, ↓cond_false, ↓not_cond, noT, one, asNum, asIv, asVal, postf_some, resA, resB, outPs, outLs, outL, dnT, tupA, clA, clL, dropTo, decide_true, decide_false, reduceCtorEq, List.all_cons, List.all_nil, Bool.and_true, Bool.and_self, true_and, and_true, and_self, List.length_cons, List.length_nil, List.drop_succ_cons, List.drop_zero, List.take_succ_cons, List.take_zero, List.getElem?_cons_zero, List.getElem?_cons_succ, List.map_cons, List.map_nil, false_implies, true_implies, Option.bind_some, List.getElem?_toArray, Bool.false_eq_true, List.append_nil, List.flatMap_cons, List.flatMap_nil, true_or, or_true, forall_const, List.reverse_cons, List.reverse_nil, Option.isSome_some, Option.any_some, Nat.lt_irrefl, not_true_eq_false, Bool.not_true, Bool.not_false, imp_self, implies_true, Bool.not_eq_true', Bool.not_eq_false', Bool.true_eq_false, Bool.false_eq_true, gN, gNN, gNI, gI, gNNIB, gNIB, gV, gVV, gVIB, gVVIB, gWW, gJ, gJJ, gJN, gJJI, gJI, gJII, gNNI, gBWI, gVVVV, gVVVVI, gVI]
 repeat' with_reducible first | apply And.intro | apply condP <;> intro _
 all_goals first | (show chk _ _ = true; kernel_rfl) | assumption | (simp only [go_sem, *, J.L]; done) | rfl | (simp only [go_sem, *, J.L]; rfl) | (exfalso; simp_all only [Bool.true_eq_false, Bool.false_eq_true, reduceCtorEq]; done)
noncomputable def Tref_Point : Tbl := one 61 (gN fun x => (True, jA ⟨x, x⟩))
theorem Tref_Point_ok : TbOK Tryz.prog Tref_Point := one_ok (ent Tryz.func61 (by kernel_rfl) rfl) fun args e h hp => by obtain ⟨x, rfl, rfl⟩ := gN_eq h; exact r_point x
theorem lt64 {m a b : Nat} (hab : a ≤ b) (h : m < B64 ^ a) : m < B64 ^ b := Nat.lt_of_lt_of_le h (Nat.pow_le_pow_right (by decide) hab)
theorem words_bits {m k : Nat} (h : m < B64 ^ k) : nbits m ≤ 64 * k := nbits_le (by rw [← pow64]; exact h)
theorem vw_of {q : Q} (h : Valid q) : Vw q := ⟨h.1, lt64 (a := 64) (b := 5000) (by decide) h.2.1, by have := h.2.2.1; omega, by have := h.2.2.2; omega⟩
theorem vb_of {q : Q} (h : Valid q) : Vb q := ⟨h.1, lt64 (a := 64) (b := 3000) (by decide) h.2.1, by have := h.2.2.1; omega, by have := h.2.2.2; omega⟩
theorem fits_times {a b : Q} (ha : Valid a) (hb : Valid b) : Vb (times a b) := by
 by_cases h0 : a.m = 0 ∨ b.m = 0
 ·rw [times_zero ha.1 hb.1 h0]; exact vb_of valid0
 ·obtain ⟨s, M, e⟩ := a
  obtain ⟨t, K, f⟩ := b
  have h1 : M ≠ 0 := fun h => h0 (.inl h)
  have h2 : K ≠ 0 := fun h => h0 (.inr h)
  have hc : Canon (times ⟨s, M, e⟩ ⟨t, K, f⟩) := ofz_canon _ _
  rw [times_odd ha.1 hb.1 h1 h2] at hc ⊢
  have hm : M * K < B64 ^ (64 + 64) := lt_mul ha.2.1 hb.2.1
  refine ⟨hc, lt64 (a := 64 + 64) (b := 3000) (by decide) hm, ?_, ?_⟩
  ·have := ha.2.2.1; have := hb.2.2.1; simp only at *; omega
  ·have := ha.2.2.2; have := hb.2.2.2; simp only at *; omega
theorem vw_vb {q : Q} (h : Vb q) : Vw q := ⟨h.1, lt64 (a := 3000) (b := 5000) (by decide) h.2.1, by have := h.2.2.1; omega, by have := h.2.2.2; omega⟩
theorem neg_valid {q : Q} (h : Valid q) : Valid q.neg := by
 refine ⟨neg_canon h.1, by rw [m_neg]; exact h.2.1, ?_, ?_⟩
 ·rw [e_neg h.1]; exact h.2.2.1
 ·rw [e_neg h.1]; exact h.2.2.2
theorem least_in (x y u v : Q) : leastQ x y u v = times x u ∨ leastQ x y u v = times y u ∨ leastQ x y u v = times x v ∨ leastQ x y u v = times y v := by
 unfold leastQ
 cases decide (signq x ≥ 0) && decide (signq u ≥ 0) <;> cases decide (signq x ≥ 0) <;> cases decide (signq u ≥ 0) <;> cases decide (signq y ≤ 0) && decide (signq v ≤ 0) <;> cases decide (cmpq (times y u) (times x v) < 0) <;> simp
theorem vb_neg {q : Q} (h : Vb q) : Vb q.neg := ⟨neg_canon h.1, by rw [m_neg]; exact h.2.1, by rw [e_neg h.1]; exact h.2.2.1, by rw [e_neg h.1]; exact h.2.2.2⟩
theorem nz_sign {q : Q} (h : signq q ≠ 0) : q.m ≠ 0 := fun e => h (by unfold signq; rw [if_pos e])
end Go.Proofs.YtcpfepjdeikchaaGreatDoor
