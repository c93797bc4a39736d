/- The document's side of package iv: quotients, the four operations, the middle. -/
import Derived.Test.YtobcbhppmgnioaaGreatDoorSAiJ
namespace Go.Proofs.YtobcbhppmgnioaaGreatDoor
section
open Go.RowKit Nx
set_option linter.unusedVariables false
set_option linter.unusedSimpArgs false
def prb (p : Int) : Bool := decide (p ≥ 8) && decide (p ≤ 256)
noncomputable def endsQ (a b : Q) : J × Int := bif ((res a).2 != 0) || ((res b).2 != 0) then (zJ, 2) else (⟨qx (res a).1, qx (res b).1⟩, 0)
def leastQ (x y u v : Q) : Q := bif decide (signq x ≥ 0) && decide (signq u ≥ 0) then times x u else bif decide (signq x ≥ 0) then times y u else bif decide (signq u ≥ 0) then times x v else
 bif decide (signq y ≤ 0) && decide (signq v ≤ 0) then times y v else bif decide (cmpq (times y u) (times x v) < 0) then times y u else times x v
def greatQ (x y u v : Q) : Q := (leastQ y.neg x.neg u v).neg
noncomputable def quotP (x y u v : Q) (p : Int) : J × Int := endsQ (ratq p.toNat false x (bif decide (signq x < 0) then u else v)) (ratq p.toNat true y (bif decide (signq y < 0) then v else u))
noncomputable def quotQ (x y u v : Q) (p : Int) : J × Int := bif decide (signq v < 0) then quotP y.neg x.neg v.neg u.neg p else quotP x y u v p
noncomputable def opQ (k : Int) (a b : J) (p : Int) : J × Int :=
 bif !(okJ a) || !(okJ b) || !(prb p) then (zJ, 1) else bif (k == 3) && hasJ b zX then (zJ, 3) else
 bif (k == 0) then endsQ (rnd p.toNat false (plus a.lo.q b.lo.q)) (rnd p.toNat true (plus a.hi.q b.hi.q)) else
 bif (k == 1) then endsQ (rnd p.toNat false (minus a.lo.q b.hi.q)) (rnd p.toNat true (minus a.hi.q b.lo.q)) else
 bif (k == 3) then quotQ a.lo.q a.hi.q b.lo.q b.hi.q p else
 endsQ (rnd p.toNat false (leastQ a.lo.q a.hi.q b.lo.q b.hi.q)) (rnd p.toNat true (greatQ a.lo.q a.hi.q b.lo.q b.hi.q))
set_option maxRecDepth 100000 in
set_option maxHeartbeats 2000000 in
theorem r_point (x : X) : Ct Tryz.prog 40 [.v true x.L] (· = jA ⟨x, x⟩) := by
 refine ct_of (O := tblO noT) (by kernel_rfl) tyT_ok (fun w => tblO_ok noT_ok _ w) [] 300 6 [.cell 2 28] Tryz.func40 rfl Tryz.ntmps40 (by rw [Tryz.results40]) (by simp) rfl (fun hsm => ?_)
 simp (maxSteps := 10000000) only [run, seval, init, X.L, J.L, vL, X.eta, J.eta, Q.eta, List.cons_append, List.nil_append, brkK, brkf_b, brkf_t, exef_some, exif_some, condf_b, opf, bodyE, addR, skipE, stepOp, stepLoad, stepStore, stepField, stepCall, stepBS, stepB0, stepMk, stepSl, stepAp, apY, optI, okO, nilV, slT, stepBi, stepCv, stepIx, lpf, hdS, hd1, pick, forget, inL, mentA, ment, dom, evs, evl, evp, evd, okeys, look, fillA, capsOf, wordsOf, rowsOf, lenOf, convK, binV, shV, intV, unV, boolT, tyT, tiB, tiI, tiW, tiD, tiF, tiR, tiU, tiNum, tiIv, tiVal, tiSc, okLf, okD, keysOf, tblO, cvA, cvL, dnL, olA, olL, noO, noA, cbL, cbA, orT, ↓cond_true, ↓cond_false, ↓not_cond, noT, one, asNum, asIv, asVal, postf_some, resA, resB, outPs, outLs, outL, dnT, tupA, clA, clL, dropTo, decide_true, decide_false, reduceCtorEq, List.all_cons, List.all_nil, Bool.and_true, Bool.and_self, true_and, and_true, and_self, List.length_cons, List.length_nil, List.drop_succ_cons, List.drop_zero, List.take_succ_cons, List.take_zero, List.getElem?_cons_zero, List.getElem?_cons_succ, List.map_cons, List.map_nil, false_implies, true_implies, Option.bind_some, List.getElem?_toArray, Bool.false_eq_true, List.append_nil, List.flatMap_cons, List.flatMap_nil, true_or, or_true, forall_const, List.reverse_cons, List.reverse_nil, Option.isSome_some, Option.any_some, Nat.lt_irrefl, not_true_eq_false, Bool.not_true, Bool.not_false, imp_self, implies_true, Bool.not_eq_true', Bool.not_eq_false', Bool.true_eq_false, Bool.false_eq_true, gN, gNN, gNI, gI, gNNIB, gNIB, gV, gVV, gVIB, gVVIB, gWW, gJ, gJJ, gJN, gJJI, gJI, gJII, gNNI, gBWI, gVVVV, gVVVVI, gVI]
 repeat' with_reducible first | apply And.intro | apply condP <;> intro _
 all_goals first | (show chk _ _ = true; kernel_rfl) | assumption | (simp only [go_sem, *, J.L]; done) | rfl | (simp only [go_sem, *, J.L]; rfl) | (exfalso; simp_all only [Bool.true_eq_false, Bool.false_eq_true, reduceCtorEq]; done)
noncomputable def Tref_Point : Tbl := one 40 (gN fun x => (True, jA ⟨x, x⟩))
theorem Tref_Point_ok : TbOK Tryz.prog Tref_Point := one_ok (ent Tryz.func40 (by kernel_rfl) rfl) fun args e h hp => by obtain ⟨x, rfl, rfl⟩ := gN_eq h; exact r_point x
theorem lt64 {m a b : Nat} (hab : a ≤ b) (h : m < B64 ^ a) : m < B64 ^ b := Nat.lt_of_lt_of_le h (Nat.pow_le_pow_right (by decide) hab)
theorem words_bits {m k : Nat} (h : m < B64 ^ k) : nbits m ≤ 64 * k := nbits_le (by rw [← pow64]; exact h)
theorem vw_of {q : Q} (h : Valid q) : Vw q := ⟨h.1, lt64 (a := 64) (b := 5000) (by decide) h.2.1, by have := h.2.2.1; omega, by have := h.2.2.2; omega⟩
theorem vb_of {q : Q} (h : Valid q) : Vb q := ⟨h.1, lt64 (a := 64) (b := 3000) (by decide) h.2.1, by have := h.2.2.1; omega, by have := h.2.2.2; omega⟩
theorem fits_times {a b : Q} (ha : Valid a) (hb : Valid b) : Vb (times a b) := by
 by_cases h0 : a.m = 0 ∨ b.m = 0
 ·rw [times_zero ha.1 hb.1 h0]; exact vb_of valid0
 ·obtain ⟨s, M, e⟩ := a
  obtain ⟨t, K, f⟩ := b
  have h1 : M ≠ 0 := fun h => h0 (.inl h)
  have h2 : K ≠ 0 := fun h => h0 (.inr h)
  have hc : Canon (times ⟨s, M, e⟩ ⟨t, K, f⟩) := ofz_canon _ _
  rw [times_odd ha.1 hb.1 h1 h2] at hc ⊢
  have hm : M * K < B64 ^ (64 + 64) := lt_mul ha.2.1 hb.2.1
  refine ⟨hc, lt64 (a := 64 + 64) (b := 3000) (by decide) hm, ?_, ?_⟩
  ·have := ha.2.2.1; have := hb.2.2.1; simp only at *; omega
  ·have := ha.2.2.2; have := hb.2.2.2; simp only at *; omega
theorem vw_vb {q : Q} (h : Vb q) : Vw q := ⟨h.1, lt64 (a := 3000) (b := 5000) (by decide) h.2.1, by have := h.2.2.1; omega, by have := h.2.2.2; omega⟩
theorem neg_valid {q : Q} (h : Valid q) : Valid q.neg := by
 refine ⟨neg_canon h.1, by rw [m_neg]; exact h.2.1, ?_, ?_⟩
 ·rw [e_neg h.1]; exact h.2.2.1
 ·rw [e_neg h.1]; exact h.2.2.2
theorem least_in (x y u v : Q) : leastQ x y u v = times x u ∨ leastQ x y u v = times y u ∨ leastQ x y u v = times x v ∨ leastQ x y u v = times y v := by
 unfold leastQ
 cases decide (signq x ≥ 0) && decide (signq u ≥ 0) <;> cases decide (signq x ≥ 0) <;> cases decide (signq u ≥ 0) <;> cases decide (signq y ≤ 0) && decide (signq v ≤ 0) <;> cases decide (cmpq (times y u) (times x v) < 0) <;> simp
theorem nz_sign {q : Q} (h : signq q ≠ 0) : q.m ≠ 0 := fun e => h (by unfold signq; rw [if_pos e])
end
section
set_option linter.unusedSimpArgs false
set_option linter.unusedVariables false
open Go.RowKit Nx
section
theorem ok_arg {x : X} (h : x.ok = true) (hs : Small B64 x.xs) : Valid x.q := by
 have ha : Arg (default : World) none x.xs.length x.xs.length x.xs → True := fun _ => trivial
 clear ha
 unfold X.ok okb at h
 unfold X.q
 split at h
 ·rename_i h0
  have hx : x.xs = [] := List.eq_nil_of_length_eq_zero h0
  rw [Bool.and_eq_true] at h
  obtain ⟨h1, h2⟩ := h
  have h1 : x.e = 0 := by simpa using h1
  have h2 : x.s = false := by simpa using h2
  rw [hx, h1, h2]; exact valid0
 ·rename_i h0
  simp only [Bool.and_eq_true, decide_eq_true_eq] at h
  obtain ⟨⟨⟨⟨h1, h2⟩, h3⟩, h4⟩, h5⟩ := h
  have hl := nval_lt hs
  have hodd : nval B64 x.xs % 2 = 1 := by
   cases hx : x.xs with
   | nil => rw [hx] at h0; exact absurd rfl h0
   | cons a r =>
    rw [hx] at h3
    simp only [nval]
    have h3 : a % 2 = 1 := by simpa using h3
    have : B64 * nval B64 r % 2 = 0 := by
     rw [Nat.mul_mod, show B64 % 2 = 0 from rfl, Nat.zero_mul]
    omega
  refine ⟨⟨fun h => ?_, fun _ => hodd⟩, ?_, h4, h5⟩
  ·have h : nval B64 x.xs = 0 := h
   rw [h] at hodd; cases hodd
  ·exact Nat.lt_of_lt_of_le hl (Nat.pow_le_pow_right (by decide) h2)
theorem okJ_lo {j : J} (h : okJ j = true) : j.lo.ok = true := by unfold okJ at h; rw [Bool.and_eq_true, Bool.and_eq_true] at h; exact h.1.1
theorem okJ_hi {j : J} (h : okJ j = true) : j.hi.ok = true := by unfold okJ at h; rw [Bool.and_eq_true, Bool.and_eq_true] at h; exact h.1.2
theorem cmpx_q {x y : X} (hx : x.ok = true) (hy : y.ok = true) : cmpx x y = cmpq x.q y.q := by
 unfold cmpx anscmp
 rw [if_pos (by unfold X.ok at hx hy; rw [hx, hy]; rfl)]; rfl
structure GJ (j : J) : Prop where
 lo : Small B64 j.lo.xs
 hi : Small B64 j.hi.xs
theorem jlo {j : J} (hg : GJ j) (h : okJ j = true) : Valid j.lo.q := ok_arg (okJ_lo h) hg.lo
theorem jhi {j : J} (hg : GJ j) (h : okJ j = true) : Valid j.hi.q := ok_arg (okJ_hi h) hg.hi
def gIJJI (k : Int → J → J → Int → Prop × AV) : List AV → Option (Prop × AV)
 | [.v false [.lit (.int .i64 z)], .v true mj, .v true mj1, .v false [.lit (.int .i64 z1)]] => (match asIv mj, asIv mj1 with
  | some j, some j1 => some (k z j j1 z1)
  | _, _ => none)
 | _ => none
end
section
theorem qx_ok {q : Q} (hv : Valid q) : (qx q).ok = true ∧ Small B64 (qx q).xs ∧ (qx q).q = q := by
 refine ⟨?_, small_digs B64_two _, by unfold X.q qx; simp only [nval_digs B64_two]⟩
 obtain ⟨hc, f1, f2, f3⟩ := hv
 unfold X.ok qx okb
 simp only
 by_cases h0 : (digs B64 q.m).length = 0
 ·rw [if_pos h0]
  have hm : q.m = 0 := (digs_eq_nil B64_two).1 (List.eq_nil_of_length_eq_zero h0)
  rw [hc.1 hm]; rfl
 ·rw [if_neg h0]
  have hm : q.m ≠ 0 := fun hm => h0 (by rw [hm, digs_zero]; rfl)
  have hlast : (digs B64 q.m).getD ((digs B64 q.m).length - 1) 0 ≠ 0 := by
   obtain ⟨y, hg⟩ : ∃ y, (digs B64 q.m)[(digs B64 q.m).length - 1]? = some y := ⟨_, List.getElem?_eq_getElem (by omega)⟩
   rw [getD_of hg]
   exact digs_last B64_two _ _ (by rw [List.getLast?_eq_getElem?]; exact hg)
  have hodd : (digs B64 q.m).getD 0 0 % 2 = 1 := by
   rw [digs_pos B64_two hm]
   show q.m % B64 % 2 = 1
   have := hc.2 hm
   unfold B64; omega
  have hle : (digs B64 q.m).length ≤ 64 := digs_len_le B64_two f1
  simp only [Bool.and_eq_true, decide_eq_true_eq]
  exact ⟨⟨⟨⟨hlast, hle⟩, hodd⟩, f2⟩, f3⟩
def topq (q : Q) : Int := (nbits q.m : Int) + q.e
theorem top_nm (s : Bool) {M : Nat} (e : Int) (h : M ≠ 0) : topq (nm s M e) = nbits M + e := by
 unfold topq nm
 rw [if_neg h]
 have h1 := (odd_part h).1
 have h2 : M / 2 ^ ntz M ≠ 0 := fun h0 => by rw [h0, Nat.zero_mul] at h1; exact h h1
 have h3 := nbits_up h2 (ntz M)
 rw [← h1] at h3
 simp only
 omega
theorem top_ofz {Z : Int} (e : Int) (h : Z ≠ 0) : topq (ofz Z e) = nbits Z.natAbs + e := top_nm _ _ (by omega)
theorem e_top {q : Q} (h : q.m ≠ 0) : q.e < topq q := by unfold topq; have := nbits_pos h; omega
theorem top_rnd {p : Nat} (up : Bool) {q : Q} (h : (rnd p up q).m ≠ 0) : topq (rnd p up q) ≤ topq q + 1 := by
 have h0 : q.m ≠ 0 := fun h0 => by
  obtain ⟨s, M, e⟩ := q
  have h0 : M = 0 := h0
  subst h0
  rw [rnd_zero] at h; exact h rfl
 unfold rnd at h ⊢
 by_cases hz : rndm q.m p (q.s != up) = 0
 ·rw [hz, nm_zero] at h; exact absurd rfl h
 ·rw [top_nm _ _ hz]
  unfold topq
  by_cases hle : nbits q.m ≤ p
  ·rw [rndm_few hle, show nbits q.m - p = 0 by omega]; omega
  ·have h1 := nbits_le (k := p + 1) (Nat.lt_of_le_of_lt (rndm_top q.m p (q.s != up)) (Nat.pow_lt_pow_right (by omega) (by omega)))
   omega
def halfw (v : Q) : Q := ⟨v.s, v.m, IntKind.i64.wrap (v.e - 1)⟩
def hlf (v : Q) : Q := bif decide (((digs B32 v.m).length : Int) > 0) then halfw v else v
noncomputable def rmid (j : J) (p : Int) : X × Int := bif !(okJ j) || !(prb p) then (zX, 1) else bif decide (cmpq (rnd p.toNat false (hlf (plus j.lo.q j.hi.q))) j.lo.q < 0) then (j.lo, 0) else (qx (res (rnd p.toNat false (hlf (plus j.lo.q j.hi.q)))).1, (res (rnd p.toNat false (hlf (plus j.lo.q j.hi.q)))).2)
abbrev xeA (r : X × Int) : AV := .tup [(true, r.1.L), (false, [.lit (.int .i64 r.2)])]
end
section
section
variable {j : J} {z : Int} (g0 : GJ j) (h : ((rmid j z).2 != 0) = false)
include g0 h
end
end
end
end Go.Proofs.YtobcbhppmgnioaaGreatDoor
