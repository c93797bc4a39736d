/- Rounding keeps the order; products are the document's, where both intervals have both signs. -/
import Derived.Test.YtobcbhppmgnioaaGreatDoorSAi4
namespace Go.Proofs.YtobcbhppmgnioaaGreatDoor
set_option linter.unusedSimpArgs false
set_option linter.unusedVariables false
open Go.RowKit Nx
section
theorem low_best {M p N u v : Nat} (hp : 1 ≤ p) (hN : N < 2 ^ p) (h : N * 2 ^ u ≤ M * 2 ^ v) : N * 2 ^ u ≤ rndm M p false * 2 ^ (nbits M - p) * 2 ^ v := by
 obtain ⟨t, ht⟩ : ∃ t, t = nbits M - p := ⟨_, rfl⟩
 have e0 : rndm M p false = M / 2 ^ t := by unfold rndm; simp [← ht]
 rw [e0, ← ht]
 by_cases h0 : t = 0
 ·subst h0; simpa using h
 ·have hn : nbits M = p + t := by omega
  have hM : M ≠ 0 := by rintro rfl; rw [nbits_zero] at hn; omega
  have hge := nbits_ge hM
  rw [hn] at hge
  rcases Nat.lt_or_ge u (t + v) with h1 | h1
  ·have hq : 2 ^ (p - 1) ≤ M / 2 ^ t := by
    rw [Nat.le_div_iff_mul_le (Nat.two_pow_pos t), ← Nat.pow_add, show p - 1 + t = p + t - 1 by omega]; exact hge
   calc N * 2 ^ u ≤ 2 ^ p * 2 ^ u := Nat.mul_le_mul_right _ (by omega)
    _ = 2 ^ (p + u) := by rw [Nat.pow_add]
    _ ≤ 2 ^ (p - 1 + t + v) := Nat.pow_le_pow_right (by omega) (by omega)
    _ = 2 ^ (p - 1) * 2 ^ t * 2 ^ v := by rw [Nat.pow_add, Nat.pow_add]
    _ ≤ _ := Nat.mul_le_mul_right _ (Nat.mul_le_mul_right _ hq)
  ·have e1 : N * 2 ^ u = N * 2 ^ (u - t - v) * 2 ^ t * 2 ^ v := by
    rw [Nat.mul_assoc, Nat.mul_assoc, ← Nat.pow_add, ← Nat.pow_add]; congr 2; omega
   rw [e1] at h ⊢
   have h2 : N * 2 ^ (u - t - v) * 2 ^ t ≤ M := Nat.le_of_mul_le_mul_right h (Nat.two_pow_pos v)
   exact Nat.mul_le_mul_right _ (Nat.mul_le_mul_right _ ((Nat.le_div_iff_mul_le (Nat.two_pow_pos t)).2 h2))
theorem upp_best {M p N u v : Nat} (hp : 1 ≤ p) (hN : N < 2 ^ p) (h : M * 2 ^ v ≤ N * 2 ^ u) : rndm M p true * 2 ^ (nbits M - p) * 2 ^ v ≤ N * 2 ^ u := by
 obtain ⟨t, ht⟩ : ∃ t, t = nbits M - p := ⟨_, rfl⟩
 by_cases h0 : t = 0
 ·rw [rndm_few (by omega), ← ht, h0]; simpa using h
 ·have hn : nbits M = p + t := by omega
  have hM : M ≠ 0 := by rintro rfl; rw [nbits_zero] at hn; omega
  have hge := nbits_ge hM
  rw [hn] at hge
  rcases Nat.lt_or_ge u (t + v) with h1 | h1
  ·exfalso
   have : N * 2 ^ u < M * 2 ^ v := by
    calc N * 2 ^ u < 2 ^ p * 2 ^ u := Nat.mul_lt_mul_of_pos_right hN (Nat.two_pow_pos u)
     _ = 2 ^ (p + u) := by rw [Nat.pow_add]
     _ ≤ 2 ^ (p + t - 1 + v) := Nat.pow_le_pow_right (by omega) (by omega)
     _ = 2 ^ (p + t - 1) * 2 ^ v := by rw [Nat.pow_add]
     _ ≤ _ := Nat.mul_le_mul_right _ hge
   omega
  ·have e1 : N * 2 ^ u = N * 2 ^ (u - t - v) * 2 ^ t * 2 ^ v := by
    rw [Nat.mul_assoc, Nat.mul_assoc, ← Nat.pow_add, ← Nat.pow_add]; congr 2; omega
   rw [e1] at h ⊢
   have h2 : M ≤ N * 2 ^ (u - t - v) * 2 ^ t := Nat.le_of_mul_le_mul_right h (Nat.two_pow_pos v)
   refine Nat.mul_le_mul_right _ ?_
   rw [← ht]
   refine Nat.mul_le_mul_right _ ?_
   obtain ⟨K, hK⟩ : ∃ K, K = N * 2 ^ (u - t - v) := ⟨_, rfl⟩
   rw [← hK] at h2 ⊢
   unfold rndm
   rw [← ht]
   have hd := Nat.div_add_mod M (2 ^ t)
   have hlt := Nat.mod_lt M (Nat.two_pow_pos t)
   by_cases hz : M % 2 ^ t = 0
   ·rw [if_neg (by simp [hz]), Nat.add_zero]
    exact Nat.div_le_of_le_mul (by rw [Nat.mul_comm]; exact h2)
   ·rw [if_pos ⟨hz, rfl⟩]
    refine Nat.div_lt_of_lt_mul ?_
    rcases Nat.lt_or_ge M (2 ^ t * K) with h3 | h3
    ·exact h3
    ·have h4 : M = 2 ^ t * K := by rw [Nat.mul_comm] at h2; omega
     rw [h4, Nat.mul_mod_right] at hz; exact absurd rfl hz
section
variable {E p : Nat} {q r a b : Q}
theorem at_sg (q : Q) : q.at E = sg q.s (q.m * 2 ^ (q.e + E).toNat) := by unfold Q.at; rw [z_sg, sg_mul, Int.natCast_pow]; rfl
theorem rnd_sg {up : Bool} (h : -(E : Int) ≤ q.e) : (rnd p up q).at E = sg q.s (rndm q.m p (q.s != up) * 2 ^ (nbits q.m - p) * 2 ^ (q.e + E).toNat) := by rw [rnd_at h, sg_mul q.s (rndm q.m p (q.s != up) * 2 ^ (nbits q.m - p)) (2 ^ (q.e + E).toNat), Int.natCast_pow]; rfl
theorem sg_ff {M N : Nat} : sg false M ≤ sg false N ↔ M ≤ N := by unfold sg; simp
theorem sg_tt {M N : Nat} : sg true M ≤ sg true N ↔ N ≤ M := by unfold sg; simp
theorem sg_tf {M N : Nat} : sg true M ≤ sg false N := by show -(M : Int) ≤ (N : Int); omega
theorem sg_ft {M N : Nat} : sg false M ≤ sg true N ↔ M = 0 ∧ N = 0 := by unfold sg; simp; omega
theorem rnd_low_best (hp : 1 ≤ p) (hr : nbits r.m ≤ p) (h1 : -(E : Int) ≤ q.e) (h : r.at E ≤ q.at E) : r.at E ≤ (rnd p false q).at E := by
 have hN := lt_of_nbits hr
 rw [rnd_sg h1]
 rw [at_sg, at_sg] at h
 rw [at_sg]
 cases hq : q.s <;> cases hs : r.s <;> rw [hq, hs] at h <;> rw [hq, hs] at *
 ·rw [sg_ff] at h ⊢; exact low_best hp hN h
 ·exact sg_tf
 ·rw [sg_ft] at h ⊢
  refine ⟨h.1, ?_⟩
  have hm : q.m = 0 := by
   rcases Nat.eq_zero_or_pos q.m with h0 | h0
   ·exact h0
   ·have := Nat.mul_pos h0 (Nat.two_pow_pos (q.e + E).toNat); omega
  rw [hm, rndm_zero, Nat.zero_mul, Nat.zero_mul]
 ·rw [sg_tt] at h ⊢; exact upp_best hp hN h
theorem rnd_upp_best (hp : 1 ≤ p) (hr : nbits r.m ≤ p) (h1 : -(E : Int) ≤ q.e) (h : q.at E ≤ r.at E) : (rnd p true q).at E ≤ r.at E := by
 have hN := lt_of_nbits hr
 rw [rnd_sg h1]
 rw [at_sg, at_sg] at h
 rw [at_sg]
 cases hq : q.s <;> cases hs : r.s <;> rw [hq, hs] at h <;> rw [hq, hs] at *
 ·rw [sg_ff] at h ⊢; exact upp_best hp hN h
 ·rw [sg_ft] at h ⊢
  refine ⟨?_, h.2⟩
  have hm : q.m = 0 := by
   rcases Nat.eq_zero_or_pos q.m with h0 | h0
   ·exact h0
   ·have := Nat.mul_pos h0 (Nat.two_pow_pos (q.e + E).toNat); omega
  rw [hm, rndm_zero, Nat.zero_mul, Nat.zero_mul]
 ·exact sg_tf
 ·rw [sg_tt] at h ⊢; exact low_best hp hN h
theorem rnd_mono {up : Bool} (hp : 1 ≤ p) (h1 : -(E : Int) ≤ a.e) (h2 : -(E : Int) ≤ b.e) (h : a.at E ≤ b.at E) : (rnd p up a).at E ≤ (rnd p up b).at E := by
 cases up
 ·exact rnd_low_best hp (nbits_rnd false a hp) h2 (Int.le_trans (rnd_down h1) h)
 ·exact rnd_upp_best hp (nbits_rnd true b hp) h1 (Int.le_trans h (rnd_up h2))
end
theorem scale_eq {q : Q} (k : Int) (h : q.m ≠ 0) : scale q k = ⟨q.s, q.m, q.e + k⟩ := by unfold scale; rw [if_neg h]
theorem nm_scale (s : Bool) (M : Nat) (e k : Int) : nm s M (e + k) = scale (nm s M e) k := by
 by_cases h : M = 0
 ·rw [h, nm_zero, nm_zero]; rfl
 ·have h2 : M / 2 ^ ntz M ≠ 0 := fun h0 => by have h1 := (odd_part h).1; rw [h0, Nat.zero_mul] at h1; exact h h1
  unfold nm scale
  rw [if_neg h, if_neg h, if_neg h2]
  simp only
  congr 1; omega
theorem rnd_scale (p : Nat) (up s : Bool) (m : Nat) (e k : Int) : rnd p up ⟨s, m, e + k⟩ = scale (rnd p up ⟨s, m, e⟩) k := by
 unfold rnd
 rw [← nm_scale]
 show nm s _ (e + k + _) = nm s _ (e + _ + k)
 congr 1
 dsimp only
 omega
theorem times_nm (a b : Q) : times a b = nm (decide (a.z * b.z < 0)) (a.z * b.z).natAbs (a.e + b.e) := rfl
theorem rnd_e0 (p : Nat) (up : Bool) (x y : X) : rnd p up (times x.q y.q) = scale (rnd p up (times x.e0.q y.e0.q)) (x.e + y.e) := by
 rw [times_nm, times_nm, rnd_nm, rnd_nm]
 show rnd p up ⟨_, _, x.e + y.e⟩ = scale (rnd p up ⟨_, _, 0 + 0⟩) (x.e + y.e)
 rw [← rnd_scale]
 show rnd p up ⟨_, _, x.e + y.e⟩ = rnd p up ⟨_, _, 0 + 0 + (x.e + y.e)⟩
 rw [show (0 : Int) + 0 + (x.e + y.e) = x.e + y.e by omega]
 rfl
theorem e0_ok {x : X} (h : x.ok = true) : x.e0.ok = true := by
 unfold X.ok okb at h ⊢
 unfold X.e0
 simp only
 by_cases h0 : x.xs.length = 0
 ·rw [if_pos h0] at h ⊢
  simp_all
 ·rw [if_neg h0] at h ⊢
  simp only [Bool.and_eq_true, decide_eq_true_eq] at h ⊢
  exact ⟨⟨h.1.1, by omega⟩, by omega⟩
theorem pow_cmp {m n a b c d : Nat} (h : a + d = b + c) : m * 2 ^ a < n * 2 ^ b ↔ m * 2 ^ c < n * 2 ^ d := by
 rcases Nat.le_total a c with h1 | h1
 ·obtain ⟨k, rfl⟩ := Nat.exists_eq_add_of_le h1
  have : d = b + k := by omega
  subst this
  rw [Nat.pow_add, Nat.pow_add, ← Nat.mul_assoc, ← Nat.mul_assoc]
  exact (Nat.mul_lt_mul_right (Nat.two_pow_pos k)).symm
 ·obtain ⟨k, rfl⟩ := Nat.exists_eq_add_of_le h1
  have : b = d + k := by omega
  subst this
  rw [Nat.pow_add, Nat.pow_add, ← Nat.mul_assoc, ← Nat.mul_assoc]
  exact Nat.mul_lt_mul_right (Nat.two_pow_pos k)
theorem pow_far {m n a b i : Nat} (hm : m < 2 ^ i) (hn : n ≠ 0) (h : a + i ≤ b) : m * 2 ^ a < n * 2 ^ b := by
 calc m * 2 ^ a < 2 ^ i * 2 ^ a := Nat.mul_lt_mul_of_pos_right hm (Nat.two_pow_pos a)
  _ = 2 ^ (i + a) := by rw [Nat.pow_add]
  _ ≤ 2 ^ b := Nat.pow_le_pow_right (by omega) (by omega)
  _ ≤ n * 2 ^ b := Nat.le_mul_of_pos_left _ (by omega)
structure Rp (r : Q) : Prop where
 v : Valid r
 nz : r.m ≠ 0
 bits : nbits r.m ≤ 256
 lo : 0 ≤ r.e
 hi : r.e ≤ 8200
theorem rnd_nz {p : Nat} {up : Bool} {q : Q} (hp : 1 ≤ p) (h : q.m ≠ 0) : (rnd p up q).m ≠ 0 := by
 intro h0
 have hz : rndm q.m p (q.s != up) = 0 := by
  unfold rnd nm at h0
  by_cases hz : rndm q.m p (q.s != up) = 0
  ·exact hz
  ·rw [if_neg hz] at h0
   simp only at h0
   have h1 := (odd_part hz).1
   rw [h0, Nat.zero_mul] at h1; exact absurd h1 hz
 unfold rndm at hz
 have h1 : q.m / 2 ^ (nbits q.m - p) = 0 := (Nat.add_eq_zero_iff.1 hz).1
 rw [Nat.div_eq_zero_iff] at h1
 have h2 := nbits_ge h
 have h3 := nbits_pos h
 rcases h1 with h1 | h1
 ·have := Nat.two_pow_pos (nbits q.m - p); omega
 ·have := Nat.pow_le_pow_right (n := 2) (by omega) (show nbits q.m - p ≤ nbits q.m - 1 by omega)
  omega
theorem rp_of {z : Int} {b : Bool} {x y : X} (hz : prl z = true) (hx : x.ok = true) (hy : y.ok = true) (sx : Small B64 x.xs) (sy : Small B64 y.xs) (nx : x.q.m ≠ 0) (ny : y.q.m ≠ 0) : Rp (rnd z.toNat b (times x.e0.q y.e0.q)) := by
 unfold prl at hz
 simp only [Bool.and_eq_true, decide_eq_true_eq] at hz
 have vx := ok_arg (e0_ok hx) sx
 have vy := ok_arg (e0_ok hy) sy
 have hm : (times x.e0.q y.e0.q).m ≠ 0 := by
  rw [times_nm]
  have hne : (x.e0.q.z * y.e0.q.z).natAbs ≠ 0 := by
   rw [Int.natAbs_mul]
   have h1 : x.e0.q.z.natAbs = x.q.m := by rw [z_sg]; unfold sg; cases x.e0.q.s <;> simp [X.q, X.e0]
   have h2 : y.e0.q.z.natAbs = y.q.m := by rw [z_sg]; unfold sg; cases y.e0.q.s <;> simp [X.q, X.e0]
   rw [h1, h2]; exact Nat.mul_ne_zero nx ny
  unfold nm
  rw [if_neg hne]
  intro h0
  have h1 := (odd_part hne).1
  simp only at h0
  rw [h0, Nat.zero_mul] at h1; exact hne h1
 have hnz := rnd_nz (p := z.toNat) (up := b) (by omega) hm
 have hlo : 0 ≤ (rnd z.toNat b (times x.e0.q y.e0.q)).e := by
  have h1 : -((0 : Nat) : Int) ≤ (times x.e0.q y.e0.q).e := ofz_low (E := 0) (by show -((0 : Nat) : Int) ≤ 0 + 0; omega)
  have := rnd_low (E := 0) (p := z.toNat) (up := b) h1
  omega
 have hb := nbits_rnd (p := z.toNat) b (times x.e0.q y.e0.q) (by omega)
 have htop : topq (times x.e0.q y.e0.q) ≤ 8192 := by
  have e1 : times x.e0.q y.e0.q = ofz (x.e0.q.z * y.e0.q.z) (0 + 0) := rfl
  have hne : x.e0.q.z * y.e0.q.z ≠ 0 := fun h0 => by rw [e1, h0, ofz_zero] at hm; exact hm rfl
  rw [e1, top_ofz _ hne]
  have h1 : x.e0.q.z.natAbs = x.e0.q.m := by rw [z_sg]; unfold sg; cases x.e0.q.s <;> simp
  have h2 : y.e0.q.z.natAbs = y.e0.q.m := by rw [z_sg]; unfold sg; cases y.e0.q.s <;> simp
  have h3 : nbits (x.e0.q.z * y.e0.q.z).natAbs ≤ 64 * (64 + 64) := by
   refine words_bits (k := 64 + 64) ?_
   rw [Int.natAbs_mul, h1, h2]
   exact lt_mul vx.2.1 vy.2.1
  omega
 have htr := top_rnd (p := z.toNat) b hnz
 have het := e_top hnz
 have hbits : nbits (rnd z.toNat b (times x.e0.q y.e0.q)).m ≤ 256 := by omega
 refine ⟨⟨rnd_canon _ _ _, ?_, by omega, by omega⟩, hnz, hbits, hlo, by omega⟩
 exact bits_words (k := 64) hbits (by omega)
end
section
theorem scalex_qx {r : Q} (hv : Valid r) (k : Int) : scalex (qx r) k = res (scale r k) := by
 have h1 := (qx_ok hv).1
 unfold scalex ans1
 unfold X.ok at h1
 rw [h1]
 show res (nm r.s (nval B64 (digs B64 r.m)) (r.e + k)) = _
 rw [nval_digs B64_two, nm_scale, nm_of hv.1]
theorem absx_qx {r : Q} (hv : Valid r) : absx (qx r) = r.abs := by
 have h1 := (qx_ok hv).1
 unfold absx anssign
 unfold X.ok at h1
 rw [h1]
 show (if nval B64 (digs B64 r.m) = 0 then q0 else ⟨false, nval B64 (digs B64 r.m), r.e⟩) = _
 rw [nval_digs B64_two]; rfl
theorem abs_valid {r : Q} (h : Valid r) : Valid r.abs := by
 refine ⟨abs_canon h.1, ?_⟩
 unfold Q.abs
 split
 ·exact fits0
 ·exact h.2
theorem abs_v {r : Q} (h : Valid r) (hn : r.m ≠ 0) : (qx r.abs).v = ((r.m * 2 ^ (r.e + (65536 : Nat)).toNat : Nat) : Int) := by
 unfold X.v
 rw [(qx_ok (abs_valid h)).2.2, at_sg]
 unfold Q.abs
 rw [if_neg hn]; rfl
def mg (q : Q) : Nat := q.m * 2 ^ (q.e + ((65536 + 65536 : Nat) : Int)).toNat
theorem rp_scale {r : Q} (h : Rp r) {k : Int} (h1 : -32768 ≤ k) (h2 : k ≤ 32768) : Valid (scale r k) ∧ (scale r k).m ≠ 0 := by
 rw [scale_eq k h.nz]
 refine ⟨⟨⟨fun h0 => absurd h0 h.nz, h.v.1.2⟩, h.v.2.1, ?_, ?_⟩, h.nz⟩
 ·show -65536 ≤ r.e + k; have := h.lo; omega
 ·show r.e + k ≤ 65536; have := h.hi; omega
theorem lrg_is {a b : Q} (ha : Rp a) (hb : Rp b) {i j : Int} (hi : -131072 ≤ i ∧ i ≤ 131072) (hj : -131072 ≤ j ∧ j ≤ 131072) : lrgS ⟨qx a, i⟩ ⟨qx b, j⟩ = if mg (scale a i) < mg (scale b j) then ⟨qx b, j⟩ else ⟨qx a, i⟩ := by
 unfold lrgS
 have hw : IntKind.i64.wrap (i - j) = i - j := by rw [IntKind.wrap_i64]; omega
 show (bif decide (cmpx (qx (absx (qx (scalex (qx a) (min (max (IntKind.i64.wrap (i - j)) (-32768)) 32768)).1))) (qx (absx (qx b))) < 0) then (⟨qx b, j⟩ : SX) else ⟨qx a, i⟩) = _
 rw [hw]
 obtain ⟨k, hk⟩ : ∃ k, k = min (max (i - j) (-32768)) 32768 := ⟨_, rfl⟩
 rw [← hk]
 obtain ⟨v1, n1⟩ := rp_scale ha (k := k) (by omega) (by omega)
 rw [scalex_qx ha.v, res_ok v1.2, absx_qx v1, absx_qx hb.v]
 have key : cmpx (qx (scale a k).abs) (qx b.abs) < 0 ↔ mg (scale a i) < mg (scale b j) := by
  rw [cmpx_lt (qx_ok (abs_valid v1)).1 (qx_ok (abs_valid hb.v)).1, abs_v v1 n1, abs_v hb.v hb.nz, scale_eq k ha.nz, Int.ofNat_lt]
  unfold mg
  rw [scale_eq i ha.nz, scale_eq j hb.nz]
  simp only
  have l1 := ha.lo; have l2 := hb.lo; have u1 := ha.hi; have u2 := hb.hi
  have ba := lt_of_nbits ha.bits; have bb := lt_of_nbits hb.bits
  rcases Int.lt_or_le (i - j) (-32768) with h1 | h1
  ·have e : k = -32768 := by omega
   subst e
   exact iff_of_true (pow_far ba hb.nz (by omega)) (pow_far ba hb.nz (by omega))
  ·rcases Int.lt_or_le 32768 (i - j) with h2 | h2
   ·have e : k = 32768 := by omega
    subst e
    have f1 := pow_far (a := (b.e + ((65536 : Nat) : Int)).toNat) (b := (a.e + 32768 + ((65536 : Nat) : Int)).toNat) bb ha.nz (by omega)
    have f2 := pow_far (a := (b.e + j + ((65536 + 65536 : Nat) : Int)).toNat) (b := (a.e + i + ((65536 + 65536 : Nat) : Int)).toNat) bb ha.nz (by omega)
    exact iff_of_false (Nat.lt_asymm f1) (Nat.lt_asymm f2)
   ·have e : k = i - j := by omega
    subst e
    exact pow_cmp (by omega)
 by_cases hc : mg (scale a i) < mg (scale b j)
 ·rw [if_pos hc, decide_eq_true (key.2 hc)]; rfl
 ·rw [if_neg hc, decide_eq_false (fun h => hc (key.1 h))]; rfl
section
variable {z : Int} {b : Bool} {x y u v : X}
theorem mulS_is (hz : prl z = true) (hx : x.ok = true) (hy : y.ok = true) (sx : Small B64 x.xs) (sy : Small B64 y.xs) (nx : x.q.m ≠ 0) (ny : y.q.m ≠ 0) : mulS x y z b = ⟨qx (rnd z.toNat b (times x.e0.q y.e0.q)), x.e + y.e⟩ := by
 have hr := rp_of (b := b) hz hx hy sx sy nx ny
 unfold mulS
 have h1 := (ok_arg hx sx).2; have h2 := (ok_arg hy sy).2
 have a1 : -65536 ≤ x.e := h1.2.1
 have a2 : x.e ≤ 65536 := h1.2.2
 have a3 : -65536 ≤ y.e := h2.2.1
 have a4 : y.e ≤ 65536 := h2.2.2
 rw [rmul_ok (e0_ok hx) (e0_ok hy) hz, res_ok hr.v.2, show IntKind.i64.wrap (x.e + y.e) = x.e + y.e by rw [IntKind.wrap_i64]; omega]
theorem both_is (hz : prl z = true) (hx : x.ok = true) (hy : y.ok = true) (hu : u.ok = true) (hv : v.ok = true) (sx : Small B64 x.xs) (sy : Small B64 y.xs) (su : Small B64 u.xs) (sv : Small B64 v.xs)
  (nx : x.q.m ≠ 0) (ny : y.q.m ≠ 0) (nu : u.q.m ≠ 0) (nv : v.q.m ≠ 0) : scalex (lrgS (mulS x y z b) (mulS u v z b)).x (lrgS (mulS x y z b) (mulS u v z b)).e =
   if mg (rnd z.toNat b (times x.q y.q)) < mg (rnd z.toNat b (times u.q v.q)) then res (rnd z.toNat b (times u.q v.q)) else res (rnd z.toNat b (times x.q y.q)) := by
 have h1 := rp_of (b := b) hz hx hy sx sy nx ny
 have h2 := rp_of (b := b) hz hu hv su sv nu nv
 have rg : ∀ {x y : X}, x.ok = true → y.ok = true → Small B64 x.xs → Small B64 y.xs → -131072 ≤ x.e + y.e ∧ x.e + y.e ≤ 131072 := fun {x y} hx hy sx sy => by
  have h1 := (ok_arg hx sx).2; have h2 := (ok_arg hy sy).2
  have a1 : -65536 ≤ x.e := h1.2.1
  have a2 : x.e ≤ 65536 := h1.2.2
  have a3 : -65536 ≤ y.e := h2.2.1
  have a4 : y.e ≤ 65536 := h2.2.2
  omega
 have E1 := rnd_e0 z.toNat b x y
 have E2 := rnd_e0 z.toNat b u v
 rw [mulS_is hz hx hy sx sy nx ny, mulS_is hz hu hv su sv nu nv, lrg_is h1 h2 (rg hx hy sx sy) (rg hu hv su sv), ← E1, ← E2]
 by_cases hc : mg (rnd z.toNat b (times x.q y.q)) < mg (rnd z.toNat b (times u.q v.q))
 ·rw [if_pos hc, if_pos hc, E2]; exact scalex_qx h2.v _
 ·rw [if_neg hc, if_neg hc, E1]; exact scalex_qx h1.v _
theorem v_nz {x : X} (h : x.v ≠ 0) : x.q.m ≠ 0 := fun h0 => h (by unfold X.v Q.at; rw [show x.q.z = 0 by rw [z_sg, h0]; unfold sg; cases x.q.s <;> rfl, Int.zero_mul])
theorem mg_neg {q : Q} (h : q.at (65536 + 65536) < 0) : q.at (65536 + 65536) = -(mg q : Int) := by
 rw [at_sg] at h ⊢
 cases hs : q.s
 ·rw [hs] at h
  have h2 : (0 : Int) ≤ sg false (q.m * 2 ^ (q.e + ((65536 + 65536 : Nat) : Int)).toNat) := Int.natCast_nonneg _
  omega
 ·rfl
theorem mg_pos {q : Q} (h : 0 < q.at (65536 + 65536)) : q.at (65536 + 65536) = (mg q : Int) := by
 rw [at_sg] at h ⊢
 cases hs : q.s
 ·rfl
 ·rw [hs] at h
  have h2 : sg true (q.m * 2 ^ (q.e + ((65536 + 65536 : Nat) : Int)).toNat) ≤ 0 := Int.neg_nonpos_of_nonneg (Int.natCast_nonneg _)
  omega
theorem great_both (hx : x.ok = true) (hy : y.ok = true) (hu : u.ok = true) (hv : v.ok = true) (sx : Small B64 x.xs) (sy : Small B64 y.xs) (h1 : x.v < 0) (h2 : 0 < y.v) (h3 : u.v < 0) :
  greatQ x.q y.q u.q v.q = bif decide (y.v * v.v < x.v * u.v) then times x.q u.q else times y.q v.q := by
 obtain ⟨a1, a2, a3⟩ := nX_ok hx sx
 obtain ⟨b1, b2, b3⟩ := nX_ok hy sy
 unfold greatQ leastQ
 have e1 : decide (signq (qx y.q.neg).q ≥ 0) = decide (0 ≤ (qx y.q.neg).v) := decide_eq_decide.2 sgn_ge
 have e2 : decide (signq u.q ≥ 0) = decide (0 ≤ u.v) := decide_eq_decide.2 sgn_ge
 have e3 : decide (signq (qx x.q.neg).q ≤ 0) = decide ((qx x.q.neg).v ≤ 0) := decide_eq_decide.2 sgn_le
 have e4 : decide (cmpq (times (qx x.q.neg).q u.q) (times (qx y.q.neg).q v.q) < 0) = decide ((qx x.q.neg).v * u.v < (qx y.q.neg).v * v.v) := decide_eq_decide.2 (t_lt a1 hu b1 hv)
 rw [b2, b3] at e1
 rw [a2, a3] at e3
 rw [a2, b2, a3, b3] at e4
 rw [e1, e2, e3, e4, decide_eq_false (show ¬ (0 ≤ -y.v) by omega), decide_eq_false (show ¬ (0 ≤ u.v) by omega), decide_eq_false (show ¬ (-x.v ≤ 0) by omega)]
 simp only [Bool.false_and, cond_false, Int.neg_mul, Int.neg_lt_neg_iff]
 cases decide (y.v * v.v < x.v * u.v)
 ·exact t_neg hy sy hv
 ·exact t_neg hx sx hu
end
theorem str_parts {j : J} (h : okJ j = true) (hs : strJ j = true) : j.lo.v < 0 ∧ 0 < j.hi.v := by
 rw [str_v h, Bool.and_eq_true, decide_eq_true_eq, decide_eq_true_eq] at hs; exact hs
theorem prl_pos {z : Int} (h : prl z = true) : 1 ≤ z.toNat := by
 unfold prl at h
 simp only [Bool.and_eq_true, decide_eq_true_eq] at h; omega
theorem mul_both_f {j j1 : J} {z : Int} (hg : GJ j) (hg1 : GJ j1) (ha : okJ j = true) (hb : okJ j1 = true) (hz : prl z = true) (hs : strJ j = true) (ht : strJ j1 = true) : mulE j j1 z false = res (rnd z.toNat false (leastQ j.lo.q j.hi.q j1.lo.q j1.hi.q)) := by
 obtain ⟨a1, a2, a3⟩ := okJ_parts ha
 obtain ⟨b1, b2, b3⟩ := okJ_parts hb
 obtain ⟨s1, s2⟩ := str_parts ha hs
 obtain ⟨t1, t2⟩ := str_parts hb ht
 unfold mulE
 rw [hs, ht]
 show scalex (lrgS (mulS j.lo (endX j1 j.lo false) z false) (mulS j.hi (endX j1 j.hi false) z false)).x (lrgS (mulS j.lo (endX j1 j.lo false) z false) (mulS j.hi (endX j1 j.hi false) z false)).e = _
 rw [end_f a1, end_f a2, decide_eq_true s1, decide_eq_false (show ¬ j.hi.v < 0 by omega)]
 simp only [cond_true, cond_false]
 rw [both_is hz a1 b2 a2 b1 hg.lo hg1.hi hg.hi hg1.lo (v_nz (by omega)) (v_nz (by omega)) (v_nz (by omega)) (v_nz (by omega))]
 have p1 : j.lo.v * j1.hi.v < 0 := Int.mul_neg_of_neg_of_pos s1 t2
 have p2 : j.hi.v * j1.lo.v < 0 := Int.mul_neg_of_pos_of_neg s2 t1
 have l1 := t_low a1 b2
 have l2 := t_low a2 b1
 have d1 := rnd_down (p := z.toNat) l1
 have d2 := rnd_down (p := z.toNat) l2
 rw [tv a1 b2] at d1
 rw [tv a2 b1] at d2
 have m1 := mg_neg (show (rnd z.toNat false (times j.lo.q j1.hi.q)).at (65536 + 65536) < 0 by omega)
 have m2 := mg_neg (show (rnd z.toNat false (times j.hi.q j1.lo.q)).at (65536 + 65536) < 0 by omega)
 unfold leastQ
 rw [decide_eq_decide.2 (sgn_ge (x := j.lo)), decide_eq_decide.2 (sgn_ge (x := j1.lo)), decide_eq_decide.2 (sgn_le (x := j.hi)), decide_eq_decide.2 (t_lt a2 b1 a1 b2),
  decide_eq_false (show ¬ (0 ≤ j.lo.v) by omega), decide_eq_false (show ¬ (0 ≤ j1.lo.v) by omega), decide_eq_false (show ¬ (j.hi.v ≤ 0) by omega)]
 simp only [Bool.false_and, cond_false]
 by_cases hc : j.hi.v * j1.lo.v < j.lo.v * j1.hi.v
 ·rw [decide_eq_true hc]
  have hm := rnd_mono (up := false) (prl_pos hz) l2 l1 (by rw [tv a1 b2, tv a2 b1]; omega)
  rw [m1, m2] at hm
  split
  ·rfl
  ·rename_i hn
   have e : rnd z.toNat false (times j.lo.q j1.hi.q) = rnd z.toNat false (times j.hi.q j1.lo.q) := at_inj (rnd_canon _ _ _) (rnd_canon _ _ _) (rnd_low l1) (rnd_low l2) (by rw [m1, m2]; omega)
   rw [e]; rfl
 ·rw [decide_eq_false hc]
  have hm := rnd_mono (up := false) (prl_pos hz) l1 l2 (by rw [tv a1 b2, tv a2 b1]; omega)
  rw [m1, m2] at hm
  rw [if_neg (by omega)]; rfl
theorem mul_both_t {j j1 : J} {z : Int} (hg : GJ j) (hg1 : GJ j1) (ha : okJ j = true) (hb : okJ j1 = true) (hz : prl z = true) (hs : strJ j = true) (ht : strJ j1 = true) : mulE j j1 z true = res (rnd z.toNat true (greatQ j.lo.q j.hi.q j1.lo.q j1.hi.q)) := by
 obtain ⟨a1, a2, a3⟩ := okJ_parts ha
 obtain ⟨b1, b2, b3⟩ := okJ_parts hb
 obtain ⟨s1, s2⟩ := str_parts ha hs
 obtain ⟨t1, t2⟩ := str_parts hb ht
 unfold mulE
 rw [hs, ht]
 show scalex (lrgS (mulS j.lo (endX j1 j.lo true) z true) (mulS j.hi (endX j1 j.hi true) z true)).x (lrgS (mulS j.lo (endX j1 j.lo true) z true) (mulS j.hi (endX j1 j.hi true) z true)).e = _
 rw [end_t a1, end_t a2, decide_eq_true s1, decide_eq_false (show ¬ j.hi.v < 0 by omega)]
 simp only [cond_true, cond_false]
 rw [both_is hz a1 b1 a2 b2 hg.lo hg1.lo hg.hi hg1.hi (v_nz (by omega)) (v_nz (by omega)) (v_nz (by omega)) (v_nz (by omega))]
 have p1 : 0 < j.lo.v * j1.lo.v := Int.mul_pos_of_neg_of_neg s1 t1
 have p2 : 0 < j.hi.v * j1.hi.v := Int.mul_pos s2 t2
 have l1 := t_low a1 b1
 have l2 := t_low a2 b2
 have d1 := rnd_up (p := z.toNat) l1
 have d2 := rnd_up (p := z.toNat) l2
 rw [tv a1 b1] at d1
 rw [tv a2 b2] at d2
 have m1 := mg_pos (show 0 < (rnd z.toNat true (times j.lo.q j1.lo.q)).at (65536 + 65536) by omega)
 have m2 := mg_pos (show 0 < (rnd z.toNat true (times j.hi.q j1.hi.q)).at (65536 + 65536) by omega)
 rw [great_both a1 a2 b1 b2 hg.lo hg.hi s1 s2 t1]
 by_cases hc : j.hi.v * j1.hi.v < j.lo.v * j1.lo.v
 ·rw [decide_eq_true hc]
  have hm := rnd_mono (up := true) (prl_pos hz) l2 l1 (by rw [tv a1 b1, tv a2 b2]; omega)
  rw [m1, m2] at hm
  rw [if_neg (by omega)]; rfl
 ·rw [decide_eq_false hc]
  have hm := rnd_mono (up := true) (prl_pos hz) l1 l2 (by rw [tv a1 b1, tv a2 b2]; omega)
  rw [m1, m2] at hm
  split
  ·rfl
  ·have e : rnd z.toNat true (times j.lo.q j1.lo.q) = rnd z.toNat true (times j.hi.q j1.hi.q) := at_inj (rnd_canon _ _ _) (rnd_canon _ _ _) (rnd_low l1) (rnd_low l2) (by rw [m1, m2]; omega)
   rw [e]; rfl
theorem mul_eq {j j1 : J} (hg : GJ j) (hg1 : GJ j1) (z : Int) : mulJ j j1 z = opQ 2 j j1 z := by
 unfold mulJ opQ
 rw [prl_prb]
 cases ha : okJ j <;> cases hb : okJ j1 <;> cases hz : prl z <;> try rfl
 show outJ (fun b => prX (mulE j j1 z b)) = endsQ (rnd z.toNat false (leastQ j.lo.q j.hi.q j1.lo.q j1.hi.q)) (rnd z.toNat true (greatQ j.lo.q j.hi.q j1.lo.q j1.hi.q))
 cases hs : strJ j
 ·exact out_ends (congrArg prX (mul_one_f ha hb hz hs)) (congrArg prX (mul_one_t hg ha hb hz hs))
 ·cases ht : strJ j1
  ·exact out_ends (congrArg prX (mul_two_f ha hb hz hs ht)) (congrArg prX (mul_two_t hg ha hb hz hs ht))
  ·exact out_ends (congrArg prX (mul_both_f hg hg1 ha hb hz hs ht)) (congrArg prX (mul_both_t hg hg1 ha hb hz hs ht))
end
section
theorem qx_q {x : X} (h : x.ok = true) (hs : Small B64 x.xs) : qx x.q = x := by
 obtain ⟨s, e, xs⟩ := x
 unfold qx X.q
 simp only
 congr 1
 refine digs_nval B64_two hs (fun u hu h0 => ?_)
 unfold X.ok okb at h
 simp only at h
 have hne : xs.length ≠ 0 := fun hl => by rw [List.eq_nil_of_length_eq_zero hl] at hu; cases hu
 rw [if_neg hne] at h
 simp only [Bool.and_eq_true, decide_eq_true_eq] at h
 have h1 := h.1.1.1.1
 rw [List.getLast?_eq_getElem?] at hu
 rw [getD_of hu] at h1
 exact h1 h0
theorem fits_few {q : Q} (hb : nbits q.m ≤ 256) (h1 : -65536 ≤ q.e) (h2 : q.e ≤ 65536) : Fits q :=
 ⟨bits_words (k := 64) hb (by omega), h1, h2⟩
theorem prl_two {z : Int} (h : prl z = true) : 8 ≤ z.toNat ∧ z.toNat ≤ 256 := by
 unfold prl at h
 simp only [Bool.and_eq_true, decide_eq_true_eq] at h; omega
section
variable {j : J} {z : Int}
end
end
end Go.Proofs.YtobcbhppmgnioaaGreatDoor
