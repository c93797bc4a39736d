/- The middle and the radius are the document's: numbers far from 1. -/
import Derived.Test.YtcpfepjdeikchaaGreatDoorYAj1
namespace Go.Proofs.YtcpfepjdeikchaaGreatDoor
set_option linter.unusedSimpArgs false
set_option linter.unusedVariables false
open Go.RowKit Nx
section
section
variable {E : Nat} {q a b : Q}
theorem at_abs (q : Q) : (q.at E).natAbs = q.m * 2 ^ (q.e + E).toNat := by
 rw [at_sg]
 obtain ⟨n, hn⟩ : ∃ n, n = q.m * 2 ^ (q.e + E).toNat := ⟨_, rfl⟩
 rw [← hn]; unfold sg; cases q.s <;> simp
theorem top_less (h : -(E : Int) ≤ q.e) : (q.at E).natAbs < 2 ^ (topq q + E).toNat := by
 rw [at_abs, show (topq q + E).toNat = nbits q.m + (q.e + E).toNat by unfold topq; omega, Nat.pow_add]
 exact Nat.mul_lt_mul_of_pos_right (nbits_lt q.m) (Nat.two_pow_pos _)
theorem top_ge (hn : q.m ≠ 0) (h : -(E : Int) ≤ q.e) : 2 ^ (topq q + E - 1).toNat ≤ (q.at E).natAbs := by
 have h1 := nbits_pos hn
 rw [at_abs, show (topq q + E - 1).toNat = (nbits q.m - 1) + (q.e + E).toNat by unfold topq; omega, Nat.pow_add]
 exact Nat.mul_le_mul_right _ (nbits_ge hn)
theorem top_of (h : -(E : Int) ≤ q.e) {k : Nat} (hk : 2 ^ k ≤ (q.at E).natAbs) : (k : Int) < topq q + E := by
 have h1 := Nat.lt_of_le_of_lt hk (top_less h)
 rw [Nat.pow_lt_pow_iff_right (by omega)] at h1
 omega
theorem top_of_lt (hn : q.m ≠ 0) (h : -(E : Int) ≤ q.e) {k : Nat} (hk : (q.at E).natAbs < 2 ^ k) : topq q + E ≤ k := by
 have h1 := Nat.lt_of_le_of_lt (top_ge hn h) hk
 rw [Nat.pow_lt_pow_iff_right (by omega)] at h1
 omega
theorem nz_top (hc : Canon q) (h : 0 < topq q) : q.m ≠ 0 := fun h0 => by
 rw [hc.1 h0] at h
 have : topq q0 = 0 := rfl
 omega
theorem far_sum (ha : -(E : Int) ≤ a.e) (hb : -(E : Int) ≤ b.e) {k : Nat} (hna : a.m ≠ 0) (h1 : (k : Int) + 1 < topq a + E) (h2 : topq b + E ≤ k) : 2 ^ k ≤ ((plus a b).at E).natAbs := by
 rw [at_plus ha hb]
 have g1 := top_ge hna ha
 have g2 := top_less hb
 have g3 : 2 ^ (topq b + E).toNat ≤ 2 ^ k := Nat.pow_le_pow_right (by omega) (by omega)
 have g4 : 2 ^ (k + 1) ≤ 2 ^ (topq a + E - 1).toNat := Nat.pow_le_pow_right (by omega) (by omega)
 rw [Nat.pow_succ] at g4
 omega
end
theorem top_val {q : Q} (h : Valid q) : topq q ≤ q.e + 4096 := by
 unfold topq
 have h1 : nbits q.m ≤ 64 * 64 := words_bits (k := 64) h.2.1
 omega
section
variable {j : J} {z : Int}
theorem one_raised : scalex (qx (ofz 1 0)) 32768 = (⟨false, 1, 32768⟩, 0) ∧ Valid ⟨false, 1, 32768⟩ := by
 have e1 : ofz 1 0 = ⟨false, 1, 0⟩ := nm_odd (s := false) (M := 1) (e := 0) (t := 0) ⟨(fun h => by cases h), fun _ => rfl⟩ (by omega)
 have hf : ∀ e : Int, 0 ≤ e → e ≤ 32768 → Valid ⟨false, 1, e⟩ := fun e h1 h2 => ⟨⟨(fun h => by cases h), fun _ => rfl⟩, fits_few (q := ⟨false, 1, e⟩) (by show nbits 1 ≤ 256; exact nbits_le (by decide)) (by show -65536 ≤ e; omega) (by show e ≤ 65536; omega)⟩
 refine ⟨?_, hf 32768 (by omega) (by omega)⟩
 rw [e1, scalex_qx (hf 0 (by omega) (by omega)), scale_eq _ (by show (1 : Nat) ≠ 0; omega)]
 show res ⟨false, 1, 0 + 32768⟩ = _
 exact res_ok (hf 32768 (by omega) (by omega)).2
theorem abs_atE {E : Nat} (r : Q) : r.abs.at E = ((r.at E).natAbs : Int) := by
 rw [at_abs, at_sg]
 unfold Q.abs
 by_cases h0 : r.m = 0
 ·rw [if_pos h0, h0, Nat.zero_mul]; show sg false (0 * _) = _; rw [Nat.zero_mul]; rfl
 ·rw [if_neg h0]; rfl
theorem abs_nat {r : Q} (h : Valid r) : (qx r.abs).v = ((r.at 65536).natAbs : Int) := by
 unfold X.v
 rw [(qx_ok (abs_valid h)).2.2]
 exact abs_atE r
theorem pow_at {E k n : Nat} (h : n = k + E) : (⟨false, 1, (k : Int)⟩ : Q).at E = ((2 ^ n : Nat) : Int) := by
 rw [at_sg]
 show sg false (1 * 2 ^ ((k : Int) + (E : Int)).toNat) = _
 rw [Nat.one_mul, show ((k : Int) + (E : Int)).toNat = n by omega]; rfl
theorem absx_ok {x : X} (h : x.ok = true) (hs : Small B64 x.xs) : absx x = x.q.abs := by
 have := absx_qx (ok_arg h hs)
 rwa [qx_q h hs] at this
theorem room_top (hg : GJ j) (h : okJ j = true) : (roomJ j = 0 ∧ topq j.lo.q ≤ 32768 ∧ topq j.hi.q ≤ 32768) ∨ (roomJ j = 32768 ∧ (32768 < topq j.lo.q ∨ 32768 < topq j.hi.q)) := by
 obtain ⟨a1, a2, a3⟩ := okJ_parts h
 have v1 := jlo hg h
 have v2 := jhi hg h
 have o1 := qx_ok (abs_valid v1)
 have o2 := qx_ok (abs_valid v2)
 unfold roomJ magJ
 rw [h, cond_true, one_raised.1, absx_ok a1 hg.lo, absx_ok a2 hg.hi, more_upp o1.1 o2.1]
 have hv : (uppX (qx j.lo.q.abs) (qx j.hi.q.abs)).v = max ((j.lo.q.at 65536).natAbs : Int) ((j.hi.q.at 65536).natAbs : Int) := by rw [upp_v o1.1 o2.1, abs_nat v1, abs_nat v2]
 obtain ⟨n, hn⟩ : ∃ n : Nat, n = 98304 := ⟨_, rfl⟩
 have hl : cmpx (uppX (qx j.lo.q.abs) (qx j.hi.q.abs)) (qx ⟨false, 1, 32768⟩) < 0 ↔ max ((j.lo.q.at 65536).natAbs : Int) ((j.hi.q.at 65536).natAbs : Int) < ((2 ^ n : Nat) : Int) := by
  rw [cmpx_lt (upp_ok o1.1 o2.1) (qx_ok one_raised.2).1, hv]
  have : (qx ⟨false, 1, 32768⟩).v = ((2 ^ n : Nat) : Int) := by
   unfold X.v
   rw [(qx_ok one_raised.2).2.2]
   exact pow_at (k := 32768) (by omega)
  rw [this]
 obtain ⟨P, hP⟩ : ∃ P, P = 2 ^ n := ⟨_, rfl⟩
 have e1 := ok_e a1
 have e2 := ok_e a2
 have t0 : ∀ q : Q, Canon q → -((65536 : Nat) : Int) ≤ q.e → (q.at 65536).natAbs < P → topq q ≤ 32768 := fun q hc he hlt => by
  by_cases h0 : q.m = 0
  ·rw [hc.1 h0]; show (0 : Int) ≤ 32768; omega
  ·rw [hP] at hlt; have := top_of_lt h0 he hlt; omega
 have t1 : ∀ q : Q, -((65536 : Nat) : Int) ≤ q.e → P ≤ (q.at 65536).natAbs → 32768 < topq q := fun q he hge => by
  rw [hP] at hge; have := top_of he hge; omega
 rw [← hP] at hl
 by_cases hc : cmpx (uppX (qx j.lo.q.abs) (qx j.hi.q.abs)) (qx ⟨false, 1, 32768⟩) < 0
 ·rw [decide_eq_true hc]
  have := hl.1 hc
  exact .inl ⟨rfl, t0 _ v1.1 e1 (by omega), t0 _ v2.1 e2 (by omega)⟩
 ·rw [decide_eq_false hc]
  have : ¬ _ := fun g => hc (hl.2 g)
  refine .inr ⟨rfl, ?_⟩
  rcases Nat.lt_or_ge ((j.lo.q.at 65536).natAbs) P with g | g
  ·exact .inr (t1 _ e2 (by omega))
  ·exact .inl (t1 _ e1 g)
theorem lowr_fit {x : X} (h : x.ok = true) (hs : Small B64 x.xs) (hf : Fits (scale x.q (-32768))) : lowrX x 32768 = qx (scale x.q (-32768)) := by
 unfold lowrX
 rw [show IntKind.i64.wrap (0 - 32768) = -32768 by rw [IntKind.wrap_i64]; omega, scalex_ok h hs, res_ok hf]; rfl
theorem lowr_not {x : X} (h : x.ok = true) (hs : Small B64 x.xs) (hf : ¬ Fits (scale x.q (-32768))) : lowrX x 32768 = x ∧ x.q.m ≠ 0 ∧ x.q.e < -32768 := by
 have hv := ok_arg h hs
 have hm : x.q.m ≠ 0 := fun h0 => hf (by unfold scale; rw [if_pos h0]; exact fits0)
 refine ⟨?_, hm, ?_⟩
 ·unfold lowrX
  rw [show IntKind.i64.wrap (0 - 32768) = -32768 by rw [IntKind.wrap_i64]; omega, scalex_ok h hs, res_over hf]; rfl
 ·rcases Int.lt_or_le x.q.e (-32768) with h1 | h1
  ·exact h1
  ·exfalso; apply hf
   rw [scale_eq _ hm]
   exact ⟨hv.2.1, by show -65536 ≤ x.q.e + -32768; omega, by show x.q.e + -32768 ≤ 65536; have := hv.2.2.2; omega⟩
theorem at_K {q : Q} {E k : Nat} (hk : k ≤ E) (h : -((E - k : Nat) : Int) ≤ q.e) : ∃ t : Int, q.at E = t * ((2 ^ k : Nat) : Int) := by
 refine ⟨q.at (E - k), ?_⟩
 have := at_more (E := E - k) (F := k) h
 rw [show E - k + k = E by omega] at this
 rw [this, Int.natCast_pow]; rfl
theorem side_small {p : Nat} (hp : 8 ≤ p ∧ p ≤ 256) {a d : Q} (va : Valid a) (vd : Valid d) (h1 : 32768 < topq a) (hd : d.m ≠ 0) (hde : d.e < -32768) :
  rnd p false (plus (scale a (-32768)) d) = rnd p false (plus (scale a (-32768)) (scale d (-32768))) := by
 have hna : a.m ≠ 0 := nz_top va.1 (by omega)
 have ta := top_val va
 have td := top_val vd
 have la : -((131072 : Nat) : Int) ≤ (scale a (-32768)).e := by rw [scale_eq _ hna]; show _ ≤ a.e + -32768; omega
 have ld : -((131072 : Nat) : Int) ≤ d.e := by have := vd.2.2.1; omega
 have ld' : -((131072 : Nat) : Int) ≤ (scale d (-32768)).e := by rw [scale_eq _ hd]; show _ ≤ d.e + -32768; have := vd.2.2.1; omega
 have tsa : topq (scale a (-32768)) = topq a - 32768 := by rw [scale_eq _ hna]; unfold topq; simp only; omega
 have tsd : topq (scale d (-32768)) = topq d - 32768 := by rw [scale_eq _ hd]; unfold topq; simp only; omega
 have hnsa : (scale a (-32768)).m ≠ 0 := by rw [scale_m _ hna]; exact hna
 obtain ⟨n, hn⟩ : ∃ n : Nat, n = 126976 := ⟨_, rfl⟩
 obtain ⟨n2, hn2⟩ : ∃ n : Nat, n = 131070 := ⟨_, rfl⟩
 have mult : ∀ d : Q, -((131072 : Nat) : Int) ≤ d.e → topq d ≤ -28000 → ∃ t : Int, (rnd p false (plus (scale a (-32768)) d)).at 131072 = t * ((2 ^ n : Nat) : Int) := fun d hld htd => by
  have hs := far_sum (E := 131072) (k := n2) la hld hnsa (by omega) (by omega)
  have lp := low_plus la hld
  have ht := top_of lp hs
  have hn : (plus (scale a (-32768)) d).m ≠ 0 := fun h0 => by
   rw [at_abs, h0, Nat.zero_mul] at hs
   have := Nat.two_pow_pos n2; omega
  rcases top_low (p := p) (up := false) hn with h2 | h2
  ·exact at_K (k := n) (by omega) (by omega)
  ·rw [h2, at0]; exact ⟨0, by rw [Int.zero_mul]⟩
 have small : ∀ d : Q, -((131072 : Nat) : Int) ≤ d.e → topq d ≤ -28000 → d.at 131072 < ((2 ^ n : Nat) : Int) ∧ -((2 ^ n : Nat) : Int) < d.at 131072 := fun d hld htd => by
  have g1 := top_less hld
  have g2 : 2 ^ (topq d + ((131072 : Nat) : Int)).toNat ≤ 2 ^ n := Nat.pow_le_pow_right (by omega) (by omega)
  obtain ⟨P, hP⟩ : ∃ P, P = 2 ^ n := ⟨_, rfl⟩
  rw [← hP] at g2 ⊢
  omega
 have sgn : (0 < d.at 131072 ∧ 0 < (scale d (-32768)).at 131072) ∨ (d.at 131072 < 0 ∧ (scale d (-32768)).at 131072 < 0) := by
  rw [scale_eq _ hd, at_sg, at_sg]
  show (0 < sg d.s _ ∧ 0 < sg d.s (d.m * _)) ∨ (sg d.s _ < 0 ∧ sg d.s (d.m * _) < 0)
  have p1 := Nat.mul_pos (Nat.pos_of_ne_zero hd) (Nat.two_pow_pos (d.e + ((131072 : Nat) : Int)).toNat)
  have p2 := Nat.mul_pos (Nat.pos_of_ne_zero hd) (Nat.two_pow_pos (d.e + -32768 + ((131072 : Nat) : Int)).toNat)
  unfold sg
  cases d.s
  ·left; simp only [Bool.false_eq_true, if_false]; omega
  ·right; simp only [if_true]; omega
 refine near_same (E := 131072) (K := 2 ^ n) (by omega) la ld ld' ?_ ?_ (small d ld (by omega)) (small _ ld' (by omega)) sgn
 ·rintro r (rfl | rfl)
  ·exact mult d ld (by omega)
  ·exact mult _ ld' (by omega)
 ·refine at_K (k := n) (by omega) ?_
  rw [scale_eq _ hna]; show _ ≤ a.e + -32768; omega
theorem far_val (hg : GJ j) (h : okJ j = true) (hz : prl z = true) (ht : 32768 < topq j.lo.q ∨ 32768 < topq j.hi.q) : (lowrX j.lo 32768).ok = true ∧ (lowrX j.hi 32768).ok = true ∧ rnd z.toNat false (plus (lowrX j.lo 32768).q (lowrX j.hi 32768).q) = scale (sumQ j z) (-32768) := by
 obtain ⟨a1, a2, a3⟩ := okJ_parts h
 have v1 := jlo hg h
 have v2 := jhi hg h
 have hp := prl_two hz
 have all : rnd z.toNat false (plus (scale j.lo.q (-32768)) (scale j.hi.q (-32768))) = scale (sumQ j z) (-32768) := by
  have := plus_scale 32768 (ok_e a1) (ok_e a2)
  rw [show (-((32768 : Nat) : Int)) = -32768 from rfl] at this
  rw [this, rnd_scaled]; rfl
 have big : ∀ x : X, Valid x.q → 32768 < topq x.q → Fits (scale x.q (-32768)) := fun x hv ht => by
  have hn := nz_top hv.1 (by omega)
  have := top_val hv
  rw [scale_eq _ hn]
  exact ⟨hv.2.1, by show -65536 ≤ x.q.e + -32768; omega, by show x.q.e + -32768 ≤ 65536; have := hv.2.2.2; omega⟩
 by_cases f1 : Fits (scale j.lo.q (-32768))
 ·have w1 : Valid (scale j.lo.q (-32768)) := ⟨scale_canon v1.1 _, f1⟩
  by_cases f2 : Fits (scale j.hi.q (-32768))
  ·have w2 : Valid (scale j.hi.q (-32768)) := ⟨scale_canon v2.1 _, f2⟩
   rw [lowr_fit a1 hg.lo f1, lowr_fit a2 hg.hi f2]
   exact ⟨(qx_ok w1).1, (qx_ok w2).1, by rw [(qx_ok w1).2.2, (qx_ok w2).2.2]; exact all⟩
  ·obtain ⟨e2, n2, l2⟩ := lowr_not a2 hg.hi f2
   have htl : 32768 < topq j.lo.q := by
    rcases ht with ht | ht
    ·exact ht
    ·exact absurd (big _ v2 ht) f2
   rw [lowr_fit a1 hg.lo f1, e2]
   exact ⟨(qx_ok w1).1, a2, by rw [(qx_ok w1).2.2, side_small hp v1 v2 htl n2 l2]; exact all⟩
 ·obtain ⟨e1, n1, l1⟩ := lowr_not a1 hg.lo f1
  have hth : 32768 < topq j.hi.q := by
   rcases ht with ht | ht
   ·exact absurd (big _ v1 ht) f1
   ·exact ht
  have f2 := big _ v2 hth
  have w2 : Valid (scale j.hi.q (-32768)) := ⟨scale_canon v2.1 _, f2⟩
  rw [lowr_fit a2 hg.hi f2, e1]
  exact ⟨a1, (qx_ok w2).1, by rw [(qx_ok w2).2.2, plus_comm, side_small hp v2 v1 hth n1 l1, plus_comm]; exact all⟩
theorem far_fits (hg : GJ j) (h : okJ j = true) (hz : prl z = true) (ht : 32768 < topq j.lo.q ∨ 32768 < topq j.hi.q) : Fits (scale (sumQ j z) (-32768)) ∧ Fits (scale (sumQ j z) (-32769)) := by
 obtain ⟨a1, a2, a3⟩ := okJ_parts h
 have v1 := jlo hg h
 have v2 := jhi hg h
 have hp := prl_two hz
 by_cases h0 : (sumQ j z).m = 0
 ·unfold scale; rw [if_pos h0, if_pos h0]; exact ⟨fits0, fits0⟩
 have hhi := sum_top (z := z) (B := 69632) (top_valid v1) (top_valid v2) (by omega) hg h
 have key : -32767 ≤ (sumQ j z).e := by
  have one : ∀ a d : Q, Valid a → Valid d → 32768 < topq a → -32767 ≤ (rnd z.toNat false (plus a d)).e ∨ rnd z.toNat false (plus a d) = q0 := fun a d va vd hta => by
   have hna := nz_top va.1 (by omega)
   have tva := top_val va
   have tvd := top_val vd
   rcases Int.lt_or_le d.e (-32767) with g | g
   ·have la : -((65536 : Nat) : Int) ≤ a.e := by have := va.2.2.1; omega
    have ld : -((65536 : Nat) : Int) ≤ d.e := by have := vd.2.2.1; omega
    obtain ⟨n2, hn2⟩ : ∃ n : Nat, n = 98302 := ⟨_, rfl⟩
    have hs := far_sum (E := 65536) (k := n2) la ld hna (by omega) (by omega)
    have ht := top_of (low_plus la ld) hs
    have hn : (plus a d).m ≠ 0 := fun h0 => by
     rw [at_abs, h0, Nat.zero_mul] at hs
     have := Nat.two_pow_pos n2; omega
    rcases top_low (p := z.toNat) (up := false) hn with h2 | h2
    ·left; omega
    ·exact .inr h2
   ·left
    have := rnd_low (E := 32767) (p := z.toNat) (up := false) (low_plus (a := a) (b := d) (E := 32767) (by omega) (by omega))
    omega
  rcases ht with ht | ht
  ·rcases one _ _ v1 v2 ht with h1 | h1
   ·exact h1
   ·have h1 : sumQ j z = q0 := h1
    rw [h1] at h0; exact absurd rfl h0
  ·rcases one _ _ v2 v1 ht with h1 | h1
   ·rw [plus_comm] at h1; exact h1
   ·rw [plus_comm] at h1
    have h1 : sumQ j z = q0 := h1
    rw [h1] at h0; exact absurd rfl h0
 rw [scale_eq _ h0, scale_eq _ h0]
 exact ⟨fits_few (sum_bits hz) (by show -65536 ≤ (sumQ j z).e + -32768; omega) (by show (sumQ j z).e + -32768 ≤ 65536; omega), fits_few (sum_bits hz) (by show -65536 ≤ (sumQ j z).e + -32769; omega) (by show (sumQ j z).e + -32769 ≤ 65536; omega)⟩
theorem far_cmp (hg : GJ j) (h : okJ j = true) (hz : prl z = true) (ht : 32768 < topq j.lo.q ∨ 32768 < topq j.hi.q) : cmpq (scale (sumQ j z) (-32769)) (lowrX j.lo 32768).q < 0 ↔ cmpq (scale (sumQ j z) (-1)) j.lo.q < 0 := by
 obtain ⟨a1, a2, a3⟩ := okJ_parts h
 have v1 := jlo hg h
 have v2 := jhi hg h
 have hp := prl_two hz
 have ls := sum_low (z := z) hg h
 by_cases f1 : Fits (scale j.lo.q (-32768))
 ·rw [lowr_fit a1 hg.lo f1, (qx_ok ⟨scale_canon v1.1 _, f1⟩).2.2]
  have e1 : scale (sumQ j z) (-32769) = scale (scale (sumQ j z) (-1)) (-((32768 : Nat) : Int)) := by rw [scale_add]; rfl
  have l1 : -((65537 : Nat) : Int) ≤ (scale (sumQ j z) (-1)).e := scale_low (E := 65536) 1 (by omega)
  rw [e1]
  have := cmp_scale 32768 l1 (show -((65537 : Nat) : Int) ≤ j.lo.q.e by have := ok_e a1; omega)
  rw [show (-((32768 : Nat) : Int)) = -32768 from rfl] at this ⊢
  rw [this]
 ·obtain ⟨e1, n1, l1⟩ := lowr_not a1 hg.lo f1
  rw [e1]
  have tl := top_val v1
  have hth : 32768 < topq j.hi.q := by
   rcases ht with ht | ht
   ·omega
   ·exact ht
  have hnh := nz_top v2.1 (show 0 < topq j.hi.q by omega)
  have q1 := ok_e a1
  have q2 := ok_e a2
  have gh := top_ge (E := 65536) hnh q2
  have gl := top_less (E := 65536) q1
  have hle := jv hg h
  obtain ⟨m1, hm1⟩ : ∃ n : Nat, n = 98304 := ⟨_, rfl⟩
  obtain ⟨m2, hm2⟩ : ∃ n : Nat, n = 98303 := ⟨_, rfl⟩
  obtain ⟨m3, hm3⟩ : ∃ n : Nat, n = 40960 := ⟨_, rfl⟩
  have P1 : 2 ^ m1 ≤ 2 ^ (topq j.hi.q + ((65536 : Nat) : Int) - 1).toNat := Nat.pow_le_pow_right (by omega) (by omega)
  have P2 : 2 ^ (topq j.lo.q + ((65536 : Nat) : Int)).toNat ≤ 2 ^ m3 := Nat.pow_le_pow_right (by omega) (by omega)
  have hS : ((2 ^ m2 : Nat) : Int) ≤ (sumQ j z).at 65536 := by
   have hr : (⟨false, 1, 32767⟩ : Q).at 65536 = ((2 ^ m2 : Nat) : Int) := pow_at (k := 32767) (by omega)
   rw [← hr]
   refine rnd_low_best (by omega) (show nbits 1 ≤ z.toNat from Nat.le_trans (nbits_le (k := 1) (by decide)) (by omega)) (low_plus q1 q2) ?_
   rw [hr, at_plus q1 q2]
   have P3 : 2 ^ m1 = 2 ^ m2 + 2 ^ m2 := by rw [show m1 = m2 + 1 by omega, Nat.pow_succ]; omega
   have P4 : 2 ^ m3 ≤ 2 ^ m2 := Nat.pow_le_pow_right (by omega) (by omega)
   obtain ⟨x1, hx1⟩ : ∃ x, x = 2 ^ m1 := ⟨_, rfl⟩
   obtain ⟨x2, hx2⟩ : ∃ x, x = 2 ^ m2 := ⟨_, rfl⟩
   obtain ⟨x3, hx3⟩ : ∃ x, x = 2 ^ m3 := ⟨_, rfl⟩
   rw [← hx1] at P1 P3
   rw [← hx2] at P3 P4 ⊢
   rw [← hx3] at P2 P4
   omega
  have go : ∀ n : Nat, n ≤ 40000 → ¬ cmpq (scale (sumQ j z) (-(n : Int))) j.lo.q < 0 := fun n hn hc => by
   have l3 : -((65536 + n : Nat) : Int) ≤ (scale (sumQ j z) (-(n : Int))).e := scale_low (E := 65536) n (by omega)
   rw [cmpq_at l3 (show -((65536 + n : Nat) : Int) ≤ j.lo.q.e by omega), scale_at] at hc
   have hlt : (sumQ j z).at 65536 < j.lo.q.at (65536 + n) := by
    split at hc
    ·assumption
    ·split at hc <;> omega
   have g := top_less (E := 65536 + n) (q := j.lo.q) (by omega)
   have P5 : 2 ^ (topq j.lo.q + ((65536 + n : Nat) : Int)).toNat ≤ 2 ^ m2 := Nat.pow_le_pow_right (by omega) (by omega)
   obtain ⟨x2, hx2⟩ : ∃ x, x = 2 ^ m2 := ⟨_, rfl⟩
   rw [← hx2] at P5 hS
   omega
  exact iff_of_false (go 32769 (by omega)) (go 1 (by omega))
theorem mid_eq (hg : GJ j) (z : Int) : midX j z = rmid j z := by
 cases h : okJ j
 ·unfold midX rmid; rw [h]; rfl
 cases hz : prl z
 ·unfold midX rmid; rw [prl_prb, h, hz]; rfl
 rcases room_top hg h with ⟨hr, t1, t2⟩ | ⟨hr, ht⟩
 ·exact mid_zero hg h hz hr (by have := sum_top (z := z) t1 t2 (by omega) hg h; omega)
 ·obtain ⟨a1, a2, a3⟩ := okJ_parts h
  obtain ⟨o1, o2, hv⟩ := far_val hg h hz ht
  obtain ⟨f1, f2⟩ := far_fits hg h hz ht
  unfold midX rmid mid1
  rw [prl_prb, h, hz, hr, mid_val hg h]
  have e1 : rtwo (gadd z false) z (lowrX j.lo 32768) (lowrX j.hi 32768) = (scale (sumQ j z) (-32768), 0) := by
   rw [rtwo_ok o1 o2 hz]
   show res (rnd z.toNat false (plus _ _)) = _
   rw [hv]; exact res_ok f1
  have w1 : Valid (scale (sumQ j z) (-32768)) := ⟨scale_canon sum_canon _, f1⟩
  have w2 : Valid (scale (sumQ j z) (-32769)) := ⟨scale_canon sum_canon _, f2⟩
  rw [e1, scalex_qx w1, scale_add, show (-32768 : Int) + -1 = -32769 from rfl, res_ok f2]
  simp only [Bool.and_self, Bool.not_true, Bool.or_self, cond_true, cond_false]
  rw [cmpx_q (qx_ok w2).1 o1, (qx_ok w2).2.2, scalex_qx w2, scale_add, show (-32769 : Int) + 32768 = -1 from rfl, decide_eq_decide.2 (far_cmp hg h hz ht)]
  rfl
end
end
section

end
section
def pw (q : Q) : Nat → Q
 | 0 => ofz 1 0
 | k + 1 => times (pw q k) q
end
end Go.Proofs.YtcpfepjdeikchaaGreatDoor
