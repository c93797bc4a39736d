/- Numbers by a power of two: bounds of sums and products, the laws of a ring. No program. Rounding to so many bits, quotients rounded: numbers alone. No program. -/
import Derived.Test.YtobcbhppmgnioaaGreatDoorSNumPR
namespace Go.Proofs.YtobcbhppmgnioaaGreatDoor
section
open Nx
def Bd (k : Nat) (q : Q) : Prop := q.m < 2 ^ k ∧ -(k : Int) ≤ q.e ∧ q.e ≤ k
theorem Bd.mono {k l : Nat} {q : Q} (h : Bd k q) (hl : k ≤ l) : Bd l q :=
 ⟨Nat.lt_of_lt_of_le h.1 (Nat.pow_le_pow_right (by omega) hl), by have := h.2.1; omega, by have := h.2.2; omega⟩
theorem bd_ofz {i j : Nat} {Z e : Int} (hZ : Z.natAbs < 2 ^ j) (h1 : -(i : Int) ≤ e) (h2 : e ≤ i) : Bd (i + j) (ofz Z e) := by
 unfold ofz
 by_cases h0 : Z.natAbs = 0
 ·rw [h0, nm_zero]
  exact ⟨Nat.pow_pos (by omega), by show -((i + j : Nat) : Int) ≤ 0; omega, by show (0 : Int) ≤ ((i + j : Nat) : Int); omega⟩
 ·have hz := ntz_lt h0 hZ
  have e1 : nm (decide (Z < 0)) Z.natAbs e = ⟨decide (Z < 0), Z.natAbs / 2 ^ ntz Z.natAbs, e + ntz Z.natAbs⟩ := by unfold nm; rw [if_neg h0]
  rw [e1]
  refine ⟨Nat.lt_of_le_of_lt (Nat.div_le_self _ _) (Nat.lt_of_lt_of_le hZ (Nat.pow_le_pow_right (by omega) (by omega))), ?_, ?_⟩
  ·show -((i + j : Nat) : Int) ≤ e + ntz Z.natAbs; omega
  ·show e + ntz Z.natAbs ≤ ((i + j : Nat) : Int); omega
theorem bd_plus {k : Nat} {a b : Q} (ha : Bd k a) (hb : Bd k b) : Bd (k + (3 * k + 1)) (plus a b) := by
 obtain ⟨a1, a2, a3⟩ := ha
 obtain ⟨b1, b2, b3⟩ := hb
 have l1 : (a.e - lowe a b).toNat ≤ 2 * k := by unfold lowe; omega
 have l2 : (b.e - lowe a b).toNat ≤ 2 * k := by unfold lowe; omega
 refine bd_ofz ?_ (by unfold lowe; omega) (by unfold lowe; omega)
 refine Nat.lt_of_le_of_lt (Int.natAbs_add_le _ _) ?_
 rw [up_abs, up_abs]
 have p1 : a.m * 2 ^ (a.e - lowe a b).toNat < 2 ^ (3 * k) := by
  have : 2 ^ (a.e - lowe a b).toNat ≤ 2 ^ (2 * k) := Nat.pow_le_pow_right (by omega) l1
  rw [show 3 * k = k + 2 * k by omega, Nat.pow_add]
  exact Nat.lt_of_lt_of_le (Nat.mul_lt_mul_of_pos_right a1 (Nat.pow_pos (by omega))) (Nat.mul_le_mul_left _ this)
 have p2 : b.m * 2 ^ (b.e - lowe a b).toNat < 2 ^ (3 * k) := by
  have : 2 ^ (b.e - lowe a b).toNat ≤ 2 ^ (2 * k) := Nat.pow_le_pow_right (by omega) l2
  rw [show 3 * k = k + 2 * k by omega, Nat.pow_add]
  exact Nat.lt_of_lt_of_le (Nat.mul_lt_mul_of_pos_right b1 (Nat.pow_pos (by omega))) (Nat.mul_le_mul_left _ this)
 rw [Nat.pow_succ]; omega
theorem bd_times {k : Nat} {a b : Q} (ha : Bd k a) (hb : Bd k b) : Bd (2 * k + 2 * k) (times a b) := by
 obtain ⟨a1, a2, a3⟩ := ha
 obtain ⟨b1, b2, b3⟩ := hb
 refine bd_ofz ?_ (by omega) (by omega)
 rw [Int.natAbs_mul]
 have h1 : ∀ q : Q, q.z.natAbs = q.m := fun q => by unfold Q.z; cases q.s <;> simp
 rw [h1, h1, show 2 * k = k + k by omega, Nat.pow_add]
 exact Nat.mul_lt_mul'' a1 b1
theorem Bd.fits {k : Nat} {q : Q} (h : Bd k q) (hk : k ≤ 4096) : Fits q := by
 obtain ⟨F, hF⟩ : ∃ F : Nat, F = 64 := ⟨_, rfl⟩
 refine ⟨?_, by have := h.2.1; omega, by have := h.2.2; omega⟩
 rw [← hF, pow64]
 exact Nat.lt_of_lt_of_le h.1 (Nat.pow_le_pow_right (by omega) (by omega))
section
variable {a b c : Q} {E : Nat}
end
end
section
open Nx
theorem nbits_up {M : Nat} (h : M ≠ 0) (k : Nat) : nbits (M * 2 ^ k) = nbits M + k := by
 refine nbits_of ?_ fun _ => ?_
 ·rw [Nat.pow_add]; exact Nat.mul_lt_mul_of_pos_right (nbits_lt M) (Nat.two_pow_pos k)
 ·have h1 := nbits_ge h
  have h2 := nbits_pos h
  rw [show nbits M + k - 1 = nbits M - 1 + k by omega, Nat.pow_add]
  exact Nat.mul_le_mul_right _ h1
theorem nbits_down (M k : Nat) : nbits (M / 2 ^ k) = nbits M - k := by
 induction k with
 | zero => simp
 | succ k ih =>
  rw [Nat.pow_succ, ← Nat.div_div_eq_div_mul]
  by_cases h : M / 2 ^ k = 0
  ·rw [h] at ih ⊢
   rw [nbits_zero] at ih
   show nbits 0 = _
   rw [nbits_zero]; omega
  ·have := nbits_half h
   omega
theorem lt_of_nbits {M k : Nat} (h : nbits M ≤ k) : M < 2 ^ k := Nat.lt_of_lt_of_le (nbits_lt M) (Nat.pow_le_pow_right (by omega) h)
def rndm (M p : Nat) (aw : Bool) : Nat := M / 2 ^ (nbits M - p) + (if M % 2 ^ (nbits M - p) ≠ 0 ∧ aw = true then 1 else 0)
def rnd (p : Nat) (up : Bool) (q : Q) : Q := nm q.s (rndm q.m p (q.s != up)) (q.e + ((nbits q.m - p : Nat) : Int))
theorem rnd_canon (p : Nat) (up : Bool) (q : Q) : Canon (rnd p up q) := nm_canon _ _ _
theorem rndm_zero (p : Nat) (aw : Bool) : rndm 0 p aw = 0 := by unfold rndm; simp
theorem rnd_zero (p : Nat) (up s : Bool) (e : Int) : rnd p up ⟨s, 0, e⟩ = q0 := by unfold rnd; rw [rndm_zero, nm_zero]
theorem rndm_few {M p : Nat} {aw : Bool} (h : nbits M ≤ p) : rndm M p aw = M := by
 unfold rndm
 rw [show nbits M - p = 0 by omega]
 simp [Nat.mod_one]
theorem rnd_few {p : Nat} {up s : Bool} {M : Nat} {e : Int} (h : nbits M ≤ p) : rnd p up ⟨s, M, e⟩ = nm s M e := by
 unfold rnd
 show nm s (rndm M p _) (e + ((nbits M - p : Nat) : Int)) = _
 rw [rndm_few h, show nbits M - p = 0 by omega]
 simp
theorem rnd_id {p : Nat} {up : Bool} {q : Q} (hc : Canon q) (h : nbits q.m ≤ p) : rnd p up q = q := by
 have : rnd p up ⟨q.s, q.m, q.e⟩ = nm q.s q.m q.e := rnd_few h
 rw [nm_of hc] at this
 exact this
theorem rnd_shift (p : Nat) (up s : Bool) (M : Nat) (e : Int) (k : Nat) : rnd p up ⟨s, M * 2 ^ k, e - k⟩ = rnd p up ⟨s, M, e⟩ := by
 by_cases h0 : M = 0
 ·subst h0; rw [Nat.zero_mul, rnd_zero, rnd_zero]
 ·unfold rnd
  show nm s (rndm (M * 2 ^ k) p (s != up)) (e - k + ((nbits (M * 2 ^ k) - p : Nat) : Int)) = nm s (rndm M p (s != up)) (e + ((nbits M - p : Nat) : Int))
  have hb := nbits_up h0 k
  rcases Nat.lt_or_ge (nbits M) p with hp | hp
  ·rw [rndm_few (by omega : nbits M ≤ p), show nbits M - p = 0 by omega]
   obtain ⟨j, hj⟩ : ∃ j, j = nbits M + k - p := ⟨_, rfl⟩
   have hjk : j ≤ k := by omega
   have e1 : M * 2 ^ k = M * 2 ^ (k - j) * 2 ^ j := by rw [Nat.mul_assoc, ← Nat.pow_add]; congr 2; omega
   have e2 : rndm (M * 2 ^ k) p (s != up) = M * 2 ^ (k - j) := by
    unfold rndm
    rw [hb, ← hj, e1, Nat.mul_div_cancel _ (Nat.two_pow_pos j), Nat.mul_mod_left]
    simp
   rw [e2, hb, ← hj]
   have := nm_shift s M e (k - j)
   rw [show e - (k : Int) + (j : Int) = e - ((k - j : Nat) : Int) by omega, this]
   simp
  ·have e1 : nbits M + k - p = nbits M - p + k := by omega
   have e2 : rndm (M * 2 ^ k) p (s != up) = rndm M p (s != up) := by
    unfold rndm
    rw [hb, e1, Nat.pow_add, Nat.mul_div_mul_right _ _ (Nat.two_pow_pos k), Nat.mul_mod_mul_right]
    have : (M % 2 ^ (nbits M - p) * 2 ^ k ≠ 0) ↔ (M % 2 ^ (nbits M - p) ≠ 0) := by
     have := Nat.two_pow_pos k
     rw [Nat.mul_ne_zero_iff]
     constructor
     ·intro h; exact h.1
     ·intro h; exact ⟨h, by omega⟩
    simp only [this]
   rw [e2, hb, e1]
   congr 1
   omega
theorem rnd_nm (p : Nat) (up s : Bool) (M : Nat) (e : Int) : rnd p up (nm s M e) = rnd p up ⟨s, M, e⟩ := by
 by_cases h0 : M = 0
 ·subst h0; rw [nm_zero, rnd_zero]; exact rnd_zero p up false 0
 ·have e1 : nm s M e = ⟨s, M / 2 ^ ntz M, e + ntz M⟩ := by unfold nm; rw [if_neg h0]
  rw [e1, ← rnd_shift p up s (M / 2 ^ ntz M) (e + ntz M) (ntz M), ← (odd_part h0).1]
  congr 2
  omega
theorem rndm_le (M p : Nat) : rndm M p false * 2 ^ (nbits M - p) ≤ M := by
 unfold rndm
 simp
 exact Nat.div_mul_le_self _ _
theorem rndm_ge (M p : Nat) : M ≤ rndm M p true * 2 ^ (nbits M - p) := by
 unfold rndm
 have h := Nat.div_add_mod M (2 ^ (nbits M - p))
 have h2 := Nat.mod_lt M (Nat.two_pow_pos (nbits M - p))
 by_cases h0 : M % 2 ^ (nbits M - p) = 0
 ·rw [if_neg (by simp [h0]), Nat.add_zero]
  rw [h0, Nat.mul_comm] at h
  omega
 ·rw [if_pos ⟨h0, rfl⟩, Nat.add_mul, Nat.mul_comm (M / _), Nat.one_mul]
  omega
theorem rndm_top (M p : Nat) (aw : Bool) : rndm M p aw ≤ 2 ^ p := by
 have h1 : M / 2 ^ (nbits M - p) < 2 ^ p := lt_of_nbits (by rw [nbits_down]; omega)
 unfold rndm
 split <;> omega
theorem nm_m_le (s : Bool) (N : Nat) (e : Int) : (nm s N e).m ≤ N := by
 unfold nm
 split
 ·exact Nat.zero_le _
 ·exact Nat.div_le_self _ _
theorem nbits_nm {s : Bool} {N p : Nat} {e : Int} (hp : 1 ≤ p) (h : N ≤ 2 ^ p) : nbits (nm s N e).m ≤ p := by
 rcases Nat.lt_or_ge N (2 ^ p) with h1 | h1
 ·exact nbits_le (Nat.lt_of_le_of_lt (nm_m_le s N e) h1)
 ·have e1 : N = 1 * 2 ^ p := by omega
  have e2 := nm_shift s 1 (e + p) p
  rw [← e1, show e + (p : Int) - (p : Int) = e by omega] at e2
  rw [e2]
  refine Nat.le_trans (nbits_le (k := 1) ?_) hp
  exact Nat.lt_of_le_of_lt (nm_m_le s 1 _) (by decide)
theorem nbits_rnd {p : Nat} (up : Bool) (q : Q) (hp : 1 ≤ p) : nbits (rnd p up q).m ≤ p := nbits_nm hp (rndm_top _ _ _)
def sg (s : Bool) (M : Nat) : Int := if s then -(M : Int) else (M : Int)
theorem sg_le {s : Bool} {M N : Nat} (h : M ≤ N) : if s then sg s N ≤ sg s M else sg s M ≤ sg s N := by
 unfold sg; cases s <;> simp <;> omega
theorem nm_atE {E : Nat} (s : Bool) (M : Nat) (e : Int) (h : -(E : Int) ≤ e) : (nm s M e).at E = sg s M * 2 ^ (e + E).toNat := by
 rw [nm_ofz, at_ofz h]; rfl
theorem nm_low {E : Nat} (s : Bool) (M : Nat) (e : Int) (h : -(E : Int) ≤ e) : -(E : Int) ≤ (nm s M e).e := by
 rw [nm_ofz]; exact ofz_low h
theorem z_sg (q : Q) : q.z = sg q.s q.m := rfl
theorem sg_mul (s : Bool) (M N : Nat) : sg s (M * N) = sg s M * (N : Int) := by unfold sg; cases s <;> simp [Int.natCast_mul, Int.neg_mul]
theorem rnd_at {E p : Nat} {up : Bool} {q : Q} (h : -(E : Int) ≤ q.e) : (rnd p up q).at E = sg q.s (rndm q.m p (q.s != up) * 2 ^ (nbits q.m - p)) * 2 ^ (q.e + E).toNat := by
 unfold rnd
 rw [nm_atE _ _ _ (by omega), sg_mul, Int.mul_assoc]
 congr 1
 rw [show (q.e + ((nbits q.m - p : Nat) : Int) + (E : Int)).toNat = (nbits q.m - p) + (q.e + E).toNat by omega, Int.pow_add, Int.natCast_pow]
 rfl
theorem rnd_low {E p : Nat} {up : Bool} {q : Q} (h : -(E : Int) ≤ q.e) : -(E : Int) ≤ (rnd p up q).e := nm_low _ _ _ (by omega)
theorem rnd_down {E p : Nat} {q : Q} (h : -(E : Int) ≤ q.e) : (rnd p false q).at E ≤ q.at E := by
 rw [rnd_at h]
 unfold Q.at
 rw [z_sg]
 refine Int.mul_le_mul_of_nonneg_right ?_ (Int.le_of_lt (pow_posZ _))
 have h1 := rndm_le q.m p; have h2 := rndm_ge q.m p
 cases hs : q.s
 ·have := sg_le (s := false) h1
  simpa using this
 ·have := sg_le (s := true) h2
  simpa using this
theorem rnd_up {E p : Nat} {q : Q} (h : -(E : Int) ≤ q.e) : q.at E ≤ (rnd p true q).at E := by
 rw [rnd_at h]
 unfold Q.at
 rw [z_sg]
 refine Int.mul_le_mul_of_nonneg_right ?_ (Int.le_of_lt (pow_posZ _))
 have h1 := rndm_le q.m p; have h2 := rndm_ge q.m p
 cases hs : q.s
 ·have := sg_le (s := false) h2
  simpa using this
 ·have := sg_le (s := true) h1
  simpa using this
theorem cmp_le {a b : Q} {E : Nat} (h1 : -(E : Int) ≤ a.e) (h2 : -(E : Int) ≤ b.e) : cmpq a b ≤ 0 ↔ a.at E ≤ b.at E := by
 rw [cmpq_at h1 h2]
 by_cases c1 : a.at E < b.at E
 ·rw [if_pos c1]; omega
 ·rw [if_neg c1]
  by_cases c2 : b.at E < a.at E
  ·rw [if_pos c2]; omega
  ·rw [if_neg c2]; omega
theorem cmp_ge {a b : Q} {E : Nat} (h1 : -(E : Int) ≤ a.e) (h2 : -(E : Int) ≤ b.e) : 0 ≤ cmpq a b ↔ b.at E ≤ a.at E := by
 rw [cmpq_at h1 h2]
 by_cases c1 : a.at E < b.at E
 ·rw [if_pos c1]; omega
 ·rw [if_neg c1]
  by_cases c2 : b.at E < a.at E
  ·rw [if_pos c2]; omega
  ·rw [if_neg c2]; omega
def stk (X b : Nat) : Nat := 2 * (X / b) + (if X % b ≠ 0 then 1 else 0)
def ratk (p : Nat) (x y : Q) : Nat := p + nbits y.m - nbits x.m
def ratq (p : Nat) (up : Bool) (x y : Q) : Q := if x.m = 0 then q0 else rnd p up ⟨x.s != y.s, stk (x.m * 2 ^ ratk p x y) y.m, x.e - y.e - (ratk p x y : Int) - 1⟩
theorem bd_nm {i j : Nat} {s : Bool} {N : Nat} {e : Int} (hN : N < 2 ^ j) (h1 : -(i : Int) ≤ e) (h2 : e ≤ i) : Bd (i + j) (nm s N e) := by
 rw [nm_ofz]
 refine bd_ofz ?_ h1 h2
 cases s <;> simp [hN]
theorem bd_rnd {k p : Nat} {up : Bool} {q : Q} (h : Bd k q) : Bd (2 * k + (p + 1)) (rnd p up q) := by
 obtain ⟨h1, h2, h3⟩ := h
 have hb := nbits_le h1
 refine bd_nm (Nat.lt_of_le_of_lt (rndm_top _ _ _) (by rw [Nat.pow_succ]; have := Nat.two_pow_pos p; omega)) (by omega) (by omega)
end
end Go.Proofs.YtobcbhppmgnioaaGreatDoor
