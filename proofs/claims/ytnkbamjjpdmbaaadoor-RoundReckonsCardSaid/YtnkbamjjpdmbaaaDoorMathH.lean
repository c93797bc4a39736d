/- Numbers by a power of two: bounds of sums and products, the laws of a ring. No program. -/
import Derived.Test.YtnkbamjjpdmbaaaDoorNumPR
namespace Go.Proofs.YtnkbamjjpdmbaaaDoor
open Nx

/-- So many bits, so great an exponent, at most. -/
def Bd (k : Nat) (q : Q) : Prop := q.m < 2 ^ k ∧ -(k : Int) ≤ q.e ∧ q.e ≤ k
theorem Bd.mono {k l : Nat} {q : Q} (h : Bd k q) (hl : k ≤ l) : Bd l q :=
  ⟨Nat.lt_of_lt_of_le h.1 (Nat.pow_le_pow_right (by omega) hl), by have := h.2.1; omega, by have := h.2.2; omega⟩
theorem bd_ofz {i j : Nat} {Z e : Int} (hZ : Z.natAbs < 2 ^ j) (h1 : -(i : Int) ≤ e) (h2 : e ≤ i) : Bd (i + j) (ofz Z e) := by
  unfold ofz
  by_cases h0 : Z.natAbs = 0
  · rw [h0, nm_zero]
    exact ⟨Nat.pow_pos (by omega), by show -((i + j : Nat) : Int) ≤ 0; omega, by show (0 : Int) ≤ ((i + j : Nat) : Int); omega⟩
  · have hz := ntz_lt h0 hZ
    have e1 : nm (decide (Z < 0)) Z.natAbs e = ⟨decide (Z < 0), Z.natAbs / 2 ^ ntz Z.natAbs, e + ntz Z.natAbs⟩ := by unfold nm; rw [if_neg h0]
    rw [e1]
    refine ⟨Nat.lt_of_le_of_lt (Nat.div_le_self _ _) (Nat.lt_of_lt_of_le hZ (Nat.pow_le_pow_right (by omega) (by omega))), ?_, ?_⟩
    · show -((i + j : Nat) : Int) ≤ e + ntz Z.natAbs; omega
    · show e + ntz Z.natAbs ≤ ((i + j : Nat) : Int); omega
theorem bd_plus {k : Nat} {a b : Q} (ha : Bd k a) (hb : Bd k b) : Bd (k + (3 * k + 1)) (plus a b) := by
  obtain ⟨a1, a2, a3⟩ := ha
  obtain ⟨b1, b2, b3⟩ := hb
  have l1 : (a.e - lowe a b).toNat ≤ 2 * k := by unfold lowe; omega
  have l2 : (b.e - lowe a b).toNat ≤ 2 * k := by unfold lowe; omega
  refine bd_ofz ?_ (by unfold lowe; omega) (by unfold lowe; omega)
  refine Nat.lt_of_le_of_lt (Int.natAbs_add_le _ _) ?_
  rw [up_abs, up_abs]
  have p1 : a.m * 2 ^ (a.e - lowe a b).toNat < 2 ^ (3 * k) := by
    have : 2 ^ (a.e - lowe a b).toNat ≤ 2 ^ (2 * k) := Nat.pow_le_pow_right (by omega) l1
    rw [show 3 * k = k + 2 * k by omega, Nat.pow_add]
    exact Nat.lt_of_lt_of_le (Nat.mul_lt_mul_of_pos_right a1 (Nat.pow_pos (by omega))) (Nat.mul_le_mul_left _ this)
  have p2 : b.m * 2 ^ (b.e - lowe a b).toNat < 2 ^ (3 * k) := by
    have : 2 ^ (b.e - lowe a b).toNat ≤ 2 ^ (2 * k) := Nat.pow_le_pow_right (by omega) l2
    rw [show 3 * k = k + 2 * k by omega, Nat.pow_add]
    exact Nat.lt_of_lt_of_le (Nat.mul_lt_mul_of_pos_right b1 (Nat.pow_pos (by omega))) (Nat.mul_le_mul_left _ this)
  rw [Nat.pow_succ]; omega
theorem bd_neg {k : Nat} {a : Q} (ha : Bd k a) : Bd k a.neg := by
  unfold Q.neg
  split
  · exact ⟨Nat.pow_pos (by omega), by show -(k : Int) ≤ 0; omega, by show (0 : Int) ≤ k; omega⟩
  · exact ha
theorem bd_minus {k : Nat} {a b : Q} (ha : Bd k a) (hb : Bd k b) : Bd (k + (3 * k + 1)) (minus a b) := bd_plus ha (bd_neg hb)
theorem bd_times {k : Nat} {a b : Q} (ha : Bd k a) (hb : Bd k b) : Bd (2 * k + 2 * k) (times a b) := by
  obtain ⟨a1, a2, a3⟩ := ha
  obtain ⟨b1, b2, b3⟩ := hb
  refine bd_ofz ?_ (by omega) (by omega)
  rw [Int.natAbs_mul]
  have h1 : ∀ q : Q, q.z.natAbs = q.m := fun q => by unfold Q.z; cases q.s <;> simp
  rw [h1, h1, show 2 * k = k + k by omega, Nat.pow_add]
  exact Nat.mul_lt_mul'' a1 b1
theorem Bd.fits {k : Nat} {q : Q} (h : Bd k q) (hk : k ≤ 4096) : Fits q := by
  obtain ⟨F, hF⟩ : ∃ F : Nat, F = 64 := ⟨_, rfl⟩
  refine ⟨?_, by have := h.2.1; omega, by have := h.2.2; omega⟩
  rw [← hF, pow64]
  exact Nat.lt_of_lt_of_le h.1 (Nat.pow_le_pow_right (by omega) (by omega))
section
variable {a b c : Q} {E : Nat}
theorem ring_mul (ha : -(E : Int) ≤ a.e) (hb : -(E : Int) ≤ b.e) (hc : -(E : Int) ≤ c.e) : times a (plus b c) = plus (times c a) (times a b) := by
  have l1 := low_times (a := a) (b := plus b c) ha (low_plus hb hc)
  have l2 := low_times (a := c) (b := a) hc ha
  have l3 := low_times (a := a) (b := b) ha hb
  refine at_inj (E := E + E) (ofz_canon _ _) (ofz_canon _ _) l1 (low_plus l2 l3) ?_
  rw [at_times ha (low_plus hb hc), at_plus hb hc, at_plus l2 l3, at_times hc ha, at_times ha hb, Int.mul_add, Int.mul_comm (c.at E), Int.add_comm]
theorem ring_sub (ha : -(E : Int) ≤ a.e) (hb : -(E : Int) ≤ b.e) (ca : Canon a) (cb : Canon b) : minus (plus a b) b = a := by
  refine at_inj (E := E) (ofz_canon _ _) ca (low_minus cb (low_plus ha hb) hb) ha ?_
  rw [at_minus cb (low_plus ha hb) hb, at_plus ha hb]; omega
end
end Go.Proofs.YtnkbamjjpdmbaaaDoor
