/- Plain arithmetic: how many bits a number has, how many of its lowest bits are 0. No program stands in it. -/
import Derived.Test.YtimkifkikcohgaaDoorMathA
import Derived.Lib.BitFns
import Derived.Lib.Mul64
namespace Go.Proofs.YtimkifkikcohgaaDoor.Nx

/-- The least k with n below 2^k. -/
def nbits (n : Nat) : Nat := if n = 0 then 0 else n.log2 + 1
theorem nbits_zero : nbits 0 = 0 := rfl
theorem nbits_of {n k : Nat} (h1 : n < 2 ^ k) (h2 : 0 < k → 2 ^ (k - 1) ≤ n) : nbits n = k := by
  unfold nbits
  rcases Nat.eq_zero_or_pos k with e | e
  · subst e; simp at h1; simp [h1]
  · have hn := h2 e
    have hp : 0 < 2 ^ (k - 1) := Nat.two_pow_pos _
    rw [if_neg (by omega)]
    have : n.log2 = k - 1 := (Nat.log2_eq_iff (by omega)).2 ⟨hn, by rw [Nat.sub_add_cancel e]; exact h1⟩
    omega
theorem nbits_lt (n : Nat) : n < 2 ^ nbits n := by
  unfold nbits; split
  · subst_vars; simp
  · exact Nat.lt_log2_self
theorem nbits_ge {n : Nat} (h : n ≠ 0) : 2 ^ (nbits n - 1) ≤ n := by
  unfold nbits; rw [if_neg h]; simpa using Nat.log2_self_le h
theorem nbits_pos {n : Nat} (h : n ≠ 0) : 0 < nbits n := by unfold nbits; rw [if_neg h]; omega
theorem nbits_half {n : Nat} (h : n ≠ 0) : nbits n = 1 + nbits (n / 2) := by
  refine nbits_of ?_ (fun _ => ?_)
  · have := nbits_lt (n / 2); rw [Nat.add_comm, Nat.pow_succ]; omega
  · rw [Nat.add_sub_cancel_left]
    by_cases h2 : n / 2 = 0
    · rw [h2, nbits_zero]; simp; omega
    · have := nbits_ge h2
      have hp := nbits_pos h2
      have : 2 ^ nbits (n / 2) = 2 ^ (nbits (n / 2) - 1) * 2 := by rw [← Nat.pow_succ]; congr 1; omega
      omega
theorem nbits_le {n k : Nat} (h : n < 2 ^ k) : nbits n ≤ k := by
  rcases Nat.lt_or_ge k (nbits n) with h1 | h1
  · have hn : n ≠ 0 := by rintro rfl; simp [nbits_zero] at h1
    have := nbits_ge hn
    have := Nat.pow_le_pow_right (n := 2) (by omega) (show k ≤ nbits n - 1 by omega)
    omega
  · exact h1
theorem bitLenAux_nbits : ∀ (f x : Nat), x < 2 ^ f → Go.Lib.bitLenAux f x = nbits x
  | 0, x, h => by simp at h; subst h; rfl
  | f + 1, x, h => by
    unfold Go.Lib.bitLenAux
    split
    · subst_vars; rfl
    · rename_i h0
      rw [bitLenAux_nbits f (x / 2) (by rw [Nat.pow_succ] at h; omega), nbits_half h0]
theorem bitLen_nbits (x : Nat) (h : x < 18446744073709551616) : Go.Lib.bitLen x = nbits x := bitLenAux_nbits 64 x h

/-- The bits of a number of which the top digit is known. -/
theorem nbits_top {q lowv top m : Nat} (hl : lowv < 2 ^ (q * m)) (ht : top ≠ 0) : nbits (lowv + 2 ^ (q * m) * top) = q * m + nbits top := by
  have h1 := nbits_lt top
  have h2 := nbits_ge ht
  have hp := nbits_pos ht
  refine nbits_of ?_ (fun _ => ?_)
  · rw [Nat.pow_add]
    have : 2 ^ (q * m) * (top + 1) ≤ 2 ^ (q * m) * 2 ^ nbits top := Nat.mul_le_mul_left _ h1
    rw [Nat.mul_add] at this; omega
  · rw [show q * m + nbits top - 1 = q * m + (nbits top - 1) by omega, Nat.pow_add]
    have := Nat.mul_le_mul_left (2 ^ (q * m)) h2
    omega

/-- How many of the lowest bits are 0. -/
def ntz (n : Nat) : Nat := if _h : n = 0 then 0 else if n % 2 = 1 then 0 else 1 + ntz (n / 2)
  termination_by n
  decreasing_by omega
theorem ntz_zero : ntz 0 = 0 := by rw [ntz]; simp
theorem ntz_odd {n : Nat} (h : n % 2 = 1) : ntz n = 0 := by rw [ntz]; simp [h]
theorem ntz_even {n : Nat} (h0 : n ≠ 0) (h : n % 2 = 0) : ntz n = 1 + ntz (n / 2) := by rw [ntz, dif_neg h0, if_neg (by omega)]
theorem ntz_shift {n : Nat} (h0 : n ≠ 0) (k : Nat) : ntz (2 ^ k * n) = k + ntz n := by
  induction k with
  | zero => simp
  | succ k ih =>
    have hp := Nat.two_pow_pos k
    have h1 : 2 ^ (k + 1) * n = 2 * (2 ^ k * n) := by rw [Nat.pow_succ]; grind
    have h2 : 0 < 2 ^ k * n := Nat.mul_pos hp (by omega)
    rw [h1, ntz_even (by omega) (by omega), Nat.mul_div_cancel_left _ (by omega), ih]; omega
theorem ntz_split {n : Nat} (h : n ≠ 0) : ∃ m, n = 2 ^ ntz n * m ∧ m % 2 = 1 := by
  induction n using Nat.strongRecOn with
  | ind n ih =>
    by_cases h1 : n % 2 = 1
    · exact ⟨n, by rw [ntz_odd h1]; simp, h1⟩
    · obtain ⟨m, h2, h3⟩ := ih (n / 2) (by omega) (by omega)
      refine ⟨m, ?_, h3⟩
      rw [ntz_even h (by omega), Nat.pow_add, Nat.pow_one]
      have h4 : n = 2 * (n / 2) := by omega
      have h5 : 2 * 2 ^ ntz (n / 2) * m = 2 * (2 ^ ntz (n / 2) * m) := by grind
      rw [h5, ← h2]; exact h4
theorem ntz_add {a b k : Nat} (h : a ≠ 0) (ha : a < 2 ^ k) : ntz (a + 2 ^ k * b) = ntz a := by
  induction a using Nat.strongRecOn generalizing k with
  | ind a ih =>
    have hk : 0 < k := by
      rcases Nat.eq_zero_or_pos k with e | e
      · subst e; simp at ha; omega
      · exact e
    have hp : 2 ^ k = 2 * 2 ^ (k - 1) := by
      obtain ⟨j, rfl⟩ : ∃ j, k = j + 1 := ⟨k - 1, by omega⟩
      rw [Nat.pow_succ, Nat.add_sub_cancel]; omega
    have hq : 2 ^ k * b = 2 * (2 ^ (k - 1) * b) := by rw [hp]; grind
    rw [hq]
    by_cases h1 : a % 2 = 1
    · rw [ntz_odd h1, ntz_odd (by omega)]
    · rw [ntz_even h (by omega), ntz_even (by omega) (by omega), show (a + 2 * (2 ^ (k - 1) * b)) / 2 = a / 2 + 2 ^ (k - 1) * b by omega,
        ih (a / 2) (by omega) (by omega) (by omega)]
theorem ntz_lt {n k : Nat} (h : n ≠ 0) (hn : n < 2 ^ k) : ntz n < k := by
  obtain ⟨m, h1, h2⟩ := ntz_split h
  have hm : 0 < m := by omega
  rcases Nat.lt_or_ge (ntz n) k with h3 | h3
  · exact h3
  · have := Nat.pow_le_pow_right (n := 2) (by omega) h3
    have := Nat.le_mul_of_pos_right (2 ^ ntz n) hm
    omega

theorem and_step (a b : Nat) : a &&& b = 2 * ((a / 2) &&& (b / 2)) + (if a % 2 = 1 ∧ b % 2 = 1 then 1 else 0) := by
  have h1 : (a &&& b) / 2 = (a / 2) &&& (b / 2) := Nat.and_div_two
  have h2 := Nat.and_mod_two_eq_one (a := a) (b := b)
  split
  · rename_i h; have := h2.2 h; omega
  · rename_i h
    have : (a &&& b) % 2 ≠ 1 := fun e => h (h2.1 e)
    omega
theorem and_compl (n : Nat) : ∀ a, a < 2 ^ n → a &&& (2 ^ n - 1 - a) = 0 := by
  induction n with
  | zero => intro a h; simp at h; subst h; simp
  | succ n ih =>
    intro a h
    rw [Nat.pow_succ] at h ⊢
    have := ih (a / 2) (by omega)
    rw [and_step, show (2 ^ n * 2 - 1 - a) / 2 = 2 ^ n - 1 - a / 2 by omega, this, if_neg (by omega)]
theorem and_neg (n : Nat) : ∀ a, a ≠ 0 → a < 2 ^ n → a &&& (2 ^ n - a) = 2 ^ ntz a := by
  induction n with
  | zero => intro a h0 h; simp at h; omega
  | succ n ih =>
    intro a h0 h
    rw [Nat.pow_succ] at h ⊢
    rw [and_step]
    by_cases h1 : a % 2 = 1
    · rw [ntz_odd h1, if_pos (by omega), show (2 ^ n * 2 - a) / 2 = 2 ^ n - 1 - a / 2 by omega, and_compl n _ (by omega)]
    · rw [ntz_even h0 (by omega), if_neg (by omega), show (2 ^ n * 2 - a) / 2 = 2 ^ n - a / 2 by omega, ih (a / 2) (by omega) (by omega), Nat.pow_add]; omega
end Go.Proofs.YtimkifkikcohgaaDoor.Nx
