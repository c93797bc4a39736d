/- The middle and the radius are the document's: numbers far from 1. -/
import Derived.Test.YtpacpmmdjmnamaaDoorHAj1
namespace Go.Proofs.YtpacpmmdjmnamaaDoor
open Go.RowKit Nx
set_option linter.unusedVariables false
set_option linter.unusedSimpArgs false
section
variable {E : Nat} {q a b : Q}
theorem at_abs (q : Q) : (q.at E).natAbs = q.m * 2 ^ (q.e + E).toNat := by
  rw [at_sg]
  obtain ⟨n, hn⟩ : ∃ n, n = q.m * 2 ^ (q.e + E).toNat := ⟨_, rfl⟩
  rw [← hn]; unfold sg; cases q.s <;> simp
theorem top_less (h : -(E : Int) ≤ q.e) : (q.at E).natAbs < 2 ^ (topq q + E).toNat := by
  rw [at_abs, show (topq q + E).toNat = nbits q.m + (q.e + E).toNat by unfold topq; omega, Nat.pow_add]
  exact Nat.mul_lt_mul_of_pos_right (nbits_lt q.m) (Nat.two_pow_pos _)
theorem top_ge (hn : q.m ≠ 0) (h : -(E : Int) ≤ q.e) : 2 ^ (topq q + E - 1).toNat ≤ (q.at E).natAbs := by
  have h1 := nbits_pos hn
  rw [at_abs, show (topq q + E - 1).toNat = (nbits q.m - 1) + (q.e + E).toNat by unfold topq; omega, Nat.pow_add]
  exact Nat.mul_le_mul_right _ (nbits_ge hn)
theorem top_of (h : -(E : Int) ≤ q.e) {k : Nat} (hk : 2 ^ k ≤ (q.at E).natAbs) : (k : Int) < topq q + E := by
  have h1 := Nat.lt_of_le_of_lt hk (top_less h)
  rw [Nat.pow_lt_pow_iff_right (by omega)] at h1
  omega
end
theorem top_val {q : Q} (h : Valid q) : topq q ≤ q.e + 4096 := by
  unfold topq
  have h1 : nbits q.m ≤ 64 * 64 := words_bits (k := 64) h.2.1
  omega
section
variable {j : J} {z : Int}
theorem abs_atE {E : Nat} (r : Q) : r.abs.at E = ((r.at E).natAbs : Int) := by
  rw [at_abs, at_sg]
  unfold Q.abs
  by_cases h0 : r.m = 0
  · rw [if_pos h0, h0, Nat.zero_mul]; show sg false (0 * _) = _; rw [Nat.zero_mul]; rfl
  · rw [if_neg h0]; rfl
theorem abs_nat {r : Q} (h : Valid r) : (qx r.abs).v = ((r.at 65536).natAbs : Int) := by
  unfold X.v
  rw [(qx_ok (abs_valid h)).2.2]
  exact abs_atE r
theorem absx_ok {x : X} (h : x.ok = true) (hs : Small B64 x.xs) : absx x = x.q.abs := by
  have := absx_qx (ok_arg h hs)
  rwa [qx_q h hs] at this
end
end Go.Proofs.YtpacpmmdjmnamaaDoor
namespace Go.Proofs.YtpacpmmdjmnamaaDoor
open Go.RowKit Nx
set_option linter.unusedVariables false
set_option linter.unusedSimpArgs false
end Go.Proofs.YtpacpmmdjmnamaaDoor
