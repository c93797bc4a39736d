/- Plain arithmetic: a quotient of two words by one, a half word at a time. No program stands in it. -/
import Derived.Test.YtnkbamjjpdmbaaaDoorNatA
namespace Go.Proofs.YtnkbamjjpdmbaaaDoor.Nx

/-- What is known of a guess q of (U b + n) / Y with the rest r. -/
structure Guess (b Y y1 y0 U n q r : Nat) : Prop where
  hY : Y = y1 * b + y0
  h0 : y0 < b
  hr : q * y1 + r = U
  hn : n < b
  hU : U < Y
  up : (U * b + n) / Y ≤ q

theorem Guess.full {b Y y1 y0 U n q r : Nat} (g : Guess b Y y1 y0 U n q r) : q * Y + b * r = U * b + q * y0 := by
  rw [g.hY, ← g.hr]; grind
theorem Guess.lt {b Y y1 y0 U n q r : Nat} (g : Guess b Y y1 y0 U n q r) : (U * b + n) / Y < b := by
  have h1 := g.hU; have h2 := g.hn
  rw [Nat.div_lt_iff_lt_mul (by omega)]
  have : b * (U + 1) ≤ b * Y := Nat.mul_le_mul_left b h1
  rw [Nat.mul_add] at this
  rw [Nat.mul_comm U b]; omega
theorem Guess.done {b Y y1 y0 U n q r : Nat} (g : Guess b Y y1 y0 U n q r) (h : q * y0 ≤ b * r + n) : (U * b + n) / Y = q := by
  have h1 := g.full; have h2 := g.up; have h3 := g.hU
  have : q ≤ (U * b + n) / Y := by
    rw [Nat.le_div_iff_mul_le (by omega)]; omega
  omega
theorem Guess.high {b Y y1 y0 U n q r : Nat} (g : Guess b Y y1 y0 U n q r) (h : b ≤ q ∨ b * r + n < q * y0) : (U * b + n) / Y + 1 ≤ q := by
  rcases h with h | h
  · have := g.lt; omega
  · have h1 := g.full; have h3 := g.hU
    have : (U * b + n) / Y < q := by
      rw [Nat.div_lt_iff_lt_mul (by omega)]; omega
    omega
theorem Guess.next {b Y y1 y0 U n q r : Nat} (g : Guess b Y y1 y0 U n q r) (h : b ≤ q ∨ b * r + n < q * y0) : Guess b Y y1 y0 U n (q - 1) (r + y1) := by
  have hh := g.high h
  refine ⟨g.hY, g.h0, ?_, g.hn, g.hU, Nat.le_sub_of_add_le hh⟩
  have h1 := g.hr
  have hq0 : 0 < q := Nat.lt_of_lt_of_le (Nat.succ_pos _) hh
  obtain ⟨q', rfl⟩ : ∃ q', q = q' + 1 := ⟨q - 1, by omega⟩
  rw [Nat.add_mul] at h1
  rw [Nat.add_sub_cancel]; omega
theorem Guess.broke {b Y y1 y0 U n q r : Nat} (g : Guess b Y y1 y0 U n q r) (hq : q ≤ b) (hb : b ≤ r) : (U * b + n) / Y = q := by
  refine g.done ?_
  have h1 : q * y0 ≤ b * b := Nat.mul_le_mul hq (Nat.le_of_lt g.h0)
  have h2 : b * b ≤ b * r := Nat.mul_le_mul_left b hb
  omega
theorem Guess.first {b Y y1 y0 U n : Nat} (hY : Y = y1 * b + y0) (h0 : y0 < b) (hn : n < b) (hU : U < Y) (hy : 0 < y1) : Guess b Y y1 y0 U n (U / y1) (U % y1) := by
  refine ⟨hY, h0, Nat.div_add_mod' U y1, hn, hU, ?_⟩
  have hb : 0 < b := by omega
  have h1 : (U * b + n) / Y ≤ (U * b + n) / (y1 * b) := Nat.div_le_div_left (by omega) (Nat.mul_pos hy hb)
  have h2 : (U * b + n) / (y1 * b) = U / y1 := by
    rw [Nat.mul_comm y1 b, ← Nat.div_div_eq_div_mul, Nat.mul_comm U b, Nat.mul_add_div hb, Nat.div_eq_of_lt hn, Nat.add_zero]
  omega
theorem Guess.le {b Y y1 y0 U n q r : Nat} (g : Guess b Y y1 y0 U n q r) (hy : b ≤ 2 * y1) : U / y1 ≤ b + 1 := by
  have h1 := g.hU; have h2 := g.hY; have h0 := g.h0
  have hy1 : 0 < y1 := by omega
  have : U / y1 < b + 2 := by
    rw [Nat.div_lt_iff_lt_mul hy1, Nat.add_mul, Nat.mul_comm b y1]; omega
  omega

/-- The two half words of the quotient. -/
theorem two_halves (b U n1 n0 Y : Nat) (hY : 0 < Y) : ((U * b + n1) * b + n0) / Y = (U * b + n1) / Y * b + ((U * b + n1) % Y * b + n0) / Y := by
  have h := Nat.div_add_mod (U * b + n1) Y
  generalize (U * b + n1) / Y = Q at *
  generalize (U * b + n1) % Y = V at *
  rw [← h, show (Y * Q + V) * b + n0 = Y * (Q * b) + (V * b + n0) by grind, Nat.mul_add_div hY]

/-- The dividend, shifted up by s bits, in its parts. -/
theorem shifted (hi lo s : Nat) (hs : s ≤ 64) :
    (hi * 18446744073709551616 + lo) * 2 ^ s = ((hi * 2 ^ s + lo / 2 ^ (64 - s)) * 4294967296 + lo * 2 ^ s % 18446744073709551616 / 4294967296) * 4294967296 + lo * 2 ^ s % 18446744073709551616 % 4294967296 := by
  have hp : 2 ^ (64 - s) * 2 ^ s = 18446744073709551616 := by rw [← Nat.pow_add, Nat.sub_add_cancel hs]
  have hd : lo * 2 ^ s / 18446744073709551616 = lo / 2 ^ (64 - s) := by
    rw [← hp, Nat.mul_div_mul_right _ _ (Nat.two_pow_pos s)]
  rw [← hd, Nat.add_mul]
  have := Nat.mul_right_comm hi 18446744073709551616 (2 ^ s)
  generalize lo * 2 ^ s = L at *
  generalize hi * 2 ^ s = H at *
  omega
end Go.Proofs.YtnkbamjjpdmbaaaDoor.Nx
