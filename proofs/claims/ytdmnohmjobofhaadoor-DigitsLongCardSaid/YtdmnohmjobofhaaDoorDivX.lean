/- math/bits.LeadingZeros64. Plain arithmetic: a quotient of two words by one, a half word at a time. No program stands in it. math/bits.Div64: the quotient. Plain arithmetic: long division in words. No program stands in it. -/
import Derived.Test.YtdmnohmjobofhaaDoorNatB
import Derived.Test.YtdmnohmjobofhaaDoorNatA
import Derived.LoopTactic
import Derived.Deep.QuietTactic
import Derived.BigQuiet
import Derived.Deep.DeepCutAuto
import Derived.Deep.CutBlock
namespace Go.Proofs.YtdmnohmjobofhaaDoor
open Go.RowKit Nx

theorem lead64_any (x : Nat) (w : World) (h : x < B64) : Calls Tryd.prog 78 #[.int .u64 (x : Int)] w fun e w' => e = .returned (.int .i64 ((64 - nbits x : Nat) : Int)) ∧ w = w' := by
  have hb : nbits x ≤ 64 := nbits_le (show x < 2 ^ 64 by unfold B64 at h; omega)
  go_enter Tryd.func78, Tryd.ntmps78
  go_wp2_with (go_at_call 37; refine (len64_any _ _ h).mono ?_; rintro e w' ⟨rfl, rfl⟩)
  go_ret
  exact ⟨congrArg (fun z => Ending.returned (Value.int IntKind.i64 z)) (by omega), rfl⟩
end Go.Proofs.YtdmnohmjobofhaaDoor

namespace Go.Proofs.YtdmnohmjobofhaaDoor.Nx

/-- What is known of a guess q of (U b + n) / Y with the rest r. -/
structure Guess (b Y y1 y0 U n q r : Nat) : Prop where
  hY : Y = y1 * b + y0
  h0 : y0 < b
  hr : q * y1 + r = U
  hn : n < b
  hU : U < Y
  up : (U * b + n) / Y ≤ q

theorem Guess.full {b Y y1 y0 U n q r : Nat} (g : Guess b Y y1 y0 U n q r) : q * Y + b * r = U * b + q * y0 := by
  rw [g.hY, ← g.hr]; grind
theorem Guess.lt {b Y y1 y0 U n q r : Nat} (g : Guess b Y y1 y0 U n q r) : (U * b + n) / Y < b := by
  have h1 := g.hU; have h2 := g.hn
  rw [Nat.div_lt_iff_lt_mul (by omega)]
  have : b * (U + 1) ≤ b * Y := Nat.mul_le_mul_left b h1
  rw [Nat.mul_add] at this
  rw [Nat.mul_comm U b]; omega
theorem Guess.done {b Y y1 y0 U n q r : Nat} (g : Guess b Y y1 y0 U n q r) (h : q * y0 ≤ b * r + n) : (U * b + n) / Y = q := by
  have h1 := g.full; have h2 := g.up; have h3 := g.hU
  have : q ≤ (U * b + n) / Y := by
    rw [Nat.le_div_iff_mul_le (by omega)]; omega
  omega
theorem Guess.high {b Y y1 y0 U n q r : Nat} (g : Guess b Y y1 y0 U n q r) (h : b ≤ q ∨ b * r + n < q * y0) : (U * b + n) / Y + 1 ≤ q := by
  rcases h with h | h
  · have := g.lt; omega
  · have h1 := g.full; have h3 := g.hU
    have : (U * b + n) / Y < q := by
      rw [Nat.div_lt_iff_lt_mul (by omega)]; omega
    omega
theorem Guess.next {b Y y1 y0 U n q r : Nat} (g : Guess b Y y1 y0 U n q r) (h : b ≤ q ∨ b * r + n < q * y0) : Guess b Y y1 y0 U n (q - 1) (r + y1) := by
  have hh := g.high h
  refine ⟨g.hY, g.h0, ?_, g.hn, g.hU, Nat.le_sub_of_add_le hh⟩
  have h1 := g.hr
  have hq0 : 0 < q := Nat.lt_of_lt_of_le (Nat.succ_pos _) hh
  obtain ⟨q', rfl⟩ : ∃ q', q = q' + 1 := ⟨q - 1, by omega⟩
  rw [Nat.add_mul] at h1
  rw [Nat.add_sub_cancel]; omega
theorem Guess.broke {b Y y1 y0 U n q r : Nat} (g : Guess b Y y1 y0 U n q r) (hq : q ≤ b) (hb : b ≤ r) : (U * b + n) / Y = q := by
  refine g.done ?_
  have h1 : q * y0 ≤ b * b := Nat.mul_le_mul hq (Nat.le_of_lt g.h0)
  have h2 : b * b ≤ b * r := Nat.mul_le_mul_left b hb
  omega
theorem Guess.first {b Y y1 y0 U n : Nat} (hY : Y = y1 * b + y0) (h0 : y0 < b) (hn : n < b) (hU : U < Y) (hy : 0 < y1) : Guess b Y y1 y0 U n (U / y1) (U % y1) := by
  refine ⟨hY, h0, Nat.div_add_mod' U y1, hn, hU, ?_⟩
  have hb : 0 < b := by omega
  have h1 : (U * b + n) / Y ≤ (U * b + n) / (y1 * b) := Nat.div_le_div_left (by omega) (Nat.mul_pos hy hb)
  have h2 : (U * b + n) / (y1 * b) = U / y1 := by
    rw [Nat.mul_comm y1 b, ← Nat.div_div_eq_div_mul, Nat.mul_comm U b, Nat.mul_add_div hb, Nat.div_eq_of_lt hn, Nat.add_zero]
  omega
theorem Guess.le {b Y y1 y0 U n q r : Nat} (g : Guess b Y y1 y0 U n q r) (hy : b ≤ 2 * y1) : U / y1 ≤ b + 1 := by
  have h1 := g.hU; have h2 := g.hY; have h0 := g.h0
  have hy1 : 0 < y1 := by omega
  have : U / y1 < b + 2 := by
    rw [Nat.div_lt_iff_lt_mul hy1, Nat.add_mul, Nat.mul_comm b y1]; omega
  omega

/-- The two half words of the quotient. -/
theorem two_halves (b U n1 n0 Y : Nat) (hY : 0 < Y) : ((U * b + n1) * b + n0) / Y = (U * b + n1) / Y * b + ((U * b + n1) % Y * b + n0) / Y := by
  have h := Nat.div_add_mod (U * b + n1) Y
  generalize (U * b + n1) / Y = Q at *
  generalize (U * b + n1) % Y = V at *
  rw [← h, show (Y * Q + V) * b + n0 = Y * (Q * b) + (V * b + n0) by grind, Nat.mul_add_div hY]

/-- The dividend, shifted up by s bits, in its parts. -/
theorem shifted (hi lo s : Nat) (hs : s ≤ 64) :
    (hi * 18446744073709551616 + lo) * 2 ^ s = ((hi * 2 ^ s + lo / 2 ^ (64 - s)) * 4294967296 + lo * 2 ^ s % 18446744073709551616 / 4294967296) * 4294967296 + lo * 2 ^ s % 18446744073709551616 % 4294967296 := by
  have hp : 2 ^ (64 - s) * 2 ^ s = 18446744073709551616 := by rw [← Nat.pow_add, Nat.sub_add_cancel hs]
  have hd : lo * 2 ^ s / 18446744073709551616 = lo / 2 ^ (64 - s) := by
    rw [← hp, Nat.mul_div_mul_right _ _ (Nat.two_pow_pos s)]
  rw [← hd, Nat.add_mul]
  have := Nat.mul_right_comm hi 18446744073709551616 (2 ^ s)
  generalize lo * 2 ^ s = L at *
  generalize hi * 2 ^ s = H at *
  omega
end Go.Proofs.YtdmnohmjobofhaaDoor.Nx

namespace Go.Proofs.YtdmnohmjobofhaaDoor
open Go.RowKit Nx

/-- What Div64 leaves: the quotient, and some rest. -/
def DivPost (q : Nat) (w : World) (e : Ending) (w' : World) : Prop := ∃ (r : Value) (m : Nat), e = .returned (.tuple #[.int .u64 (q : Int), r]) ∧ w' = w.drewN m

theorem pow_cast (a s : Nat) : (a : Int) * 2 ^ s = ((a * 2 ^ s : Nat) : Int) := by simp
theorem div_cast (a s : Nat) : (a : Int) / 2 ^ s = ((a / 2 ^ s : Nat) : Int) := by simp

set_option maxRecDepth 100000 in
set_option maxHeartbeats 400000 in
theorem div64_small (lo y : Nat) (hlo : lo < B64) (hy : y < B64) (h : 0 < y) (w : World) :
    Calls Tryd.prog 97 #[.int .u64 (0 : Int), .int .u64 (lo : Int), .int .u64 (y : Int)] w (DivPost (lo / y) w) := by
  unfold B64 at hlo hy
  have h0 : ((y : Int) == 0) = false := by simp; omega
  have h1 : (0 : Int) < y := by omega
  have hq : lo / y ≤ lo := Nat.div_le_self lo y
  have e : IntKind.u64.wrap ((lo : Int) / (y : Int)) = ((lo / y : Nat) : Int) := by
    rw [show (lo : Int) / (y : Int) = ((lo / y : Nat) : Int) from (Int.natCast_ediv lo y).symm, u64_fits _ (by omega)]
  go_enter Tryd.func97, Tryd.ntmps97
  go_wp2
  go_quiet (fail)
  go_wp2
  go_ret2
  exact ⟨_, _, rfl, rfl⟩

/-- The numbers that Div64 goes by. -/
theorem div64_parts (hi lo y s Y y1 y0 U L n1 n0 : Nat) (hlo : lo < 18446744073709551616) (hy : y < 18446744073709551616) (hh : hi < y) (hs : s = 64 - nbits y)
    (hY : Y = y * 2 ^ s) (hy1 : y1 = Y / 4294967296) (hy0 : y0 = Y % 4294967296) (hU : U = hi * 2 ^ s + lo / 2 ^ (64 - s)) (hL : L = lo * 2 ^ s % 18446744073709551616)
    (hn1 : n1 = L / 4294967296) (hn0 : n0 = L % 4294967296) :
    Y < 18446744073709551616 ∧ U < Y ∧ 4294967296 ≤ 2 * y1 ∧ U < 18446744073709551616 ∧ hi * 2 ^ s < 18446744073709551616 ∧
    IntKind.u64.wrap ((y : Int) * 2 ^ s) = (Y : Int) ∧ (Y : Int) / 4294967296 = (y1 : Int) ∧ bits .and .u64 (Y : Int) 4294967295 = (y0 : Int) ∧
    bits .or .u64 (IntKind.u64.wrap ((hi : Int) * 2 ^ s)) ((lo : Int) / 2 ^ (64 - s)) = (U : Int) ∧
    IntKind.u64.wrap ((lo : Int) * 2 ^ s) = (L : Int) ∧ (L : Int) / 4294967296 = (n1 : Int) ∧ bits .and .u64 (L : Int) 4294967295 = (n0 : Int) := by
  have hb : nbits y ≤ 64 := nbits_le (show y < 2 ^ 64 from hy)
  have hyne : y ≠ 0 := by omega
  have hlt := nbits_lt y
  have hge := nbits_ge hyne
  have hpos := nbits_pos hyne
  have hp : 2 ^ nbits y * 2 ^ s = 18446744073709551616 := by rw [← Nat.pow_add, show nbits y + s = 64 by omega]
  have hp' : 2 ^ (nbits y - 1) * 2 ^ s = 9223372036854775808 := by rw [← Nat.pow_add, show nbits y - 1 + s = 63 by omega]
  have hsp := Nat.two_pow_pos s
  have hYlt : Y < 18446744073709551616 := by rw [hY, ← hp]; exact Nat.mul_lt_mul_of_pos_right hlt hsp
  have hYge : 9223372036854775808 ≤ Y := by rw [hY, ← hp']; exact Nat.mul_le_mul_right _ hge
  have hq : 2 ^ (64 - s) * 2 ^ s = 18446744073709551616 := by rw [← Nat.pow_add, show 64 - s + s = 64 by omega]
  have hlow : lo / 2 ^ (64 - s) < 2 ^ s := by
    rw [Nat.div_lt_iff_lt_mul (Nat.two_pow_pos _), Nat.mul_comm, hq]; exact hlo
  have hhi : (hi + 1) * 2 ^ s ≤ Y := by rw [hY]; exact Nat.mul_le_mul_right _ hh
  rw [Nat.add_mul, Nat.one_mul] at hhi
  have hUY : U < Y := by omega
  refine ⟨hYlt, hUY, by omega, by omega, by omega, ?_, by omega, ?_, ?_, ?_, by omega, ?_⟩
  · rw [pow_cast, u64_fits _ (by omega), hY]
  · rw [mask32 Y hYlt, hy0]
  · rw [pow_cast, u64_fits _ (by omega), div_cast, bits_or_u64_nat _ _ (by omega) (by omega), hU]
    congr 1
    rw [Nat.mul_comm hi, ← Nat.two_pow_add_eq_or_of_lt hlow]
  · rw [pow_cast, u64_wraps, hL]
  · rw [mask32 L (by omega), hn0]

/-- What holds at the head of each round. -/
def DivRel (Y y1 y0 U n : Nat) (u v : Value) : Prop := ∃ a r : Int, u = .int .u64 a ∧ v = .int .u64 r ∧ 0 ≤ a ∧ 0 ≤ r ∧ Hid (a ≤ 4294967297 ∧ r < 4294967296 ∧ Guess 4294967296 Y y1 y0 U n a.toNat r.toNat)

/-- A round's numbers, and what becomes of the guess. -/
theorem round_nums {Y y1 y0 U n : Nat} {a r : Int} (ha0 : 0 ≤ a) (hr0 : 0 ≤ r) (ha : a ≤ 4294967297) (hr : r < 4294967296) (g : Guess 4294967296 Y y1 y0 U n a.toNat r.toNat) (hy1 : y1 < 4294967296) :
    ∃ a2 r2 m z z0 : Int, IntKind.u64.wrap (r + (y1 : Int)) = r2 ∧ (1 ≤ a → IntKind.u64.wrap (a - 1) = a2) ∧ (a < 4294967296 → IntKind.u64.wrap (a * (y0 : Int)) = m) ∧
      IntKind.u64.wrap (4294967296 * r) = z0 ∧ IntKind.u64.wrap (z0 + (n : Int)) = z ∧ IntKind.u64.wrap (4294967296 * r + (n : Int)) = z ∧ 0 ≤ r2 ∧
      ((4294967296 ≤ a ∨ (a < 4294967296 ∧ z < m)) → 1 ≤ a ∧ 0 ≤ a2 ∧ a2 < a ∧ (r2 < 4294967296 → DivRel Y y1 y0 U n (.int .u64 a2) (.int .u64 r2)) ∧ (4294967296 ≤ r2 → a2 = (((U * 4294967296 + n) / Y : Nat) : Int))) ∧
      (a < 4294967296 → m ≤ z → a = (((U * 4294967296 + n) / Y : Nat) : Int)) := by
  have h0 := g.h0; have hn := g.hn
  obtain ⟨A, rfl⟩ := Int.eq_ofNat_of_zero_le ha0
  obtain ⟨R, rfl⟩ := Int.eq_ofNat_of_zero_le hr0
  rw [Int.toNat_natCast, Int.toNat_natCast] at g
  have hz : IntKind.u64.wrap (4294967296 * (R : Int) + (n : Int)) = ((4294967296 * R + n : Nat) : Int) := by
    rw [show (4294967296 : Int) * (R : Int) + (n : Int) = ((4294967296 * R + n : Nat) : Int) by omega, u64_fits _ (by omega)]
  have hz0 : IntKind.u64.wrap (4294967296 * (R : Int)) = ((4294967296 * R : Nat) : Int) := by
    rw [show (4294967296 : Int) * (R : Int) = ((4294967296 * R : Nat) : Int) by omega, u64_fits _ (by omega)]
  have hm : (A : Int) < 4294967296 → IntKind.u64.wrap ((A : Int) * (y0 : Int)) = ((A * y0 : Nat) : Int) := by
    intro h
    have h2 : A * y0 < 18446744073709551616 := by
      have := Nat.mul_lt_mul_of_le_of_lt (show A ≤ 4294967296 by omega) h0 (by omega : 0 < 4294967296)
      omega
    rw [cast_mul, u64_fits _ h2]
  refine ⟨((A - 1 : Nat) : Int), ((R + y1 : Nat) : Int), ((A * y0 : Nat) : Int), ((4294967296 * R + n : Nat) : Int), ((4294967296 * R : Nat) : Int), ?_, ?_, hm, hz0, ?_, hz, Int.natCast_nonneg _, ?_, ?_⟩
  · rw [cast_add, u64_fits _ (by omega)]
  · intro h; rw [show (A : Int) - 1 = ((A - 1 : Nat) : Int) by omega, u64_fits _ (by omega)]
  · rw [cast_add, u64_fits _ (by omega)]
  · intro t
    have t' : 4294967296 ≤ A ∨ 4294967296 * R + n < A * y0 := by
      rcases t with t | ⟨_, t⟩
      · left; omega
      · right; exact Int.ofNat_lt.1 t
    have hp := g.high t'
    have hp' : 0 < A := Nat.lt_of_lt_of_le (Nat.succ_pos _) hp
    have nx := g.next t'
    refine ⟨by omega, by omega, by omega, fun h => ⟨_, _, rfl, rfl, Int.natCast_nonneg _, Int.natCast_nonneg _, Lib.hid ⟨by omega, h, ?_⟩⟩, fun h => ?_⟩
    · rw [Int.toNat_natCast, Int.toNat_natCast]; exact nx
    · rw [nx.broke (by omega) (by omega)]
  · intro _ h
    rw [g.done (Int.ofNat_le.1 h)]

/-- The numbers between the two halves, and at the end. -/
theorem mid_nums {Y y1 y0 U n1 n0 : Nat} (hY : Y = y1 * 4294967296 + y0) (h0 : y0 < 4294967296) (hn1 : n1 < 4294967296) (hn0 : n0 < 4294967296) (hU : U < Y) (hYb : Y < 18446744073709551616) (hy1 : 4294967296 ≤ 2 * y1) :
    ∃ (Q1 V q r Q0 : Nat) (p p2 p3 p4 p5 : Int), Q1 = (U * 4294967296 + n1) / Y ∧ Q0 = (V * 4294967296 + n0) / Y ∧ 
      IntKind.u64.wrap ((U : Int) * 4294967296) = p ∧ IntKind.u64.wrap (p + (n1 : Int)) = p2 ∧ IntKind.u64.wrap ((Q1 : Int) * (Y : Int)) = p3 ∧ IntKind.u64.wrap (p2 - p3) = (V : Int) ∧
      IntKind.u64.wrap ((V : Int) / (y1 : Int)) = (q : Int) ∧ IntKind.u64.wrap ((V : Int).tdiv (y1 : Int)) = (q : Int) ∧ IntKind.u64.wrap ((q : Int) * (y1 : Int)) = p4 ∧ IntKind.u64.wrap ((V : Int) - p4) = (r : Int) ∧
      IntKind.u64.wrap ((Q1 : Int) * 4294967296) = p5 ∧ IntKind.u64.wrap (p5 + (Q0 : Int)) = ((((U * 4294967296 + n1) * 4294967296 + n0) / Y : Nat) : Int) ∧
      DivRel Y y1 y0 V n0 (.int .u64 (q : Int)) (.int .u64 (r : Int)) := by
  have hYp : 0 < Y := by omega
  have hdm := Nat.div_add_mod (U * 4294967296 + n1) Y
  have hV : (U * 4294967296 + n1) % Y < Y := Nat.mod_lt _ hYp
  have hth := two_halves 4294967296 U n1 n0 Y hYp
  have g1 : Guess 4294967296 Y y1 y0 U n1 (U / y1) (U % y1) := Guess.first hY h0 hn1 hU (by omega)
  have hQ1 := g1.lt
  obtain ⟨Q1, hq⟩ : ∃ Q1, Q1 = (U * 4294967296 + n1) / Y := ⟨_, rfl⟩
  obtain ⟨V, hv⟩ : ∃ V, V = (U * 4294967296 + n1) % Y := ⟨_, rfl⟩
  rw [← hq] at hdm hth hQ1
  rw [← hv] at hdm hth hV
  clear hv g1
  have g : Guess 4294967296 Y y1 y0 V n0 (V / y1) (V % y1) := Guess.first hY h0 hn0 hV (by omega)
  have hQ0 := g.lt
  have hqb := g.le hy1
  have hdv := Nat.div_add_mod' V y1
  have hrm : V % y1 < y1 := Nat.mod_lt _ (by omega)
  have hqV : V / y1 ≤ V := Nat.div_le_self _ _
  have hq' : IntKind.u64.wrap ((V : Int) / (y1 : Int)) = ((V / y1 : Nat) : Int) := by
    rw [show (V : Int) / (y1 : Int) = ((V / y1 : Nat) : Int) from (Int.natCast_ediv V y1).symm, u64_fits _ (by omega)]
  have hrel : DivRel Y y1 y0 V n0 (.int .u64 ((V / y1 : Nat) : Int)) (.int .u64 ((V % y1 : Nat) : Int)) :=
    ⟨_, _, rfl, rfl, Int.natCast_nonneg _, Int.natCast_nonneg _, Lib.hid ⟨by omega, by omega, by rw [Int.toNat_natCast, Int.toNat_natCast]; exact g⟩⟩
  refine ⟨Q1, V, V / y1, V % y1, (V * 4294967296 + n0) / Y, IntKind.u64.wrap ((U : Int) * 4294967296), IntKind.u64.wrap (IntKind.u64.wrap ((U : Int) * 4294967296) + (n1 : Int)), IntKind.u64.wrap ((Q1 : Int) * (Y : Int)),
    IntKind.u64.wrap (((V / y1 : Nat) : Int) * (y1 : Int)), IntKind.u64.wrap ((Q1 : Int) * 4294967296), ?_⟩
  refine And.intro ?_ (And.intro ?_ (And.intro ?_ (And.intro ?_ (And.intro ?_ (And.intro ?_ (And.intro hq' (And.intro ?_ (And.intro ?_ (And.intro ?_ (And.intro ?_ (And.intro ?_ hrel)))))))))))
  · exact hq
  · rfl
  · rfl
  · rfl
  · rfl
  · rw [cast_mul, show (U : Int) * 4294967296 = ((U * 4294967296 : Nat) : Int) by omega]
    rw [Nat.mul_comm Q1 Y]
    obtain ⟨a, ha⟩ : ∃ a, a = Y * Q1 := ⟨_, rfl⟩
    rw [← ha] at hdm ⊢
    clear hth hq ha
    simp only [IntKind.wrap_u64]
    omega
  · rw [Int.tdiv_eq_ediv_of_nonneg (by omega)]; exact hq'
  · rfl
  · rw [cast_mul]
    obtain ⟨a, ha⟩ : ∃ a, a = V / y1 * y1 := ⟨_, rfl⟩
    rw [← ha] at hdv ⊢
    clear hth hq ha hq' hrel
    simp only [IntKind.wrap_u64]
    omega
  · rfl
  · rw [hth]
    obtain ⟨Q0, h0q⟩ : ∃ Q0, Q0 = (V * 4294967296 + n0) / Y := ⟨_, rfl⟩
    rw [← h0q] at hQ0 ⊢
    clear hth hq h0q hq' hrel
    simp only [IntKind.wrap_u64]
    omega

set_option maxRecDepth 100000 in
set_option maxHeartbeats 1000000 in
theorem div64_big (hi lo y s Y y1 y0 U L n1 n0 q r T : Nat) (hT : ((U * 4294967296 + n1) * 4294967296 + n0) / Y = T) (hlo : lo < B64) (hy : y < B64) (hh : hi < y) (h0 : 0 < hi) (hs : s = 64 - nbits y)
    (hY : Y = y * 2 ^ s) (hy1 : y1 = Y / 4294967296) (hy0 : y0 = Y % 4294967296) (hU : U = hi * 2 ^ s + lo / 2 ^ (64 - s)) (hL : L = lo * 2 ^ s % 18446744073709551616)
    (hn1 : n1 = L / 4294967296) (hn0 : n0 = L % 4294967296) (hq : q = U / y1) (hr : r = U % y1) (w : World) :
    Calls Tryd.prog 97 #[.int .u64 (hi : Int), .int .u64 (lo : Int), .int .u64 (y : Int)] w (DivPost T w) := by
  have hyB := Lib.hid hy
  unfold B64 at hlo hy
  obtain ⟨b1, b2, b3, b4, b5, e1, e2, e3, e4, e5, e6, e7⟩ := div64_parts hi lo y s Y y1 y0 U L n1 n0 hlo hy hh hs hY hy1 hy0 hU hL hn1 hn0
  have hqU : q ≤ U := by rw [hq]; exact Nat.div_le_self U y1
  have hdm : q * y1 + r = U := by rw [hq, hr]; exact Nat.div_add_mod' U y1
  have hqy : q * y1 < 18446744073709551616 := by omega
  have e8 : IntKind.u64.wrap ((U : Int) / (y1 : Int)) = (q : Int) := by
    rw [show (U : Int) / (y1 : Int) = ((U / y1 : Nat) : Int) from (Int.natCast_ediv U y1).symm, ← hq, u64_fits _ (by omega)]
  have e8' : IntKind.u64.wrap ((U : Int).tdiv (y1 : Int)) = (q : Int) := by
    rw [Int.tdiv_eq_ediv_of_nonneg (by omega)]; exact e8
  have e9 : IntKind.u64.wrap ((U : Int) - (q : Int) * (y1 : Int)) = (r : Int) := by
    rw [cast_mul, show (U : Int) - ((q * y1 : Nat) : Int) = (r : Int) by omega, u64_fits _ (by omega)]
  have g : Guess 4294967296 Y y1 y0 U n1 q r := by
    rw [hq, hr]; exact Guess.first (by omega) (by omega) (by omega) b2 (by omega)
  have hr1 : r < y1 := by rw [hr]; exact Nat.mod_lt _ (by omega)
  have hqb : q ≤ 4294967297 := by rw [hq]; exact g.le b3
  have h0y : ((y : Int) == 0) = false := by simp; omega
  have h0h : ((hi : Int) == 0) = false := by simp; omega
  have hny : ((y1 : Int) == 0) = false := by simp; omega
  have hs64 : s ≤ 64 := by omega
  have HS := Lib.hid hs
  have HG := Lib.hid g
  have HT := Lib.hid hT
  have HN0 := Lib.hid (show n0 < 4294967296 by omega)
  clear hs hY hy1 hy0 hU hL hn1 hn0 hq hr hdm g hT
  go_enter Tryd.func97, Tryd.ntmps97
  go_upto_block 0 with (go_at_call 78; refine (lead64_any _ _ hyB.out).mono ?_; rintro e w' ⟨rfl, rfl⟩; rw [← HS.out])
  go_cut [15] (fun u wx => u = .int .u64 (((U * 4294967296 + n1) / Y : Nat) : Int) ∧ w = wx)
  case first =>
    clear e1 e2 e3 e4 e5 e6 e7 e8 e8' e9
    have y1b : y1 < 4294967296 := by have := HG.out.hY; omega
    go_wp2_with fail
    go_loop [15, 16] (fun u v => DivRel Y y1 y0 U n1 u v) (fun u _ => (intOf u).toNat)
    case atStart => exact ⟨_, _, rfl, rfl, Int.natCast_nonneg q, Int.natCast_nonneg r, Lib.hid ⟨by omega, by omega, by rw [Int.toNat_natCast, Int.toNat_natCast]; exact HG.out⟩⟩
    case round =>
      obtain ⟨a, r', rfl, rfl, ha0, hr0, hg⟩ := hrel
      obtain ⟨a2, r2, m, z, z0, e1, e2, e3, e4, e5, e6, hr2, hyes, hno⟩ := round_nums ha0 hr0 hg.out.1 hg.out.2.1 hg.out.2.2 y1b
      have HN := Lib.hid hno
      have HY := Lib.hid hyes
      clear hno hyes hlo hy hh h0 b1 b2 b3 b4 b5 hqU hqy hr1 hqb y1b h0y h0h hny hs64
      by_cases t : 4294967296 ≤ a
      · obtain ⟨g1, g2, g3, g4, g5⟩ := HY.out (.inl t)
        have e2' := e2 g1
        have G4 := Lib.hid g4
        have G5 := Lib.hid g5
        clear g4 g5 e2 e3
        by_cases t2 : 4294967296 ≤ r2
        · go_wp2_with fail
          go_meet
          exact ⟨by rw [G5.out t2], rfl⟩
        · go_wp2_with fail
          go_round
          case rel => exact G4.out (by omega)
          case measure => simp [intOf]; omega
      · have e3' := e3 (by omega)
        clear e3
        by_cases t3 : z < m
        · obtain ⟨g1, g2, g3, g4, g5⟩ := HY.out (.inr ⟨by omega, t3⟩)
          have e2' := e2 g1
          have G4 := Lib.hid g4
          have G5 := Lib.hid g5
          clear g4 g5 e2
          by_cases t2 : 4294967296 ≤ r2
          · go_wp2_with fail
            go_meet
            exact ⟨by rw [G5.out t2], rfl⟩
          · go_wp2_with fail
            go_round
            case rel => exact G4.out (by omega)
            case measure => simp [intOf]; omega
        · clear e2
          go_wp2_with fail
          go_meet
          exact ⟨by rw [HN.out (by omega) (by omega)], rfl⟩
  case rest =>
    obtain ⟨rfl, rfl⟩ := hcut
    have y1b : y1 < 4294967296 := by have := HG.out.hY; omega
    have hy1p : 0 < y1 := by omega
    obtain ⟨Q1, V, q', r', Q0, p, p2, p3, p4, p5, hQ1, hQ0, f1, f2, f3, f4, f5, f6, f7, f8, f9, f10, hrel0⟩ := mid_nums HG.out.hY HG.out.h0 HG.out.hn HN0.out b2 b1 b3
    rw [← hQ1]
    rw [HT.out] at f10
    have HR := Lib.hid hrel0
    have HQ0 := Lib.hid hQ0
    have HY1 := Lib.hid y1b
    clear e1 e2 e3 e4 e5 e6 e7 e8 e8' e9 hrel0 hQ0 hQ1 hlo hy hh h0 b1 b2 b3 b4 b5 hqU hqy hr1 hqb h0y h0h hs64 hny y1b
    go_upto_block 2 with fail
    go_cut [18] (fun u wx => u = .int .u64 (Q0 : Int) ∧ w = wx)
    case first =>
      clear f1 f2 f3 f4 f5 f6 f7 f8 f9 f10
      go_wp2_with fail
      go_loop [18, 16] (fun u v => DivRel Y y1 y0 V n0 u v) (fun u _ => (intOf u).toNat)
      case atStart => exact HR.out
      case round =>
        obtain ⟨a, r', rfl, rfl, ha0, hr0, hg⟩ := hrel
        obtain ⟨a2, r2, m, z, z0, e1, e2, e3, e4, e5, e6, hr2, hyes, hno⟩ := round_nums ha0 hr0 hg.out.1 hg.out.2.1 hg.out.2.2 HY1.out
        have HN := Lib.hid hno
        have HY := Lib.hid hyes
        clear hno hyes
        by_cases t : 4294967296 ≤ a
        · obtain ⟨g1, g2, g3, g4, g5⟩ := HY.out (.inl t)
          have e2' := e2 g1
          have G4 := Lib.hid g4
          have G5 := Lib.hid g5
          clear g4 g5 e2 e3
          by_cases t2 : 4294967296 ≤ r2
          · go_wp2_with fail
            go_meet
            exact ⟨by rw [G5.out t2, HQ0.out], rfl⟩
          · go_wp2_with fail
            go_round
            case rel => exact G4.out (by omega)
            case measure => simp [intOf]; omega
        · have e3' := e3 (by omega)
          clear e3
          by_cases t3 : z < m
          · obtain ⟨g1, g2, g3, g4, g5⟩ := HY.out (.inr ⟨by omega, t3⟩)
            have e2' := e2 g1
            have G4 := Lib.hid g4
            have G5 := Lib.hid g5
            clear g4 g5 e2
            by_cases t2 : 4294967296 ≤ r2
            · go_wp2_with fail
              go_meet
              exact ⟨by rw [G5.out t2, HQ0.out], rfl⟩
            · go_wp2_with fail
              go_round
              case rel => exact G4.out (by omega)
              case measure => simp [intOf]; omega
          · clear e2
            go_wp2_with fail
            go_meet
            exact ⟨by rw [HN.out (by omega) (by omega), HQ0.out], rfl⟩
    case rest =>
      obtain ⟨rfl, rfl⟩ := hcut
      clear f1 f2 f3 f4 f5 f6 f7 f8
      go_wp2_with fail
      go_ret2
      exact ⟨_, 0, rfl, rfl⟩

theorem div64_any (hi lo y : Nat) (hlo : lo < B64) (hy : y < B64) (hh : hi < y) (w : World) :
    Calls Tryd.prog 97 #[.int .u64 (hi : Int), .int .u64 (lo : Int), .int .u64 (y : Int)] w (DivPost ((hi * B64 + lo) / y) w) := by
  rcases Nat.eq_zero_or_pos hi with e | e
  · subst e
    have := div64_small lo y hlo hy hh w
    rw [Nat.zero_mul, Nat.zero_add]
    exact this
  · refine div64_big hi lo y _ _ _ _ _ _ _ _ _ _ _ ?_ hlo hy hh e rfl rfl rfl rfl rfl rfl rfl rfl rfl rfl w
    have hs : 64 - nbits y ≤ 64 := by omega
    unfold B64
    rw [← shifted hi lo _ hs, Nat.mul_div_mul_right _ _ (Nat.two_pow_pos _)]
end Go.Proofs.YtdmnohmjobofhaaDoor

namespace Go.Proofs.YtdmnohmjobofhaaDoor.Nx

/-- The guess by the highest words is not too small. -/
theorem guess_ge {B n t pn pm : Nat} {ps ds : List Nat} (hB : 2 ≤ B) (hps : Small B ps) (hn : 0 < n) (hl : ds.length = n) (hpl : ps.length = n + 1) (ht : ds[n - 1]? = some t) (h1 : ps[n]? = some pn) (h2 : ps[n - 1]? = some pm) (ht0 : t ≠ 0) :
    nval B ps / nval B ds ≤ (pn * B + pm) / t := by
  obtain ⟨j, rfl⟩ : ∃ j, n = j + 1 := ⟨n - 1, by omega⟩
  rw [Nat.add_sub_cancel] at ht h2
  have hD : nval B ds = nval B (ds.take j) + B ^ j * t := by
    have := nval_take_succ B ds j
    rw [List.take_of_length_le (by omega), getD_of ht] at this; exact this
  have hP : nval B ps = nval B (ps.take j) + B ^ j * (pn * B + pm) := by
    have e1 := nval_take_succ B ps (j + 1)
    have e2 := nval_take_succ B ps j
    rw [List.take_of_length_le (by omega), getD_of h1, e2, getD_of h2, Nat.pow_succ] at e1
    rw [e1]; grind
  have hlow := nval_lt (hps.take j)
  rw [List.length_take, Nat.min_eq_left (by omega)] at hlow
  have hBj : 0 < B ^ j := Nat.pow_pos (by omega)
  rw [Nat.le_div_iff_mul_le (by omega)]
  have hq : nval B ps / nval B ds * nval B ds ≤ nval B ps := Nat.div_mul_le_self _ _
  generalize nval B ps / nval B ds = q at *
  rw [hD, hP, Nat.mul_add] at hq
  have h3 : B ^ j * (q * t) < B ^ j * (pn * B + pm + 1) := by
    rw [Nat.mul_add (B ^ j), Nat.mul_one]
    have : q * (B ^ j * t) = B ^ j * (q * t) := by grind
    rw [this] at hq
    generalize q * nval B (ds.take j) = z at *
    omega
  have := Nat.lt_of_mul_lt_mul_left h3
  omega

/-- After k rounds of taking ys times f from seg in place: cur, the carry c of the product, the borrow b. -/
def RedI (B n k c b f : Nat) (cur seg ys : List Nat) : Prop :=
  cur.length = n ∧ Small B cur ∧ cur.drop k = seg.drop k ∧ nval B (cur.take k) + f * nval B (ys.take k) = nval B (seg.take k) + B ^ k * (c + b)
theorem RedI.start {B n f : Nat} {seg ys : List Nat} (hn : seg.length = n) (hs : Small B seg) : RedI B n 0 0 0 f seg seg ys := ⟨hn, hs, rfl, by simp [nval]⟩
theorem RedI.step {B n k c b f x y v l c' b' : Nat} {cur seg ys : List Nat} (h : RedI B n k c b f cur seg ys) (hx : cur[k]? = some x) (hy : ys.getD k 0 = y) (hv : v < B) (he : v + l + b = x + B * b') (hm : l + B * c' = y * f + c) :
    RedI B n (k + 1) c' b' f (cur.set k v) seg ys := by
  obtain ⟨h1, h2, h3, h4⟩ := h
  have hk := lt_of_get hx
  refine ⟨by simpa using h1, h2.set k hv, by rw [drop_set_succ]; exact drop_succ_of h3, ?_⟩
  rw [nval_take_succ, nval_take_succ, nval_take_succ, take_set_same, getD_set _ _ _ hk, getD_of (get_drop h3 hx), hy, Nat.pow_succ]
  generalize nval B (cur.take k) = a at *
  generalize nval B (seg.take k) = s at *
  generalize nval B (ys.take k) = e at *
  generalize B ^ k = P at *
  have e1 : P * (v + l + b) = P * (x + B * b') := by rw [he]
  have e2 : P * (l + B * c') = P * (y * f + c) := by rw [hm]
  have e3 : f * (e + P * y) = f * e + P * (y * f) := by grind
  rw [e3]
  have e4 : P * B * (c' + b') = P * (B * c') + P * (B * b') := by grind
  rw [e4]
  simp only [Nat.mul_add] at e1 e2 h4 ⊢
  omega
theorem RedI.done {B m c b f x v b' : Nat} {cur seg ys : List Nat} (h : RedI B (m + 1) m c b f cur seg ys) (hn : seg.length = m + 1) (hm : ys.length = m) (hx : cur[m]? = some x) (he : v + c + b = x + B * b') :
    nval B (cur.set m v) + f * nval B ys = nval B seg + B ^ (m + 1) * b' := by
  obtain ⟨h1, h2, h3, h4⟩ := h
  have hk := lt_of_get hx
  rw [List.take_of_length_le (l := ys) (by omega)] at h4
  have e1 : nval B (cur.set m v) = nval B (cur.take m) + B ^ m * v := by
    have := nval_take_succ B (cur.set m v) m
    rw [List.take_of_length_le (by simp; omega), take_set_same, getD_set _ _ _ hk] at this; exact this
  have e2 : nval B seg = nval B (seg.take m) + B ^ m * x := by
    have := nval_take_succ B seg m
    rw [List.take_of_length_le (by omega), getD_of (get_drop h3 hx)] at this; exact this
  rw [e1, e2, Nat.pow_succ]
  have e3 : B ^ m * (v + c + b) = B ^ m * (x + B * b') := by rw [he]
  have e4 : B ^ m * B * b' = B ^ m * (B * b') := by grind
  rw [e4]
  simp only [Nat.mul_add] at e3 h4 ⊢
  omega

/-- A word that may be too great: what is left, and the borrow. -/
def QuoI (P D M wd bo V : Nat) : Prop := V + wd * D = P + M * bo ∧ bo ≤ 1 ∧ P / D ≤ wd ∧ V < M
theorem QuoI.done {P D M wd V : Nat} (hD : 0 < D) (h : QuoI P D M wd 0 V) : wd = P / D ∧ V = P % D := by
  obtain ⟨h1, _, h3, _⟩ := h
  have h4 : wd ≤ P / D := by rw [Nat.le_div_iff_mul_le hD]; omega
  have h5 : wd = P / D := by omega
  refine ⟨h5, ?_⟩
  have := Nat.div_add_mod' P D
  rw [← h5] at this; omega
theorem QuoI.high {P D M wd V : Nat} (hD : 0 < D) (h : QuoI P D M wd 1 V) : P / D + 1 ≤ wd := by
  obtain ⟨h1, _, _, h4⟩ := h
  have : P / D < wd := by rw [Nat.div_lt_iff_lt_mul hD]; omega
  omega
theorem QuoI.next {P D M wd V V' cy : Nat} (hD : 0 < D) (h : QuoI P D M wd 1 V) (hV : V' + M * cy = V + D) (hcy : cy ≤ 1) (hlt : V' < M) : QuoI P D M (wd - 1) (1 - cy) V' := by
  have hh := h.high hD
  obtain ⟨h1, _, _, _⟩ := h
  have hw : 0 < wd := Nat.lt_of_lt_of_le (Nat.succ_pos _) hh
  refine ⟨?_, by omega, Nat.le_sub_of_add_le hh, hlt⟩
  obtain ⟨u, rfl⟩ : ∃ u, wd = u + 1 := ⟨wd - 1, by omega⟩
  rw [Nat.add_mul, Nat.one_mul] at h1
  rw [Nat.add_sub_cancel]
  rcases (show cy = 0 ∨ cy = 1 by omega) with e | e <;> subst e <;> simp at * <;> omega
end Go.Proofs.YtdmnohmjobofhaaDoor.Nx
