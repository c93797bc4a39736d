/- math/bits.Div64: the quotient. -/
import Derived.Test.YtnkbamjjpdmbaaaDoorNatB
import Derived.Test.YtnkbamjjpdmbaaaDoorLead
import Derived.Test.YtnkbamjjpdmbaaaDoorMathD
import Derived.LoopTactic
import Derived.Deep.QuietTactic
import Derived.BigQuiet
import Derived.Deep.DeepCutAuto
import Derived.Deep.CutBlock
namespace Go.Proofs.YtnkbamjjpdmbaaaDoor
open Go.RowKit Nx

/-- What Div64 leaves: the quotient, and some rest. -/
def DivPost (q : Nat) (w : World) (e : Ending) (w' : World) : Prop := ∃ (r : Value) (m : Nat), e = .returned (.tuple #[.int .u64 (q : Int), r]) ∧ w' = w.drewN m

theorem pow_cast (a s : Nat) : (a : Int) * 2 ^ s = ((a * 2 ^ s : Nat) : Int) := by simp
theorem div_cast (a s : Nat) : (a : Int) / 2 ^ s = ((a / 2 ^ s : Nat) : Int) := by simp

set_option maxRecDepth 100000 in
set_option maxHeartbeats 400000 in
theorem div64_small (lo y : Nat) (hlo : lo < B64) (hy : y < B64) (h : 0 < y) (w : World) :
    Calls Tryd.prog 107 #[.int .u64 (0 : Int), .int .u64 (lo : Int), .int .u64 (y : Int)] w (DivPost (lo / y) w) := by
  unfold B64 at hlo hy
  have h0 : ((y : Int) == 0) = false := by simp; omega
  have h1 : (0 : Int) < y := by omega
  have hq : lo / y ≤ lo := Nat.div_le_self lo y
  have e : IntKind.u64.wrap ((lo : Int) / (y : Int)) = ((lo / y : Nat) : Int) := by
    rw [show (lo : Int) / (y : Int) = ((lo / y : Nat) : Int) from (Int.natCast_ediv lo y).symm, u64_fits _ (by omega)]
  go_enter Tryd.func107, Tryd.ntmps107
  go_wp2
  go_quiet (fail)
  go_wp2
  go_ret2
  exact ⟨_, _, rfl, rfl⟩

/-- The numbers that Div64 goes by. -/
theorem div64_parts (hi lo y s Y y1 y0 U L n1 n0 : Nat) (hlo : lo < 18446744073709551616) (hy : y < 18446744073709551616) (hh : hi < y) (hs : s = 64 - nbits y)
    (hY : Y = y * 2 ^ s) (hy1 : y1 = Y / 4294967296) (hy0 : y0 = Y % 4294967296) (hU : U = hi * 2 ^ s + lo / 2 ^ (64 - s)) (hL : L = lo * 2 ^ s % 18446744073709551616)
    (hn1 : n1 = L / 4294967296) (hn0 : n0 = L % 4294967296) :
    Y < 18446744073709551616 ∧ U < Y ∧ 4294967296 ≤ 2 * y1 ∧ U < 18446744073709551616 ∧ hi * 2 ^ s < 18446744073709551616 ∧
    IntKind.u64.wrap ((y : Int) * 2 ^ s) = (Y : Int) ∧ (Y : Int) / 4294967296 = (y1 : Int) ∧ bits .and .u64 (Y : Int) 4294967295 = (y0 : Int) ∧
    bits .or .u64 (IntKind.u64.wrap ((hi : Int) * 2 ^ s)) ((lo : Int) / 2 ^ (64 - s)) = (U : Int) ∧
    IntKind.u64.wrap ((lo : Int) * 2 ^ s) = (L : Int) ∧ (L : Int) / 4294967296 = (n1 : Int) ∧ bits .and .u64 (L : Int) 4294967295 = (n0 : Int) := by
  have hb : nbits y ≤ 64 := nbits_le (show y < 2 ^ 64 from hy)
  have hyne : y ≠ 0 := by omega
  have hlt := nbits_lt y
  have hge := nbits_ge hyne
  have hpos := nbits_pos hyne
  have hp : 2 ^ nbits y * 2 ^ s = 18446744073709551616 := by rw [← Nat.pow_add, show nbits y + s = 64 by omega]
  have hp' : 2 ^ (nbits y - 1) * 2 ^ s = 9223372036854775808 := by rw [← Nat.pow_add, show nbits y - 1 + s = 63 by omega]
  have hsp := Nat.two_pow_pos s
  have hYlt : Y < 18446744073709551616 := by rw [hY, ← hp]; exact Nat.mul_lt_mul_of_pos_right hlt hsp
  have hYge : 9223372036854775808 ≤ Y := by rw [hY, ← hp']; exact Nat.mul_le_mul_right _ hge
  have hq : 2 ^ (64 - s) * 2 ^ s = 18446744073709551616 := by rw [← Nat.pow_add, show 64 - s + s = 64 by omega]
  have hlow : lo / 2 ^ (64 - s) < 2 ^ s := by
    rw [Nat.div_lt_iff_lt_mul (Nat.two_pow_pos _), Nat.mul_comm, hq]; exact hlo
  have hhi : (hi + 1) * 2 ^ s ≤ Y := by rw [hY]; exact Nat.mul_le_mul_right _ hh
  rw [Nat.add_mul, Nat.one_mul] at hhi
  have hUY : U < Y := by omega
  refine ⟨hYlt, hUY, by omega, by omega, by omega, ?_, by omega, ?_, ?_, ?_, by omega, ?_⟩
  · rw [pow_cast, u64_fits _ (by omega), hY]
  · rw [mask32 Y hYlt, hy0]
  · rw [pow_cast, u64_fits _ (by omega), div_cast, bits_or_u64_nat _ _ (by omega) (by omega), hU]
    congr 1
    rw [Nat.mul_comm hi, ← Nat.two_pow_add_eq_or_of_lt hlow]
  · rw [pow_cast, u64_wraps, hL]
  · rw [mask32 L (by omega), hn0]

/-- What holds at the head of each round. -/
def DivRel (Y y1 y0 U n : Nat) (u v : Value) : Prop := ∃ a r : Int, u = .int .u64 a ∧ v = .int .u64 r ∧ 0 ≤ a ∧ 0 ≤ r ∧ Hid (a ≤ 4294967297 ∧ r < 4294967296 ∧ Guess 4294967296 Y y1 y0 U n a.toNat r.toNat)

/-- A round's numbers, and what becomes of the guess. -/
theorem round_nums {Y y1 y0 U n : Nat} {a r : Int} (ha0 : 0 ≤ a) (hr0 : 0 ≤ r) (ha : a ≤ 4294967297) (hr : r < 4294967296) (g : Guess 4294967296 Y y1 y0 U n a.toNat r.toNat) (hy1 : y1 < 4294967296) :
    ∃ a2 r2 m z z0 : Int, IntKind.u64.wrap (r + (y1 : Int)) = r2 ∧ (1 ≤ a → IntKind.u64.wrap (a - 1) = a2) ∧ (a < 4294967296 → IntKind.u64.wrap (a * (y0 : Int)) = m) ∧
      IntKind.u64.wrap (4294967296 * r) = z0 ∧ IntKind.u64.wrap (z0 + (n : Int)) = z ∧ IntKind.u64.wrap (4294967296 * r + (n : Int)) = z ∧ 0 ≤ r2 ∧
      ((4294967296 ≤ a ∨ (a < 4294967296 ∧ z < m)) → 1 ≤ a ∧ 0 ≤ a2 ∧ a2 < a ∧ (r2 < 4294967296 → DivRel Y y1 y0 U n (.int .u64 a2) (.int .u64 r2)) ∧ (4294967296 ≤ r2 → a2 = (((U * 4294967296 + n) / Y : Nat) : Int))) ∧
      (a < 4294967296 → m ≤ z → a = (((U * 4294967296 + n) / Y : Nat) : Int)) := by
  have h0 := g.h0; have hn := g.hn
  obtain ⟨A, rfl⟩ := Int.eq_ofNat_of_zero_le ha0
  obtain ⟨R, rfl⟩ := Int.eq_ofNat_of_zero_le hr0
  rw [Int.toNat_natCast, Int.toNat_natCast] at g
  have hz : IntKind.u64.wrap (4294967296 * (R : Int) + (n : Int)) = ((4294967296 * R + n : Nat) : Int) := by
    rw [show (4294967296 : Int) * (R : Int) + (n : Int) = ((4294967296 * R + n : Nat) : Int) by omega, u64_fits _ (by omega)]
  have hz0 : IntKind.u64.wrap (4294967296 * (R : Int)) = ((4294967296 * R : Nat) : Int) := by
    rw [show (4294967296 : Int) * (R : Int) = ((4294967296 * R : Nat) : Int) by omega, u64_fits _ (by omega)]
  have hm : (A : Int) < 4294967296 → IntKind.u64.wrap ((A : Int) * (y0 : Int)) = ((A * y0 : Nat) : Int) := by
    intro h
    have h2 : A * y0 < 18446744073709551616 := by
      have := Nat.mul_lt_mul_of_le_of_lt (show A ≤ 4294967296 by omega) h0 (by omega : 0 < 4294967296)
      omega
    rw [cast_mul, u64_fits _ h2]
  refine ⟨((A - 1 : Nat) : Int), ((R + y1 : Nat) : Int), ((A * y0 : Nat) : Int), ((4294967296 * R + n : Nat) : Int), ((4294967296 * R : Nat) : Int), ?_, ?_, hm, hz0, ?_, hz, Int.natCast_nonneg _, ?_, ?_⟩
  · rw [cast_add, u64_fits _ (by omega)]
  · intro h; rw [show (A : Int) - 1 = ((A - 1 : Nat) : Int) by omega, u64_fits _ (by omega)]
  · rw [cast_add, u64_fits _ (by omega)]
  · intro t
    have t' : 4294967296 ≤ A ∨ 4294967296 * R + n < A * y0 := by
      rcases t with t | ⟨_, t⟩
      · left; omega
      · right; exact Int.ofNat_lt.1 t
    have hp := g.high t'
    have hp' : 0 < A := Nat.lt_of_lt_of_le (Nat.succ_pos _) hp
    have nx := g.next t'
    refine ⟨by omega, by omega, by omega, fun h => ⟨_, _, rfl, rfl, Int.natCast_nonneg _, Int.natCast_nonneg _, Lib.hid ⟨by omega, h, ?_⟩⟩, fun h => ?_⟩
    · rw [Int.toNat_natCast, Int.toNat_natCast]; exact nx
    · rw [nx.broke (by omega) (by omega)]
  · intro _ h
    rw [g.done (Int.ofNat_le.1 h)]

/-- The numbers between the two halves, and at the end. -/
theorem mid_nums {Y y1 y0 U n1 n0 : Nat} (hY : Y = y1 * 4294967296 + y0) (h0 : y0 < 4294967296) (hn1 : n1 < 4294967296) (hn0 : n0 < 4294967296) (hU : U < Y) (hYb : Y < 18446744073709551616) (hy1 : 4294967296 ≤ 2 * y1) :
    ∃ (Q1 V q r Q0 : Nat) (p p2 p3 p4 p5 : Int), Q1 = (U * 4294967296 + n1) / Y ∧ Q0 = (V * 4294967296 + n0) / Y ∧ 
      IntKind.u64.wrap ((U : Int) * 4294967296) = p ∧ IntKind.u64.wrap (p + (n1 : Int)) = p2 ∧ IntKind.u64.wrap ((Q1 : Int) * (Y : Int)) = p3 ∧ IntKind.u64.wrap (p2 - p3) = (V : Int) ∧
      IntKind.u64.wrap ((V : Int) / (y1 : Int)) = (q : Int) ∧ IntKind.u64.wrap ((V : Int).tdiv (y1 : Int)) = (q : Int) ∧ IntKind.u64.wrap ((q : Int) * (y1 : Int)) = p4 ∧ IntKind.u64.wrap ((V : Int) - p4) = (r : Int) ∧
      IntKind.u64.wrap ((Q1 : Int) * 4294967296) = p5 ∧ IntKind.u64.wrap (p5 + (Q0 : Int)) = ((((U * 4294967296 + n1) * 4294967296 + n0) / Y : Nat) : Int) ∧
      DivRel Y y1 y0 V n0 (.int .u64 (q : Int)) (.int .u64 (r : Int)) := by
  have hYp : 0 < Y := by omega
  have hdm := Nat.div_add_mod (U * 4294967296 + n1) Y
  have hV : (U * 4294967296 + n1) % Y < Y := Nat.mod_lt _ hYp
  have hth := two_halves 4294967296 U n1 n0 Y hYp
  have g1 : Guess 4294967296 Y y1 y0 U n1 (U / y1) (U % y1) := Guess.first hY h0 hn1 hU (by omega)
  have hQ1 := g1.lt
  obtain ⟨Q1, hq⟩ : ∃ Q1, Q1 = (U * 4294967296 + n1) / Y := ⟨_, rfl⟩
  obtain ⟨V, hv⟩ : ∃ V, V = (U * 4294967296 + n1) % Y := ⟨_, rfl⟩
  rw [← hq] at hdm hth hQ1
  rw [← hv] at hdm hth hV
  clear hv g1
  have g : Guess 4294967296 Y y1 y0 V n0 (V / y1) (V % y1) := Guess.first hY h0 hn0 hV (by omega)
  have hQ0 := g.lt
  have hqb := g.le hy1
  have hdv := Nat.div_add_mod' V y1
  have hrm : V % y1 < y1 := Nat.mod_lt _ (by omega)
  have hqV : V / y1 ≤ V := Nat.div_le_self _ _
  have hq' : IntKind.u64.wrap ((V : Int) / (y1 : Int)) = ((V / y1 : Nat) : Int) := by
    rw [show (V : Int) / (y1 : Int) = ((V / y1 : Nat) : Int) from (Int.natCast_ediv V y1).symm, u64_fits _ (by omega)]
  have hrel : DivRel Y y1 y0 V n0 (.int .u64 ((V / y1 : Nat) : Int)) (.int .u64 ((V % y1 : Nat) : Int)) :=
    ⟨_, _, rfl, rfl, Int.natCast_nonneg _, Int.natCast_nonneg _, Lib.hid ⟨by omega, by omega, by rw [Int.toNat_natCast, Int.toNat_natCast]; exact g⟩⟩
  refine ⟨Q1, V, V / y1, V % y1, (V * 4294967296 + n0) / Y, IntKind.u64.wrap ((U : Int) * 4294967296), IntKind.u64.wrap (IntKind.u64.wrap ((U : Int) * 4294967296) + (n1 : Int)), IntKind.u64.wrap ((Q1 : Int) * (Y : Int)),
    IntKind.u64.wrap (((V / y1 : Nat) : Int) * (y1 : Int)), IntKind.u64.wrap ((Q1 : Int) * 4294967296), ?_⟩
  refine And.intro ?_ (And.intro ?_ (And.intro ?_ (And.intro ?_ (And.intro ?_ (And.intro ?_ (And.intro hq' (And.intro ?_ (And.intro ?_ (And.intro ?_ (And.intro ?_ (And.intro ?_ hrel)))))))))))
  · exact hq
  · rfl
  · rfl
  · rfl
  · rfl
  · rw [cast_mul, show (U : Int) * 4294967296 = ((U * 4294967296 : Nat) : Int) by omega]
    rw [Nat.mul_comm Q1 Y]
    obtain ⟨a, ha⟩ : ∃ a, a = Y * Q1 := ⟨_, rfl⟩
    rw [← ha] at hdm ⊢
    clear hth hq ha
    simp only [IntKind.wrap_u64]
    omega
  · rw [Int.tdiv_eq_ediv_of_nonneg (by omega)]; exact hq'
  · rfl
  · rw [cast_mul]
    obtain ⟨a, ha⟩ : ∃ a, a = V / y1 * y1 := ⟨_, rfl⟩
    rw [← ha] at hdv ⊢
    clear hth hq ha hq' hrel
    simp only [IntKind.wrap_u64]
    omega
  · rfl
  · rw [hth]
    obtain ⟨Q0, h0q⟩ : ∃ Q0, Q0 = (V * 4294967296 + n0) / Y := ⟨_, rfl⟩
    rw [← h0q] at hQ0 ⊢
    clear hth hq h0q hq' hrel
    simp only [IntKind.wrap_u64]
    omega

set_option maxRecDepth 100000 in
set_option maxHeartbeats 1000000 in
theorem div64_big (hi lo y s Y y1 y0 U L n1 n0 q r T : Nat) (hT : ((U * 4294967296 + n1) * 4294967296 + n0) / Y = T) (hlo : lo < B64) (hy : y < B64) (hh : hi < y) (h0 : 0 < hi) (hs : s = 64 - nbits y)
    (hY : Y = y * 2 ^ s) (hy1 : y1 = Y / 4294967296) (hy0 : y0 = Y % 4294967296) (hU : U = hi * 2 ^ s + lo / 2 ^ (64 - s)) (hL : L = lo * 2 ^ s % 18446744073709551616)
    (hn1 : n1 = L / 4294967296) (hn0 : n0 = L % 4294967296) (hq : q = U / y1) (hr : r = U % y1) (w : World) :
    Calls Tryd.prog 107 #[.int .u64 (hi : Int), .int .u64 (lo : Int), .int .u64 (y : Int)] w (DivPost T w) := by
  have hyB := Lib.hid hy
  unfold B64 at hlo hy
  obtain ⟨b1, b2, b3, b4, b5, e1, e2, e3, e4, e5, e6, e7⟩ := div64_parts hi lo y s Y y1 y0 U L n1 n0 hlo hy hh hs hY hy1 hy0 hU hL hn1 hn0
  have hqU : q ≤ U := by rw [hq]; exact Nat.div_le_self U y1
  have hdm : q * y1 + r = U := by rw [hq, hr]; exact Nat.div_add_mod' U y1
  have hqy : q * y1 < 18446744073709551616 := by omega
  have e8 : IntKind.u64.wrap ((U : Int) / (y1 : Int)) = (q : Int) := by
    rw [show (U : Int) / (y1 : Int) = ((U / y1 : Nat) : Int) from (Int.natCast_ediv U y1).symm, ← hq, u64_fits _ (by omega)]
  have e8' : IntKind.u64.wrap ((U : Int).tdiv (y1 : Int)) = (q : Int) := by
    rw [Int.tdiv_eq_ediv_of_nonneg (by omega)]; exact e8
  have e9 : IntKind.u64.wrap ((U : Int) - (q : Int) * (y1 : Int)) = (r : Int) := by
    rw [cast_mul, show (U : Int) - ((q * y1 : Nat) : Int) = (r : Int) by omega, u64_fits _ (by omega)]
  have g : Guess 4294967296 Y y1 y0 U n1 q r := by
    rw [hq, hr]; exact Guess.first (by omega) (by omega) (by omega) b2 (by omega)
  have hr1 : r < y1 := by rw [hr]; exact Nat.mod_lt _ (by omega)
  have hqb : q ≤ 4294967297 := by rw [hq]; exact g.le b3
  have h0y : ((y : Int) == 0) = false := by simp; omega
  have h0h : ((hi : Int) == 0) = false := by simp; omega
  have hny : ((y1 : Int) == 0) = false := by simp; omega
  have hs64 : s ≤ 64 := by omega
  have HS := Lib.hid hs
  have HG := Lib.hid g
  have HT := Lib.hid hT
  have HN0 := Lib.hid (show n0 < 4294967296 by omega)
  clear hs hY hy1 hy0 hU hL hn1 hn0 hq hr hdm g hT
  go_enter Tryd.func107, Tryd.ntmps107
  go_upto_block 0 with (go_at_call 103; refine (lead64_any _ _ hyB.out).mono ?_; rintro e w' ⟨rfl, rfl⟩; rw [← HS.out])
  go_cut [15] (fun u wx => u = .int .u64 (((U * 4294967296 + n1) / Y : Nat) : Int) ∧ w = wx)
  case first =>
    clear e1 e2 e3 e4 e5 e6 e7 e8 e8' e9
    have y1b : y1 < 4294967296 := by have := HG.out.hY; omega
    go_wp2_with fail
    go_loop [15, 16] (fun u v => DivRel Y y1 y0 U n1 u v) (fun u _ => (intOf u).toNat)
    case atStart => exact ⟨_, _, rfl, rfl, Int.natCast_nonneg q, Int.natCast_nonneg r, Lib.hid ⟨by omega, by omega, by rw [Int.toNat_natCast, Int.toNat_natCast]; exact HG.out⟩⟩
    case round =>
      obtain ⟨a, r', rfl, rfl, ha0, hr0, hg⟩ := hrel
      obtain ⟨a2, r2, m, z, z0, e1, e2, e3, e4, e5, e6, hr2, hyes, hno⟩ := round_nums ha0 hr0 hg.out.1 hg.out.2.1 hg.out.2.2 y1b
      have HN := Lib.hid hno
      have HY := Lib.hid hyes
      clear hno hyes hlo hy hh h0 b1 b2 b3 b4 b5 hqU hqy hr1 hqb y1b h0y h0h hny hs64
      by_cases t : 4294967296 ≤ a
      · obtain ⟨g1, g2, g3, g4, g5⟩ := HY.out (.inl t)
        have e2' := e2 g1
        have G4 := Lib.hid g4
        have G5 := Lib.hid g5
        clear g4 g5 e2 e3
        by_cases t2 : 4294967296 ≤ r2
        · go_wp2_with fail
          go_meet
          exact ⟨by rw [G5.out t2], rfl⟩
        · go_wp2_with fail
          go_round
          case rel => exact G4.out (by omega)
          case measure => simp [intOf]; omega
      · have e3' := e3 (by omega)
        clear e3
        by_cases t3 : z < m
        · obtain ⟨g1, g2, g3, g4, g5⟩ := HY.out (.inr ⟨by omega, t3⟩)
          have e2' := e2 g1
          have G4 := Lib.hid g4
          have G5 := Lib.hid g5
          clear g4 g5 e2
          by_cases t2 : 4294967296 ≤ r2
          · go_wp2_with fail
            go_meet
            exact ⟨by rw [G5.out t2], rfl⟩
          · go_wp2_with fail
            go_round
            case rel => exact G4.out (by omega)
            case measure => simp [intOf]; omega
        · clear e2
          go_wp2_with fail
          go_meet
          exact ⟨by rw [HN.out (by omega) (by omega)], rfl⟩
  case rest =>
    obtain ⟨rfl, rfl⟩ := hcut
    have y1b : y1 < 4294967296 := by have := HG.out.hY; omega
    have hy1p : 0 < y1 := by omega
    obtain ⟨Q1, V, q', r', Q0, p, p2, p3, p4, p5, hQ1, hQ0, f1, f2, f3, f4, f5, f6, f7, f8, f9, f10, hrel0⟩ := mid_nums HG.out.hY HG.out.h0 HG.out.hn HN0.out b2 b1 b3
    rw [← hQ1]
    rw [HT.out] at f10
    have HR := Lib.hid hrel0
    have HQ0 := Lib.hid hQ0
    have HY1 := Lib.hid y1b
    clear e1 e2 e3 e4 e5 e6 e7 e8 e8' e9 hrel0 hQ0 hQ1 hlo hy hh h0 b1 b2 b3 b4 b5 hqU hqy hr1 hqb h0y h0h hs64 hny y1b
    go_upto_block 2 with fail
    go_cut [18] (fun u wx => u = .int .u64 (Q0 : Int) ∧ w = wx)
    case first =>
      clear f1 f2 f3 f4 f5 f6 f7 f8 f9 f10
      go_wp2_with fail
      go_loop [18, 16] (fun u v => DivRel Y y1 y0 V n0 u v) (fun u _ => (intOf u).toNat)
      case atStart => exact HR.out
      case round =>
        obtain ⟨a, r', rfl, rfl, ha0, hr0, hg⟩ := hrel
        obtain ⟨a2, r2, m, z, z0, e1, e2, e3, e4, e5, e6, hr2, hyes, hno⟩ := round_nums ha0 hr0 hg.out.1 hg.out.2.1 hg.out.2.2 HY1.out
        have HN := Lib.hid hno
        have HY := Lib.hid hyes
        clear hno hyes
        by_cases t : 4294967296 ≤ a
        · obtain ⟨g1, g2, g3, g4, g5⟩ := HY.out (.inl t)
          have e2' := e2 g1
          have G4 := Lib.hid g4
          have G5 := Lib.hid g5
          clear g4 g5 e2 e3
          by_cases t2 : 4294967296 ≤ r2
          · go_wp2_with fail
            go_meet
            exact ⟨by rw [G5.out t2, HQ0.out], rfl⟩
          · go_wp2_with fail
            go_round
            case rel => exact G4.out (by omega)
            case measure => simp [intOf]; omega
        · have e3' := e3 (by omega)
          clear e3
          by_cases t3 : z < m
          · obtain ⟨g1, g2, g3, g4, g5⟩ := HY.out (.inr ⟨by omega, t3⟩)
            have e2' := e2 g1
            have G4 := Lib.hid g4
            have G5 := Lib.hid g5
            clear g4 g5 e2
            by_cases t2 : 4294967296 ≤ r2
            · go_wp2_with fail
              go_meet
              exact ⟨by rw [G5.out t2, HQ0.out], rfl⟩
            · go_wp2_with fail
              go_round
              case rel => exact G4.out (by omega)
              case measure => simp [intOf]; omega
          · clear e2
            go_wp2_with fail
            go_meet
            exact ⟨by rw [HN.out (by omega) (by omega), HQ0.out], rfl⟩
    case rest =>
      obtain ⟨rfl, rfl⟩ := hcut
      clear f1 f2 f3 f4 f5 f6 f7 f8
      go_wp2_with fail
      go_ret2
      exact ⟨_, 0, rfl, rfl⟩

theorem div64_any (hi lo y : Nat) (hlo : lo < B64) (hy : y < B64) (hh : hi < y) (w : World) :
    Calls Tryd.prog 107 #[.int .u64 (hi : Int), .int .u64 (lo : Int), .int .u64 (y : Int)] w (DivPost ((hi * B64 + lo) / y) w) := by
  rcases Nat.eq_zero_or_pos hi with e | e
  · subst e
    have := div64_small lo y hlo hy hh w
    rw [Nat.zero_mul, Nat.zero_add]
    exact this
  · refine div64_big hi lo y _ _ _ _ _ _ _ _ _ _ _ ?_ hlo hy hh e rfl rfl rfl rfl rfl rfl rfl rfl rfl rfl w
    have hs : 64 - nbits y ≤ 64 := by omega
    unfold B64
    rw [← shifted hi lo _ hs, Nat.mul_div_mul_right _ _ (Nat.two_pow_pos _)]
end Go.Proofs.YtnkbamjjpdmbaaaDoor
