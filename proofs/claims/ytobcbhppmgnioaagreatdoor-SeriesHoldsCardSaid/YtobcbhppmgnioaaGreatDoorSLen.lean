/- math/bits.Len64, walked as the library's text stands: how many bits a word has. -/
import Derived.Test.YtobcbhppmgnioaaGreatDoorProg
import Derived.Test.YtobcbhppmgnioaaGreatDoorSNatA
import Derived.Lib.Strings
import Derived.Lib.Slices
import Derived.Lib.Small
import Derived.Lib.Walk
namespace Go.Proofs.YtobcbhppmgnioaaGreatDoor
set_option maxRecDepth 100000
open Nx
theorem nbits_cut {X k p : Nat} (hp : p = 2 ^ k) (hX : p ≤ X) : nbits X = k + nbits (X / p) := by
 subst hp
 have hq : X / 2 ^ k ≠ 0 := by
  have := Nat.div_pos hX (Nat.two_pow_pos k); omega
 have h := nbits_top (q := 1) (m := k) (lowv := X % 2 ^ k) (top := X / 2 ^ k) (by rw [Nat.one_mul]; exact Nat.mod_lt _ (Nat.two_pow_pos k)) hq
 rw [Nat.one_mul, Nat.mod_add_div] at h
 exact h
theorem tab_at {X k p : Nat} {b : Int} (hp : p = 2 ^ k) (hb : b = ((X / p : Nat) : Int)) (h8 : X / p < 256) (hk : k = 0 ∨ p ≤ X) :
  0 ≤ Lib.len8 b ∧ Lib.len8 b ≤ 8 ∧ (k : Int) + Lib.len8 b = (nbits X : Int) := by
 have b0 : 0 ≤ b := by rw [hb]; exact Int.natCast_nonneg _
 have hb' : b.toNat = X / p := by rw [hb]; exact Int.toNat_natCast _
 have e := Lib.len8_of b b0 (by omega)
 have l := Lib.bitLen_le8' b b0 (by omega)
 rw [bitLen_nbits _ (by omega)] at e l
 rw [hb'] at e l
 refine ⟨by omega, by omega, ?_⟩
 rcases hk with rfl | hk
 ·rw [Nat.pow_zero] at hp; subst hp; rw [Nat.div_one] at e; rw [e]; simp
 ·rw [nbits_cut hp hk, e]; omega
theorem len_wrap {n s : Int} {X k : Nat} (h : 0 ≤ n ∧ n ≤ 8 ∧ (k : Int) + n = (nbits X : Int)) (hs : s = k) (hk : k ≤ 64) :
  (s + ((n + 9223372036854775808) % 18446744073709551616 - 9223372036854775808) + 9223372036854775808) % 18446744073709551616 - 9223372036854775808 = (nbits X : Int) := by
 omega
theorem len_wrap0 {n : Int} {X : Nat} (h : 0 ≤ n ∧ n ≤ 8 ∧ ((0 : Nat) : Int) + n = (nbits X : Int)) :
  (n + 9223372036854775808) % 18446744073709551616 - 9223372036854775808 = (nbits X : Int) := by
 omega
attribute [local irreducible] Lib.len8
set_option maxHeartbeats 4000000 in
theorem len64_nat (X : Nat) (w : World) (hX : X < 18446744073709551616) :
  Calls Tryz.prog 149 #[.int .u64 (X : Int)] w fun e w' => e = .returned (.int .i64 (nbits X : Int)) ∧ w = w' := by
 go_enter Tryz.func149, Tryz.ntmps149
 go_wp2
 all_goals (go_ret; refine ⟨congrArg (fun z => Ending.returned (Value.int IntKind.i64 z)) ?_, rfl⟩)
 all_goals first
  | exact len_wrap (tab_at (X := X) (k := 56) (p := 72057594037927936) (by decide) (by omega) (by omega) (by omega)) rfl (by decide)
  | exact len_wrap (tab_at (X := X) (k := 48) (p := 281474976710656) (by decide) (by omega) (by omega) (by omega)) rfl (by decide)
  | exact len_wrap (tab_at (X := X) (k := 40) (p := 1099511627776) (by decide) (by omega) (by omega) (by omega)) rfl (by decide)
  | exact len_wrap (tab_at (X := X) (k := 32) (p := 4294967296) (by decide) (by omega) (by omega) (by omega)) rfl (by decide)
  | exact len_wrap (tab_at (X := X) (k := 24) (p := 16777216) (by decide) (by omega) (by omega) (by omega)) rfl (by decide)
  | exact len_wrap (tab_at (X := X) (k := 16) (p := 65536) (by decide) (by omega) (by omega) (by omega)) rfl (by decide)
  | exact len_wrap (tab_at (X := X) (k := 8) (p := 256) (by decide) (by omega) (by omega) (by omega)) rfl (by decide)
  | exact len_wrap0 (tab_at (X := X) (k := 0) (p := 1) (by decide) (by omega) (by omega) (by omega))
end Go.Proofs.YtobcbhppmgnioaaGreatDoor
