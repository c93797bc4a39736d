/- math/bits.TrailingZeros64, by its table. -/
import Derived.Test.YtimkifkikcohgaaDoorBits
namespace Go.Proofs.YtimkifkikcohgaaDoor
open Go.RowKit Nx

/-- The table deBruijn64tab. -/
def deb : List Nat := [0, 1, 56, 2, 57, 49, 28, 3, 61, 58, 42, 50, 38, 29, 17, 4, 62, 47, 59, 36, 45, 43, 51, 22, 53, 39, 33, 30, 24, 18, 12, 5, 63, 55, 48, 27, 60, 41, 37, 16, 46, 35, 44, 21, 52, 32, 23, 11, 54, 26, 40, 15, 34, 20, 31, 10, 25, 14, 19, 9, 13, 8, 7, 6]
def Tab (w : World) : Prop := ∀ i : Nat, i < 64 → w.cell? ⟨0, i, none⟩ = some (.int .u8 ((deb.getD i 0 : Nat) : Int))
theorem deb_at : ∀ k : Fin 64, deb.getD (2 ^ k.val * 285870213051353865 % 18446744073709551616 / 288230376151711744) 0 = k.val := by decide +kernel

theorem trail_index (x : Nat) (hx0 : x ≠ 0) (h : x < B64) : ∃ i : Nat, i < 64 ∧ deb.getD i 0 = ntz x ∧
    IntKind.u64.wrap (bits .and .u64 (x : Int) (IntKind.u64.wrap (-(x : Int))) * 285870213051353865) / 288230376151711744 = (i : Int) := by
  have hk : ntz x < 64 := ntz_lt hx0 (show x < 2 ^ 64 from h)
  have hand : x &&& (18446744073709551616 - x) = 2 ^ ntz x := and_neg 64 x hx0 h
  have hdb := deb_at ⟨ntz x, hk⟩
  unfold B64 at h
  refine ⟨_, ?_, hdb, ?_⟩
  · rw [Nat.div_lt_iff_lt_mul (by omega)]; omega
  · have e1 : IntKind.u64.wrap (-(x : Int)) = ((18446744073709551616 - x : Nat) : Int) := by rw [IntKind.wrap_u64]; omega
    rw [e1, bits_and_u64_nat x _ h (by omega), hand, IntKind.wrap_u64]
    generalize (2 : Nat) ^ ntz x = p
    show ((p : Int) * 285870213051353865) % 18446744073709551616 / 288230376151711744 = ((p * 285870213051353865 % 18446744073709551616 / 288230376151711744 : Nat) : Int)
    omega

set_option maxHeartbeats 400000 in
theorem trail64_any (x : Nat) (hx0 : x ≠ 0) (h : x < B64) (w : World) (ht : Tab w) :
    Calls Tryd.prog 62 #[.int .u64 (x : Int)] w fun e w' => e = .returned (.int .i64 (ntz x : Int)) ∧ w = w' := by
  have hk : ntz x < 64 := ntz_lt hx0 (show x < 2 ^ 64 from h)
  have hne : ((x : Int) == 0) = false := by simp; omega
  obtain ⟨i, hi, hd, he⟩ := trail_index x hx0 h
  have hc := ht i hi
  rw [hd] at hc
  have hi' : (i : Int) < 64 := by omega
  clear hd ht hx0
  go_enter Tryd.func62, Tryd.ntmps62
  go_wp2
  go_ret
  exact ⟨rfl, rfl⟩
end Go.Proofs.YtimkifkikcohgaaDoor
