/- fathomlineref1.Bits. -/
import Derived.Test.YtnkbamjjpdmbaaaDoorRefX
namespace Go.Proofs.YtnkbamjjpdmbaaaDoor
open Go.RowKit Nx

/-- The loop of Bits: c bits are counted, y is left. -/
def BitRel (N m : Nat) (u v : Value) : Prop := ∃ y c : Nat, u = .int .u32 (y : Int) ∧ v = .int .i64 (c : Int) ∧ Hid (N = c + nbits y) ∧ c ≤ 32 * m + 64 ∧ Hid (y < B32)

set_option maxRecDepth 100000 in
set_option maxHeartbeats 1000000 in
theorem bits32_any (w : World) (lo hi : Nat) (A : Option Addr) (n c N : Nat) (h : Rd .u32 w lo hi A n c (digs B32 N)) (hn : n ≤ 100000000) :
    Calls Tryd.prog 60 #[.slice A n c] w fun e w' => e = .returned (.int .i64 (nbits N : Int)) ∧ w = w' := by
  have H := Lib.hid h
  clear h
  obtain ⟨M, hM⟩ : ∃ M, M = nbits N := ⟨_, rfl⟩
  rw [← hM]
  have HM := Lib.hid hM
  clear hM
  rcases Nat.eq_zero_or_pos n with e | e
  · subst e
    have hz : M = 0 := by
      have := (digs_eq_nil B32_two).1 (List.eq_nil_of_length_eq_zero H.out.1)
      rw [HM.out, this]; rfl
    have HZ := Lib.hid hz
    clear hz
    go_enter Tryd.func60, Tryd.ntmps60
    go_wp2
    go_ret
    exact ⟨by rw [HZ.out]; rfl, rfl⟩
  · obtain ⟨ad, x, hA, _, _, hx, hcx⟩ := H.out.get_ (j := n - 1) (by omega)
    subst hA
    have f0 : ((n : Int) == 0) = false := by simp; omega
    have hxB : x < B32 := (small_digs B32_two _).get hx.out
    have hN := Lib.hid (HM.out.trans (nbits_digs B32_two pow32 H.out.1 e hx.out))
    have hb32 : M ≤ 32 * n := by
      have h1 := hN.out
      have h2 : nbits x ≤ 32 := nbits_le (show x < 2 ^ 32 from hxB)
      omega
    have i3 : ((n : Int) - 1).toNat = n - 1 := by omega
    have HXB := Lib.hid hxB
    clear hxB
    go_enter Tryd.func60, Tryd.ntmps60
    go_wp2
    go_loop [4, 3] (fun u v => BitRel M n u v) (fun u _ => (intOf u).toNat)
    case atStart => exact ⟨x, 32 * (n - 1), rfl, by go_num, hN, by omega, HXB⟩
    case round =>
      obtain ⟨y, cc, rfl, rfl, hI, hcc, hy⟩ := hrel
      rcases Nat.eq_zero_or_pos y with e0 | e0
      · subst e0
        have hMc : M = cc := by have := hI.out; rw [nbits_zero] at this; exact this
        have HMc := Lib.hid hMc
        clear hMc
        go_wp2
        go_ret
        exact ⟨by rw [HMc.out]; rfl, rfl⟩
      · have f1 : decide ((0 : Int) < (y : Int)) = true := by simp; omega
        have hI2 := Lib.hid (show M = cc + 1 + nbits (y / 2) by have := hI.out; rw [nbits_half (by omega)] at this; omega)
        have hy2 := Lib.hid (show y / 2 < B32 by have := hy.out; omega)
        have hcM : cc + 1 ≤ 32 * n := by have := hI2.out; omega
        go_wp2
        go_round
        case rel => exact ⟨y / 2, cc + 1, by go_num, by go_num, hI2, by omega, hy2⟩
        case measure => simp [intOf]; omega

theorem rbits_is {W : World} {A : Option Addr} {n c N k : Nat} (ha : Dg W A n c N) (hN : N < B64 ^ k) (hk : k ≤ 100000) : Calls Tryd.prog 60 #[.slice A n c] W fun e w' => e = .returned (.int .i64 (nbits N : Int)) ∧ W = w' :=
  bits32_any W 0 _ A n c N ha (by have := ha.len hN; omega)
end Go.Proofs.YtnkbamjjpdmbaaaDoor
