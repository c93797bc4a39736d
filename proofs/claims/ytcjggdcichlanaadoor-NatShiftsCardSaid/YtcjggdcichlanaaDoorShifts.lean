/- fathomlineref1.Shift, and NatShifts, walked. -/
import Derived.Test.YtcjggdcichlanaaDoorDown
namespace Go.Proofs.YtcjggdcichlanaaDoor
open Go.RowKit Nx

set_option maxHeartbeats 1000000 in
theorem rshift_any (w : World) (lo hi : Nat) (A : Option Addr) (n c : Nat) (t : Int) (xs : List Nat) (ha : Rd .u32 w lo hi A n c xs) (hxs : Small B32 xs) (hn : n ≤ 100000000) (hhi : hi ≤ w.heap.size) :
    Calls Tryd.prog 32 #[.slice A n c, .int .i64 t] w (DigPost w (shv (nval B32 xs) t)) := by
  have HA := Lib.hid ha; have HX := Lib.hid hxs
  clear ha hxs
  obtain ⟨X, hX⟩ : ∃ X, X = nval B32 xs := ⟨_, rfl⟩
  rw [← hX]
  have HXv := Lib.hid hX
  clear hX
  go_enter Tryd.func32, Tryd.ntmps32
  go_wp2_with fail
  · obtain ⟨b, hb⟩ : ∃ b : Nat, min (max t (-262144)) 262144 = (b : Int) := ⟨(min (max t (-262144)) 262144).toNat, by omega⟩
    have hbb : b ≤ 1000000 := by omega
    have HV := Lib.hid (shv_up (X := X) hb)
    rw [hb]
    clear hb
    refine (left32_any w lo hi A n c _ _ b xs HA.out HX.out hn hhi hbb rfl rfl).mono ?_
    rintro e w' ⟨A2, n2, c2, rfl, h1, h2⟩
    rw [← HXv.out, ← HV.out] at h1
    have K1 := Lib.hid h1; have K2 := Lib.hid h2
    clear h1 h2
    go_wp2
    go_ret
    exact ⟨_, _, _, rfl, K1.out, K2.out⟩
  · obtain ⟨b, hb⟩ : ∃ b : Nat, min (max t (-262144)) 262144 = -(b : Int) := ⟨(-(min (max t (-262144)) 262144)).toNat, by omega⟩
    have hb0 : 0 < b := by omega
    have hbb : b ≤ 1000000 := by omega
    have HV := Lib.hid (shv_down (X := X) hb hb0)
    rw [hb, Int.neg_neg]
    clear hb
    refine (down32_any w lo hi A n c _ _ b xs HA.out HX.out hn hhi hbb rfl rfl).mono ?_
    rintro e w' ⟨A2, n2, c2, l2, rfl, h1, h2⟩
    rw [← HXv.out, ← HV.out] at h1
    have K1 := Lib.hid h1; have K2 := Lib.hid h2
    clear h1 h2
    go_wp2
    go_ret
    exact ⟨_, _, _, rfl, K1.out, K2.out⟩

theorem rshift_is {W : World} {A : Option Addr} {n c X k : Nat} (t : Int) (ha : Dg W A n c X) (hX : X < B64 ^ k) (hk : k ≤ 100000) : Calls Tryd.prog 32 #[.slice A n c, .int .i64 t] W (NewDg W (shv X t)) :=
  (rshift_any W 0 _ A n c t _ ha (small_digs B32_two _) (by have := ha.len hX; omega) (Nat.le_refl _)).mono fun e w' h => NewDg.of h (by rw [nval_digs B32_two])
theorem shv_lt {X k : Nat} {t : Int} (hX : X < B64 ^ k) : shv X t < B64 ^ (k + 4096) := by
  obtain ⟨E, hE⟩ : ∃ E : Nat, E = 262144 := ⟨_, rfl⟩
  obtain ⟨F, hF⟩ : ∃ F : Nat, F = 4096 := ⟨_, rfl⟩
  rw [← hF]
  have hpow : B64 ^ F = 2 ^ E := by rw [pow64]; congr 1; omega
  rcases Int.lt_or_le (min (max t (-262144)) 262144) 0 with h | h
  · obtain ⟨b, hb⟩ : ∃ b : Nat, min (max t (-262144)) 262144 = -(b : Int) := ⟨(-(min (max t (-262144)) 262144)).toNat, by omega⟩
    rw [shv_down hb (by omega)]
    exact Nat.lt_of_le_of_lt (Nat.div_le_self _ _) (lt_up hX (by omega))
  · obtain ⟨b, hb⟩ : ∃ b : Nat, min (max t (-262144)) 262144 = (b : Int) := ⟨(min (max t (-262144)) 262144).toNat, by omega⟩
    rw [shv_up hb, Nat.pow_add, hpow]
    exact Nat.mul_lt_mul_of_lt_of_le hX (Nat.pow_le_pow_right (by omega) (by omega)) (Nat.two_pow_pos _)

set_option maxRecDepth 100000 in
set_option maxHeartbeats 4000000 in
theorem shifts_walk (w : World) (A : Option Addr) (n c : Nat) (t : Int) (xs : List Nat) (ha : Arg w A n c xs) (ht : Tab w) :
    Calls Tryd.prog 6 #[.slice A n c, .int .i64 t] w (LawPost w) := by
  have HA := Lib.hid ha; have HT := Lib.hid ht
  clear ha ht
  go_enter Tryd.func6, Tryd.ntmps6
  go_wp2_with fail
  refine (known_any w HT.out).mono ?_
  rintro _ w1 ⟨rfl, b1⟩
  have B1 := Lib.hid b1
  clear b1
  go_wp2_with fail
  refine (few_any _ w1.heap.size 1 [n] (lens1 w1 A n c) rfl (by omega)).mono ?_
  rintro _ w2 ⟨rfl, rfl⟩
  by_cases hn : n ≤ 40
  · rw [show ([n].all fun l => decide (l ≤ 40)) = true by simp [hn]]
    have B2 := Lib.hid (below_step B1.out (one_below w1 (.cells #[.slice A n c] 22)))
    generalize w1.alloc (.cells #[.slice A n c] 22) = w2 at *
    have a2 := Lib.hid ((HA.out.step B2.out).has hn)
    have hX := Lib.hid a2.out.lt
    clear HA B1
    generalize nval B64 xs = X at *
    have hS := Lib.hid (shv_lt (t := t) hX.out)
    go_wp2_with fail
    refine (shift_is t a2.out (by omega)).mono ?_
    rintro _ w3 ⟨A3, n3, c3, rfl, h3, b3⟩
    have B3 := Lib.hid (below_step B2.out b3); have P3 := Lib.hid h3; have a3 := Lib.hid (a2.out.step b3)
    clear B2 a2 b3 h3
    go_wp2_with fail
    refine (part_is a3.out (by omega)).mono ?_
    rintro _ w4 ⟨A4, n4, c4, rfl, h4, b4⟩
    have B4 := Lib.hid (below_step B3.out b4); have P4 := Lib.hid (P3.out.step b4); have Q4 := Lib.hid h4
    clear B3 a3 b4 h4 P3
    go_wp2_with fail
    refine (rshift_is t Q4.out hX.out (by omega)).mono ?_
    rintro _ w5 ⟨A5, n5, c5, rfl, h5, b5⟩
    have B5 := Lib.hid (below_step B4.out b5); have P5 := Lib.hid (P4.out.step b5); have Q5 := Lib.hid h5
    clear B4 b5 h5 P4 Q4
    generalize shv X t = S at *
    go_wp2_with fail
    refine (wordsof_is Q5.out hS.out (by omega)).mono ?_
    rintro _ w6 ⟨A6, n6, c6, rfl, h6, b6⟩
    have B6 := Lib.hid (below_step B5.out b6); have P6 := Lib.hid (P5.out.step b6); have U6 := Lib.hid h6
    clear B5 b6 h6 P5 Q5
    go_wp2_with fail
    refine (words_is P6.out U6.out hS.out (by omega)).mono ?_
    rintro _ w7 ⟨rfl, b7⟩
    have B7 := Lib.hid (below_step B6.out b7)
    clear B6 b7 P6 U6
    go_wp2
    go_ret
    exact ⟨rfl, B7.out⟩
  · rw [show ([n].all fun l => decide (l ≤ 40)) = false by simp; omega]
    have B2 := Lib.hid (below_step B1.out (one_below w1 (.cells #[.slice A n c] 22)))
    clear B1
    go_wp2
    go_ret
    exact ⟨rfl, B2.out⟩
end Go.Proofs.YtcjggdcichlanaaDoor
