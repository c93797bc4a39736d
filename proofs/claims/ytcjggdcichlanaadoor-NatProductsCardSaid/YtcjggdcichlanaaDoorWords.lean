/- NatWords, walked. -/
import Derived.Test.YtcjggdcichlanaaDoorPart
import Derived.Test.YtcjggdcichlanaaDoorRings
namespace Go.Proofs.YtcjggdcichlanaaDoor
open Go.RowKit Nx

/-- A slice of digits that is just those of N. -/
def Dg (w : World) (A : Option Addr) (n c N : Nat) : Prop := Rd .u32 w 0 w.heap.size A n c (digs B32 N)
theorem Dg.step {w w' : World} {A : Option Addr} {n c N : Nat} (h : Dg w A n c N) (hb : Below w.heap.size w w') : Dg w' A n c N := rd_step h hb
theorem pow_64_32 (k : Nat) : B64 ^ k = B32 ^ (2 * k) := by rw [pow64, pow32]; congr 1; omega
theorem Dg.len {w : World} {A : Option Addr} {n c N k : Nat} (h : Dg w A n c N) (hk : N < B64 ^ k) : n ≤ 2 * k := by
  rw [← h.1]; exact digs_len_le B32_two (by rw [← pow_64_32]; exact hk)
/-- New digits are returned. -/
def NewDg (W : World) (N : Nat) (e : Ending) (w' : World) : Prop := ∃ (A : Option Addr) (n c : Nat), e = .returned (.slice A n c) ∧ Dg w' A n c N ∧ Below W.heap.size W w'
theorem NewDg.of {W w' : World} {N M : Nat} {e : Ending} (h : DigPost W N e w') (hN : N = M) : NewDg W M e w' := by
  obtain ⟨A, n, c, he, h1, h2⟩ := h
  subst hN
  exact ⟨A, n, c, he, h1.less (Nat.zero_le _), h2⟩
theorem part_is {W : World} {A : Option Addr} {n c X k : Nat} (ha : Has W A n c X k) (hk : k ≤ 100000) : Calls Tryd.prog 12 #[.slice A n c] W (NewDg W X) := by
  obtain ⟨xs, a1, a2, rfl, a4⟩ := ha
  exact (part_any W 0 _ A n c xs a1 a2 (by omega) (Nat.le_refl _)).mono fun e w' h => NewDg.of h rfl
theorem wordsof_is {W : World} {A : Option Addr} {n c N k : Nat} (ha : Dg W A n c N) (hN : N < B64 ^ k) (hk : k ≤ 100000) : Calls Tryd.prog 16 #[.slice A n c] W (NewIs W N) :=
  (words32_any W 0 _ A n c N ha (by have := ha.len hN; omega) (Nat.le_refl _)).mono fun e w' h => NewIs.of h rfl
theorem bits_has {W : World} {A : Option Addr} {n c X k : Nat} (ha : Has W A n c X k) (hk : k ≤ 100000) : Calls Tryd.prog 17 #[.slice A n c] W fun e w' => e = .returned (.int .i64 (nbits X : Int)) ∧ W = w' := by
  obtain ⟨xs, a1, a2, rfl, a4⟩ := ha
  exact bits_any W 0 _ A n c xs a1 a2 (by omega)
theorem zeros_has {W : World} {A : Option Addr} {n c X k : Nat} (ha : Has W A n c X k) (hk : k ≤ 100000) (ht : Tab W) : Calls Tryd.prog 19 #[.slice A n c] W fun e w' => e = .returned (.int .i64 (ntz X : Int)) ∧ W = w' := by
  obtain ⟨xs, a1, a2, rfl, a4⟩ := ha
  exact zeros_any W 0 _ A n c xs a1 a2 (by omega) ht
theorem rbits_is {W : World} {A : Option Addr} {n c N k : Nat} (ha : Dg W A n c N) (hN : N < B64 ^ k) (hk : k ≤ 100000) : Calls Tryd.prog 18 #[.slice A n c] W fun e w' => e = .returned (.int .i64 (nbits N : Int)) ∧ W = w' :=
  bits32_any W 0 _ A n c N ha (by have := ha.len hN; omega)
theorem rzeros_is {W : World} {A : Option Addr} {n c N k : Nat} (ha : Dg W A n c N) (hN : N < B64 ^ k) (hk : k ≤ 100000) : Calls Tryd.prog 20 #[.slice A n c] W fun e w' => e = .returned (.int .i64 (ntz N : Int)) ∧ W = w' := by
  have := zeros32_any W 0 _ A n c _ ha (small_digs B32_two _) (by have := ha.len hN; omega)
  rwa [nval_digs B32_two] at this

set_option maxRecDepth 100000 in
set_option maxHeartbeats 4000000 in
theorem words_walk (w : World) (A : Option Addr) (n c : Nat) (xs : List Nat) (ha : Arg w A n c xs) (ht : Tab w) :
    Calls Tryd.prog 3 #[.slice A n c] w (LawPost w) := by
  have HA := Lib.hid ha; have HT := Lib.hid ht
  clear ha ht
  go_enter Tryd.func3, Tryd.ntmps3
  go_wp2_with fail
  refine (known_any w HT.out).mono ?_
  rintro _ w1 ⟨rfl, b1⟩
  have B1 := Lib.hid b1
  clear b1
  go_wp2_with fail
  refine (few_any _ w1.heap.size 1 [n] (lens1 w1 A n c) rfl (by omega)).mono ?_
  rintro _ w2 ⟨rfl, rfl⟩
  by_cases hn : n ≤ 40
  · rw [show ([n].all fun l => decide (l ≤ 40)) = true by simp [hn]]
    have B2 := Lib.hid (below_step B1.out (one_below w1 (.cells #[.slice A n c] 22)))
    generalize w1.alloc (.cells #[.slice A n c] 22) = w2 at *
    have A2 := Lib.hid (HA.out.step B2.out)
    clear HA B1
    go_wp2_with fail
    refine (part_is (A2.out.has hn) (by omega)).mono ?_
    rintro _ w3 ⟨A3, n3, c3, rfl, h3, b3⟩
    have B3 := Lib.hid (below_step B2.out b3); have M3 := Lib.hid h3; have A3' := Lib.hid (A2.out.step b3)
    have hX := Lib.hid (A2.out.has hn).lt
    clear B2 A2 b3 h3
    -- the highest word
    have hright : Calls Tryd.prog 13 #[.slice A n c] w3 fun e w' => e = .returned (.bool (decide (n = 0 ∨ xs.getD (n - 1) 0 ≠ 0))) ∧ w3 = w' := right_any w3 0 _ A n c xs A3'.out.1 (by omega)
    obtain ⟨b, hb⟩ : ∃ b, b = decide (n = 0 ∨ xs.getD (n - 1) 0 ≠ 0) := ⟨_, rfl⟩
    rw [← hb] at hright
    have HRt := Lib.hid hright
    have Hb := Lib.hid hb
    clear hright hb
    go_upto_region 6 with fail
    go_cut [4] (fun u wx => u = .bool b ∧ w3 = wx)
    case first =>
      rcases Nat.eq_zero_or_pos n with e0 | e0
      · have hbt : b = true := by rw [Hb.out]; simp [e0]
        have HBt := Lib.hid hbt
        clear hbt
        have f0 : ((n : Int) == 0) = true := by simp; omega
        go_wp2_with fail
        go_meet
        exact ⟨by rw [HBt.out], rfl⟩
      · obtain ⟨ad, x, hA, _, _, hx, hcx⟩ := A3'.out.1.get_ (j := n - 1) (by omega)
        subst hA
        have f0 : ((n : Int) == 0) = false := by simp; omega
        have i3 : ((n : Int) - 1).toNat = n - 1 := by omega
        go_wp2_with fail
        go_meet
        refine ⟨congrArg Value.bool ?_, rfl⟩
        rw [Hb.out, getD_of hx.out, Bool.eq_iff_iff]
        simp
        omega
    case rest =>
      obtain ⟨rfl, rfl⟩ := hcut
      go_wp2_with fail
      refine HRt.out.mono ?_
      rintro _ w4 ⟨rfl, rfl⟩
      have f1 : (b == b) = true := by simp
      have a3 := Lib.hid (A3'.out.has hn)
      clear HRt Hb
      generalize nval B64 xs = X at *
      go_wp2_with fail
      refine (trim_is a3.out (by omega)).mono ?_
      rintro _ w5 ⟨A5, n5, c5, rfl, h5, b5⟩
      have B5 := Lib.hid (below_step B3.out b5); have T5 := Lib.hid h5; have M5 := Lib.hid (M3.out.step b5); have a5 := Lib.hid (a3.out.step b5)
      clear B3 M3 a3 b5 h5
      go_wp2_with fail
      refine (wordsof_is M5.out hX.out (by omega)).mono ?_
      rintro _ w6 ⟨A6, n6, c6, rfl, h6, b6⟩
      have B6 := Lib.hid (below_step B5.out b6); have T6 := Lib.hid (T5.out.step b6); have U6 := Lib.hid h6; have M6 := Lib.hid (M5.out.step b6); have a6 := Lib.hid (a5.out.step b6)
      clear B5 M5 a5 b6 h6 T5
      go_wp2_with fail
      refine (words_is T6.out U6.out hX.out (by omega)).mono ?_
      rintro _ w7 ⟨rfl, b7⟩
      have B7 := Lib.hid (below_step B6.out b7); have M7 := Lib.hid (M6.out.step b7); have a7 := Lib.hid (a6.out.step b7)
      clear B6 M6 a6 b7 T6 U6
      go_wp2_with fail
      refine (bits_has a7.out (by omega)).mono ?_
      rintro _ w8 ⟨rfl, rfl⟩
      go_wp2_with fail
      refine (rbits_is M7.out hX.out (by omega)).mono ?_
      rintro _ w8 ⟨rfl, rfl⟩
      have f2 : ((nbits X : Int) == (nbits X : Int)) = true := by simp
      go_wp2_with fail
      refine (zeros_has a7.out (by omega) (HT.out.below B7.out)).mono ?_
      rintro _ w8 ⟨rfl, rfl⟩
      go_wp2_with fail
      refine (rzeros_is M7.out hX.out (by omega)).mono ?_
      rintro _ w8 ⟨rfl, rfl⟩
      have f3 : ((ntz X : Int) == (ntz X : Int)) = true := by simp
      go_wp2
      go_ret
      exact ⟨by simp, B7.out⟩
  · rw [show ([n].all fun l => decide (l ≤ 40)) = false by simp; omega]
    have B2 := Lib.hid (below_step B1.out (one_below w1 (.cells #[.slice A n c] 22)))
    clear B1 hn
    go_wp2
    go_ret
    exact ⟨rfl, B2.out⟩
end Go.Proofs.YtcjggdcichlanaaDoor
