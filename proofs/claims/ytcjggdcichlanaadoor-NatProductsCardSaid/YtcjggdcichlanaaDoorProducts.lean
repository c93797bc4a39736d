/- NatProducts, walked. -/
import Derived.Test.YtcjggdcichlanaaDoorRefG
namespace Go.Proofs.YtcjggdcichlanaaDoor
open Go.RowKit Nx

section
variable {W : World} {A B : Option Addr} {n c m d X Y k l : Nat}
theorem rmul_is (ha : Dg W A n c X) (hb : Dg W B m d Y) (hX : X < B64 ^ k) (hY : Y < B64 ^ l) (hk : k ≤ 100000) (hl : l ≤ 100000) : Calls Tryd.prog 29 #[.slice A n c, .slice B m d] W (NewDg W (X * Y)) :=
  (mul32_any W 0 _ 0 _ A B n c m d _ _ ha hb (small_digs B32_two _) (small_digs B32_two _) (by have := ha.len hX; omega) (by have := hb.len hY; omega) (Nat.le_refl _) (Nat.le_refl _)).mono fun e w' h => NewDg.of h (by rw [nval_digs B32_two, nval_digs B32_two])
theorem rdiv_is (ha : Dg W A n c X) (hb : Dg W B m d Y) (hX : X < B64 ^ k) (hY : Y < B64 ^ l) (hk : k ≤ 100000) (hl : l ≤ 100000) (h0 : Y ≠ 0) : Calls Tryd.prog 30 #[.slice A n c, .slice B m d] W
    fun e w' => ∃ (Aq Ar : Option Addr) (nq cq nr cr : Nat), e = .returned (.tuple #[.slice Aq nq cq, .slice Ar nr cr]) ∧ Dg w' Aq nq cq (X / Y) ∧ Dg w' Ar nr cr (X % Y) ∧ Below W.heap.size W w' := by
  refine (div32_any W 0 _ 0 _ A B n c m d X Y ha hb (by have := ha.len hX; omega) (by have := hb.len hY; omega) (Nat.le_refl _) (Nat.le_refl _) h0).mono ?_
  rintro e w' ⟨Aq, Ar, nq, cq, nr, cr, rfl, g1, g2, g3⟩
  exact ⟨Aq, Ar, nq, cq, nr, cr, rfl, g1.less (Nat.zero_le _), g2.less (Nat.zero_le _), g3⟩
theorem div0_is (ha : Has W A n c X k) (hb : Has W B m d 0 l) (hk : k ≤ 100000) (hl : l ≤ 100000) : Calls Tryd.prog 27 #[.slice A n c, .slice B m d] W
    fun e w' => ∃ (Aq Ar : Option Addr) (cq cr : Nat), e = .returned (.tuple #[.slice Aq 0 cq, .slice Ar 0 cr, .bool false]) ∧ Below W.heap.size W w' := by
  obtain ⟨xs, a1, a2, rfl, a4⟩ := ha
  obtain ⟨ys, b1, b2, b3, b4⟩ := hb
  refine (div_any W 0 _ A B n c m d xs ys a1 b1 a2 b2 (by omega) (by omega) (Nat.le_refl _)).mono ?_
  rintro e w' ⟨Aq, Ar, nq, cq, nr, cr, qs, rs, rfl, g1, g2, g3, _, g5⟩
  obtain ⟨rfl, rfl⟩ := g5 b3
  have h1 : 0 = nq := g1.1
  have h2 : 0 = nr := g2.1
  subst h1; subst h2
  exact ⟨Aq, Ar, cq, cr, by simp [b3], g3⟩
end

set_option maxRecDepth 100000 in
set_option maxHeartbeats 4000000 in
theorem products_walk (w : World) (A B : Option Addr) (n c m d : Nat) (xs ys : List Nat) (ha : Arg w A n c xs) (hb : Arg w B m d ys) (ht : Tab w) :
    Calls Tryd.prog 5 #[.slice A n c, .slice B m d] w (LawPost w) := by
  have HA := Lib.hid ha; have HB := Lib.hid hb; have HT := Lib.hid ht
  clear ha hb ht
  go_enter Tryd.func5, Tryd.ntmps5
  go_wp2_with fail
  refine (known_any w HT.out).mono ?_
  rintro _ w1 ⟨rfl, b1⟩
  have B1 := Lib.hid b1
  clear b1
  go_wp2_with fail
  refine (few_any _ w1.heap.size 2 [n, m] (lens2 w1 A B n c m d) rfl (by omega)).mono ?_
  rintro _ w2 ⟨rfl, rfl⟩
  by_cases hall : n ≤ 40 ∧ m ≤ 40
  · obtain ⟨hn, hm⟩ := hall
    rw [show ([n, m].all fun l => decide (l ≤ 40)) = true by simp [hn, hm]]
    have B2 := Lib.hid (below_step B1.out (one_below w1 (.cells #[.slice A n c, .slice B m d] 22)))
    generalize w1.alloc (.cells #[.slice A n c, .slice B m d] 22) = w2 at *
    have a2 := Lib.hid ((HA.out.step B2.out).has hn); have b2 := Lib.hid ((HB.out.step B2.out).has hm)
    have hX := Lib.hid a2.out.lt; have hY := Lib.hid b2.out.lt
    clear HA HB B1
    generalize nval B64 xs = X at *
    generalize nval B64 ys = Y at *
    go_wp2_with fail
    refine (part_is a2.out (by omega)).mono ?_
    rintro _ w3 ⟨A3, n3, c3, rfl, h3, b3⟩
    have B3 := Lib.hid (below_step B2.out b3); have P3 := Lib.hid h3; have a3 := Lib.hid (a2.out.step b3); have b3' := Lib.hid (b2.out.step b3)
    clear B2 a2 b2 b3 h3
    go_wp2_with fail
    refine (part_is b3'.out (by omega)).mono ?_
    rintro _ w4 ⟨A4, n4, c4, rfl, h4, b4⟩
    have B4 := Lib.hid (below_step B3.out b4); have P4 := Lib.hid (P3.out.step b4); have Q4 := Lib.hid h4; have a4 := Lib.hid (a3.out.step b4); have b4' := Lib.hid (b3'.out.step b4)
    clear B3 a3 b3' b4 h4 P3
    by_cases hY0 : Y = 0
    · subst hY0
      have hn4 : n4 = 0 := by have := Q4.out.1; rw [digs_zero] at this; exact this.symm
      subst hn4
      go_wp2_with fail
      refine (div0_is a4.out b4'.out (by omega) (by omega)).mono ?_
      rintro _ w5 ⟨Aq, Ar, cq, cr, rfl, b5⟩
      have B5 := Lib.hid (below_step B4.out b5); have P5 := Lib.hid (P4.out.step b5); have Q5 := Lib.hid (Q4.out.step b5); have a5 := Lib.hid (a4.out.step b5); have b5' := Lib.hid (b4'.out.step b5)
      clear B4 a4 b4' b5 P4 Q4
      go_wp2_with fail
      refine (mul_is a5.out b5'.out (by omega) (by omega)).mono ?_
      rintro _ w6 ⟨A6, n6, c6, rfl, h6, b6⟩
      have B6 := Lib.hid (below_step B5.out b6); have P6 := Lib.hid (P5.out.step b6); have Q6 := Lib.hid (Q5.out.step b6); have S6 := Lib.hid h6
      clear B5 a5 b5' b6 P5 Q5 h6
      go_wp2_with fail
      refine (rmul_is P6.out Q6.out hX.out hY.out (by omega) (by omega)).mono ?_
      rintro _ w7 ⟨A7, n7, c7, rfl, h7, b7⟩
      have B7 := Lib.hid (below_step B6.out b7); have S7 := Lib.hid (S6.out.step b7); have R7 := Lib.hid h7
      clear B6 b7 P6 Q6 S6 h7
      have hXY := Lib.hid (lt_mul hX.out hY.out)
      go_wp2_with fail
      refine (wordsof_is R7.out hXY.out (by omega)).mono ?_
      rintro _ w8 ⟨A8, n8, c8, rfl, h8, b8⟩
      have B8 := Lib.hid (below_step B7.out b8); have S8 := Lib.hid (S7.out.step b8); have U8 := Lib.hid h8
      clear B7 b8 S7 h8 R7
      go_wp2_with fail
      refine (words_is S8.out U8.out hXY.out (by omega)).mono ?_
      rintro _ w9 ⟨rfl, b9⟩
      have B9 := Lib.hid (below_step B8.out b9)
      clear B8 b9 S8 U8
      go_wp2
      go_ret
      exact ⟨rfl, B9.out⟩
    · have HY0 := Lib.hid hY0
      have hn4 : 0 < n4 := by
        rcases Nat.eq_zero_or_pos n4 with h | h
        · exact absurd ((digs_eq_nil B32_two).1 (List.eq_nil_of_length_eq_zero (Q4.out.1.trans h))) hY0
        · exact h
      clear hY0
      go_wp2_with fail
      refine (div_is a4.out b4'.out (by omega) (by omega) HY0.out).mono ?_
      rintro _ w5 ⟨Aq, Ar, nq, cq, nr, cr, rfl, q5, r5, b5⟩
      have B5 := Lib.hid (below_step B4.out b5); have P5 := Lib.hid (P4.out.step b5); have Q5 := Lib.hid (Q4.out.step b5); have a5 := Lib.hid (a4.out.step b5); have b5' := Lib.hid (b4'.out.step b5); have D5 := Lib.hid q5; have E5 := Lib.hid r5
      clear B4 a4 b4' b5 P4 Q4 q5 r5
      go_wp2_with fail
      refine (mul_is a5.out b5'.out (by omega) (by omega)).mono ?_
      rintro _ w6 ⟨A6, n6, c6, rfl, h6, b6⟩
      have B6 := Lib.hid (below_step B5.out b6); have P6 := Lib.hid (P5.out.step b6); have Q6 := Lib.hid (Q5.out.step b6); have S6 := Lib.hid h6; have D6 := Lib.hid (D5.out.step b6); have E6 := Lib.hid (E5.out.step b6)
      clear B5 a5 b5' b6 P5 Q5 h6 D5 E5
      go_wp2_with fail
      refine (rmul_is P6.out Q6.out hX.out hY.out (by omega) (by omega)).mono ?_
      rintro _ w7 ⟨A7, n7, c7, rfl, h7, b7⟩
      have B7 := Lib.hid (below_step B6.out b7); have S7 := Lib.hid (S6.out.step b7); have R7 := Lib.hid h7; have P7 := Lib.hid (P6.out.step b7); have Q7 := Lib.hid (Q6.out.step b7); have D7 := Lib.hid (D6.out.step b7); have E7 := Lib.hid (E6.out.step b7)
      clear B6 b7 P6 Q6 S6 h7 D6 E6
      have hXY := Lib.hid (lt_mul hX.out hY.out)
      go_wp2_with fail
      refine (wordsof_is R7.out hXY.out (by omega)).mono ?_
      rintro _ w8 ⟨A8, n8, c8, rfl, h8, b8⟩
      have B8 := Lib.hid (below_step B7.out b8); have S8 := Lib.hid (S7.out.step b8); have U8 := Lib.hid h8; have P8 := Lib.hid (P7.out.step b8); have Q8 := Lib.hid (Q7.out.step b8); have D8 := Lib.hid (D7.out.step b8); have E8 := Lib.hid (E7.out.step b8)
      clear B7 b8 S7 h8 R7 P7 Q7 D7 E7
      go_wp2_with fail
      refine (words_is S8.out U8.out hXY.out (by omega)).mono ?_
      rintro _ w9 ⟨rfl, b9⟩
      have B9 := Lib.hid (below_step B8.out b9); have P9 := Lib.hid (P8.out.step b9); have Q9 := Lib.hid (Q8.out.step b9); have D9 := Lib.hid (D8.out.step b9); have E9 := Lib.hid (E8.out.step b9)
      clear B8 b9 S8 U8 P8 Q8 D8 E8
      have hQB := Lib.hid (show X / Y < B64 ^ 40 from Nat.lt_of_le_of_lt (Nat.div_le_self _ _) hX.out)
      have hRB := Lib.hid (show X % Y < B64 ^ 40 from Nat.lt_of_le_of_lt (Nat.mod_le _ _) hX.out)
      go_wp2_with fail
      refine (rdiv_is P9.out Q9.out hX.out hY.out (by omega) (by omega) HY0.out).mono ?_
      rintro _ wa ⟨Au, Av, nu, cu, nv, cv, rfl, ua, va, ba⟩
      have Ba := Lib.hid (below_step B9.out ba); have Da := Lib.hid (D9.out.step ba); have Ea := Lib.hid (E9.out.step ba); have Ua := Lib.hid ua; have Va := Lib.hid va
      clear B9 ba P9 Q9 D9 E9 ua va
      go_wp2_with fail
      refine (wordsof_is Ua.out hQB.out (by omega)).mono ?_
      rintro _ wb ⟨Ab, nb, cb, rfl, hb, bb⟩
      have Bb := Lib.hid (below_step Ba.out bb); have Db := Lib.hid (Da.out.step bb); have Eb := Lib.hid (Ea.out.step bb); have Vb := Lib.hid (Va.out.step bb); have Ub := Lib.hid hb
      clear Ba bb Da Ea Ua Va hb
      go_wp2_with fail
      refine (words_is Db.out Ub.out hQB.out (by omega)).mono ?_
      rintro _ wc ⟨rfl, bc⟩
      have Bc := Lib.hid (below_step Bb.out bc); have Ec := Lib.hid (Eb.out.step bc); have Vc := Lib.hid (Vb.out.step bc)
      clear Bb bc Db Eb Vb Ub
      go_wp2_with fail
      refine (wordsof_is Vc.out hRB.out (by omega)).mono ?_
      rintro _ wd ⟨Ad, nd, cd, rfl, hd, bd⟩
      have Bd := Lib.hid (below_step Bc.out bd); have Ed := Lib.hid (Ec.out.step bd); have Ud := Lib.hid hd
      clear Bc bd Ec Vc hd
      go_wp2_with fail
      refine (words_is Ed.out Ud.out hRB.out (by omega)).mono ?_
      rintro _ we ⟨rfl, be⟩
      have Be := Lib.hid (below_step Bd.out be)
      clear Bd be Ed Ud
      go_wp2
      go_ret
      exact ⟨rfl, Be.out⟩
  · rw [show ([n, m].all fun l => decide (l ≤ 40)) = false by simp; omega]
    have B2 := Lib.hid (below_step B1.out (one_below w1 (.cells #[.slice A n c, .slice B m d] 22)))
    clear B1 hall
    go_wp2
    go_ret
    exact ⟨rfl, B2.out⟩
end Go.Proofs.YtcjggdcichlanaaDoor
