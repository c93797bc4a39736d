/- NatSums, walked. -/
import Derived.Test.YtcjggdcichlanaaDoorRefD
namespace Go.Proofs.YtcjggdcichlanaaDoor
open Go.RowKit Nx

section
variable {W : World} {A B : Option Addr} {n c m d X Y k l : Nat}
theorem rcmp_is (ha : Dg W A n c X) (hb : Dg W B m d Y) (hX : X < B64 ^ k) (hY : Y < B64 ^ l) (hk : k ≤ 100000) (hl : l ≤ 100000) : Calls Tryd.prog 21 #[.slice A n c, .slice B m d] W fun e w' => e = .returned (.int .i64 (cmpv X Y)) ∧ Below W.heap.size W w' := by
  refine (cmp32_any W 0 _ 0 _ A B n c m d X Y ha hb (by have := ha.len hX; omega) (by have := hb.len hY; omega)).mono ?_
  rintro e w' ⟨t, rfl, rfl⟩
  exact ⟨rfl, below_drewN (Below.refl _ _) t⟩
theorem radd_is (ha : Dg W A n c X) (hb : Dg W B m d Y) (hX : X < B64 ^ k) (hY : Y < B64 ^ l) (hk : k ≤ 100000) (hl : l ≤ 100000) : Calls Tryd.prog 25 #[.slice A n c, .slice B m d] W (NewDg W (X + Y)) :=
  (add32_any W 0 _ 0 _ A B n c m d _ _ ha hb (small_digs B32_two _) (small_digs B32_two _) (by have := ha.len hX; omega) (by have := hb.len hY; omega) (Nat.le_refl _) (Nat.le_refl _)).mono fun e w' h => NewDg.of h (by rw [nval_digs B32_two, nval_digs B32_two])
theorem rsub_is (ha : Dg W A n c X) (hb : Dg W B m d Y) (hX : X < B64 ^ k) (hk : k ≤ 100000) (hYX : Y ≤ X) : Calls Tryd.prog 26 #[.slice A n c, .slice B m d] W (NewDg W (X - Y)) := by
  have hmn : m ≤ n := by
    rcases Nat.lt_or_ge n m with h | h
    · have := nval_le_of_len B32_two (m := X) (n := Y) (by rw [ha.1, hb.1]; exact h)
      omega
    · exact h
  exact (sub32_any W 0 _ 0 _ A B n c m d _ _ ha hb (small_digs B32_two _) (small_digs B32_two _) (by have := ha.len hX; omega) (Nat.le_refl _) (Nat.le_refl _) hmn (by rw [nval_digs B32_two, nval_digs B32_two]; exact hYX)).mono fun e w' h => NewDg.of h (by rw [nval_digs B32_two, nval_digs B32_two])
end

set_option maxRecDepth 100000 in
set_option maxHeartbeats 4000000 in
theorem sums_walk (w : World) (A B : Option Addr) (n c m d : Nat) (xs ys : List Nat) (ha : Arg w A n c xs) (hb : Arg w B m d ys) (ht : Tab w) :
    Calls Tryd.prog 4 #[.slice A n c, .slice B m d] w (LawPost w) := by
  have HA := Lib.hid ha; have HB := Lib.hid hb; have HT := Lib.hid ht
  clear ha hb ht
  go_enter Tryd.func4, Tryd.ntmps4
  go_wp2_with fail
  refine (known_any w HT.out).mono ?_
  rintro _ w1 ⟨rfl, b1⟩
  have B1 := Lib.hid b1
  clear b1
  go_wp2_with fail
  refine (few_any _ w1.heap.size 2 [n, m] (lens2 w1 A B n c m d) rfl (by omega)).mono ?_
  rintro _ w2 ⟨rfl, rfl⟩
  by_cases hall : n ≤ 40 ∧ m ≤ 40
  · obtain ⟨hn, hm⟩ := hall
    rw [show ([n, m].all fun l => decide (l ≤ 40)) = true by simp [hn, hm]]
    have B2 := Lib.hid (below_step B1.out (one_below w1 (.cells #[.slice A n c, .slice B m d] 22)))
    generalize w1.alloc (.cells #[.slice A n c, .slice B m d] 22) = w2 at *
    have a2 := Lib.hid ((HA.out.step B2.out).has hn); have b2 := Lib.hid ((HB.out.step B2.out).has hm)
    have hX := Lib.hid a2.out.lt; have hY := Lib.hid b2.out.lt
    clear HA HB B1
    generalize nval B64 xs = X at *
    generalize nval B64 ys = Y at *
    go_wp2_with fail
    refine (part_is a2.out (by omega)).mono ?_
    rintro _ w3 ⟨A3, n3, c3, rfl, h3, b3⟩
    have B3 := Lib.hid (below_step B2.out b3); have P3 := Lib.hid h3; have a3 := Lib.hid (a2.out.step b3); have b3' := Lib.hid (b2.out.step b3)
    clear B2 a2 b2 b3 h3
    go_wp2_with fail
    refine (part_is b3'.out (by omega)).mono ?_
    rintro _ w4 ⟨A4, n4, c4, rfl, h4, b4⟩
    have B4 := Lib.hid (below_step B3.out b4); have P4 := Lib.hid (P3.out.step b4); have Q4 := Lib.hid h4; have a4 := Lib.hid (a3.out.step b4); have b4' := Lib.hid (b3'.out.step b4)
    clear B3 a3 b3' b4 h4 P3
    go_wp2_with fail
    refine (rcmp_is P4.out Q4.out hX.out hY.out (by omega) (by omega)).mono ?_
    rintro _ w5 ⟨rfl, b5⟩
    have B5 := Lib.hid (below_step B4.out b5); have P5 := Lib.hid (P4.out.step b5); have Q5 := Lib.hid (Q4.out.step b5); have a5 := Lib.hid (a4.out.step b5); have b5' := Lib.hid (b4'.out.step b5)
    clear B4 a4 b4' b5 P4 Q4
    go_wp2_with fail
    refine (sub_is a5.out b5'.out (by omega) (by omega)).mono ?_
    rintro _ w6 ⟨A6, n6, c6, rfl, h6, b6⟩
    have B6 := Lib.hid (below_step B5.out b6); have P6 := Lib.hid (P5.out.step b6); have Q6 := Lib.hid (Q5.out.step b6); have D6 := Lib.hid h6; have a6 := Lib.hid (a5.out.step b6); have b6' := Lib.hid (b5'.out.step b6)
    clear B5 a5 b5' b6 P5 Q5 h6
    go_wp2_with fail
    refine (cmp_is a6.out b6'.out (by omega) (by omega)).mono ?_
    rintro _ w7 ⟨rfl, b7⟩
    have B7 := Lib.hid (below_step B6.out b7); have P7 := Lib.hid (P6.out.step b7); have Q7 := Lib.hid (Q6.out.step b7); have D7 := Lib.hid (D6.out.step b7); have a7 := Lib.hid (a6.out.step b7); have b7' := Lib.hid (b6'.out.step b7)
    clear B6 a6 b6' b7 P6 Q6 D6
    have f1 : (cmpv X Y != cmpv X Y) = false := by simp
    go_wp2_with fail
    refine (add_is a7.out b7'.out (by omega) (by omega)).mono ?_
    rintro _ w8 ⟨A8, n8, c8, rfl, h8, b8⟩
    have B8 := Lib.hid (below_step B7.out b8); have P8 := Lib.hid (P7.out.step b8); have Q8 := Lib.hid (Q7.out.step b8); have D8 := Lib.hid (D7.out.step b8); have S8 := Lib.hid h8
    clear B7 a7 b7' b8 P7 Q7 D7 h8
    go_wp2_with fail
    refine (radd_is P8.out Q8.out hX.out hY.out (by omega) (by omega)).mono ?_
    rintro _ w9 ⟨A9, n9, c9, rfl, h9, b9⟩
    have B9 := Lib.hid (below_step B8.out b9); have P9 := Lib.hid (P8.out.step b9); have Q9 := Lib.hid (Q8.out.step b9); have D9 := Lib.hid (D8.out.step b9); have S9 := Lib.hid (S8.out.step b9); have R9 := Lib.hid h9
    clear B8 b9 P8 Q8 D8 h9 S8
    go_wp2_with fail
    refine (wordsof_is R9.out (lt_add hX.out hY.out) (by omega)).mono ?_
    rintro _ wa ⟨Aa, na, ca, rfl, ha, ba⟩
    have Ba := Lib.hid (below_step B9.out ba); have Pa := Lib.hid (P9.out.step ba); have Qa := Lib.hid (Q9.out.step ba); have Da := Lib.hid (D9.out.step ba); have Sa := Lib.hid (S9.out.step ba); have Ua := Lib.hid ha
    clear B9 ba P9 Q9 D9 ha S9 R9
    go_wp2_with fail
    refine (words_is Sa.out Ua.out (lt_add hX.out hY.out) (by omega)).mono ?_
    rintro _ wb ⟨rfl, bb⟩
    have Bb := Lib.hid (below_step Ba.out bb); have Pb := Lib.hid (Pa.out.step bb); have Qb := Lib.hid (Qa.out.step bb); have Db := Lib.hid (Da.out.step bb)
    clear Ba bb Pa Qa Da Sa Ua
    rcases Nat.lt_or_ge X Y with hlt | hge
    · have hn6 : n6 = 0 := by
        have := Db.out.1
        rw [show X - Y = 0 by omega, digs_zero] at this
        exact this.symm
      rw [show decide (Y ≤ X) = false by simp; omega, cmpv_lt hlt]
      subst hn6
      clear hlt f1
      go_wp2
      go_ret
      exact ⟨rfl, Bb.out⟩
    · have hc0 : 0 ≤ cmpv X Y := by
        rcases Nat.lt_or_ge Y X with h | h
        · rw [cmpv_gt h]; omega
        · rw [cmpv_eq (by omega)]; omega
      rw [show decide (Y ≤ X) = true by simp; omega]
      generalize cmpv X Y = cv at *
      have HGE := Lib.hid hge
      clear hge
      go_wp2_with fail
      refine (rsub_is Pb.out Qb.out hX.out (by omega) HGE.out).mono ?_
      rintro _ wc ⟨Ac, nc, cc, rfl, hc, bc⟩
      have Bc := Lib.hid (below_step Bb.out bc); have Dc := Lib.hid (Db.out.step bc); have Rc := Lib.hid hc
      clear Bb bc Pb Qb Db hc
      have hXY := Lib.hid (show X - Y < B64 ^ 40 by have := hX.out; omega)
      go_wp2_with fail
      refine (wordsof_is Rc.out hXY.out (by omega)).mono ?_
      rintro _ wd' ⟨Ad, nd, cd, rfl, hd, bd⟩
      have Bd := Lib.hid (below_step Bc.out bd); have Dd := Lib.hid (Dc.out.step bd); have Ud := Lib.hid hd
      clear Bc bd Dc hd Rc
      go_wp2_with fail
      refine (words_is Dd.out Ud.out hXY.out (by omega)).mono ?_
      rintro _ we ⟨rfl, be⟩
      have Be := Lib.hid (below_step Bd.out be)
      clear Bd be Dd Ud
      go_wp2
      go_ret
      exact ⟨rfl, Be.out⟩
  · rw [show ([n, m].all fun l => decide (l ≤ 40)) = false by simp; omega]
    have B2 := Lib.hid (below_step B1.out (one_below w1 (.cells #[.slice A n c, .slice B m d] 22)))
    clear B1 hall
    go_wp2
    go_ret
    exact ⟨rfl, B2.out⟩
end Go.Proofs.YtcjggdcichlanaaDoor
