/- NatBack, walked. -/
import Derived.Test.YtcjggdcichlanaaDoorRings
namespace Go.Proofs.YtcjggdcichlanaaDoor
open Go.RowKit Nx

theorem shv_natL (X g : Nat) (hg : g ≤ 262144) : shv X (g : Int) = X * 2 ^ g := shv_up (by omega)
theorem shv_backL (X g : Nat) (hg : g ≤ 262144) : shv (X * 2 ^ g) (-(g : Int)) = X := by
  rcases Nat.eq_zero_or_pos g with e | e
  · subst e; rw [shv_up (b := 0) (by omega)]; simp
  · rw [shv_down (b := g) (by omega) e, Nat.mul_div_cancel _ (Nat.two_pow_pos g)]
theorem lt_shift {a x t : Nat} (hx : x < B64 ^ a) (ht : t ≤ 255) : x * 2 ^ t < B64 ^ (a + 4) :=
  lt_mul hx (by
    have h1 : 2 ^ t ≤ 2 ^ 255 := Nat.pow_le_pow_right (by omega) ht
    have h2 : B64 ^ 4 = 2 ^ 256 := by rw [pow64]
    rw [h2]; omega)

set_option maxRecDepth 100000 in
set_option maxHeartbeats 4000000 in
theorem back_walk (w : World) (A B C : Option Addr) (n c m d k e t : Nat) (xs ys zs : List Nat) (ha : Arg w A n c xs) (hb : Arg w B m d ys) (hc : Arg w C k e zs) (ht : Tab w) (htt : t ≤ 255) :
    Calls Tryd.prog 7 #[.slice A n c, .slice B m d, .slice C k e, .int .u8 (t : Int)] w (LawPost w) := by
  have HA := Lib.hid ha; have HB := Lib.hid hb; have HC := Lib.hid hc; have HT := Lib.hid ht
  clear ha hb hc ht
  go_enter Tryd.func7, Tryd.ntmps7
  go_wp2_with fail
  refine (known_any w HT.out).mono ?_
  rintro _ w1 ⟨rfl, b1⟩
  have B1 := Lib.hid b1
  clear b1
  go_wp2_with fail
  refine (few_any _ w1.heap.size 3 [n, m, k] (lens3 w1 A B C n c m d k e) rfl (by omega)).mono ?_
  rintro _ w2 ⟨rfl, rfl⟩
  by_cases hall : n ≤ 40 ∧ m ≤ 40 ∧ k ≤ 40
  · obtain ⟨hn, hm, hk⟩ := hall
    rw [show ([n, m, k].all fun l => decide (l ≤ 40)) = true by simp [hn, hm, hk]]
    have B2 := Lib.hid (below_step B1.out (one_below w1 (.cells #[.slice A n c, .slice B m d, .slice C k e] 22)))
    generalize w1.alloc (.cells #[.slice A n c, .slice B m d, .slice C k e] 22) = w2 at *
    have a2 := Lib.hid ((HA.out.step B2.out).has hn); have b2 := Lib.hid ((HB.out.step B2.out).has hm); have c2 := Lib.hid ((HC.out.step B2.out).has hk)
    have hX := Lib.hid a2.out.lt; have hY := Lib.hid b2.out.lt; have hZ := Lib.hid c2.out.lt
    clear HA HB HC B1
    generalize nval B64 xs = X at *
    generalize nval B64 ys = Y at *
    generalize nval B64 zs = Z at *
    -- a + b - b
    go_wp2_with fail
    refine (add_is a2.out b2.out (by omega) (by omega)).mono ?_
    rintro _ w3 ⟨A3, n3, c3, rfl, h3, b3⟩
    have B3 := Lib.hid (below_step B2.out b3); have S3 := Lib.hid (h3.has (lt_add hX.out hY.out)); have a3 := Lib.hid (a2.out.step b3); have b3' := Lib.hid (b2.out.step b3); have c3' := Lib.hid (c2.out.step b3)
    clear B2 a2 b2 c2 b3 h3
    go_wp2_with fail
    refine (sub_is S3.out b3'.out (by omega) (by omega)).mono ?_
    rintro _ w4 ⟨A4, n4, c4, rfl, h4, b4⟩
    rw [show X + Y - Y = X by omega] at h4
    rw [show decide (Y ≤ X + Y) = true by simp]
    have B4 := Lib.hid (below_step B3.out b4); have D4 := Lib.hid h4; have a4 := Lib.hid (a3.out.step b4); have b4' := Lib.hid (b3'.out.step b4); have c4' := Lib.hid (c3'.out.step b4)
    clear B3 a3 b3' c3' b4 h4 S3
    go_wp2_with fail
    refine (trim_is a4.out (by omega)).mono ?_
    rintro _ w5 ⟨A5, n5, c5, rfl, h5, b5⟩
    have B5 := Lib.hid (below_step B4.out b5); have D5 := Lib.hid (D4.out.step b5); have T5 := Lib.hid h5; have a5 := Lib.hid (a4.out.step b5); have b5' := Lib.hid (b4'.out.step b5); have c5' := Lib.hid (c4'.out.step b5)
    clear B4 a4 b4' c4' b5 h5 D4
    go_wp2_with fail
    refine (words_is D5.out T5.out hX.out (by omega)).mono ?_
    rintro _ w6 ⟨rfl, b6⟩
    have B6 := Lib.hid (below_step B5.out b6); have T6 := Lib.hid (T5.out.step b6); have a6 := Lib.hid (a5.out.step b6); have b6' := Lib.hid (b5'.out.step b6); have c6' := Lib.hid (c5'.out.step b6)
    clear B5 a5 b5' c5' b6 D5 T5
    -- shifted up and down
    go_wp2_with fail
    refine (shift_is (t : Int) a6.out (by omega)).mono ?_
    rintro _ w7 ⟨A7, n7, c7, rfl, h7, b7⟩
    rw [shv_natL X t (by omega)] at h7
    have B7 := Lib.hid (below_step B6.out b7); have T7 := Lib.hid (T6.out.step b7); have U7 := Lib.hid (h7.has (lt_shift hX.out htt)); have a7 := Lib.hid (a6.out.step b7); have b7' := Lib.hid (b6'.out.step b7); have c7' := Lib.hid (c6'.out.step b7)
    clear B6 a6 b6' c6' b7 h7 T6
    go_wp2_with fail
    refine (shift_is (-(t : Int)) U7.out (by omega)).mono ?_
    rintro _ w8 ⟨A8, n8, c8, rfl, h8, b8⟩
    rw [shv_backL X t (by omega)] at h8
    have B8 := Lib.hid (below_step B7.out b8); have T8 := Lib.hid (T7.out.step b8); have U8 := Lib.hid h8; have a8 := Lib.hid (a7.out.step b8); have b8' := Lib.hid (b7'.out.step b8); have c8' := Lib.hid (c7'.out.step b8)
    clear B7 a7 b7' c7' b8 h8 T7 U7
    go_wp2_with fail
    refine (words_is U8.out T8.out hX.out (by omega)).mono ?_
    rintro _ w9 ⟨rfl, b9⟩
    have B9 := Lib.hid (below_step B8.out b9); have T9 := Lib.hid (T8.out.step b9); have a9 := Lib.hid (a8.out.step b9); have b9' := Lib.hid (b8'.out.step b9); have c9' := Lib.hid (c8'.out.step b9)
    clear B8 a8 b8' c8' b9 U8 T8
    go_wp2_with fail
    refine (cmp_is c9'.out b9'.out (by omega) (by omega)).mono ?_
    rintro _ wa ⟨rfl, ba⟩
    have Ba := Lib.hid (below_step B9.out ba); have Ta := Lib.hid (T9.out.step ba); have aa := Lib.hid (a9.out.step ba); have ba' := Lib.hid (b9'.out.step ba); have ca' := Lib.hid (c9'.out.step ba)
    clear B9 a9 b9' c9' ba T9
    rcases Nat.lt_or_ge Z Y with hlt | hge
    · rw [cmpv_lt hlt]
      have HLT := Lib.hid hlt
      clear hlt
      go_wp2_with fail
      refine (mul_is aa.out ba'.out (by omega) (by omega)).mono ?_
      rintro _ wb ⟨Ab, nb, cb, rfl, hb, bb⟩
      have Bb := Lib.hid (below_step Ba.out bb); have Tb := Lib.hid (Ta.out.step bb); have Pb := Lib.hid (hb.has (lt_mul hX.out hY.out)); have bb' := Lib.hid (ba'.out.step bb); have cb' := Lib.hid (ca'.out.step bb)
      clear Ba aa ba' ca' bb hb Ta
      go_wp2_with fail
      refine (add_is Pb.out cb'.out (by omega) (by omega)).mono ?_
      rintro _ wc ⟨Ac, nc, cc, rfl, hc, bc⟩
      have Bc := Lib.hid (below_step Bb.out bc); have Tc := Lib.hid (Tb.out.step bc); have Sc := Lib.hid (hc.has (lt_add (lt_mul hX.out hY.out) hZ.out)); have bc' := Lib.hid (bb'.out.step bc); have cc' := Lib.hid (cb'.out.step bc)
      clear Bb bb' cb' bc hc Tb Pb
      go_wp2_with fail
      refine (div_is Sc.out bc'.out (by omega) (by omega) (by have := HLT.out; omega)).mono ?_
      rintro _ wd' ⟨Aq, Ar, nq, cq, nr, cr, rfl, hq, hr, bd⟩
      have hq' : (X * Y + Z) / Y = X := by
        have := HLT.out
        rw [Nat.mul_comm X Y, Nat.mul_add_div (by omega), Nat.div_eq_of_lt this, Nat.add_zero]
      have hr' : (X * Y + Z) % Y = Z := by
        have := HLT.out
        rw [Nat.mul_comm X Y, Nat.mul_add_mod, Nat.mod_eq_of_lt this]
      rw [hq'] at hq
      rw [hr'] at hr
      have Bd := Lib.hid (below_step Bc.out bd); have Td := Lib.hid (Tc.out.step bd); have Qd := Lib.hid hq; have Rdd := Lib.hid hr; have cd' := Lib.hid (cc'.out.step bd)
      clear Bc bc' cc' bd hq hr Tc Sc hq' hr'
      go_wp2_with fail
      refine (words_is Qd.out Td.out hX.out (by omega)).mono ?_
      rintro _ we ⟨rfl, be⟩
      have Be := Lib.hid (below_step Bd.out be); have Re := Lib.hid (Rdd.out.step be); have ce' := Lib.hid (cd'.out.step be)
      clear Bd cd' be Td Qd Rdd
      go_wp2_with fail
      refine (trim_is ce'.out (by omega)).mono ?_
      rintro _ wf ⟨Af, nf, cf, rfl, hf, bf⟩
      have Bf := Lib.hid (below_step Be.out bf); have Rf := Lib.hid (Re.out.step bf); have Tf := Lib.hid hf
      clear Be ce' bf hf Re
      go_wp2_with fail
      refine (words_is Rf.out Tf.out hZ.out (by omega)).mono ?_
      rintro _ wg ⟨rfl, bg⟩
      have Bg := Lib.hid (below_step Bf.out bg)
      clear Bf bg Rf Tf
      go_wp2
      go_ret
      exact ⟨rfl, Bg.out⟩
    · have hc0 : 0 ≤ cmpv Z Y := by
        rcases Nat.lt_or_ge Y Z with h | h
        · rw [cmpv_gt h]; omega
        · rw [cmpv_eq (by omega)]; omega
      generalize cmpv Z Y = cv at *
      clear hge
      go_wp2
      go_ret
      exact ⟨rfl, Ba.out⟩
  · rw [show ([n, m, k].all fun l => decide (l ≤ 40)) = false by simp; omega]
    have B2 := Lib.hid (below_step B1.out (one_below w1 (.cells #[.slice A n c, .slice B m d, .slice C k e] 22)))
    clear B1 hall
    go_wp2
    go_ret
    exact ⟨rfl, B2.out⟩
end Go.Proofs.YtcjggdcichlanaaDoor
