/- fathomlineref1.Text: the document's text of any number. -/
import Derived.Test.YtdmnohmjobofhaaGreatDoorDgE
namespace Go.Proofs.YtdmnohmjobofhaaGreatDoor
open Go.RowKit Nx

theorem has_one (w : World) (u : Nat) (hu : u < B64) (z : Int) (hz : z = (u : Int)) : Has (w.alloc (.cells #[.int .u64 z] 40)) (some ⟨w.heap.size, 0, none⟩) 1 1 u 1 := by
  subst hz
  exact ⟨[u], one_rd w u, small1 hu, nval1 _, by omega⟩
theorem lt_b64 {u : Nat} (h : u < B64) : u < B64 ^ 64 := Nat.lt_of_lt_of_le h (by
  have := Nat.pow_le_pow_right (show 0 < B64 by unfold B64; omega) (show 1 ≤ 64 by omega)
  rwa [Nat.pow_one] at this)
set_option maxRecDepth 100000 in
set_option maxHeartbeats 2000000 in
theorem rtext_any (w : World) (s : Bool) (e : Int) (A : Option Addr) (n c : Nat) (xs : List Nat) (ha : Arg w A n c xs) (hn : n ≤ 100000) :
    Calls Tryz.prog 11 #[.agg #[.bool s, .int .i64 e, .slice A n c]] w (StrPost w (show_ s e n xs)) := by
  have K1 := Lib.hid (Bx.new w s e A n c); have B1 := Lib.hid (one_below w (.cells #[.bool s, .int .i64 e, .slice A n c] 24))
  have C1 := Lib.hid (rright_any _ s e A n c xs (ha.step B1.out) hn)
  have HA := Lib.hid ha
  have r0 := K1.out.c0; have r1 := K1.out.c1; have r2 := K1.out.c2
  clear ha
  cases hok : okb s e n xs
  · rw [hok] at C1
    have HS : Hid (show_ s e n xs = []) := Lib.hid (by unfold show_; rw [hok]; rfl)
    clear hok
    go_enter Tryz.func11, Tryz.ntmps11
    go_wp2_with fail
    refine C1.out.mono ?_
    rintro _ w1 ⟨rfl, b1⟩
    go_wp2
    go_ret
    rw [HS.out]
    exact ⟨_, rfl, ByteArray.toList_mk [], below_step B1.out b1⟩
  · rw [hok] at C1
    have HS : Hid (show_ s e n xs = txt ⟨s, nval B64 xs, e⟩) := Lib.hid (by unfold show_; rw [hok]; rfl)
    obtain ⟨hI, hV⟩ := okb_true HA.out hok
    have hN : nval B64 xs < B64 ^ 64 := hV.2.1
    have he1 : -65536 ≤ e := hV.2.2.1
    have he2 : e ≤ 65536 := hV.2.2.2
    have HI := Lib.hid hI; have HN := Lib.hid hN
    clear hok hI hV hN
    generalize nval B64 xs = N at *
    go_enter Tryz.func11, Tryz.ntmps11
    go_wp2_with fail
    refine C1.out.mono ?_
    rintro _ w1 ⟨rfl, b1⟩
    have B2 := Lib.hid (below_step B1.out b1); have K2 := Lib.hid (K1.out.step b1)
    clear r0 r1 r2 C1 b1
    have r0 := K2.out.c0; have r1 := K2.out.c1; have r2 := K2.out.c2
    go_wp2_with fail
    refine (part_is ((HI.out.step B2.out).has HN.out) (by omega)).mono ?_
    rintro _ w1b ⟨Ap, np, cp, rfl, hDp, bp⟩
    have B2b := Lib.hid (below_step B2.out bp); have K2b := Lib.hid (K2.out.step bp); have HDp := Lib.hid hDp
    clear r0 r1 r2 bp hDp K2 B2
    go_wp2_with fail
    refine (rdecimal_any w1b Ap np cp N HDp.out HN.out).mono ?_
    rintro _ w2 ⟨t, rfl, ht, b2⟩
    have hst : t.size ≤ 1300 := by rw [size_of, ht]; exact dec_len_le (Nat.lt_of_lt_of_le HN.out b64_ten) (by omega)
    have HT := Lib.hid ht
    have B3 := Lib.hid (below_step B2b.out b2); have K3 := Lib.hid (K2b.out.step b2)
    clear ht b2 K1 K2b B2b HDp
    have r0 := K3.out.c0; have r1 := K3.out.c1; have r2 := K3.out.c2
    by_cases he : e = 0
    · subst he
      cases s
      · go_wp2
        go_ret
        refine ⟨_, rfl, ?_, B3.out⟩
        rw [HS.out, HT.out]; simp [txt]
      · go_wp2
        go_ret
        refine ⟨_, rfl, ?_, B3.out⟩
        rw [HS.out, cat_list, HT.out]; simp [txt]
    · have f0 : (e == 0) = false := by simp; exact he
      obtain ⟨u, hu⟩ : ∃ u : Nat, u = e.natAbs := ⟨_, rfl⟩
      have huB : u < B64 := by unfold B64; omega
      have hl : (Lib.decDigits u).length ≤ 6 := dec_len_le (u := u) (k := 6) (by omega) (by omega)
      have HL := Lib.hid hl; have HE := Lib.hid he
      have HU := Lib.hid huB
      by_cases hneg : e < 0
      · have hei := Lib.hid (show Lib.itoa e = 45 :: Lib.decDigits u by rw [hu]; exact itoa_neg' hneg)
        have g1 : IntKind.i64.wrap (-e) = (u : Int) := by rw [IntKind.wrap_i64]; omega
        have g2 : IntKind.u64.wrap (u : Int) = (u : Int) := u64_fits _ (by omega)
        have g3 : -e = (u : Int) := by omega
        have fneg : decide (e < 0) = true := by simp; exact hneg
        have ob := one_below w2 (.cells #[.int .u64 (u : Int)] 40)
        have C3 := Lib.hid (part_is (has_one w2 u huB _ rfl) (by omega))
        have B4 := Lib.hid (below_step B3.out ob)
        clear hl he hu huB ob hneg
        cases s
        all_goals
          go_wp2_with fail
          refine C3.out.mono ?_
          rintro _ w3 ⟨A3, n3, c3, rfl, h3, b3⟩
          have H3 := Lib.hid h3
          clear h3
          go_wp2_with fail
          refine (rdecimal_any w3 A3 n3 c3 u H3.out (lt_b64 HU.out)).mono ?_
          rintro _ w4 ⟨t4, rfl, h4, b4⟩
          have hs4 : t4.size ≤ 6 := by rw [size_of, h4]; exact HL.out
          have H4 := Lib.hid h4
          clear h4
          go_wp2
          go_ret
          refine ⟨_, rfl, ?_, below_step B4.out (below_step b3 b4)⟩
          simp only [HS.out, cat_list, HT.out, H4.out]; simp [txt, HE.out, hei.out]
      · have hei := Lib.hid (show Lib.itoa e = Lib.decDigits u by rw [itoa_pos (by omega)]; congr 1; omega)
        have g1 : IntKind.u64.wrap e = (u : Int) := by rw [IntKind.wrap_u64]; omega
        have fneg : decide (e < 0) = false := by simp; omega
        have ob := one_below w2 (.cells #[.int .u64 (u : Int)] 40)
        have C3 := Lib.hid (part_is (has_one w2 u huB _ rfl) (by omega))
        have B4 := Lib.hid (below_step B3.out ob)
        clear hl he hu huB ob hneg
        cases s
        all_goals
          go_wp2_with fail
          refine C3.out.mono ?_
          rintro _ w3 ⟨A3, n3, c3, rfl, h3, b3⟩
          have H3 := Lib.hid h3
          clear h3
          go_wp2_with fail
          refine (rdecimal_any w3 A3 n3 c3 u H3.out (lt_b64 HU.out)).mono ?_
          rintro _ w4 ⟨t4, rfl, h4, b4⟩
          have hs4 : t4.size ≤ 6 := by rw [size_of, h4]; exact HL.out
          have H4 := Lib.hid h4
          clear h4
          go_wp2
          go_ret
          refine ⟨_, rfl, ?_, below_step B4.out (below_step b3 b4)⟩
          simp only [HS.out, cat_list, HT.out, H4.out]; simp [txt, HE.out, hei.out]
end Go.Proofs.YtdmnohmjobofhaaGreatDoor
