/- fathomlineref1: Fit. -/
import Derived.Test.YtnkbamjjpdmbaaaDoorRndH
import Derived.Test.YtnkbamjjpdmbaaaDoorRndE
namespace Go.Proofs.YtnkbamjjpdmbaaaDoor
open Go.RowKit Nx

theorem bits_words {M P k : Nat} (h : nbits M ≤ P) (hP : P ≤ 64 * k) : M < B64 ^ k := by
  rw [pow64]; exact Nat.lt_of_lt_of_le (lt_of_nbits h) (Nat.pow_le_pow_right (by omega) hP)

set_option maxRecDepth 100000 in
set_option maxHeartbeats 4000000 in
theorem yfit_any (w : World) (s up : Bool) (e p : Int) (A : Option Addr) (n c : Nat) (xs : List Nat) (ha : Arg w A n c xs) (hn : n ≤ 100000) :
    Calls Tryd.prog 12 #[.agg #[.bool s, .int .i64 e, .slice A n c], .int .i64 p, .bool up] w (NumPost2 w (ansf p up s e n xs)) := by
  obtain ⟨k1, k2, b3⟩ := one_bx w s e A n c
  obtain ⟨W, hW⟩ : ∃ W, W = (w.alloc (.cells #[.bool s, .int .i64 e, .slice A n c] 24)).alloc (.cells #[.bool false, .int .i64 0, .slice none 0 0] 24) := ⟨_, rfl⟩
  have hsz : W.heap.size = w.heap.size + 1 + 1 := by rw [hW]; simp
  rw [← hW] at k1 k2 b3
  have ob := one_below W (.cells #[.bool s, .int .i64 e, .slice A n c] 24)
  have C1 := Lib.hid (bad_any _ _ 1 p _ (nums1 W s e A n c xs (ha.step b3) hn) (by omega))
  rw [hsz] at C1
  have K1 := Lib.hid (k1.step ob); have K2 := Lib.hid (k2.step ob); have B3 := Lib.hid (below_step b3 ob)
  have HA := Lib.hid ha
  have y0 := k1.c0; have y1 := k1.c1; have y2 := k1.c2
  subst hW
  clear k1 k2 b3 ha ob hsz
  obtain ⟨r, hr⟩ : ∃ r, r = ansf p up s e n xs := ⟨_, rfl⟩
  rw [← hr]
  have HR := Lib.hid hr
  clear hr
  go_enter Tryd.func12, Tryd.ntmps12
  go_wp2_with fail
  refine C1.out.mono ?_
  rintro _ w4 ⟨rfl, b4⟩
  have K14 := Lib.hid (K1.out.step b4); have K24 := Lib.hid (K2.out.step b4); have B4 := Lib.hid (below_step B3.out b4)
  clear b4 C1 K1 K2 B3 y0 y1 y2
  have hall : (!([okb s e n xs].all id && precb p)) = !(okb s e n xs && precb p) := by simp
  rw [hall]
  clear hall
  cases hok : (okb s e n xs && precb p)
  · have hr : r = (q0, 1) := by rw [HR.out]; unfold ansf; rw [hok]; rfl
    have hb : (!false) = true := rfl
    rw [hb]
    clear hb
    have r0 := K24.out.c0; have r1 := K24.out.c1; have r2 := K24.out.c2
    have z0 := K24.out.fz 0; have z1 := K24.out.fz 1; have z2 := K24.out.fz 2
    go_wp2
    obtain ⟨kr, nr, br⟩ := ret_zero B4.out (Nat.le_add_right w.heap.size 1) K24.out
    refine bodyPost_ret (v := .tuple #[.agg #[.bool false, .int .i64 0, .slice none 0 0], .int .i64 1]) ?_ rfl (by rw [hr]; exact ⟨_, rfl, nr, br⟩)
    have q0 := kr.c0; have q1 := kr.c1; have q2 := kr.c2
    unfold put3 at q0 q1 q2
    simp [results, Tryd.results12, go_sem, q0, q1, q2]
  · have hr : r = res (rnd p.toNat up ⟨s, nval B64 xs, e⟩) := by rw [HR.out]; unfold ansf; rw [hok]; rfl
    have hb : (!true) = false := rfl
    rw [hb]
    clear hb
    obtain ⟨ho1, ho2⟩ := (Bool.and_eq_true _ _).mp hok
    obtain ⟨p1, p2⟩ := prec_true ho2
    obtain ⟨P, hP⟩ : ∃ P : Nat, p = (P : Int) := ⟨p.toNat, by omega⟩
    subst hP
    rw [show ((P : Int)).toNat = P by simp] at hr
    obtain ⟨i1, cn, f1, f2, f3⟩ := okb_true (HA.out.step B4.out) ho1
    simp only at f1 f2 f3
    have CO := Lib.hid (of_any w4 ⟨s, nval B64 xs, e⟩ A n c i1 hn)
    simp only at CO
    obtain ⟨k0, hk0⟩ : ∃ k0 : Nat, k0 = 64 := ⟨_, rfl⟩
    rw [← hk0] at f1
    have hk1 : k0 ≤ 64 := by omega
    have hk2 : 4 ≤ k0 := by omega
    have F1 := Lib.hid f1; have CN := Lib.hid cn; have HR2 := Lib.hid hr
    generalize nval B64 xs = X at *
    clear hr hok ho1 ho2 i1 hk0 f1 cn HA HR
    have y0 := K14.out.c0; have y1 := K14.out.c1; have y2 := K14.out.c2
    go_wp2_with fail
    refine CO.out.mono ?_
    rintro _ w5 ⟨_, rfl, ⟨A5, n5, c5, rfl, h5, p5⟩, b5⟩
    have K25 := Lib.hid (K24.out.step b5); have B5 := Lib.hid (below_step B4.out b5)
    have CR := Lib.hid (round_any w5 ⟨s, X, e⟩ A5 n5 c5 k0 P up CN.out h5 F1.out (by omega) (by omega) (by omega) (by show -50000000 ≤ e; omega) (by show e ≤ 50000000; omega))
    simp only at CR
    have RC := Lib.hid (rnd_canon P up ⟨s, X, e⟩); have RB := Lib.hid (bits_words (k := k0) (nbits_rnd (p := P) up ⟨s, X, e⟩ (by omega)) (by omega))
    generalize rnd P up ⟨s, X, e⟩ = z at *
    clear h5 p5 b5 CO y0 y1 y2 K14 K24 B4
    go_wp2_with fail
    refine CR.out.mono ?_
    rintro _ w6 ⟨A6, n6, c6, rfl, h6, p6, b6⟩
    have K26 := Lib.hid (K25.out.step b6); have B6 := Lib.hid (below_step B5.out b6)
    have CV := Lib.hid (vnum_any w6 z A6 n6 c6 k0 h6 RC.out RB.out (by omega))
    rw [← HR2.out] at CV
    clear h6 p6 b6 CR K25 B5
    go_wp2_with fail
    refine CV.out.mono ?_
    rintro _ w8 ⟨_, rfl, ⟨A8, n8, c8, rfl, h8⟩, b8⟩
    have K28 := Lib.hid (K26.out.step b8)
    have r0 := K28.out.c0; have r1 := K28.out.c1; have r2 := K28.out.c2
    have z0 := K28.out.fz 0; have z1 := K28.out.fz 1; have z2 := K28.out.fz 2
    have RN := Lib.hid (ret_num B6.out (Nat.le_add_right w.heap.size 1) K28.out K26.out.lt b8 h8)
    clear h8 b8 CV
    go_wp2
    obtain ⟨kr, nr, br⟩ := RN.out
    refine bodyPost_ret (v := .tuple #[.agg #[.bool r.1.s, .int .i64 r.1.e, .slice A8 n8 c8], .int .i64 r.2]) ?_ rfl ⟨_, rfl, nr, br⟩
    have q0 := kr.c0; have q1 := kr.c1; have q2 := kr.c2
    unfold put3 at q0 q1 q2
    simp [results, Tryd.results12, go_sem, q0, q1, q2]
end Go.Proofs.YtnkbamjjpdmbaaaDoor
