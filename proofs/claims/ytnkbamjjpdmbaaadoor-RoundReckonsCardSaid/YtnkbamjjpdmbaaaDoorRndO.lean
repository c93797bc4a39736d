/- The laws of round, walked: RoundFits, RoundReckons. -/
import Derived.Test.YtnkbamjjpdmbaaaDoorRndN
namespace Go.Proofs.YtnkbamjjpdmbaaaDoor
open Go.RowKit Nx

set_option maxRecDepth 100000 in
set_option maxHeartbeats 8000000 in
theorem fits_walk (w : World) (s : Bool) (e : Int) (A : Option Addr) (n c : Nat) (xs : List Nat) (p : Int) (up : Bool) (ha : Arg w A n c xs) (ht : Tab w) :
    Calls Tryd.prog 3 #[.agg #[.bool s, .int .i64 e, .slice A n c], .int .i64 p, .bool up] w (LawPost w) := by
  obtain ⟨k1, b1⟩ := box_one w s e A n c
  have Kx := Lib.hid k1; have BB := Lib.hid b1; have HA := Lib.hid ha; have HT := Lib.hid ht
  have C := Lib.hid (known_any _ (ht.below b1))
  clear k1 b1 ha ht
  go_enter Tryd.func3, Tryd.ntmps3
  go_wp2_with fail
  refine C.out.mono ?_
  rintro _ w1 ⟨rfl, b⟩
  replace Kx := Lib.hid (Kx.out.step b)
  replace BB := Lib.hid (below_step BB.out b)
  clear b C
  have K0 := Kx.out.c0; have K1 := Kx.out.c1; have K2 := Kx.out.c2; have Kl := Kx.out.lt
  have CL := Lib.hid (light3_any _ w1.heap.size 1 [n] (lensn1 w1 s e A n c) rfl (by omega))
  by_cases hn : n ≤ 70
  · rw [show ([n].all fun l => decide (l ≤ 70)) = true by simp [hn]] at CL
    go_wp2_with fail
    refine CL.out.mono ?_
    rintro _ w2' ⟨rfl, rfl⟩
    have ob := one_below w1 (.cells #[.bool s, .int .i64 e, .slice A n c] 24)
    replace Kx := Lib.hid (Kx.out.step ob)
    replace BB := Lib.hid (below_step BB.out ob)
    clear K0 K1 K2 Kl
    clear ob CL
    generalize w1.alloc (.cells #[.bool s, .int .i64 e, .slice A n c] 24) = w2 at *
    obtain ⟨r, hr⟩ : ∃ r, r = ansf p up s e n xs := ⟨_, rfl⟩
    have VR := Lib.hid (show Valid r.1 by rw [hr]; exact ansf_v _ _ _ _ _ _)
    have C1 := fun w4 (h : Below w.heap.size w w4) => Lib.hid (xfit_any w4 s up e p A n c xs (HA.out.step h) (by omega) (HT.out.below h))
    have C2 := fun w4 (h : Below w.heap.size w w4) => Lib.hid (yfit_any w4 s up e p A n c xs (HA.out.step h) (by omega))
    rw [← hr] at C1 C2
    clear hr HA
    have xr0 := Kx.out.c0; have xr1 := Kx.out.c1; have xr2 := Kx.out.c2; have xlt := Kx.out.lt
    have D := C1 _ BB.out
    go_wp2_with fail
    refine D.out.mono ?_
    clear D
    clear xr0 xr1 xr2 xlt
    rintro _ w3 ⟨_, rfl, ⟨Aa, na, ca, rfl, hh⟩, b⟩
    replace Kx := Lib.hid (Kx.out.step b)
    replace BB := Lib.hid (below_step BB.out b)
    have oba := one_below w3 (.cells #[.bool r.1.s, .int .i64 r.1.e, .slice Aa na ca] 24)
    have Ia := Lib.hid (Is.step (num_is hh) oba); have Ka := Lib.hid (Bx.new w3 r.1.s r.1.e Aa na ca)
    replace BB := Lib.hid (below_step BB.out oba)
    clear hh b
    have xr0 := Kx.out.c0; have xr1 := Kx.out.c1; have xr2 := Kx.out.c2; have xlt := Kx.out.lt
    have D := C2 _ BB.out
    go_wp2_with fail
    refine D.out.mono ?_
    clear D
    clear xr0 xr1 xr2 xlt
    rintro _ w4 ⟨_, rfl, ⟨Af, nf, cf, rfl, hh⟩, b⟩
    replace Kx := Lib.hid (Kx.out.step (below_step oba b))
    replace Ka := Lib.hid (Ka.out.step b)
    replace Ia := Lib.hid (Ia.out.step b)
    replace BB := Lib.hid (below_step BB.out b)
    clear oba
    have obf := one_below w4 (.cells #[.bool r.1.s, .int .i64 r.1.e, .slice Af nf cf] 24)
    have If := Lib.hid (Is.step (num_is hh) obf); have Kf := Lib.hid (Bx.new w4 r.1.s r.1.e Af nf cf)
    replace BB := Lib.hid (below_step BB.out obf)
    clear hh b
    clear C1 C2 Kx
    have ar0 := Ka.out.c0; have ar1 := Ka.out.c1; have ar2 := Ka.out.c2; have alt := Ka.out.lt
    have D := Lib.hid (rsame_v (a := r.1) (b := r.1) (Ia.out.step obf) If.out VR.out VR.out)
    rw [sameb_self] at D
    go_wp2_with fail
    refine D.out.mono ?_
    clear D
    clear ar0 ar1 ar2 alt
    rintro _ w5 ⟨rfl, b⟩
    replace Ka := Lib.hid (Ka.out.step (below_step obf b))
    replace Ia := Lib.hid (Ia.out.step (below_step obf b))
    replace Kf := Lib.hid (Kf.out.step b)
    replace If := Lib.hid (If.out.step b)
    replace BB := Lib.hid (below_step BB.out b)
    clear obf
    clear b
    go_wp2
    go_ret
    exact ⟨rfl, BB.out⟩
  · rw [show ([n].all fun l => decide (l ≤ 70)) = false by simp [hn]] at CL
    go_wp2_with fail
    refine CL.out.mono ?_
    rintro _ w2' ⟨rfl, rfl⟩
    have ob := one_below w1 (.cells #[.bool s, .int .i64 e, .slice A n c] 24)
    go_wp2
    go_ret
    exact ⟨rfl, below_step BB.out ob⟩

set_option maxRecDepth 100000 in
set_option maxHeartbeats 8000000 in
theorem rreckons_walk (w : World) (s s' : Bool) (e e' : Int) (A B : Option Addr) (n c m d : Nat) (xs ys : List Nat) (p : Int) (up : Bool) (ha : Arg w A n c xs) (hb : Arg w B m d ys) (ht : Tab w) :
    Calls Tryd.prog 4 #[.agg #[.bool s, .int .i64 e, .slice A n c], .agg #[.bool s', .int .i64 e', .slice B m d], .int .i64 p, .bool up] w (LawPost w) := by
  obtain ⟨k1, k2, b1⟩ := two_bx w s s' e e' A B n c m d
  have K := Lib.hid k1; have L := Lib.hid k2; have BB := Lib.hid b1; have HA := Lib.hid ha; have HB := Lib.hid hb; have HT := Lib.hid ht
  have C := Lib.hid (known_any _ (ht.below b1))
  clear k1 k2 b1 ha hb ht
  go_enter Tryd.func4, Tryd.ntmps4
  go_wp2_with fail
  refine C.out.mono ?_
  rintro _ w1 ⟨rfl, b⟩
  replace K := Lib.hid (K.out.step b)
  replace L := Lib.hid (L.out.step b)
  replace BB := Lib.hid (below_step BB.out b)
  clear b C
  have K0 := K.out.c0; have K1 := K.out.c1; have K2 := K.out.c2; have Kl := K.out.lt
  have L0 := L.out.c0; have L1 := L.out.c1; have L2 := L.out.c2; have Ll := L.out.lt
  have CL := Lib.hid (light3_any _ w1.heap.size 2 [n, m] (lensn2 w1 s s' e e' A B n c m d) rfl (by omega))
  have ob := one_below w1 (.cells #[.bool s, .int .i64 e, .slice A n c, .bool s', .int .i64 e', .slice B m d] 24)
  have BO := Lib.hid (below_step BB.out ob)
  have KO := Lib.hid (K.out.step ob); have LO := Lib.hid (L.out.step ob)
  clear ob
  by_cases hnm : n ≤ 70 ∧ m ≤ 70
  · obtain ⟨hn, hm⟩ := hnm
    rw [show ([n, m].all fun l => decide (l ≤ 70)) = true by simp [hn, hm]] at CL
    have D := Lib.hid (four_any _ s s' up e e' p A B n c m d xs ys (HA.out.step BO.out) (HB.out.step BO.out) (by omega) (by omega) (HT.out.below BO.out))
    go_wp2_with fail
    refine CL.out.mono ?_
    rintro _ w2' ⟨rfl, rfl⟩
    clear K0 K1 K2 Kl L0 L1 L2 Ll CL K L
    have K0 := KO.out.c0; have K1 := KO.out.c1; have K2 := KO.out.c2
    have L0 := LO.out.c0; have L1 := LO.out.c1; have L2 := LO.out.c2
    go_wp2_with fail
    refine D.out.mono ?_
    rintro _ w3 ⟨rfl, b⟩
    have B3 := Lib.hid (below_step BO.out b)
    clear b D
    go_wp2
    go_ret
    exact ⟨rfl, B3.out⟩
  · rw [show ([n, m].all fun l => decide (l ≤ 70)) = false by simp; omega] at CL
    go_wp2_with fail
    refine CL.out.mono ?_
    rintro _ w2' ⟨rfl, rfl⟩
    go_wp2
    go_ret
    exact ⟨rfl, BO.out⟩
end Go.Proofs.YtnkbamjjpdmbaaaDoor
