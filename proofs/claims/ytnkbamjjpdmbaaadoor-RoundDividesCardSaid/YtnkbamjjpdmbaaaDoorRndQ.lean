/- The laws of round, walked: RoundDivides. -/
import Derived.Test.YtnkbamjjpdmbaaaDoorRndLO
import Derived.Test.YtnkbamjjpdmbaaaDoorSeatY
import Derived.Test.YtnkbamjjpdmbaaaDoorMathS
namespace Go.Proofs.YtnkbamjjpdmbaaaDoor
open Go.RowKit Nx

set_option maxRecDepth 100000 in
set_option maxHeartbeats 8000000 in
theorem divides_walk (w : World) (A : Option Addr) (n c : Nat) (xs : List Nat) (ha : Arg w A n c xs) (ht : Tab w) :
    Calls Tryd.prog 7 #[.slice A n c] w (LawPost w) := by
  have HA := Lib.hid ha; have HT := Lib.hid ht
  have C := Lib.hid (known_any _ ht)
  clear ha ht
  go_enter Tryd.func7, Tryd.ntmps7
  go_wp2_with fail
  refine C.out.mono ?_
  rintro _ w1 ⟨rfl, b⟩
  have BB := Lib.hid b
  have D := Lib.hid (sof_any w1 A n c)
  clear b C
  go_wp2_with fail
  refine D.out.mono ?_
  rintro _ w2 ⟨rfl, dk, b⟩
  obtain ⟨g, hg⟩ : ∃ g, g = w1.heap.size := ⟨_, rfl⟩
  rw [← hg] at dk ⊢
  have hwg : w.heap.size ≤ g := by rw [hg]; exact BB.out.size
  replace BB := Lib.hid (below_step BB.out b)
  have DK := Lib.hid dk
  have hg2 : g < w2.heap.size := dk.lt
  clear b D dk hg
  have D := Lib.hid (small_any w2 g 0 w.heap.size A n c 0 xs DK.out (HA.out.1.below BB.out) HA.out.2 (by omega) BB.out.size)
  go_wp2_with fail
  refine D.out.mono ?_
  clear D
  rintro _ w3 ⟨qa, _, fa, rfl, na', dk, m⟩
  have Fa := Lib.hid fa; have Na := Lib.hid na'
  replace DK := Lib.hid dk
  replace BB := Lib.hid (Mv.below BB.out m hwg BB.out.size)
  have sz3 : w2.heap.size ≤ w3.heap.size := m.size
  clear fa na' dk m
  have D := Lib.hid (small_any w3 g 0 w.heap.size A n c 1 xs DK.out (HA.out.1.below BB.out) HA.out.2 (by omega) BB.out.size)
  go_wp2_with fail
  refine D.out.mono ?_
  clear D
  rintro _ w4 ⟨qb, _, fb, rfl, nb', dk, m⟩
  have Fb := Lib.hid fb; have Nb := Lib.hid nb'
  replace DK := Lib.hid dk
  replace BB := Lib.hid (Mv.below BB.out m hwg BB.out.size)
  have sz4 : w3.heap.size ≤ w4.heap.size := m.size
  replace Na := Lib.hid (Na.out.moved m (by omega))
  clear fb nb' dk m
  have D := Lib.hid (dprec_any w4 g 0 w.heap.size A n c 2 xs DK.out (HA.out.1.below BB.out) HA.out.2 (by omega) BB.out.size hwg)
  go_wp2_with fail
  refine D.out.mono ?_
  clear D
  rintro _ w5 ⟨p, kc, hp, rfl, dk, hkc, m⟩
  have HP := Lib.hid hp
  replace DK := Lib.hid dk
  replace BB := Lib.hid (Mv.below BB.out m hwg BB.out.size)
  replace Na := Lib.hid (Na.out.moved m (by omega))
  replace Nb := Lib.hid (Nb.out.moved m (by omega))
  have sz5 : w4.heap.size ≤ w5.heap.size := m.size
  clear hp dk m
  obtain ⟨Aa, na, ca, rfl, ia⟩ := Na.out
  obtain ⟨Ab, nb, cb, rfl, ib⟩ := Nb.out
  obtain ⟨k1, k2, b0⟩ := two_bx w5 qa.s qb.s qa.e qb.e Aa Ab na ca nb cb
  have Ka := Lib.hid k1; have Kb := Lib.hid k2
  have Ia := Lib.hid (Is.step (num_is ia) b0); have Ib := Lib.hid (Is.step (num_is ib) b0)
  have Va := Lib.hid Fa.out.valid; have Vb := Lib.hid Fb.out.valid
  replace BB := Lib.hid (below_step BB.out b0)
  clear k1 k2 b0 ia ib Na Nb DK sz3 sz4 sz5 hkc
  by_cases hY : qb.m = 0
  · have G := Lib.hid (show ∀ up, gdiv p up qa qb = (q0, 3) from fun up => by unfold gdiv; rw [if_pos hY])
    have hs0 : signq qb = 0 := by unfold signq; rw [if_pos hY]
    have HS0 := Lib.hid hs0
    clear hs0
    have D := Lib.hid (xdiv_v (a := qa) (b := qb) p false Ia.out Ib.out Va.out Vb.out HP.out (HT.out.below BB.out))
    rw [G.out] at D
    go_wp2_with fail
    refine D.out.mono ?_
    clear D
    rintro _ w6 ⟨_, rfl, ⟨Al, nl, cl, rfl, hh⟩, b⟩
    replace Ka := Lib.hid (Ka.out.step b)
    replace Ia := Lib.hid (Ia.out.step b)
    replace Kb := Lib.hid (Kb.out.step b)
    replace Ib := Lib.hid (Ib.out.step b)
    replace BB := Lib.hid (below_step BB.out b)
    have obl := one_below w6 (.cells #[.bool q0.s, .int .i64 q0.e, .slice Al nl cl] 24)
    have Il := Lib.hid (Is.step (num_is hh) obl); have Kl := Lib.hid (Bx.new w6 q0.s q0.e Al nl cl)
    replace BB := Lib.hid (below_step BB.out obl)
    clear hh b
    have ar0 := Ka.out.c0; have ar1 := Ka.out.c1; have ar2 := Ka.out.c2; have alt := Ka.out.lt
    have br0 := Kb.out.c0; have br1 := Kb.out.c1; have br2 := Kb.out.c2; have blt := Kb.out.lt
    have D := Lib.hid (xdiv_v (a := qa) (b := qb) p true (Ia.out.step obl) (Ib.out.step obl) Va.out Vb.out HP.out (HT.out.below BB.out))
    rw [G.out] at D
    go_wp2_with fail
    refine D.out.mono ?_
    clear D
    clear ar0 ar1 ar2 alt br0 br1 br2 blt
    rintro _ w7 ⟨_, rfl, ⟨Au, nu, cu, rfl, hh⟩, b⟩
    replace Ka := Lib.hid (Ka.out.step (below_step obl b))
    replace Ia := Lib.hid (Ia.out.step (below_step obl b))
    replace Kb := Lib.hid (Kb.out.step (below_step obl b))
    replace Ib := Lib.hid (Ib.out.step (below_step obl b))
    replace Kl := Lib.hid (Kl.out.step b)
    replace Il := Lib.hid (Il.out.step b)
    replace BB := Lib.hid (below_step BB.out b)
    clear obl
    have obu := one_below w7 (.cells #[.bool q0.s, .int .i64 q0.e, .slice Au nu cu] 24)
    have Iu := Lib.hid (Is.step (num_is hh) obu); have Ku := Lib.hid (Bx.new w7 q0.s q0.e Au nu cu)
    replace BB := Lib.hid (below_step BB.out obu)
    clear hh
    clear b
    have ar0 := Ka.out.c0; have ar1 := Ka.out.c1; have ar2 := Ka.out.c2; have alt := Ka.out.lt
    have br0 := Kb.out.c0; have br1 := Kb.out.c1; have br2 := Kb.out.c2; have blt := Kb.out.lt
    have lr0 := Kl.out.c0; have lr1 := Kl.out.c1; have lr2 := Kl.out.c2; have llt := Kl.out.lt
    have D := Lib.hid (nsign_v (a := qb) (Ib.out.step obu) Vb.out)
    rw [HS0.out] at D
    go_wp2_with fail
    refine D.out.mono ?_
    clear D
    clear ar0 ar1 ar2 alt br0 br1 br2 blt lr0 lr1 lr2 llt
    rintro _ w8 ⟨rfl, b⟩
    replace Ka := Lib.hid (Ka.out.step (below_step obu b))
    replace Ia := Lib.hid (Ia.out.step (below_step obu b))
    replace Kb := Lib.hid (Kb.out.step (below_step obu b))
    replace Ib := Lib.hid (Ib.out.step (below_step obu b))
    replace Kl := Lib.hid (Kl.out.step (below_step obu b))
    replace Il := Lib.hid (Il.out.step (below_step obu b))
    replace Ku := Lib.hid (Ku.out.step b)
    replace Iu := Lib.hid (Iu.out.step b)
    replace BB := Lib.hid (below_step BB.out b)
    clear obu
    clear b
    have ar0 := Ka.out.c0; have ar1 := Ka.out.c1; have ar2 := Ka.out.c2; have alt := Ka.out.lt
    have br0 := Kb.out.c0; have br1 := Kb.out.c1; have br2 := Kb.out.c2; have blt := Kb.out.lt
    have lr0 := Kl.out.c0; have lr1 := Kl.out.c1; have lr2 := Kl.out.c2; have llt := Kl.out.lt
    have ur0 := Ku.out.c0; have ur1 := Ku.out.c1; have ur2 := Ku.out.c2; have ult := Ku.out.lt
    have D := Lib.hid (zero_v (a := q0) Il.out valid0)
    rw [decide_eq_true (rfl : q0 = q0)] at D
    go_wp2_with fail
    refine D.out.mono ?_
    clear D
    clear ar0 ar1 ar2 alt br0 br1 br2 blt lr0 lr1 lr2 llt ur0 ur1 ur2 ult
    rintro _ w9 ⟨rfl, b⟩
    replace Ka := Lib.hid (Ka.out.step b)
    replace Ia := Lib.hid (Ia.out.step b)
    replace Kb := Lib.hid (Kb.out.step b)
    replace Ib := Lib.hid (Ib.out.step b)
    replace Kl := Lib.hid (Kl.out.step b)
    replace Il := Lib.hid (Il.out.step b)
    replace Ku := Lib.hid (Ku.out.step b)
    replace Iu := Lib.hid (Iu.out.step b)
    replace BB := Lib.hid (below_step BB.out b)
    clear b
    have ar0 := Ka.out.c0; have ar1 := Ka.out.c1; have ar2 := Ka.out.c2; have alt := Ka.out.lt
    have br0 := Kb.out.c0; have br1 := Kb.out.c1; have br2 := Kb.out.c2; have blt := Kb.out.lt
    have lr0 := Kl.out.c0; have lr1 := Kl.out.c1; have lr2 := Kl.out.c2; have llt := Kl.out.lt
    have ur0 := Ku.out.c0; have ur1 := Ku.out.c1; have ur2 := Ku.out.c2; have ult := Ku.out.lt
    have D := Lib.hid (zero_v (a := q0) Iu.out valid0)
    rw [decide_eq_true (rfl : q0 = q0)] at D
    go_wp2_with fail
    refine D.out.mono ?_
    clear D
    clear ar0 ar1 ar2 alt br0 br1 br2 blt lr0 lr1 lr2 llt ur0 ur1 ur2 ult
    rintro _ wa ⟨rfl, b⟩
    replace Ka := Lib.hid (Ka.out.step b)
    replace Ia := Lib.hid (Ia.out.step b)
    replace Kb := Lib.hid (Kb.out.step b)
    replace Ib := Lib.hid (Ib.out.step b)
    replace Kl := Lib.hid (Kl.out.step b)
    replace Il := Lib.hid (Il.out.step b)
    replace Ku := Lib.hid (Ku.out.step b)
    replace Iu := Lib.hid (Iu.out.step b)
    replace BB := Lib.hid (below_step BB.out b)
    clear b
    go_wp2
    go_ret
    exact ⟨rfl, BB.out⟩
  · obtain ⟨P, hP⟩ : ∃ P : Nat, p = (P : Int) := ⟨p.toNat, by have := HP.out; omega⟩
    have hP1 : 8 ≤ P := by have := HP.out.1; omega
    have hP2 : P ≤ 256 := by have := HP.out.2; omega
    obtain ⟨v1, v2, v3, v4, c1, c2, n1', n2'⟩ := divides Fa.out Fb.out hY hP1 hP2
    have G := Lib.hid (show ∀ up, gdiv p up qa qb = res (ratq P up qa qb) from fun up => by unfold gdiv; rw [if_neg hY, show p.toNat = P by omega])
    have hs0 : (signq qb == 0) = false := by
      unfold signq; rw [if_neg hY]; cases qb.s <;> rfl
    obtain ⟨z1, hz1⟩ : ∃ z, z = ratq P false qa qb := ⟨_, rfl⟩
    obtain ⟨z2, hz2⟩ : ∃ z, z = ratq P true qa qb := ⟨_, rfl⟩
    rw [← hz1] at v1 v3 c1 n1'
    rw [← hz2] at v2 v4 c2 n2'
    obtain ⟨m1, hm1⟩ : ∃ m, m = times z1 qb := ⟨_, rfl⟩
    obtain ⟨m2, hm2⟩ : ∃ m, m = times z2 qb := ⟨_, rfl⟩
    have R1 := Lib.hid (show gdiv p false qa qb = (z1, 0) by rw [G.out, ← hz1]; exact res_ok v1.2)
    have R2 := Lib.hid (show gdiv p true qa qb = (z2, 0) by rw [G.out, ← hz2]; exact res_ok v2.2)
    have R3 := Lib.hid (show res (times z1 qb) = (m1, 0) by rw [hm1]; exact res_ok v3.2)
    have R4 := Lib.hid (show res (times z2 qb) = (m2, 0) by rw [hm2]; exact res_ok v4.2)
    rw [← hm1] at v3 c1
    rw [← hm2] at v4 c2
    obtain ⟨t0, ht0⟩ : ∃ t, t = signq qb := ⟨_, rfl⟩
    obtain ⟨t1, ht1⟩ : ∃ t, t = cmpq m1 qa := ⟨_, rfl⟩
    obtain ⟨t2, ht2⟩ : ∃ t, t = cmpq m2 qa := ⟨_, rfl⟩
    have g1 : IntKind.i64.wrap (t0 * t1) = t0 * t1 := small_prod (by rw [ht0]; exact sgn_range _) (by rw [ht1]; exact cmpq_range _ _)
    have g2 : IntKind.i64.wrap (t0 * t2) = t0 * t2 := small_prod (by rw [ht0]; exact sgn_range _) (by rw [ht2]; exact cmpq_range _ _)
    rw [← ht0, ← ht1] at c1
    rw [← ht0, ← ht2] at c2
    rw [← ht0] at hs0
    obtain ⟨u1, hu1⟩ : ∃ u, u = t0 * t1 := ⟨_, rfl⟩
    obtain ⟨u2, hu2⟩ : ∃ u, u = t0 * t2 := ⟨_, rfl⟩
    rw [← hu1] at c1
    rw [← hu2] at c2
    replace g1 := g1.trans hu1.symm
    replace g2 := g2.trans hu2.symm
    have l1 : (nbits z1.m : Int) ≤ p := by omega
    have l2 : (nbits z2.m : Int) ≤ p := by omega
    have V1 := Lib.hid v1; have V2 := Lib.hid v2; have V3 := Lib.hid v3; have V4 := Lib.hid v4
    have TT0 := Lib.hid ht0; have TT1 := Lib.hid ht1; have TT2 := Lib.hid ht2; have UU1 := Lib.hid hu1; have UU2 := Lib.hid hu2
    clear hP hP1 hP2 v1 v2 v3 v4 n1' n2' hz1 hz2 hm1 hm2 G hY ht0 ht1 ht2 hu1 hu2
    have D := Lib.hid (xdiv_v (a := qa) (b := qb) p false Ia.out Ib.out Va.out Vb.out HP.out (HT.out.below BB.out))
    rw [R1.out] at D
    go_wp2_with fail
    refine D.out.mono ?_
    clear D
    rintro _ w6 ⟨_, rfl, ⟨Al, nl, cl, rfl, hh⟩, b⟩
    replace Ka := Lib.hid (Ka.out.step b)
    replace Ia := Lib.hid (Ia.out.step b)
    replace Kb := Lib.hid (Kb.out.step b)
    replace Ib := Lib.hid (Ib.out.step b)
    replace BB := Lib.hid (below_step BB.out b)
    have obl := one_below w6 (.cells #[.bool z1.s, .int .i64 z1.e, .slice Al nl cl] 24)
    have Il := Lib.hid (Is.step (num_is hh) obl); have Kl := Lib.hid (Bx.new w6 z1.s z1.e Al nl cl)
    replace BB := Lib.hid (below_step BB.out obl)
    clear hh b
    have ar0 := Ka.out.c0; have ar1 := Ka.out.c1; have ar2 := Ka.out.c2; have alt := Ka.out.lt
    have br0 := Kb.out.c0; have br1 := Kb.out.c1; have br2 := Kb.out.c2; have blt := Kb.out.lt
    have D := Lib.hid (xdiv_v (a := qa) (b := qb) p true (Ia.out.step obl) (Ib.out.step obl) Va.out Vb.out HP.out (HT.out.below BB.out))
    rw [R2.out] at D
    go_wp2_with fail
    refine D.out.mono ?_
    clear D
    clear ar0 ar1 ar2 alt br0 br1 br2 blt
    rintro _ w7 ⟨_, rfl, ⟨Au, nu, cu, rfl, hh⟩, b⟩
    replace Ka := Lib.hid (Ka.out.step (below_step obl b))
    replace Ia := Lib.hid (Ia.out.step (below_step obl b))
    replace Kb := Lib.hid (Kb.out.step (below_step obl b))
    replace Ib := Lib.hid (Ib.out.step (below_step obl b))
    replace Kl := Lib.hid (Kl.out.step b)
    replace Il := Lib.hid (Il.out.step b)
    replace BB := Lib.hid (below_step BB.out b)
    clear obl
    have obu := one_below w7 (.cells #[.bool z2.s, .int .i64 z2.e, .slice Au nu cu] 24)
    have Iu := Lib.hid (Is.step (num_is hh) obu); have Ku := Lib.hid (Bx.new w7 z2.s z2.e Au nu cu)
    replace BB := Lib.hid (below_step BB.out obu)
    clear hh
    clear b
    have ar0 := Ka.out.c0; have ar1 := Ka.out.c1; have ar2 := Ka.out.c2; have alt := Ka.out.lt
    have br0 := Kb.out.c0; have br1 := Kb.out.c1; have br2 := Kb.out.c2; have blt := Kb.out.lt
    have lr0 := Kl.out.c0; have lr1 := Kl.out.c1; have lr2 := Kl.out.c2; have llt := Kl.out.lt
    have D := Lib.hid (nsign_v (a := qb) (Ib.out.step obu) Vb.out)
    rw [← TT0.out] at D
    go_wp2_with fail
    refine D.out.mono ?_
    clear D
    clear ar0 ar1 ar2 alt br0 br1 br2 blt lr0 lr1 lr2 llt
    rintro _ w8 ⟨rfl, b⟩
    replace Ka := Lib.hid (Ka.out.step (below_step obu b))
    replace Ia := Lib.hid (Ia.out.step (below_step obu b))
    replace Kb := Lib.hid (Kb.out.step (below_step obu b))
    replace Ib := Lib.hid (Ib.out.step (below_step obu b))
    replace Kl := Lib.hid (Kl.out.step (below_step obu b))
    replace Il := Lib.hid (Il.out.step (below_step obu b))
    replace Ku := Lib.hid (Ku.out.step b)
    replace Iu := Lib.hid (Iu.out.step b)
    replace BB := Lib.hid (below_step BB.out b)
    clear obu
    clear b
    have ar0 := Ka.out.c0; have ar1 := Ka.out.c1; have ar2 := Ka.out.c2; have alt := Ka.out.lt
    have br0 := Kb.out.c0; have br1 := Kb.out.c1; have br2 := Kb.out.c2; have blt := Kb.out.lt
    have lr0 := Kl.out.c0; have lr1 := Kl.out.c1; have lr2 := Kl.out.c2; have llt := Kl.out.lt
    have ur0 := Ku.out.c0; have ur1 := Ku.out.c1; have ur2 := Ku.out.c2; have ult := Ku.out.lt
    have D := Lib.hid (nmul_v (a := z1) (b := qb) Il.out Ib.out V1.out Vb.out (HT.out.below BB.out))
    rw [R3.out] at D
    go_wp2_with fail
    refine D.out.mono ?_
    clear D
    clear ar0 ar1 ar2 alt br0 br1 br2 blt lr0 lr1 lr2 llt ur0 ur1 ur2 ult
    rintro _ w9 ⟨_, rfl, ⟨Ag, ng, cg, rfl, hh⟩, b⟩
    replace Ka := Lib.hid (Ka.out.step b)
    replace Ia := Lib.hid (Ia.out.step b)
    replace Kb := Lib.hid (Kb.out.step b)
    replace Ib := Lib.hid (Ib.out.step b)
    replace Kl := Lib.hid (Kl.out.step b)
    replace Il := Lib.hid (Il.out.step b)
    replace Ku := Lib.hid (Ku.out.step b)
    replace Iu := Lib.hid (Iu.out.step b)
    replace BB := Lib.hid (below_step BB.out b)
    have obg := one_below w9 (.cells #[.bool m1.s, .int .i64 m1.e, .slice Ag ng cg] 24)
    have Ig := Lib.hid (Is.step (num_is hh) obg); have Kg := Lib.hid (Bx.new w9 m1.s m1.e Ag ng cg)
    replace BB := Lib.hid (below_step BB.out obg)
    clear hh
    clear b
    have ar0 := Ka.out.c0; have ar1 := Ka.out.c1; have ar2 := Ka.out.c2; have alt := Ka.out.lt
    have br0 := Kb.out.c0; have br1 := Kb.out.c1; have br2 := Kb.out.c2; have blt := Kb.out.lt
    have lr0 := Kl.out.c0; have lr1 := Kl.out.c1; have lr2 := Kl.out.c2; have llt := Kl.out.lt
    have ur0 := Ku.out.c0; have ur1 := Ku.out.c1; have ur2 := Ku.out.c2; have ult := Ku.out.lt
    have D := Lib.hid (nmul_v (a := z2) (b := qb) (Iu.out.step obg) (Ib.out.step obg) V2.out Vb.out (HT.out.below BB.out))
    rw [R4.out] at D
    go_wp2_with fail
    refine D.out.mono ?_
    clear D
    clear ar0 ar1 ar2 alt br0 br1 br2 blt lr0 lr1 lr2 llt ur0 ur1 ur2 ult
    rintro _ wa ⟨_, rfl, ⟨Ah, nh, ch, rfl, hh⟩, b⟩
    replace Ka := Lib.hid (Ka.out.step (below_step obg b))
    replace Ia := Lib.hid (Ia.out.step (below_step obg b))
    replace Kb := Lib.hid (Kb.out.step (below_step obg b))
    replace Ib := Lib.hid (Ib.out.step (below_step obg b))
    replace Kl := Lib.hid (Kl.out.step (below_step obg b))
    replace Il := Lib.hid (Il.out.step (below_step obg b))
    replace Ku := Lib.hid (Ku.out.step (below_step obg b))
    replace Iu := Lib.hid (Iu.out.step (below_step obg b))
    replace Kg := Lib.hid (Kg.out.step b)
    replace Ig := Lib.hid (Ig.out.step b)
    replace BB := Lib.hid (below_step BB.out b)
    clear obg
    have obh := one_below wa (.cells #[.bool m2.s, .int .i64 m2.e, .slice Ah nh ch] 24)
    have Ih := Lib.hid (Is.step (num_is hh) obh); have Kh := Lib.hid (Bx.new wa m2.s m2.e Ah nh ch)
    replace BB := Lib.hid (below_step BB.out obh)
    clear hh
    clear b
    have ar0 := Ka.out.c0; have ar1 := Ka.out.c1; have ar2 := Ka.out.c2; have alt := Ka.out.lt
    have br0 := Kb.out.c0; have br1 := Kb.out.c1; have br2 := Kb.out.c2; have blt := Kb.out.lt
    have lr0 := Kl.out.c0; have lr1 := Kl.out.c1; have lr2 := Kl.out.c2; have llt := Kl.out.lt
    have ur0 := Ku.out.c0; have ur1 := Ku.out.c1; have ur2 := Ku.out.c2; have ult := Ku.out.lt
    have gr0 := Kg.out.c0; have gr1 := Kg.out.c1; have gr2 := Kg.out.c2; have glt := Kg.out.lt
    have D := Lib.hid (nsign_v (a := qb) (Ib.out.step obh) Vb.out)
    rw [← TT0.out] at D
    go_wp2_with fail
    refine D.out.mono ?_
    clear D
    clear ar0 ar1 ar2 alt br0 br1 br2 blt lr0 lr1 lr2 llt ur0 ur1 ur2 ult gr0 gr1 gr2 glt
    rintro _ wb ⟨rfl, b⟩
    replace Ka := Lib.hid (Ka.out.step (below_step obh b))
    replace Ia := Lib.hid (Ia.out.step (below_step obh b))
    replace Kb := Lib.hid (Kb.out.step (below_step obh b))
    replace Ib := Lib.hid (Ib.out.step (below_step obh b))
    replace Kl := Lib.hid (Kl.out.step (below_step obh b))
    replace Il := Lib.hid (Il.out.step (below_step obh b))
    replace Ku := Lib.hid (Ku.out.step (below_step obh b))
    replace Iu := Lib.hid (Iu.out.step (below_step obh b))
    replace Kg := Lib.hid (Kg.out.step (below_step obh b))
    replace Ig := Lib.hid (Ig.out.step (below_step obh b))
    replace Kh := Lib.hid (Kh.out.step b)
    replace Ih := Lib.hid (Ih.out.step b)
    replace BB := Lib.hid (below_step BB.out b)
    clear obh
    clear b
    have ar0 := Ka.out.c0; have ar1 := Ka.out.c1; have ar2 := Ka.out.c2; have alt := Ka.out.lt
    have br0 := Kb.out.c0; have br1 := Kb.out.c1; have br2 := Kb.out.c2; have blt := Kb.out.lt
    have lr0 := Kl.out.c0; have lr1 := Kl.out.c1; have lr2 := Kl.out.c2; have llt := Kl.out.lt
    have ur0 := Ku.out.c0; have ur1 := Ku.out.c1; have ur2 := Ku.out.c2; have ult := Ku.out.lt
    have gr0 := Kg.out.c0; have gr1 := Kg.out.c1; have gr2 := Kg.out.c2; have glt := Kg.out.lt
    have hr0 := Kh.out.c0; have hr1 := Kh.out.c1; have hr2 := Kh.out.c2; have hlt := Kh.out.lt
    have D := Lib.hid (ncmp_v (a := m1) (b := qa) Ig.out Ia.out V3.out Va.out)
    rw [← TT1.out] at D
    go_wp2_with fail
    refine D.out.mono ?_
    clear D
    clear ar0 ar1 ar2 alt br0 br1 br2 blt lr0 lr1 lr2 llt ur0 ur1 ur2 ult gr0 gr1 gr2 glt hr0 hr1 hr2 hlt
    rintro _ wc ⟨rfl, b⟩
    replace Ka := Lib.hid (Ka.out.step b)
    replace Ia := Lib.hid (Ia.out.step b)
    replace Kb := Lib.hid (Kb.out.step b)
    replace Ib := Lib.hid (Ib.out.step b)
    replace Kl := Lib.hid (Kl.out.step b)
    replace Il := Lib.hid (Il.out.step b)
    replace Ku := Lib.hid (Ku.out.step b)
    replace Iu := Lib.hid (Iu.out.step b)
    replace Kg := Lib.hid (Kg.out.step b)
    replace Ig := Lib.hid (Ig.out.step b)
    replace Kh := Lib.hid (Kh.out.step b)
    replace Ih := Lib.hid (Ih.out.step b)
    replace BB := Lib.hid (below_step BB.out b)
    clear b
    have ar0 := Ka.out.c0; have ar1 := Ka.out.c1; have ar2 := Ka.out.c2; have alt := Ka.out.lt
    have br0 := Kb.out.c0; have br1 := Kb.out.c1; have br2 := Kb.out.c2; have blt := Kb.out.lt
    have lr0 := Kl.out.c0; have lr1 := Kl.out.c1; have lr2 := Kl.out.c2; have llt := Kl.out.lt
    have ur0 := Ku.out.c0; have ur1 := Ku.out.c1; have ur2 := Ku.out.c2; have ult := Ku.out.lt
    have gr0 := Kg.out.c0; have gr1 := Kg.out.c1; have gr2 := Kg.out.c2; have glt := Kg.out.lt
    have hr0 := Kh.out.c0; have hr1 := Kh.out.c1; have hr2 := Kh.out.c2; have hlt := Kh.out.lt
    have D := Lib.hid (ncmp_v (a := m2) (b := qa) Ih.out Ia.out V4.out Va.out)
    rw [← TT2.out] at D
    go_wp2_with fail
    refine D.out.mono ?_
    clear D
    clear ar0 ar1 ar2 alt br0 br1 br2 blt lr0 lr1 lr2 llt ur0 ur1 ur2 ult gr0 gr1 gr2 glt hr0 hr1 hr2 hlt
    rintro _ wd ⟨rfl, b⟩
    replace Ka := Lib.hid (Ka.out.step b)
    replace Ia := Lib.hid (Ia.out.step b)
    replace Kb := Lib.hid (Kb.out.step b)
    replace Ib := Lib.hid (Ib.out.step b)
    replace Kl := Lib.hid (Kl.out.step b)
    replace Il := Lib.hid (Il.out.step b)
    replace Ku := Lib.hid (Ku.out.step b)
    replace Iu := Lib.hid (Iu.out.step b)
    replace Kg := Lib.hid (Kg.out.step b)
    replace Ig := Lib.hid (Ig.out.step b)
    replace Kh := Lib.hid (Kh.out.step b)
    replace Ih := Lib.hid (Ih.out.step b)
    replace BB := Lib.hid (below_step BB.out b)
    clear b
    have ar0 := Ka.out.c0; have ar1 := Ka.out.c1; have ar2 := Ka.out.c2; have alt := Ka.out.lt
    have br0 := Kb.out.c0; have br1 := Kb.out.c1; have br2 := Kb.out.c2; have blt := Kb.out.lt
    have lr0 := Kl.out.c0; have lr1 := Kl.out.c1; have lr2 := Kl.out.c2; have llt := Kl.out.lt
    have ur0 := Ku.out.c0; have ur1 := Ku.out.c1; have ur2 := Ku.out.c2; have ult := Ku.out.lt
    have gr0 := Kg.out.c0; have gr1 := Kg.out.c1; have gr2 := Kg.out.c2; have glt := Kg.out.lt
    have hr0 := Kh.out.c0; have hr1 := Kh.out.c1; have hr2 := Kh.out.c2; have hlt := Kh.out.lt
    have D := Lib.hid (bits_has (Il.out.has V1.out.2.1) (by omega))
    go_wp2_with fail
    refine D.out.mono ?_
    clear D
    clear ar0 ar1 ar2 alt br0 br1 br2 blt lr0 lr1 lr2 llt ur0 ur1 ur2 ult gr0 gr1 gr2 glt hr0 hr1 hr2 hlt
    rintro _ we ⟨rfl, rfl⟩
    have ar0 := Ka.out.c0; have ar1 := Ka.out.c1; have ar2 := Ka.out.c2; have alt := Ka.out.lt
    have br0 := Kb.out.c0; have br1 := Kb.out.c1; have br2 := Kb.out.c2; have blt := Kb.out.lt
    have lr0 := Kl.out.c0; have lr1 := Kl.out.c1; have lr2 := Kl.out.c2; have llt := Kl.out.lt
    have ur0 := Ku.out.c0; have ur1 := Ku.out.c1; have ur2 := Ku.out.c2; have ult := Ku.out.lt
    have gr0 := Kg.out.c0; have gr1 := Kg.out.c1; have gr2 := Kg.out.c2; have glt := Kg.out.lt
    have hr0 := Kh.out.c0; have hr1 := Kh.out.c1; have hr2 := Kh.out.c2; have hlt := Kh.out.lt
    have D := Lib.hid (bits_has (Iu.out.has V2.out.2.1) (by omega))
    go_wp2_with fail
    refine D.out.mono ?_
    clear D
    clear ar0 ar1 ar2 alt br0 br1 br2 blt lr0 lr1 lr2 llt ur0 ur1 ur2 ult gr0 gr1 gr2 glt hr0 hr1 hr2 hlt
    rintro _ wf ⟨rfl, rfl⟩
    have ar0 := Ka.out.c0; have ar1 := Ka.out.c1; have ar2 := Ka.out.c2; have alt := Ka.out.lt
    have br0 := Kb.out.c0; have br1 := Kb.out.c1; have br2 := Kb.out.c2; have blt := Kb.out.lt
    have lr0 := Kl.out.c0; have lr1 := Kl.out.c1; have lr2 := Kl.out.c2; have llt := Kl.out.lt
    have ur0 := Ku.out.c0; have ur1 := Ku.out.c1; have ur2 := Ku.out.c2; have ult := Ku.out.lt
    have gr0 := Kg.out.c0; have gr1 := Kg.out.c1; have gr2 := Kg.out.c2; have glt := Kg.out.lt
    have hr0 := Kh.out.c0; have hr1 := Kh.out.c1; have hr2 := Kh.out.c2; have hlt := Kh.out.lt
    go_wp2
    go_ret
    exact ⟨rfl, BB.out⟩
end Go.Proofs.YtnkbamjjpdmbaaaDoor
