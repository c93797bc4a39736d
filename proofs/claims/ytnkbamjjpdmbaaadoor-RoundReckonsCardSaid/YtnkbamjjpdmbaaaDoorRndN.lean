/- The laws of round, walked: four, RoundFits, RoundReckons. -/
import Derived.Test.YtnkbamjjpdmbaaaDoorRndL
namespace Go.Proofs.YtnkbamjjpdmbaaaDoor
open Go.RowKit Nx

set_option maxRecDepth 100000 in
set_option maxHeartbeats 8000000 in
theorem four_any (w : World) (s s' up : Bool) (e e' p : Int) (A B : Option Addr) (n c m d : Nat) (xs ys : List Nat) (ha : Arg w A n c xs) (hb : Arg w B m d ys) (hn : n ≤ 100000) (hm : m ≤ 100000) (ht : Tab w) :
    Calls Tryd.prog 14 #[.agg #[.bool s, .int .i64 e, .slice A n c], .agg #[.bool s', .int .i64 e', .slice B m d], .int .i64 p, .bool up] w (BoolPost w true) := by
  obtain ⟨k1, k2, b1⟩ := two_bx w s s' e e' A B n c m d
  have Kx := Lib.hid k1; have Ky := Lib.hid k2; have BB := Lib.hid b1; have HA := Lib.hid ha; have HB := Lib.hid hb; have HT := Lib.hid ht
  clear k1 k2 b1 ha hb ht
  obtain ⟨r1, hr1⟩ : ∃ r, r = ansr (gadd p up) p s e n xs s' e' m ys := ⟨_, rfl⟩
  have Vr1 := Lib.hid (show Valid r1.1 by rw [hr1]; exact ansr_v1 (gadd_v p up) _ _ _ _ _ _ _ _ _)
  have Cr1 := fun w4 (h : Below w.heap.size w w4) => Lib.hid (xadd_any w4 s s' up e e' p A B n c m d xs ys (HA.out.step h) (HB.out.step h) hn hm (HT.out.below h))
  rw [← hr1] at Cr1
  have Dr1 := fun w4 (h : Below w.heap.size w w4) => Lib.hid (reckon_any w4 0 s s' up e e' p A B n c m d xs ys (HA.out.step h) (HB.out.step h) hn hm)
  rw [gk_0, ← hr1] at Dr1
  obtain ⟨r2, hr2⟩ : ∃ r, r = ansr (gsub p up) p s e n xs s' e' m ys := ⟨_, rfl⟩
  have Vr2 := Lib.hid (show Valid r2.1 by rw [hr2]; exact ansr_v1 (gsub_v p up) _ _ _ _ _ _ _ _ _)
  have Cr2 := fun w4 (h : Below w.heap.size w w4) => Lib.hid (xsub_any w4 s s' up e e' p A B n c m d xs ys (HA.out.step h) (HB.out.step h) hn hm (HT.out.below h))
  rw [← hr2] at Cr2
  have Dr2 := fun w4 (h : Below w.heap.size w w4) => Lib.hid (reckon_any w4 1 s s' up e e' p A B n c m d xs ys (HA.out.step h) (HB.out.step h) hn hm)
  rw [gk_1, ← hr2] at Dr2
  obtain ⟨r3, hr3⟩ : ∃ r, r = ansr (gmul p up) p s e n xs s' e' m ys := ⟨_, rfl⟩
  have Vr3 := Lib.hid (show Valid r3.1 by rw [hr3]; exact ansr_v1 (gmul_v p up) _ _ _ _ _ _ _ _ _)
  have Cr3 := fun w4 (h : Below w.heap.size w w4) => Lib.hid (xmul_any w4 s s' up e e' p A B n c m d xs ys (HA.out.step h) (HB.out.step h) hn hm (HT.out.below h))
  rw [← hr3] at Cr3
  have Dr3 := fun w4 (h : Below w.heap.size w w4) => Lib.hid (reckon_any w4 2 s s' up e e' p A B n c m d xs ys (HA.out.step h) (HB.out.step h) hn hm)
  rw [gk_2, ← hr3] at Dr3
  obtain ⟨r4, hr4⟩ : ∃ r, r = ansr (gdiv p up) p s e n xs s' e' m ys := ⟨_, rfl⟩
  have Vr4 := Lib.hid (show Valid r4.1 by rw [hr4]; exact ansr_v1 (gdiv_v p up) _ _ _ _ _ _ _ _ _)
  have Cr4 := fun w4 (h : Below w.heap.size w w4) => Lib.hid (xdiv_any w4 s s' up e e' p A B n c m d xs ys (HA.out.step h) (HB.out.step h) hn hm (HT.out.below h))
  rw [← hr4] at Cr4
  have Dr4 := fun w4 (h : Below w.heap.size w w4) => Lib.hid (reckon_any w4 3 s s' up e e' p A B n c m d xs ys (HA.out.step h) (HB.out.step h) hn hm)
  rw [gk_3, ← hr4] at Dr4
  clear hr1 hr2 hr3 hr4 HA HB
  go_enter Tryd.func14, Tryd.ntmps14
  have xr0 := Kx.out.c0; have xr1 := Kx.out.c1; have xr2 := Kx.out.c2; have xlt := Kx.out.lt
  have yr0 := Ky.out.c0; have yr1 := Ky.out.c1; have yr2 := Ky.out.c2; have ylt := Ky.out.lt
  have D := Cr1 _ BB.out
  go_wp2_with fail
  refine D.out.mono ?_
  clear D
  clear xr0 xr1 xr2 xlt yr0 yr1 yr2 ylt
  rintro _ w1 ⟨_, rfl, ⟨Aa, na, ca, rfl, hh⟩, b⟩
  replace Kx := Lib.hid (Kx.out.step b)
  replace Ky := Lib.hid (Ky.out.step b)
  replace BB := Lib.hid (below_step BB.out b)
  have oba := one_below w1 (.cells #[.bool r1.1.s, .int .i64 r1.1.e, .slice Aa na ca] 24)
  have Ia := Lib.hid (Is.step (num_is hh) oba); have Ka := Lib.hid (Bx.new w1 r1.1.s r1.1.e Aa na ca)
  replace BB := Lib.hid (below_step BB.out oba)
  clear hh b
  have xr0 := Kx.out.c0; have xr1 := Kx.out.c1; have xr2 := Kx.out.c2; have xlt := Kx.out.lt
  have yr0 := Ky.out.c0; have yr1 := Ky.out.c1; have yr2 := Ky.out.c2; have ylt := Ky.out.lt
  have D := Cr2 _ BB.out
  go_wp2_with fail
  refine D.out.mono ?_
  clear D
  clear xr0 xr1 xr2 xlt yr0 yr1 yr2 ylt
  rintro _ w2 ⟨_, rfl, ⟨Ab, nb, cb, rfl, hh⟩, b⟩
  replace Kx := Lib.hid (Kx.out.step (below_step oba b))
  replace Ky := Lib.hid (Ky.out.step (below_step oba b))
  replace Ka := Lib.hid (Ka.out.step b)
  replace Ia := Lib.hid (Ia.out.step b)
  replace BB := Lib.hid (below_step BB.out b)
  clear oba
  have obb := one_below w2 (.cells #[.bool r2.1.s, .int .i64 r2.1.e, .slice Ab nb cb] 24)
  have Ib := Lib.hid (Is.step (num_is hh) obb); have Kb := Lib.hid (Bx.new w2 r2.1.s r2.1.e Ab nb cb)
  replace BB := Lib.hid (below_step BB.out obb)
  clear hh b
  have xr0 := Kx.out.c0; have xr1 := Kx.out.c1; have xr2 := Kx.out.c2; have xlt := Kx.out.lt
  have yr0 := Ky.out.c0; have yr1 := Ky.out.c1; have yr2 := Ky.out.c2; have ylt := Ky.out.lt
  have ar0 := Ka.out.c0; have ar1 := Ka.out.c1; have ar2 := Ka.out.c2; have alt := Ka.out.lt
  have D := Cr3 _ BB.out
  go_wp2_with fail
  refine D.out.mono ?_
  clear D
  clear xr0 xr1 xr2 xlt yr0 yr1 yr2 ylt ar0 ar1 ar2 alt
  rintro _ w3 ⟨_, rfl, ⟨Ac, nc, cc, rfl, hh⟩, b⟩
  replace Kx := Lib.hid (Kx.out.step (below_step obb b))
  replace Ky := Lib.hid (Ky.out.step (below_step obb b))
  replace Ka := Lib.hid (Ka.out.step (below_step obb b))
  replace Ia := Lib.hid (Ia.out.step (below_step obb b))
  replace Kb := Lib.hid (Kb.out.step b)
  replace Ib := Lib.hid (Ib.out.step b)
  replace BB := Lib.hid (below_step BB.out b)
  clear obb
  have obc := one_below w3 (.cells #[.bool r3.1.s, .int .i64 r3.1.e, .slice Ac nc cc] 24)
  have Ic := Lib.hid (Is.step (num_is hh) obc); have Kc := Lib.hid (Bx.new w3 r3.1.s r3.1.e Ac nc cc)
  replace BB := Lib.hid (below_step BB.out obc)
  clear hh b
  have xr0 := Kx.out.c0; have xr1 := Kx.out.c1; have xr2 := Kx.out.c2; have xlt := Kx.out.lt
  have yr0 := Ky.out.c0; have yr1 := Ky.out.c1; have yr2 := Ky.out.c2; have ylt := Ky.out.lt
  have ar0 := Ka.out.c0; have ar1 := Ka.out.c1; have ar2 := Ka.out.c2; have alt := Ka.out.lt
  have br0 := Kb.out.c0; have br1 := Kb.out.c1; have br2 := Kb.out.c2; have blt := Kb.out.lt
  have D := Cr4 _ BB.out
  go_wp2_with fail
  refine D.out.mono ?_
  clear D
  clear xr0 xr1 xr2 xlt yr0 yr1 yr2 ylt ar0 ar1 ar2 alt br0 br1 br2 blt
  rintro _ w4 ⟨_, rfl, ⟨Ad, nd, cd, rfl, hh⟩, b⟩
  replace Kx := Lib.hid (Kx.out.step (below_step obc b))
  replace Ky := Lib.hid (Ky.out.step (below_step obc b))
  replace Ka := Lib.hid (Ka.out.step (below_step obc b))
  replace Ia := Lib.hid (Ia.out.step (below_step obc b))
  replace Kb := Lib.hid (Kb.out.step (below_step obc b))
  replace Ib := Lib.hid (Ib.out.step (below_step obc b))
  replace Kc := Lib.hid (Kc.out.step b)
  replace Ic := Lib.hid (Ic.out.step b)
  replace BB := Lib.hid (below_step BB.out b)
  clear obc
  have obd := one_below w4 (.cells #[.bool r4.1.s, .int .i64 r4.1.e, .slice Ad nd cd] 24)
  have Id := Lib.hid (Is.step (num_is hh) obd); have Kd := Lib.hid (Bx.new w4 r4.1.s r4.1.e Ad nd cd)
  replace BB := Lib.hid (below_step BB.out obd)
  clear hh b
  have xr0 := Kx.out.c0; have xr1 := Kx.out.c1; have xr2 := Kx.out.c2; have xlt := Kx.out.lt
  have yr0 := Ky.out.c0; have yr1 := Ky.out.c1; have yr2 := Ky.out.c2; have ylt := Ky.out.lt
  have ar0 := Ka.out.c0; have ar1 := Ka.out.c1; have ar2 := Ka.out.c2; have alt := Ka.out.lt
  have br0 := Kb.out.c0; have br1 := Kb.out.c1; have br2 := Kb.out.c2; have blt := Kb.out.lt
  have cr0 := Kc.out.c0; have cr1 := Kc.out.c1; have cr2 := Kc.out.c2; have clt := Kc.out.lt
  have D := Dr1 _ BB.out
  go_wp2_with fail
  refine D.out.mono ?_
  clear D
  clear xr0 xr1 xr2 xlt yr0 yr1 yr2 ylt ar0 ar1 ar2 alt br0 br1 br2 blt cr0 cr1 cr2 clt
  rintro _ w5 ⟨_, rfl, ⟨Af, nf, cf, rfl, hh⟩, b⟩
  replace Kx := Lib.hid (Kx.out.step (below_step obd b))
  replace Ky := Lib.hid (Ky.out.step (below_step obd b))
  replace Ka := Lib.hid (Ka.out.step (below_step obd b))
  replace Ia := Lib.hid (Ia.out.step (below_step obd b))
  replace Kb := Lib.hid (Kb.out.step (below_step obd b))
  replace Ib := Lib.hid (Ib.out.step (below_step obd b))
  replace Kc := Lib.hid (Kc.out.step (below_step obd b))
  replace Ic := Lib.hid (Ic.out.step (below_step obd b))
  replace Kd := Lib.hid (Kd.out.step b)
  replace Id := Lib.hid (Id.out.step b)
  replace BB := Lib.hid (below_step BB.out b)
  clear obd
  have obf := one_below w5 (.cells #[.bool r1.1.s, .int .i64 r1.1.e, .slice Af nf cf] 24)
  have If := Lib.hid (Is.step (num_is hh) obf); have Kf := Lib.hid (Bx.new w5 r1.1.s r1.1.e Af nf cf)
  replace BB := Lib.hid (below_step BB.out obf)
  clear hh b
  have xr0 := Kx.out.c0; have xr1 := Kx.out.c1; have xr2 := Kx.out.c2; have xlt := Kx.out.lt
  have yr0 := Ky.out.c0; have yr1 := Ky.out.c1; have yr2 := Ky.out.c2; have ylt := Ky.out.lt
  have ar0 := Ka.out.c0; have ar1 := Ka.out.c1; have ar2 := Ka.out.c2; have alt := Ka.out.lt
  have br0 := Kb.out.c0; have br1 := Kb.out.c1; have br2 := Kb.out.c2; have blt := Kb.out.lt
  have cr0 := Kc.out.c0; have cr1 := Kc.out.c1; have cr2 := Kc.out.c2; have clt := Kc.out.lt
  have dr0 := Kd.out.c0; have dr1 := Kd.out.c1; have dr2 := Kd.out.c2; have dlt := Kd.out.lt
  have D := Dr2 _ BB.out
  go_wp2_with fail
  refine D.out.mono ?_
  clear D
  clear xr0 xr1 xr2 xlt yr0 yr1 yr2 ylt ar0 ar1 ar2 alt br0 br1 br2 blt cr0 cr1 cr2 clt dr0 dr1 dr2 dlt
  rintro _ w6 ⟨_, rfl, ⟨Ag, ng, cg, rfl, hh⟩, b⟩
  replace Kx := Lib.hid (Kx.out.step (below_step obf b))
  replace Ky := Lib.hid (Ky.out.step (below_step obf b))
  replace Ka := Lib.hid (Ka.out.step (below_step obf b))
  replace Ia := Lib.hid (Ia.out.step (below_step obf b))
  replace Kb := Lib.hid (Kb.out.step (below_step obf b))
  replace Ib := Lib.hid (Ib.out.step (below_step obf b))
  replace Kc := Lib.hid (Kc.out.step (below_step obf b))
  replace Ic := Lib.hid (Ic.out.step (below_step obf b))
  replace Kd := Lib.hid (Kd.out.step (below_step obf b))
  replace Id := Lib.hid (Id.out.step (below_step obf b))
  replace Kf := Lib.hid (Kf.out.step b)
  replace If := Lib.hid (If.out.step b)
  replace BB := Lib.hid (below_step BB.out b)
  clear obf
  have obg := one_below w6 (.cells #[.bool r2.1.s, .int .i64 r2.1.e, .slice Ag ng cg] 24)
  have Ig := Lib.hid (Is.step (num_is hh) obg); have Kg := Lib.hid (Bx.new w6 r2.1.s r2.1.e Ag ng cg)
  replace BB := Lib.hid (below_step BB.out obg)
  clear hh b
  have xr0 := Kx.out.c0; have xr1 := Kx.out.c1; have xr2 := Kx.out.c2; have xlt := Kx.out.lt
  have yr0 := Ky.out.c0; have yr1 := Ky.out.c1; have yr2 := Ky.out.c2; have ylt := Ky.out.lt
  have ar0 := Ka.out.c0; have ar1 := Ka.out.c1; have ar2 := Ka.out.c2; have alt := Ka.out.lt
  have br0 := Kb.out.c0; have br1 := Kb.out.c1; have br2 := Kb.out.c2; have blt := Kb.out.lt
  have cr0 := Kc.out.c0; have cr1 := Kc.out.c1; have cr2 := Kc.out.c2; have clt := Kc.out.lt
  have dr0 := Kd.out.c0; have dr1 := Kd.out.c1; have dr2 := Kd.out.c2; have dlt := Kd.out.lt
  have fr0 := Kf.out.c0; have fr1 := Kf.out.c1; have fr2 := Kf.out.c2; have flt := Kf.out.lt
  have D := Dr3 _ BB.out
  go_wp2_with fail
  refine D.out.mono ?_
  clear D
  clear xr0 xr1 xr2 xlt yr0 yr1 yr2 ylt ar0 ar1 ar2 alt br0 br1 br2 blt cr0 cr1 cr2 clt dr0 dr1 dr2 dlt fr0 fr1 fr2 flt
  rintro _ w7 ⟨_, rfl, ⟨Ah, nh, ch, rfl, hh⟩, b⟩
  replace Kx := Lib.hid (Kx.out.step (below_step obg b))
  replace Ky := Lib.hid (Ky.out.step (below_step obg b))
  replace Ka := Lib.hid (Ka.out.step (below_step obg b))
  replace Ia := Lib.hid (Ia.out.step (below_step obg b))
  replace Kb := Lib.hid (Kb.out.step (below_step obg b))
  replace Ib := Lib.hid (Ib.out.step (below_step obg b))
  replace Kc := Lib.hid (Kc.out.step (below_step obg b))
  replace Ic := Lib.hid (Ic.out.step (below_step obg b))
  replace Kd := Lib.hid (Kd.out.step (below_step obg b))
  replace Id := Lib.hid (Id.out.step (below_step obg b))
  replace Kf := Lib.hid (Kf.out.step (below_step obg b))
  replace If := Lib.hid (If.out.step (below_step obg b))
  replace Kg := Lib.hid (Kg.out.step b)
  replace Ig := Lib.hid (Ig.out.step b)
  replace BB := Lib.hid (below_step BB.out b)
  clear obg
  have obh := one_below w7 (.cells #[.bool r3.1.s, .int .i64 r3.1.e, .slice Ah nh ch] 24)
  have Ih := Lib.hid (Is.step (num_is hh) obh); have Kh := Lib.hid (Bx.new w7 r3.1.s r3.1.e Ah nh ch)
  replace BB := Lib.hid (below_step BB.out obh)
  clear hh b
  have xr0 := Kx.out.c0; have xr1 := Kx.out.c1; have xr2 := Kx.out.c2; have xlt := Kx.out.lt
  have yr0 := Ky.out.c0; have yr1 := Ky.out.c1; have yr2 := Ky.out.c2; have ylt := Ky.out.lt
  have ar0 := Ka.out.c0; have ar1 := Ka.out.c1; have ar2 := Ka.out.c2; have alt := Ka.out.lt
  have br0 := Kb.out.c0; have br1 := Kb.out.c1; have br2 := Kb.out.c2; have blt := Kb.out.lt
  have cr0 := Kc.out.c0; have cr1 := Kc.out.c1; have cr2 := Kc.out.c2; have clt := Kc.out.lt
  have dr0 := Kd.out.c0; have dr1 := Kd.out.c1; have dr2 := Kd.out.c2; have dlt := Kd.out.lt
  have fr0 := Kf.out.c0; have fr1 := Kf.out.c1; have fr2 := Kf.out.c2; have flt := Kf.out.lt
  have gr0 := Kg.out.c0; have gr1 := Kg.out.c1; have gr2 := Kg.out.c2; have glt := Kg.out.lt
  have D := Dr4 _ BB.out
  go_wp2_with fail
  refine D.out.mono ?_
  clear D
  clear xr0 xr1 xr2 xlt yr0 yr1 yr2 ylt ar0 ar1 ar2 alt br0 br1 br2 blt cr0 cr1 cr2 clt dr0 dr1 dr2 dlt fr0 fr1 fr2 flt gr0 gr1 gr2 glt
  rintro _ w8 ⟨_, rfl, ⟨Ak, nk, ck, rfl, hh⟩, b⟩
  replace Kx := Lib.hid (Kx.out.step (below_step obh b))
  replace Ky := Lib.hid (Ky.out.step (below_step obh b))
  replace Ka := Lib.hid (Ka.out.step (below_step obh b))
  replace Ia := Lib.hid (Ia.out.step (below_step obh b))
  replace Kb := Lib.hid (Kb.out.step (below_step obh b))
  replace Ib := Lib.hid (Ib.out.step (below_step obh b))
  replace Kc := Lib.hid (Kc.out.step (below_step obh b))
  replace Ic := Lib.hid (Ic.out.step (below_step obh b))
  replace Kd := Lib.hid (Kd.out.step (below_step obh b))
  replace Id := Lib.hid (Id.out.step (below_step obh b))
  replace Kf := Lib.hid (Kf.out.step (below_step obh b))
  replace If := Lib.hid (If.out.step (below_step obh b))
  replace Kg := Lib.hid (Kg.out.step (below_step obh b))
  replace Ig := Lib.hid (Ig.out.step (below_step obh b))
  replace Kh := Lib.hid (Kh.out.step b)
  replace Ih := Lib.hid (Ih.out.step b)
  replace BB := Lib.hid (below_step BB.out b)
  clear obh
  have obk := one_below w8 (.cells #[.bool r4.1.s, .int .i64 r4.1.e, .slice Ak nk ck] 24)
  have Ik := Lib.hid (Is.step (num_is hh) obk); have Kk := Lib.hid (Bx.new w8 r4.1.s r4.1.e Ak nk ck)
  replace BB := Lib.hid (below_step BB.out obk)
  clear hh b
  clear Cr1 Dr1 Cr2 Dr2 Cr3 Dr3 Cr4 Dr4 Kx Ky
  have ar0 := Ka.out.c0; have ar1 := Ka.out.c1; have ar2 := Ka.out.c2; have alt := Ka.out.lt
  have br0 := Kb.out.c0; have br1 := Kb.out.c1; have br2 := Kb.out.c2; have blt := Kb.out.lt
  have cr0 := Kc.out.c0; have cr1 := Kc.out.c1; have cr2 := Kc.out.c2; have clt := Kc.out.lt
  have dr0 := Kd.out.c0; have dr1 := Kd.out.c1; have dr2 := Kd.out.c2; have dlt := Kd.out.lt
  have fr0 := Kf.out.c0; have fr1 := Kf.out.c1; have fr2 := Kf.out.c2; have flt := Kf.out.lt
  have gr0 := Kg.out.c0; have gr1 := Kg.out.c1; have gr2 := Kg.out.c2; have glt := Kg.out.lt
  have hr0 := Kh.out.c0; have hr1 := Kh.out.c1; have hr2 := Kh.out.c2; have hlt := Kh.out.lt
  have D := Lib.hid (rsame_v (a := r1.1) (b := r1.1) (Ia.out.step obk) (If.out.step obk) Vr1.out Vr1.out)
  rw [sameb_self] at D
  go_wp2_with fail
  refine D.out.mono ?_
  clear D
  clear ar0 ar1 ar2 alt br0 br1 br2 blt cr0 cr1 cr2 clt dr0 dr1 dr2 dlt fr0 fr1 fr2 flt gr0 gr1 gr2 glt hr0 hr1 hr2 hlt
  rintro _ v1 ⟨rfl, b⟩
  replace Ka := Lib.hid (Ka.out.step (below_step obk b))
  replace Ia := Lib.hid (Ia.out.step (below_step obk b))
  replace Kb := Lib.hid (Kb.out.step (below_step obk b))
  replace Ib := Lib.hid (Ib.out.step (below_step obk b))
  replace Kc := Lib.hid (Kc.out.step (below_step obk b))
  replace Ic := Lib.hid (Ic.out.step (below_step obk b))
  replace Kd := Lib.hid (Kd.out.step (below_step obk b))
  replace Id := Lib.hid (Id.out.step (below_step obk b))
  replace Kf := Lib.hid (Kf.out.step (below_step obk b))
  replace If := Lib.hid (If.out.step (below_step obk b))
  replace Kg := Lib.hid (Kg.out.step (below_step obk b))
  replace Ig := Lib.hid (Ig.out.step (below_step obk b))
  replace Kh := Lib.hid (Kh.out.step (below_step obk b))
  replace Ih := Lib.hid (Ih.out.step (below_step obk b))
  replace Kk := Lib.hid (Kk.out.step b)
  replace Ik := Lib.hid (Ik.out.step b)
  replace BB := Lib.hid (below_step BB.out b)
  clear obk
  clear b
  have ar0 := Ka.out.c0; have ar1 := Ka.out.c1; have ar2 := Ka.out.c2; have alt := Ka.out.lt
  have br0 := Kb.out.c0; have br1 := Kb.out.c1; have br2 := Kb.out.c2; have blt := Kb.out.lt
  have cr0 := Kc.out.c0; have cr1 := Kc.out.c1; have cr2 := Kc.out.c2; have clt := Kc.out.lt
  have dr0 := Kd.out.c0; have dr1 := Kd.out.c1; have dr2 := Kd.out.c2; have dlt := Kd.out.lt
  have fr0 := Kf.out.c0; have fr1 := Kf.out.c1; have fr2 := Kf.out.c2; have flt := Kf.out.lt
  have gr0 := Kg.out.c0; have gr1 := Kg.out.c1; have gr2 := Kg.out.c2; have glt := Kg.out.lt
  have hr0 := Kh.out.c0; have hr1 := Kh.out.c1; have hr2 := Kh.out.c2; have hlt := Kh.out.lt
  have kr0 := Kk.out.c0; have kr1 := Kk.out.c1; have kr2 := Kk.out.c2; have klt := Kk.out.lt
  have D := Lib.hid (rsame_v (a := r2.1) (b := r2.1) Ib.out Ig.out Vr2.out Vr2.out)
  rw [sameb_self] at D
  go_wp2_with fail
  refine D.out.mono ?_
  clear D
  clear ar0 ar1 ar2 alt br0 br1 br2 blt cr0 cr1 cr2 clt dr0 dr1 dr2 dlt fr0 fr1 fr2 flt gr0 gr1 gr2 glt hr0 hr1 hr2 hlt kr0 kr1 kr2 klt
  rintro _ v2 ⟨rfl, b⟩
  replace Ka := Lib.hid (Ka.out.step b)
  replace Ia := Lib.hid (Ia.out.step b)
  replace Kb := Lib.hid (Kb.out.step b)
  replace Ib := Lib.hid (Ib.out.step b)
  replace Kc := Lib.hid (Kc.out.step b)
  replace Ic := Lib.hid (Ic.out.step b)
  replace Kd := Lib.hid (Kd.out.step b)
  replace Id := Lib.hid (Id.out.step b)
  replace Kf := Lib.hid (Kf.out.step b)
  replace If := Lib.hid (If.out.step b)
  replace Kg := Lib.hid (Kg.out.step b)
  replace Ig := Lib.hid (Ig.out.step b)
  replace Kh := Lib.hid (Kh.out.step b)
  replace Ih := Lib.hid (Ih.out.step b)
  replace Kk := Lib.hid (Kk.out.step b)
  replace Ik := Lib.hid (Ik.out.step b)
  replace BB := Lib.hid (below_step BB.out b)
  clear b
  have ar0 := Ka.out.c0; have ar1 := Ka.out.c1; have ar2 := Ka.out.c2; have alt := Ka.out.lt
  have br0 := Kb.out.c0; have br1 := Kb.out.c1; have br2 := Kb.out.c2; have blt := Kb.out.lt
  have cr0 := Kc.out.c0; have cr1 := Kc.out.c1; have cr2 := Kc.out.c2; have clt := Kc.out.lt
  have dr0 := Kd.out.c0; have dr1 := Kd.out.c1; have dr2 := Kd.out.c2; have dlt := Kd.out.lt
  have fr0 := Kf.out.c0; have fr1 := Kf.out.c1; have fr2 := Kf.out.c2; have flt := Kf.out.lt
  have gr0 := Kg.out.c0; have gr1 := Kg.out.c1; have gr2 := Kg.out.c2; have glt := Kg.out.lt
  have hr0 := Kh.out.c0; have hr1 := Kh.out.c1; have hr2 := Kh.out.c2; have hlt := Kh.out.lt
  have kr0 := Kk.out.c0; have kr1 := Kk.out.c1; have kr2 := Kk.out.c2; have klt := Kk.out.lt
  have D := Lib.hid (rsame_v (a := r3.1) (b := r3.1) Ic.out Ih.out Vr3.out Vr3.out)
  rw [sameb_self] at D
  go_wp2_with fail
  refine D.out.mono ?_
  clear D
  clear ar0 ar1 ar2 alt br0 br1 br2 blt cr0 cr1 cr2 clt dr0 dr1 dr2 dlt fr0 fr1 fr2 flt gr0 gr1 gr2 glt hr0 hr1 hr2 hlt kr0 kr1 kr2 klt
  rintro _ v3 ⟨rfl, b⟩
  replace Ka := Lib.hid (Ka.out.step b)
  replace Ia := Lib.hid (Ia.out.step b)
  replace Kb := Lib.hid (Kb.out.step b)
  replace Ib := Lib.hid (Ib.out.step b)
  replace Kc := Lib.hid (Kc.out.step b)
  replace Ic := Lib.hid (Ic.out.step b)
  replace Kd := Lib.hid (Kd.out.step b)
  replace Id := Lib.hid (Id.out.step b)
  replace Kf := Lib.hid (Kf.out.step b)
  replace If := Lib.hid (If.out.step b)
  replace Kg := Lib.hid (Kg.out.step b)
  replace Ig := Lib.hid (Ig.out.step b)
  replace Kh := Lib.hid (Kh.out.step b)
  replace Ih := Lib.hid (Ih.out.step b)
  replace Kk := Lib.hid (Kk.out.step b)
  replace Ik := Lib.hid (Ik.out.step b)
  replace BB := Lib.hid (below_step BB.out b)
  clear b
  have ar0 := Ka.out.c0; have ar1 := Ka.out.c1; have ar2 := Ka.out.c2; have alt := Ka.out.lt
  have br0 := Kb.out.c0; have br1 := Kb.out.c1; have br2 := Kb.out.c2; have blt := Kb.out.lt
  have cr0 := Kc.out.c0; have cr1 := Kc.out.c1; have cr2 := Kc.out.c2; have clt := Kc.out.lt
  have dr0 := Kd.out.c0; have dr1 := Kd.out.c1; have dr2 := Kd.out.c2; have dlt := Kd.out.lt
  have fr0 := Kf.out.c0; have fr1 := Kf.out.c1; have fr2 := Kf.out.c2; have flt := Kf.out.lt
  have gr0 := Kg.out.c0; have gr1 := Kg.out.c1; have gr2 := Kg.out.c2; have glt := Kg.out.lt
  have hr0 := Kh.out.c0; have hr1 := Kh.out.c1; have hr2 := Kh.out.c2; have hlt := Kh.out.lt
  have kr0 := Kk.out.c0; have kr1 := Kk.out.c1; have kr2 := Kk.out.c2; have klt := Kk.out.lt
  have D := Lib.hid (rsame_v (a := r4.1) (b := r4.1) Id.out Ik.out Vr4.out Vr4.out)
  rw [sameb_self] at D
  go_wp2_with fail
  refine D.out.mono ?_
  clear D
  clear ar0 ar1 ar2 alt br0 br1 br2 blt cr0 cr1 cr2 clt dr0 dr1 dr2 dlt fr0 fr1 fr2 flt gr0 gr1 gr2 glt hr0 hr1 hr2 hlt kr0 kr1 kr2 klt
  rintro _ v4 ⟨rfl, b⟩
  replace Ka := Lib.hid (Ka.out.step b)
  replace Ia := Lib.hid (Ia.out.step b)
  replace Kb := Lib.hid (Kb.out.step b)
  replace Ib := Lib.hid (Ib.out.step b)
  replace Kc := Lib.hid (Kc.out.step b)
  replace Ic := Lib.hid (Ic.out.step b)
  replace Kd := Lib.hid (Kd.out.step b)
  replace Id := Lib.hid (Id.out.step b)
  replace Kf := Lib.hid (Kf.out.step b)
  replace If := Lib.hid (If.out.step b)
  replace Kg := Lib.hid (Kg.out.step b)
  replace Ig := Lib.hid (Ig.out.step b)
  replace Kh := Lib.hid (Kh.out.step b)
  replace Ih := Lib.hid (Ih.out.step b)
  replace Kk := Lib.hid (Kk.out.step b)
  replace Ik := Lib.hid (Ik.out.step b)
  replace BB := Lib.hid (below_step BB.out b)
  clear b
  go_wp2
  go_ret
  exact ⟨rfl, BB.out⟩
end Go.Proofs.YtnkbamjjpdmbaaaDoor
