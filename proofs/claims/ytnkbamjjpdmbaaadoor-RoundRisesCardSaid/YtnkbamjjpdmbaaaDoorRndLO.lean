/- known, of the laws of round. The laws of round, walked: four, RoundFits, RoundReckons. The laws of round, walked: RoundFits, RoundReckons. -/
import Derived.Test.YtnkbamjjpdmbaaaDoorRndKM
namespace Go.Proofs.YtnkbamjjpdmbaaaDoor
open Go.RowKit Nx

theorem known_start (w : World) : ∃ W, W = (((w.alloc (.cells #[.int .u64 1] 47)).alloc (.cells #[.int .u64 3] 47)).alloc (.cells #[.bool false, .int .i64 0, .slice (some ⟨w.heap.size, 0, none⟩) 1 1] 24)).alloc (.cells #[.bool false, .int .i64 0, .slice (some ⟨w.heap.size + 1, 0, none⟩) 1 1] 24) ∧
    Bx W (w.heap.size + 1 + 1) n1.s n1.e (some ⟨w.heap.size, 0, none⟩) 1 1 ∧ Bx W (w.heap.size + 1 + 1 + 1) n3.s n3.e (some ⟨w.heap.size + 1, 0, none⟩) 1 1 ∧ Is W (some ⟨w.heap.size, 0, none⟩) 1 1 n1.m ∧ Is W (some ⟨w.heap.size + 1, 0, none⟩) 1 1 n3.m ∧ Below w.heap.size w W := by
  refine ⟨_, rfl, ?_⟩
  obtain ⟨W1, hW1⟩ : ∃ W1, W1 = w.alloc (.cells #[.int .u64 1] 47) := ⟨_, rfl⟩
  have s1 : W1.heap.size = w.heap.size + 1 := by rw [hW1]; simp
  have r1 : Is W1 (some ⟨w.heap.size, 0, none⟩) 1 1 1 := by
    have := one_rd w 1
    unfold Is; rw [digs1 (by unfold B64; omega) (by omega), hW1]; exact this
  rw [← hW1]
  obtain ⟨W2, hW2⟩ : ∃ W2, W2 = W1.alloc (.cells #[.int .u64 3] 47) := ⟨_, rfl⟩
  have s2 : W2.heap.size = w.heap.size + 1 + 1 := by rw [hW2]; simp [s1]
  have r2 : Is W2 (some ⟨w.heap.size + 1, 0, none⟩) 1 1 3 := by
    have := one_rd W1 3
    rw [s1] at this
    unfold Is; rw [digs1 (by unfold B64; omega) (by omega), hW2]; exact this
  rw [← hW2]
  have b1 : Below w.heap.size w W1 := by rw [hW1]; exact one_below _ _
  have b2 : Below W1.heap.size W1 W2 := by rw [hW2]; exact one_below _ _
  obtain ⟨k1, k2, b3⟩ := two_bx W2 false false 0 0 (some ⟨w.heap.size, 0, none⟩) (some ⟨w.heap.size + 1, 0, none⟩) 1 1 1 1
  rw [s2] at k1 k2
  exact ⟨k1, k2, (r1.step b2).step b3, r2.step b3, below_step (below_step b1 b2) b3⟩

theorem known_last3 {ops : Array Oper} (hops : ops = endOf Tryd.f9) {rid : Nat} {QQ : Exit → Act → World → Prop} {w9 : World} {ga gb gc gd gz gt : Nat} {Aa Ab Ac Ad Az At : Option Addr} {na ca nb cb nc cc nd cd nz cz nt ct : Nat} (ka : Bx w9 ga n85.s n85.e Aa na ca) (ia : Is w9 Aa na ca n85.m) (kb : Bx w9 gb n171.s n171.e Ab nb cb) (ib : Is w9 Ab nb cb n171.m) (kc : Bx w9 gc n4.s n4.e Ac nc cc) (ic : Is w9 Ac nc cc n4.m) (kd : Bx w9 gd n9.s n9.e Ad nd cd) (id : Is w9 Ad nd cd n9.m) (kz : Bx w9 gz nm2.s nm2.e Az nz cz) (iz : Is w9 Az nz cz nm2.m) (kt : Bx w9 gt n129.s n129.e At nt ct) (it : Is w9 At nt ct n129.m) (hend : ∀ a' w', a'.defers = [] → a'.eval (.tmp 0) = .bool true → Below w9.heap.size w9 w' → QQ .normal a' w') {a : Act} (hk : Kno 130 a [(3, .pointer (some ⟨ga, 0, none⟩)), (4, .int .i64 0), (5, .pointer (some ⟨gb, 0, none⟩)), (6, .int .i64 0), (7, .pointer (some ⟨gc, 0, none⟩)), (8, .int .i64 0), (9, .pointer (some ⟨gd, 0, none⟩)), (10, .int .i64 0), (11, .pointer (some ⟨gz, 0, none⟩)), (12, .int .i64 0), (13, .pointer (some ⟨gt, 0, none⟩)), (14, .int .i64 0)]) : (Code.region rid ops false).wp Tryd.prog QQ a w9 := by
  subst hops
  refine wp_region ?_
  rw [show (endOf Tryd.f9).size = 76 by kernel_rfl, List.range_eq_range']
  exact kq0 ka ia kb ib kc ic kd id kz iz kt it hend (Below.refl _ _) hk
theorem k257 (w : World) : Is (w.alloc (.cells #[.int .u64 257] 47)) (some ⟨w.heap.size, 0, none⟩) 1 1 n257.m := by
  have := one_rd w 257
  unfold Is
  rw [show n257.m = 257 from rfl, digs1 (by unfold B64; omega) (by omega)]
  exact this

set_option maxRecDepth 100000 in
set_option maxHeartbeats 8000000 in
theorem known_any (w : World) (ht : Tab w) : Calls Tryd.prog 9 #[] w (BoolPost w true) := by
  have HT := Lib.hid ht
  clear ht
  obtain ⟨W, hW, kx, ky, ix, iy, b0⟩ := known_start w
  have D := Lib.hid (xdiv_v (a := n1) (b := n3) 8 false ix iy vn1 vn3 (by omega) (HT.out.below b0))
  rw [show gdiv 8 false n1 n3 = (n85, 0) from kd_div0] at D
  have Kx := Lib.hid kx; have Ky := Lib.hid ky; have Ix := Lib.hid ix; have Iy := Lib.hid iy; have BB := Lib.hid b0
  subst hW
  clear kx ky ix iy b0
  go_enter Tryd.func9, Tryd.ntmps9
  go_wp2_with fail
  generalize (((w.alloc (.cells #[.int .u64 1] 47)).alloc (.cells #[.int .u64 3] 47)).alloc (.cells #[.bool false, .int .i64 0, .slice (some ⟨w.heap.size, 0, none⟩) 1 1] 24)).alloc (.cells #[.bool false, .int .i64 0, .slice (some ⟨w.heap.size + 1, 0, none⟩) 1 1] 24) = w0 at *
  refine D.out.mono ?_
  clear D
  rintro _ w1 ⟨_, rfl, ⟨Aa, na, ca, rfl, hh⟩, b⟩
  replace Kx := Lib.hid (Kx.out.step b)
  replace Ix := Lib.hid (Ix.out.step b)
  replace Ky := Lib.hid (Ky.out.step b)
  replace Iy := Lib.hid (Iy.out.step b)
  replace BB := Lib.hid (below_step BB.out b)
  have oba := one_below w1 (.cells #[.bool n85.s, .int .i64 n85.e, .slice Aa na ca] 24)
  have Ia := Lib.hid (Is.step (num_is hh) oba); have Ka := Lib.hid (Bx.new w1 n85.s n85.e Aa na ca)
  replace BB := Lib.hid (below_step BB.out oba)
  clear hh b
  have xr0 := Kx.out.c0; have xr1 := Kx.out.c1; have xr2 := Kx.out.c2; have xlt := Kx.out.lt
  have yr0 := Ky.out.c0; have yr1 := Ky.out.c1; have yr2 := Ky.out.c2; have ylt := Ky.out.lt
  have D := Lib.hid (xdiv_v (a := n1) (b := n3) 8 true (Ix.out.step oba) (Iy.out.step oba) vn1 vn3 (by omega) (HT.out.below BB.out))
  rw [show gdiv 8 true n1 n3 = (n171, 0) from kd_div1] at D
  go_wp2_with fail
  refine D.out.mono ?_
  clear D
  clear xr0 xr1 xr2 xlt yr0 yr1 yr2 ylt
  rintro _ w2 ⟨_, rfl, ⟨Ab, nb, cb, rfl, hh⟩, b⟩
  replace Kx := Lib.hid (Kx.out.step (below_step oba b))
  replace Ix := Lib.hid (Ix.out.step (below_step oba b))
  replace Ky := Lib.hid (Ky.out.step (below_step oba b))
  replace Iy := Lib.hid (Iy.out.step (below_step oba b))
  replace Ka := Lib.hid (Ka.out.step b)
  replace Ia := Lib.hid (Ia.out.step b)
  replace BB := Lib.hid (below_step BB.out b)
  clear oba
  have obb := one_below w2 (.cells #[.bool n171.s, .int .i64 n171.e, .slice Ab nb cb] 24)
  have Ib := Lib.hid (Is.step (num_is hh) obb); have Kb := Lib.hid (Bx.new w2 n171.s n171.e Ab nb cb)
  replace BB := Lib.hid (below_step BB.out obb)
  clear hh
  clear b
  have xr0 := Kx.out.c0; have xr1 := Kx.out.c1; have xr2 := Kx.out.c2; have xlt := Kx.out.lt
  have yr0 := Ky.out.c0; have yr1 := Ky.out.c1; have yr2 := Ky.out.c2; have ylt := Ky.out.lt
  have ar0 := Ka.out.c0; have ar1 := Ka.out.c1; have ar2 := Ka.out.c2; have alt := Ka.out.lt
  have D := Lib.hid (xadd_v (a := n1) (b := n3) 8 false (Ix.out.step obb) (Iy.out.step obb) vn1 vn3 (by omega) (HT.out.below BB.out))
  rw [show gadd 8 false n1 n3 = (n4, 0) from kd_add] at D
  go_wp2_with fail
  refine D.out.mono ?_
  clear D
  clear xr0 xr1 xr2 xlt yr0 yr1 yr2 ylt ar0 ar1 ar2 alt
  rintro _ w3 ⟨_, rfl, ⟨Ac, nc, cc, rfl, hh⟩, b⟩
  replace Kx := Lib.hid (Kx.out.step (below_step obb b))
  replace Ix := Lib.hid (Ix.out.step (below_step obb b))
  replace Ky := Lib.hid (Ky.out.step (below_step obb b))
  replace Iy := Lib.hid (Iy.out.step (below_step obb b))
  replace Ka := Lib.hid (Ka.out.step (below_step obb b))
  replace Ia := Lib.hid (Ia.out.step (below_step obb b))
  replace Kb := Lib.hid (Kb.out.step b)
  replace Ib := Lib.hid (Ib.out.step b)
  replace BB := Lib.hid (below_step BB.out b)
  clear obb
  have obc := one_below w3 (.cells #[.bool n4.s, .int .i64 n4.e, .slice Ac nc cc] 24)
  have Ic := Lib.hid (Is.step (num_is hh) obc); have Kc := Lib.hid (Bx.new w3 n4.s n4.e Ac nc cc)
  replace BB := Lib.hid (below_step BB.out obc)
  clear hh
  clear b
  have xr0 := Kx.out.c0; have xr1 := Kx.out.c1; have xr2 := Kx.out.c2; have xlt := Kx.out.lt
  have yr0 := Ky.out.c0; have yr1 := Ky.out.c1; have yr2 := Ky.out.c2; have ylt := Ky.out.lt
  have ar0 := Ka.out.c0; have ar1 := Ka.out.c1; have ar2 := Ka.out.c2; have alt := Ka.out.lt
  have br0 := Kb.out.c0; have br1 := Kb.out.c1; have br2 := Kb.out.c2; have blt := Kb.out.lt
  have D := Lib.hid (xmul_v (a := n3) (b := n3) 8 true (Iy.out.step obc) (Iy.out.step obc) vn3 vn3 (by omega) (HT.out.below BB.out))
  rw [show gmul 8 true n3 n3 = (n9, 0) from kd_mul] at D
  go_wp2_with fail
  refine D.out.mono ?_
  clear D
  clear xr0 xr1 xr2 xlt yr0 yr1 yr2 ylt ar0 ar1 ar2 alt br0 br1 br2 blt
  rintro _ w4 ⟨_, rfl, ⟨Ad, nd, cd, rfl, hh⟩, b⟩
  replace Kx := Lib.hid (Kx.out.step (below_step obc b))
  replace Ix := Lib.hid (Ix.out.step (below_step obc b))
  replace Ky := Lib.hid (Ky.out.step (below_step obc b))
  replace Iy := Lib.hid (Iy.out.step (below_step obc b))
  replace Ka := Lib.hid (Ka.out.step (below_step obc b))
  replace Ia := Lib.hid (Ia.out.step (below_step obc b))
  replace Kb := Lib.hid (Kb.out.step (below_step obc b))
  replace Ib := Lib.hid (Ib.out.step (below_step obc b))
  replace Kc := Lib.hid (Kc.out.step b)
  replace Ic := Lib.hid (Ic.out.step b)
  replace BB := Lib.hid (below_step BB.out b)
  clear obc
  have obd := one_below w4 (.cells #[.bool n9.s, .int .i64 n9.e, .slice Ad nd cd] 24)
  have Id := Lib.hid (Is.step (num_is hh) obd); have Kd := Lib.hid (Bx.new w4 n9.s n9.e Ad nd cd)
  replace BB := Lib.hid (below_step BB.out obd)
  clear hh
  clear b
  have xr0 := Kx.out.c0; have xr1 := Kx.out.c1; have xr2 := Kx.out.c2; have xlt := Kx.out.lt
  have yr0 := Ky.out.c0; have yr1 := Ky.out.c1; have yr2 := Ky.out.c2; have ylt := Ky.out.lt
  have ar0 := Ka.out.c0; have ar1 := Ka.out.c1; have ar2 := Ka.out.c2; have alt := Ka.out.lt
  have br0 := Kb.out.c0; have br1 := Kb.out.c1; have br2 := Kb.out.c2; have blt := Kb.out.lt
  have cr0 := Kc.out.c0; have cr1 := Kc.out.c1; have cr2 := Kc.out.c2; have clt := Kc.out.lt
  have D := Lib.hid (xsub_v (a := n1) (b := n3) 8 true (Ix.out.step obd) (Iy.out.step obd) vn1 vn3 (by omega) (HT.out.below BB.out))
  rw [show gsub 8 true n1 n3 = (nm2, 0) from kd_sub] at D
  go_wp2_with fail
  refine D.out.mono ?_
  clear D
  clear xr0 xr1 xr2 xlt yr0 yr1 yr2 ylt ar0 ar1 ar2 alt br0 br1 br2 blt cr0 cr1 cr2 clt
  rintro _ w5 ⟨_, rfl, ⟨Az, nz, cz, rfl, hh⟩, b⟩
  replace Kx := Lib.hid (Kx.out.step (below_step obd b))
  replace Ix := Lib.hid (Ix.out.step (below_step obd b))
  replace Ky := Lib.hid (Ky.out.step (below_step obd b))
  replace Iy := Lib.hid (Iy.out.step (below_step obd b))
  replace Ka := Lib.hid (Ka.out.step (below_step obd b))
  replace Ia := Lib.hid (Ia.out.step (below_step obd b))
  replace Kb := Lib.hid (Kb.out.step (below_step obd b))
  replace Ib := Lib.hid (Ib.out.step (below_step obd b))
  replace Kc := Lib.hid (Kc.out.step (below_step obd b))
  replace Ic := Lib.hid (Ic.out.step (below_step obd b))
  replace Kd := Lib.hid (Kd.out.step b)
  replace Id := Lib.hid (Id.out.step b)
  replace BB := Lib.hid (below_step BB.out b)
  clear obd
  have obz := one_below w5 (.cells #[.bool nm2.s, .int .i64 nm2.e, .slice Az nz cz] 24)
  have Iz := Lib.hid (Is.step (num_is hh) obz); have Kz := Lib.hid (Bx.new w5 nm2.s nm2.e Az nz cz)
  replace BB := Lib.hid (below_step BB.out obz)
  clear hh
  clear b
  have xr0 := Kx.out.c0; have xr1 := Kx.out.c1; have xr2 := Kx.out.c2; have xlt := Kx.out.lt
  have yr0 := Ky.out.c0; have yr1 := Ky.out.c1; have yr2 := Ky.out.c2; have ylt := Ky.out.lt
  have ar0 := Ka.out.c0; have ar1 := Ka.out.c1; have ar2 := Ka.out.c2; have alt := Ka.out.lt
  have br0 := Kb.out.c0; have br1 := Kb.out.c1; have br2 := Kb.out.c2; have blt := Kb.out.lt
  have cr0 := Kc.out.c0; have cr1 := Kc.out.c1; have cr2 := Kc.out.c2; have clt := Kc.out.lt
  have dr0 := Kd.out.c0; have dr1 := Kd.out.c1; have dr2 := Kd.out.c2; have dlt := Kd.out.lt
  have obq := one_below (w5.alloc (.cells #[.bool nm2.s, .int .i64 nm2.e, .slice Az nz cz] 24)) (.cells #[.int .u64 257] 47)
  have D := Lib.hid (xfit_v (a := n257) 8 true (k257 (w5.alloc (.cells #[.bool nm2.s, .int .i64 nm2.e, .slice Az nz cz] 24))) vn257 (by omega) (HT.out.below (below_step BB.out obq)))
  rw [show res (rnd (8 : Int).toNat true n257) = (n129, 0) from kd_fit] at D
  rw [show (w5.alloc (.cells #[.bool nm2.s, .int .i64 nm2.e, .slice Az nz cz] 24)).heap.size = w5.heap.size + 1 by simp] at D
  go_wp2_with fail
  refine D.out.mono ?_
  clear D
  clear xr0 xr1 xr2 xlt yr0 yr1 yr2 ylt ar0 ar1 ar2 alt br0 br1 br2 blt cr0 cr1 cr2 clt dr0 dr1 dr2 dlt
  rintro _ w6 ⟨_, rfl, ⟨At, nt, ct, rfl, hh⟩, b0⟩
  have b := below_step obq b0
  replace Kx := Lib.hid (Kx.out.step (below_step obz b))
  replace Ix := Lib.hid (Ix.out.step (below_step obz b))
  replace Ky := Lib.hid (Ky.out.step (below_step obz b))
  replace Iy := Lib.hid (Iy.out.step (below_step obz b))
  replace Ka := Lib.hid (Ka.out.step (below_step obz b))
  replace Ia := Lib.hid (Ia.out.step (below_step obz b))
  replace Kb := Lib.hid (Kb.out.step (below_step obz b))
  replace Ib := Lib.hid (Ib.out.step (below_step obz b))
  replace Kc := Lib.hid (Kc.out.step (below_step obz b))
  replace Ic := Lib.hid (Ic.out.step (below_step obz b))
  replace Kd := Lib.hid (Kd.out.step (below_step obz b))
  replace Id := Lib.hid (Id.out.step (below_step obz b))
  replace Kz := Lib.hid (Kz.out.step b)
  replace Iz := Lib.hid (Iz.out.step b)
  replace BB := Lib.hid (below_step BB.out b)
  clear obz obq b0
  have obt := one_below w6 (.cells #[.bool n129.s, .int .i64 n129.e, .slice At nt ct] 24)
  have It := Lib.hid (Is.step (num_is hh) obt); have Kt := Lib.hid (Bx.new w6 n129.s n129.e At nt ct)
  replace BB := Lib.hid (below_step BB.out obt)
  clear hh b
  clear Kx Ky Ix Iy
  rename_i K1 hK1 K2 hK2
  have HK := Lib.hid hK1
  clear hK1
  go_wp2_with fail
  refine HK.out _ _ ?_
  refine wp_seq ?_
  refine known_last3 (by kernel_rfl) (Ka.out.step obt) (Ia.out.step obt) (Kb.out.step obt) (Ib.out.step obt) (Kc.out.step obt) (Ic.out.step obt) (Kd.out.step obt) (Id.out.step obt) (Kz.out.step obt) (Iz.out.step obt) Kt.out It.out ?_ ⟨rfl, rfl, ?_⟩
  · intro a' w' hd h0 hBw
    show Code.wp _ _ _ _ _
    go_wp2
    refine bodyPost_ret (results_tmp rfl _ _ _) hd ?_
    exact ⟨congrArg Ending.returned h0, below_step BB.out hBw⟩
  · intro t v hmem
    simp only [List.mem_cons, Prod.mk.injEq, List.not_mem_nil, or_false] at hmem
    rcases hmem with ⟨rfl, rfl⟩ | ⟨rfl, rfl⟩ | ⟨rfl, rfl⟩ | ⟨rfl, rfl⟩ | ⟨rfl, rfl⟩ | ⟨rfl, rfl⟩ | ⟨rfl, rfl⟩ | ⟨rfl, rfl⟩ | ⟨rfl, rfl⟩ | ⟨rfl, rfl⟩ | ⟨rfl, rfl⟩ | ⟨rfl, rfl⟩ <;> rfl
end Go.Proofs.YtnkbamjjpdmbaaaDoor

namespace Go.Proofs.YtnkbamjjpdmbaaaDoor
open Go.RowKit Nx

set_option maxRecDepth 100000 in
set_option maxHeartbeats 8000000 in
theorem four_any (w : World) (s s' up : Bool) (e e' p : Int) (A B : Option Addr) (n c m d : Nat) (xs ys : List Nat) (ha : Arg w A n c xs) (hb : Arg w B m d ys) (hn : n ≤ 100000) (hm : m ≤ 100000) (ht : Tab w) :
    Calls Tryd.prog 14 #[.agg #[.bool s, .int .i64 e, .slice A n c], .agg #[.bool s', .int .i64 e', .slice B m d], .int .i64 p, .bool up] w (BoolPost w true) := by
  obtain ⟨k1, k2, b1⟩ := two_bx w s s' e e' A B n c m d
  have Kx := Lib.hid k1; have Ky := Lib.hid k2; have BB := Lib.hid b1; have HA := Lib.hid ha; have HB := Lib.hid hb; have HT := Lib.hid ht
  clear k1 k2 b1 ha hb ht
  obtain ⟨r1, hr1⟩ : ∃ r, r = ansr (gadd p up) p s e n xs s' e' m ys := ⟨_, rfl⟩
  have Vr1 := Lib.hid (show Valid r1.1 by rw [hr1]; exact ansr_v1 (gadd_v p up) _ _ _ _ _ _ _ _ _)
  have Cr1 := fun w4 (h : Below w.heap.size w w4) => Lib.hid (xadd_any w4 s s' up e e' p A B n c m d xs ys (HA.out.step h) (HB.out.step h) hn hm (HT.out.below h))
  rw [← hr1] at Cr1
  have Dr1 := fun w4 (h : Below w.heap.size w w4) => Lib.hid (reckon_any w4 0 s s' up e e' p A B n c m d xs ys (HA.out.step h) (HB.out.step h) hn hm)
  rw [gk_0, ← hr1] at Dr1
  obtain ⟨r2, hr2⟩ : ∃ r, r = ansr (gsub p up) p s e n xs s' e' m ys := ⟨_, rfl⟩
  have Vr2 := Lib.hid (show Valid r2.1 by rw [hr2]; exact ansr_v1 (gsub_v p up) _ _ _ _ _ _ _ _ _)
  have Cr2 := fun w4 (h : Below w.heap.size w w4) => Lib.hid (xsub_any w4 s s' up e e' p A B n c m d xs ys (HA.out.step h) (HB.out.step h) hn hm (HT.out.below h))
  rw [← hr2] at Cr2
  have Dr2 := fun w4 (h : Below w.heap.size w w4) => Lib.hid (reckon_any w4 1 s s' up e e' p A B n c m d xs ys (HA.out.step h) (HB.out.step h) hn hm)
  rw [gk_1, ← hr2] at Dr2
  obtain ⟨r3, hr3⟩ : ∃ r, r = ansr (gmul p up) p s e n xs s' e' m ys := ⟨_, rfl⟩
  have Vr3 := Lib.hid (show Valid r3.1 by rw [hr3]; exact ansr_v1 (gmul_v p up) _ _ _ _ _ _ _ _ _)
  have Cr3 := fun w4 (h : Below w.heap.size w w4) => Lib.hid (xmul_any w4 s s' up e e' p A B n c m d xs ys (HA.out.step h) (HB.out.step h) hn hm (HT.out.below h))
  rw [← hr3] at Cr3
  have Dr3 := fun w4 (h : Below w.heap.size w w4) => Lib.hid (reckon_any w4 2 s s' up e e' p A B n c m d xs ys (HA.out.step h) (HB.out.step h) hn hm)
  rw [gk_2, ← hr3] at Dr3
  obtain ⟨r4, hr4⟩ : ∃ r, r = ansr (gdiv p up) p s e n xs s' e' m ys := ⟨_, rfl⟩
  have Vr4 := Lib.hid (show Valid r4.1 by rw [hr4]; exact ansr_v1 (gdiv_v p up) _ _ _ _ _ _ _ _ _)
  have Cr4 := fun w4 (h : Below w.heap.size w w4) => Lib.hid (xdiv_any w4 s s' up e e' p A B n c m d xs ys (HA.out.step h) (HB.out.step h) hn hm (HT.out.below h))
  rw [← hr4] at Cr4
  have Dr4 := fun w4 (h : Below w.heap.size w w4) => Lib.hid (reckon_any w4 3 s s' up e e' p A B n c m d xs ys (HA.out.step h) (HB.out.step h) hn hm)
  rw [gk_3, ← hr4] at Dr4
  clear hr1 hr2 hr3 hr4 HA HB
  go_enter Tryd.func14, Tryd.ntmps14
  have xr0 := Kx.out.c0; have xr1 := Kx.out.c1; have xr2 := Kx.out.c2; have xlt := Kx.out.lt
  have yr0 := Ky.out.c0; have yr1 := Ky.out.c1; have yr2 := Ky.out.c2; have ylt := Ky.out.lt
  have D := Cr1 _ BB.out
  go_wp2_with fail
  refine D.out.mono ?_
  clear D
  clear xr0 xr1 xr2 xlt yr0 yr1 yr2 ylt
  rintro _ w1 ⟨_, rfl, ⟨Aa, na, ca, rfl, hh⟩, b⟩
  replace Kx := Lib.hid (Kx.out.step b)
  replace Ky := Lib.hid (Ky.out.step b)
  replace BB := Lib.hid (below_step BB.out b)
  have oba := one_below w1 (.cells #[.bool r1.1.s, .int .i64 r1.1.e, .slice Aa na ca] 24)
  have Ia := Lib.hid (Is.step (num_is hh) oba); have Ka := Lib.hid (Bx.new w1 r1.1.s r1.1.e Aa na ca)
  replace BB := Lib.hid (below_step BB.out oba)
  clear hh b
  have xr0 := Kx.out.c0; have xr1 := Kx.out.c1; have xr2 := Kx.out.c2; have xlt := Kx.out.lt
  have yr0 := Ky.out.c0; have yr1 := Ky.out.c1; have yr2 := Ky.out.c2; have ylt := Ky.out.lt
  have D := Cr2 _ BB.out
  go_wp2_with fail
  refine D.out.mono ?_
  clear D
  clear xr0 xr1 xr2 xlt yr0 yr1 yr2 ylt
  rintro _ w2 ⟨_, rfl, ⟨Ab, nb, cb, rfl, hh⟩, b⟩
  replace Kx := Lib.hid (Kx.out.step (below_step oba b))
  replace Ky := Lib.hid (Ky.out.step (below_step oba b))
  replace Ka := Lib.hid (Ka.out.step b)
  replace Ia := Lib.hid (Ia.out.step b)
  replace BB := Lib.hid (below_step BB.out b)
  clear oba
  have obb := one_below w2 (.cells #[.bool r2.1.s, .int .i64 r2.1.e, .slice Ab nb cb] 24)
  have Ib := Lib.hid (Is.step (num_is hh) obb); have Kb := Lib.hid (Bx.new w2 r2.1.s r2.1.e Ab nb cb)
  replace BB := Lib.hid (below_step BB.out obb)
  clear hh b
  have xr0 := Kx.out.c0; have xr1 := Kx.out.c1; have xr2 := Kx.out.c2; have xlt := Kx.out.lt
  have yr0 := Ky.out.c0; have yr1 := Ky.out.c1; have yr2 := Ky.out.c2; have ylt := Ky.out.lt
  have ar0 := Ka.out.c0; have ar1 := Ka.out.c1; have ar2 := Ka.out.c2; have alt := Ka.out.lt
  have D := Cr3 _ BB.out
  go_wp2_with fail
  refine D.out.mono ?_
  clear D
  clear xr0 xr1 xr2 xlt yr0 yr1 yr2 ylt ar0 ar1 ar2 alt
  rintro _ w3 ⟨_, rfl, ⟨Ac, nc, cc, rfl, hh⟩, b⟩
  replace Kx := Lib.hid (Kx.out.step (below_step obb b))
  replace Ky := Lib.hid (Ky.out.step (below_step obb b))
  replace Ka := Lib.hid (Ka.out.step (below_step obb b))
  replace Ia := Lib.hid (Ia.out.step (below_step obb b))
  replace Kb := Lib.hid (Kb.out.step b)
  replace Ib := Lib.hid (Ib.out.step b)
  replace BB := Lib.hid (below_step BB.out b)
  clear obb
  have obc := one_below w3 (.cells #[.bool r3.1.s, .int .i64 r3.1.e, .slice Ac nc cc] 24)
  have Ic := Lib.hid (Is.step (num_is hh) obc); have Kc := Lib.hid (Bx.new w3 r3.1.s r3.1.e Ac nc cc)
  replace BB := Lib.hid (below_step BB.out obc)
  clear hh b
  have xr0 := Kx.out.c0; have xr1 := Kx.out.c1; have xr2 := Kx.out.c2; have xlt := Kx.out.lt
  have yr0 := Ky.out.c0; have yr1 := Ky.out.c1; have yr2 := Ky.out.c2; have ylt := Ky.out.lt
  have ar0 := Ka.out.c0; have ar1 := Ka.out.c1; have ar2 := Ka.out.c2; have alt := Ka.out.lt
  have br0 := Kb.out.c0; have br1 := Kb.out.c1; have br2 := Kb.out.c2; have blt := Kb.out.lt
  have D := Cr4 _ BB.out
  go_wp2_with fail
  refine D.out.mono ?_
  clear D
  clear xr0 xr1 xr2 xlt yr0 yr1 yr2 ylt ar0 ar1 ar2 alt br0 br1 br2 blt
  rintro _ w4 ⟨_, rfl, ⟨Ad, nd, cd, rfl, hh⟩, b⟩
  replace Kx := Lib.hid (Kx.out.step (below_step obc b))
  replace Ky := Lib.hid (Ky.out.step (below_step obc b))
  replace Ka := Lib.hid (Ka.out.step (below_step obc b))
  replace Ia := Lib.hid (Ia.out.step (below_step obc b))
  replace Kb := Lib.hid (Kb.out.step (below_step obc b))
  replace Ib := Lib.hid (Ib.out.step (below_step obc b))
  replace Kc := Lib.hid (Kc.out.step b)
  replace Ic := Lib.hid (Ic.out.step b)
  replace BB := Lib.hid (below_step BB.out b)
  clear obc
  have obd := one_below w4 (.cells #[.bool r4.1.s, .int .i64 r4.1.e, .slice Ad nd cd] 24)
  have Id := Lib.hid (Is.step (num_is hh) obd); have Kd := Lib.hid (Bx.new w4 r4.1.s r4.1.e Ad nd cd)
  replace BB := Lib.hid (below_step BB.out obd)
  clear hh b
  have xr0 := Kx.out.c0; have xr1 := Kx.out.c1; have xr2 := Kx.out.c2; have xlt := Kx.out.lt
  have yr0 := Ky.out.c0; have yr1 := Ky.out.c1; have yr2 := Ky.out.c2; have ylt := Ky.out.lt
  have ar0 := Ka.out.c0; have ar1 := Ka.out.c1; have ar2 := Ka.out.c2; have alt := Ka.out.lt
  have br0 := Kb.out.c0; have br1 := Kb.out.c1; have br2 := Kb.out.c2; have blt := Kb.out.lt
  have cr0 := Kc.out.c0; have cr1 := Kc.out.c1; have cr2 := Kc.out.c2; have clt := Kc.out.lt
  have D := Dr1 _ BB.out
  go_wp2_with fail
  refine D.out.mono ?_
  clear D
  clear xr0 xr1 xr2 xlt yr0 yr1 yr2 ylt ar0 ar1 ar2 alt br0 br1 br2 blt cr0 cr1 cr2 clt
  rintro _ w5 ⟨_, rfl, ⟨Af, nf, cf, rfl, hh⟩, b⟩
  replace Kx := Lib.hid (Kx.out.step (below_step obd b))
  replace Ky := Lib.hid (Ky.out.step (below_step obd b))
  replace Ka := Lib.hid (Ka.out.step (below_step obd b))
  replace Ia := Lib.hid (Ia.out.step (below_step obd b))
  replace Kb := Lib.hid (Kb.out.step (below_step obd b))
  replace Ib := Lib.hid (Ib.out.step (below_step obd b))
  replace Kc := Lib.hid (Kc.out.step (below_step obd b))
  replace Ic := Lib.hid (Ic.out.step (below_step obd b))
  replace Kd := Lib.hid (Kd.out.step b)
  replace Id := Lib.hid (Id.out.step b)
  replace BB := Lib.hid (below_step BB.out b)
  clear obd
  have obf := one_below w5 (.cells #[.bool r1.1.s, .int .i64 r1.1.e, .slice Af nf cf] 24)
  have If := Lib.hid (Is.step (num_is hh) obf); have Kf := Lib.hid (Bx.new w5 r1.1.s r1.1.e Af nf cf)
  replace BB := Lib.hid (below_step BB.out obf)
  clear hh b
  have xr0 := Kx.out.c0; have xr1 := Kx.out.c1; have xr2 := Kx.out.c2; have xlt := Kx.out.lt
  have yr0 := Ky.out.c0; have yr1 := Ky.out.c1; have yr2 := Ky.out.c2; have ylt := Ky.out.lt
  have ar0 := Ka.out.c0; have ar1 := Ka.out.c1; have ar2 := Ka.out.c2; have alt := Ka.out.lt
  have br0 := Kb.out.c0; have br1 := Kb.out.c1; have br2 := Kb.out.c2; have blt := Kb.out.lt
  have cr0 := Kc.out.c0; have cr1 := Kc.out.c1; have cr2 := Kc.out.c2; have clt := Kc.out.lt
  have dr0 := Kd.out.c0; have dr1 := Kd.out.c1; have dr2 := Kd.out.c2; have dlt := Kd.out.lt
  have D := Dr2 _ BB.out
  go_wp2_with fail
  refine D.out.mono ?_
  clear D
  clear xr0 xr1 xr2 xlt yr0 yr1 yr2 ylt ar0 ar1 ar2 alt br0 br1 br2 blt cr0 cr1 cr2 clt dr0 dr1 dr2 dlt
  rintro _ w6 ⟨_, rfl, ⟨Ag, ng, cg, rfl, hh⟩, b⟩
  replace Kx := Lib.hid (Kx.out.step (below_step obf b))
  replace Ky := Lib.hid (Ky.out.step (below_step obf b))
  replace Ka := Lib.hid (Ka.out.step (below_step obf b))
  replace Ia := Lib.hid (Ia.out.step (below_step obf b))
  replace Kb := Lib.hid (Kb.out.step (below_step obf b))
  replace Ib := Lib.hid (Ib.out.step (below_step obf b))
  replace Kc := Lib.hid (Kc.out.step (below_step obf b))
  replace Ic := Lib.hid (Ic.out.step (below_step obf b))
  replace Kd := Lib.hid (Kd.out.step (below_step obf b))
  replace Id := Lib.hid (Id.out.step (below_step obf b))
  replace Kf := Lib.hid (Kf.out.step b)
  replace If := Lib.hid (If.out.step b)
  replace BB := Lib.hid (below_step BB.out b)
  clear obf
  have obg := one_below w6 (.cells #[.bool r2.1.s, .int .i64 r2.1.e, .slice Ag ng cg] 24)
  have Ig := Lib.hid (Is.step (num_is hh) obg); have Kg := Lib.hid (Bx.new w6 r2.1.s r2.1.e Ag ng cg)
  replace BB := Lib.hid (below_step BB.out obg)
  clear hh b
  have xr0 := Kx.out.c0; have xr1 := Kx.out.c1; have xr2 := Kx.out.c2; have xlt := Kx.out.lt
  have yr0 := Ky.out.c0; have yr1 := Ky.out.c1; have yr2 := Ky.out.c2; have ylt := Ky.out.lt
  have ar0 := Ka.out.c0; have ar1 := Ka.out.c1; have ar2 := Ka.out.c2; have alt := Ka.out.lt
  have br0 := Kb.out.c0; have br1 := Kb.out.c1; have br2 := Kb.out.c2; have blt := Kb.out.lt
  have cr0 := Kc.out.c0; have cr1 := Kc.out.c1; have cr2 := Kc.out.c2; have clt := Kc.out.lt
  have dr0 := Kd.out.c0; have dr1 := Kd.out.c1; have dr2 := Kd.out.c2; have dlt := Kd.out.lt
  have fr0 := Kf.out.c0; have fr1 := Kf.out.c1; have fr2 := Kf.out.c2; have flt := Kf.out.lt
  have D := Dr3 _ BB.out
  go_wp2_with fail
  refine D.out.mono ?_
  clear D
  clear xr0 xr1 xr2 xlt yr0 yr1 yr2 ylt ar0 ar1 ar2 alt br0 br1 br2 blt cr0 cr1 cr2 clt dr0 dr1 dr2 dlt fr0 fr1 fr2 flt
  rintro _ w7 ⟨_, rfl, ⟨Ah, nh, ch, rfl, hh⟩, b⟩
  replace Kx := Lib.hid (Kx.out.step (below_step obg b))
  replace Ky := Lib.hid (Ky.out.step (below_step obg b))
  replace Ka := Lib.hid (Ka.out.step (below_step obg b))
  replace Ia := Lib.hid (Ia.out.step (below_step obg b))
  replace Kb := Lib.hid (Kb.out.step (below_step obg b))
  replace Ib := Lib.hid (Ib.out.step (below_step obg b))
  replace Kc := Lib.hid (Kc.out.step (below_step obg b))
  replace Ic := Lib.hid (Ic.out.step (below_step obg b))
  replace Kd := Lib.hid (Kd.out.step (below_step obg b))
  replace Id := Lib.hid (Id.out.step (below_step obg b))
  replace Kf := Lib.hid (Kf.out.step (below_step obg b))
  replace If := Lib.hid (If.out.step (below_step obg b))
  replace Kg := Lib.hid (Kg.out.step b)
  replace Ig := Lib.hid (Ig.out.step b)
  replace BB := Lib.hid (below_step BB.out b)
  clear obg
  have obh := one_below w7 (.cells #[.bool r3.1.s, .int .i64 r3.1.e, .slice Ah nh ch] 24)
  have Ih := Lib.hid (Is.step (num_is hh) obh); have Kh := Lib.hid (Bx.new w7 r3.1.s r3.1.e Ah nh ch)
  replace BB := Lib.hid (below_step BB.out obh)
  clear hh b
  have xr0 := Kx.out.c0; have xr1 := Kx.out.c1; have xr2 := Kx.out.c2; have xlt := Kx.out.lt
  have yr0 := Ky.out.c0; have yr1 := Ky.out.c1; have yr2 := Ky.out.c2; have ylt := Ky.out.lt
  have ar0 := Ka.out.c0; have ar1 := Ka.out.c1; have ar2 := Ka.out.c2; have alt := Ka.out.lt
  have br0 := Kb.out.c0; have br1 := Kb.out.c1; have br2 := Kb.out.c2; have blt := Kb.out.lt
  have cr0 := Kc.out.c0; have cr1 := Kc.out.c1; have cr2 := Kc.out.c2; have clt := Kc.out.lt
  have dr0 := Kd.out.c0; have dr1 := Kd.out.c1; have dr2 := Kd.out.c2; have dlt := Kd.out.lt
  have fr0 := Kf.out.c0; have fr1 := Kf.out.c1; have fr2 := Kf.out.c2; have flt := Kf.out.lt
  have gr0 := Kg.out.c0; have gr1 := Kg.out.c1; have gr2 := Kg.out.c2; have glt := Kg.out.lt
  have D := Dr4 _ BB.out
  go_wp2_with fail
  refine D.out.mono ?_
  clear D
  clear xr0 xr1 xr2 xlt yr0 yr1 yr2 ylt ar0 ar1 ar2 alt br0 br1 br2 blt cr0 cr1 cr2 clt dr0 dr1 dr2 dlt fr0 fr1 fr2 flt gr0 gr1 gr2 glt
  rintro _ w8 ⟨_, rfl, ⟨Ak, nk, ck, rfl, hh⟩, b⟩
  replace Kx := Lib.hid (Kx.out.step (below_step obh b))
  replace Ky := Lib.hid (Ky.out.step (below_step obh b))
  replace Ka := Lib.hid (Ka.out.step (below_step obh b))
  replace Ia := Lib.hid (Ia.out.step (below_step obh b))
  replace Kb := Lib.hid (Kb.out.step (below_step obh b))
  replace Ib := Lib.hid (Ib.out.step (below_step obh b))
  replace Kc := Lib.hid (Kc.out.step (below_step obh b))
  replace Ic := Lib.hid (Ic.out.step (below_step obh b))
  replace Kd := Lib.hid (Kd.out.step (below_step obh b))
  replace Id := Lib.hid (Id.out.step (below_step obh b))
  replace Kf := Lib.hid (Kf.out.step (below_step obh b))
  replace If := Lib.hid (If.out.step (below_step obh b))
  replace Kg := Lib.hid (Kg.out.step (below_step obh b))
  replace Ig := Lib.hid (Ig.out.step (below_step obh b))
  replace Kh := Lib.hid (Kh.out.step b)
  replace Ih := Lib.hid (Ih.out.step b)
  replace BB := Lib.hid (below_step BB.out b)
  clear obh
  have obk := one_below w8 (.cells #[.bool r4.1.s, .int .i64 r4.1.e, .slice Ak nk ck] 24)
  have Ik := Lib.hid (Is.step (num_is hh) obk); have Kk := Lib.hid (Bx.new w8 r4.1.s r4.1.e Ak nk ck)
  replace BB := Lib.hid (below_step BB.out obk)
  clear hh b
  clear Cr1 Dr1 Cr2 Dr2 Cr3 Dr3 Cr4 Dr4 Kx Ky
  have ar0 := Ka.out.c0; have ar1 := Ka.out.c1; have ar2 := Ka.out.c2; have alt := Ka.out.lt
  have br0 := Kb.out.c0; have br1 := Kb.out.c1; have br2 := Kb.out.c2; have blt := Kb.out.lt
  have cr0 := Kc.out.c0; have cr1 := Kc.out.c1; have cr2 := Kc.out.c2; have clt := Kc.out.lt
  have dr0 := Kd.out.c0; have dr1 := Kd.out.c1; have dr2 := Kd.out.c2; have dlt := Kd.out.lt
  have fr0 := Kf.out.c0; have fr1 := Kf.out.c1; have fr2 := Kf.out.c2; have flt := Kf.out.lt
  have gr0 := Kg.out.c0; have gr1 := Kg.out.c1; have gr2 := Kg.out.c2; have glt := Kg.out.lt
  have hr0 := Kh.out.c0; have hr1 := Kh.out.c1; have hr2 := Kh.out.c2; have hlt := Kh.out.lt
  have D := Lib.hid (rsame_v (a := r1.1) (b := r1.1) (Ia.out.step obk) (If.out.step obk) Vr1.out Vr1.out)
  rw [sameb_self] at D
  go_wp2_with fail
  refine D.out.mono ?_
  clear D
  clear ar0 ar1 ar2 alt br0 br1 br2 blt cr0 cr1 cr2 clt dr0 dr1 dr2 dlt fr0 fr1 fr2 flt gr0 gr1 gr2 glt hr0 hr1 hr2 hlt
  rintro _ v1 ⟨rfl, b⟩
  replace Ka := Lib.hid (Ka.out.step (below_step obk b))
  replace Ia := Lib.hid (Ia.out.step (below_step obk b))
  replace Kb := Lib.hid (Kb.out.step (below_step obk b))
  replace Ib := Lib.hid (Ib.out.step (below_step obk b))
  replace Kc := Lib.hid (Kc.out.step (below_step obk b))
  replace Ic := Lib.hid (Ic.out.step (below_step obk b))
  replace Kd := Lib.hid (Kd.out.step (below_step obk b))
  replace Id := Lib.hid (Id.out.step (below_step obk b))
  replace Kf := Lib.hid (Kf.out.step (below_step obk b))
  replace If := Lib.hid (If.out.step (below_step obk b))
  replace Kg := Lib.hid (Kg.out.step (below_step obk b))
  replace Ig := Lib.hid (Ig.out.step (below_step obk b))
  replace Kh := Lib.hid (Kh.out.step (below_step obk b))
  replace Ih := Lib.hid (Ih.out.step (below_step obk b))
  replace Kk := Lib.hid (Kk.out.step b)
  replace Ik := Lib.hid (Ik.out.step b)
  replace BB := Lib.hid (below_step BB.out b)
  clear obk
  clear b
  have ar0 := Ka.out.c0; have ar1 := Ka.out.c1; have ar2 := Ka.out.c2; have alt := Ka.out.lt
  have br0 := Kb.out.c0; have br1 := Kb.out.c1; have br2 := Kb.out.c2; have blt := Kb.out.lt
  have cr0 := Kc.out.c0; have cr1 := Kc.out.c1; have cr2 := Kc.out.c2; have clt := Kc.out.lt
  have dr0 := Kd.out.c0; have dr1 := Kd.out.c1; have dr2 := Kd.out.c2; have dlt := Kd.out.lt
  have fr0 := Kf.out.c0; have fr1 := Kf.out.c1; have fr2 := Kf.out.c2; have flt := Kf.out.lt
  have gr0 := Kg.out.c0; have gr1 := Kg.out.c1; have gr2 := Kg.out.c2; have glt := Kg.out.lt
  have hr0 := Kh.out.c0; have hr1 := Kh.out.c1; have hr2 := Kh.out.c2; have hlt := Kh.out.lt
  have kr0 := Kk.out.c0; have kr1 := Kk.out.c1; have kr2 := Kk.out.c2; have klt := Kk.out.lt
  have D := Lib.hid (rsame_v (a := r2.1) (b := r2.1) Ib.out Ig.out Vr2.out Vr2.out)
  rw [sameb_self] at D
  go_wp2_with fail
  refine D.out.mono ?_
  clear D
  clear ar0 ar1 ar2 alt br0 br1 br2 blt cr0 cr1 cr2 clt dr0 dr1 dr2 dlt fr0 fr1 fr2 flt gr0 gr1 gr2 glt hr0 hr1 hr2 hlt kr0 kr1 kr2 klt
  rintro _ v2 ⟨rfl, b⟩
  replace Ka := Lib.hid (Ka.out.step b)
  replace Ia := Lib.hid (Ia.out.step b)
  replace Kb := Lib.hid (Kb.out.step b)
  replace Ib := Lib.hid (Ib.out.step b)
  replace Kc := Lib.hid (Kc.out.step b)
  replace Ic := Lib.hid (Ic.out.step b)
  replace Kd := Lib.hid (Kd.out.step b)
  replace Id := Lib.hid (Id.out.step b)
  replace Kf := Lib.hid (Kf.out.step b)
  replace If := Lib.hid (If.out.step b)
  replace Kg := Lib.hid (Kg.out.step b)
  replace Ig := Lib.hid (Ig.out.step b)
  replace Kh := Lib.hid (Kh.out.step b)
  replace Ih := Lib.hid (Ih.out.step b)
  replace Kk := Lib.hid (Kk.out.step b)
  replace Ik := Lib.hid (Ik.out.step b)
  replace BB := Lib.hid (below_step BB.out b)
  clear b
  have ar0 := Ka.out.c0; have ar1 := Ka.out.c1; have ar2 := Ka.out.c2; have alt := Ka.out.lt
  have br0 := Kb.out.c0; have br1 := Kb.out.c1; have br2 := Kb.out.c2; have blt := Kb.out.lt
  have cr0 := Kc.out.c0; have cr1 := Kc.out.c1; have cr2 := Kc.out.c2; have clt := Kc.out.lt
  have dr0 := Kd.out.c0; have dr1 := Kd.out.c1; have dr2 := Kd.out.c2; have dlt := Kd.out.lt
  have fr0 := Kf.out.c0; have fr1 := Kf.out.c1; have fr2 := Kf.out.c2; have flt := Kf.out.lt
  have gr0 := Kg.out.c0; have gr1 := Kg.out.c1; have gr2 := Kg.out.c2; have glt := Kg.out.lt
  have hr0 := Kh.out.c0; have hr1 := Kh.out.c1; have hr2 := Kh.out.c2; have hlt := Kh.out.lt
  have kr0 := Kk.out.c0; have kr1 := Kk.out.c1; have kr2 := Kk.out.c2; have klt := Kk.out.lt
  have D := Lib.hid (rsame_v (a := r3.1) (b := r3.1) Ic.out Ih.out Vr3.out Vr3.out)
  rw [sameb_self] at D
  go_wp2_with fail
  refine D.out.mono ?_
  clear D
  clear ar0 ar1 ar2 alt br0 br1 br2 blt cr0 cr1 cr2 clt dr0 dr1 dr2 dlt fr0 fr1 fr2 flt gr0 gr1 gr2 glt hr0 hr1 hr2 hlt kr0 kr1 kr2 klt
  rintro _ v3 ⟨rfl, b⟩
  replace Ka := Lib.hid (Ka.out.step b)
  replace Ia := Lib.hid (Ia.out.step b)
  replace Kb := Lib.hid (Kb.out.step b)
  replace Ib := Lib.hid (Ib.out.step b)
  replace Kc := Lib.hid (Kc.out.step b)
  replace Ic := Lib.hid (Ic.out.step b)
  replace Kd := Lib.hid (Kd.out.step b)
  replace Id := Lib.hid (Id.out.step b)
  replace Kf := Lib.hid (Kf.out.step b)
  replace If := Lib.hid (If.out.step b)
  replace Kg := Lib.hid (Kg.out.step b)
  replace Ig := Lib.hid (Ig.out.step b)
  replace Kh := Lib.hid (Kh.out.step b)
  replace Ih := Lib.hid (Ih.out.step b)
  replace Kk := Lib.hid (Kk.out.step b)
  replace Ik := Lib.hid (Ik.out.step b)
  replace BB := Lib.hid (below_step BB.out b)
  clear b
  have ar0 := Ka.out.c0; have ar1 := Ka.out.c1; have ar2 := Ka.out.c2; have alt := Ka.out.lt
  have br0 := Kb.out.c0; have br1 := Kb.out.c1; have br2 := Kb.out.c2; have blt := Kb.out.lt
  have cr0 := Kc.out.c0; have cr1 := Kc.out.c1; have cr2 := Kc.out.c2; have clt := Kc.out.lt
  have dr0 := Kd.out.c0; have dr1 := Kd.out.c1; have dr2 := Kd.out.c2; have dlt := Kd.out.lt
  have fr0 := Kf.out.c0; have fr1 := Kf.out.c1; have fr2 := Kf.out.c2; have flt := Kf.out.lt
  have gr0 := Kg.out.c0; have gr1 := Kg.out.c1; have gr2 := Kg.out.c2; have glt := Kg.out.lt
  have hr0 := Kh.out.c0; have hr1 := Kh.out.c1; have hr2 := Kh.out.c2; have hlt := Kh.out.lt
  have kr0 := Kk.out.c0; have kr1 := Kk.out.c1; have kr2 := Kk.out.c2; have klt := Kk.out.lt
  have D := Lib.hid (rsame_v (a := r4.1) (b := r4.1) Id.out Ik.out Vr4.out Vr4.out)
  rw [sameb_self] at D
  go_wp2_with fail
  refine D.out.mono ?_
  clear D
  clear ar0 ar1 ar2 alt br0 br1 br2 blt cr0 cr1 cr2 clt dr0 dr1 dr2 dlt fr0 fr1 fr2 flt gr0 gr1 gr2 glt hr0 hr1 hr2 hlt kr0 kr1 kr2 klt
  rintro _ v4 ⟨rfl, b⟩
  replace Ka := Lib.hid (Ka.out.step b)
  replace Ia := Lib.hid (Ia.out.step b)
  replace Kb := Lib.hid (Kb.out.step b)
  replace Ib := Lib.hid (Ib.out.step b)
  replace Kc := Lib.hid (Kc.out.step b)
  replace Ic := Lib.hid (Ic.out.step b)
  replace Kd := Lib.hid (Kd.out.step b)
  replace Id := Lib.hid (Id.out.step b)
  replace Kf := Lib.hid (Kf.out.step b)
  replace If := Lib.hid (If.out.step b)
  replace Kg := Lib.hid (Kg.out.step b)
  replace Ig := Lib.hid (Ig.out.step b)
  replace Kh := Lib.hid (Kh.out.step b)
  replace Ih := Lib.hid (Ih.out.step b)
  replace Kk := Lib.hid (Kk.out.step b)
  replace Ik := Lib.hid (Ik.out.step b)
  replace BB := Lib.hid (below_step BB.out b)
  clear b
  go_wp2
  go_ret
  exact ⟨rfl, BB.out⟩
end Go.Proofs.YtnkbamjjpdmbaaaDoor

namespace Go.Proofs.YtnkbamjjpdmbaaaDoor
open Go.RowKit Nx

set_option maxRecDepth 100000 in
set_option maxHeartbeats 8000000 in
theorem fits_walk (w : World) (s : Bool) (e : Int) (A : Option Addr) (n c : Nat) (xs : List Nat) (p : Int) (up : Bool) (ha : Arg w A n c xs) (ht : Tab w) :
    Calls Tryd.prog 3 #[.agg #[.bool s, .int .i64 e, .slice A n c], .int .i64 p, .bool up] w (LawPost w) := by
  obtain ⟨k1, b1⟩ := box_one w s e A n c
  have Kx := Lib.hid k1; have BB := Lib.hid b1; have HA := Lib.hid ha; have HT := Lib.hid ht
  have C := Lib.hid (known_any _ (ht.below b1))
  clear k1 b1 ha ht
  go_enter Tryd.func3, Tryd.ntmps3
  go_wp2_with fail
  refine C.out.mono ?_
  rintro _ w1 ⟨rfl, b⟩
  replace Kx := Lib.hid (Kx.out.step b)
  replace BB := Lib.hid (below_step BB.out b)
  clear b C
  have K0 := Kx.out.c0; have K1 := Kx.out.c1; have K2 := Kx.out.c2; have Kl := Kx.out.lt
  have CL := Lib.hid (light3_any _ w1.heap.size 1 [n] (lensn1 w1 s e A n c) rfl (by omega))
  by_cases hn : n ≤ 70
  · rw [show ([n].all fun l => decide (l ≤ 70)) = true by simp [hn]] at CL
    go_wp2_with fail
    refine CL.out.mono ?_
    rintro _ w2' ⟨rfl, rfl⟩
    have ob := one_below w1 (.cells #[.bool s, .int .i64 e, .slice A n c] 24)
    replace Kx := Lib.hid (Kx.out.step ob)
    replace BB := Lib.hid (below_step BB.out ob)
    clear K0 K1 K2 Kl
    clear ob CL
    generalize w1.alloc (.cells #[.bool s, .int .i64 e, .slice A n c] 24) = w2 at *
    obtain ⟨r, hr⟩ : ∃ r, r = ansf p up s e n xs := ⟨_, rfl⟩
    have VR := Lib.hid (show Valid r.1 by rw [hr]; exact ansf_v _ _ _ _ _ _)
    have C1 := fun w4 (h : Below w.heap.size w w4) => Lib.hid (xfit_any w4 s up e p A n c xs (HA.out.step h) (by omega) (HT.out.below h))
    have C2 := fun w4 (h : Below w.heap.size w w4) => Lib.hid (yfit_any w4 s up e p A n c xs (HA.out.step h) (by omega))
    rw [← hr] at C1 C2
    clear hr HA
    have xr0 := Kx.out.c0; have xr1 := Kx.out.c1; have xr2 := Kx.out.c2; have xlt := Kx.out.lt
    have D := C1 _ BB.out
    go_wp2_with fail
    refine D.out.mono ?_
    clear D
    clear xr0 xr1 xr2 xlt
    rintro _ w3 ⟨_, rfl, ⟨Aa, na, ca, rfl, hh⟩, b⟩
    replace Kx := Lib.hid (Kx.out.step b)
    replace BB := Lib.hid (below_step BB.out b)
    have oba := one_below w3 (.cells #[.bool r.1.s, .int .i64 r.1.e, .slice Aa na ca] 24)
    have Ia := Lib.hid (Is.step (num_is hh) oba); have Ka := Lib.hid (Bx.new w3 r.1.s r.1.e Aa na ca)
    replace BB := Lib.hid (below_step BB.out oba)
    clear hh b
    have xr0 := Kx.out.c0; have xr1 := Kx.out.c1; have xr2 := Kx.out.c2; have xlt := Kx.out.lt
    have D := C2 _ BB.out
    go_wp2_with fail
    refine D.out.mono ?_
    clear D
    clear xr0 xr1 xr2 xlt
    rintro _ w4 ⟨_, rfl, ⟨Af, nf, cf, rfl, hh⟩, b⟩
    replace Kx := Lib.hid (Kx.out.step (below_step oba b))
    replace Ka := Lib.hid (Ka.out.step b)
    replace Ia := Lib.hid (Ia.out.step b)
    replace BB := Lib.hid (below_step BB.out b)
    clear oba
    have obf := one_below w4 (.cells #[.bool r.1.s, .int .i64 r.1.e, .slice Af nf cf] 24)
    have If := Lib.hid (Is.step (num_is hh) obf); have Kf := Lib.hid (Bx.new w4 r.1.s r.1.e Af nf cf)
    replace BB := Lib.hid (below_step BB.out obf)
    clear hh b
    clear C1 C2 Kx
    have ar0 := Ka.out.c0; have ar1 := Ka.out.c1; have ar2 := Ka.out.c2; have alt := Ka.out.lt
    have D := Lib.hid (rsame_v (a := r.1) (b := r.1) (Ia.out.step obf) If.out VR.out VR.out)
    rw [sameb_self] at D
    go_wp2_with fail
    refine D.out.mono ?_
    clear D
    clear ar0 ar1 ar2 alt
    rintro _ w5 ⟨rfl, b⟩
    replace Ka := Lib.hid (Ka.out.step (below_step obf b))
    replace Ia := Lib.hid (Ia.out.step (below_step obf b))
    replace Kf := Lib.hid (Kf.out.step b)
    replace If := Lib.hid (If.out.step b)
    replace BB := Lib.hid (below_step BB.out b)
    clear obf
    clear b
    go_wp2
    go_ret
    exact ⟨rfl, BB.out⟩
  · rw [show ([n].all fun l => decide (l ≤ 70)) = false by simp [hn]] at CL
    go_wp2_with fail
    refine CL.out.mono ?_
    rintro _ w2' ⟨rfl, rfl⟩
    have ob := one_below w1 (.cells #[.bool s, .int .i64 e, .slice A n c] 24)
    go_wp2
    go_ret
    exact ⟨rfl, below_step BB.out ob⟩

set_option maxRecDepth 100000 in
set_option maxHeartbeats 8000000 in
theorem rreckons_walk (w : World) (s s' : Bool) (e e' : Int) (A B : Option Addr) (n c m d : Nat) (xs ys : List Nat) (p : Int) (up : Bool) (ha : Arg w A n c xs) (hb : Arg w B m d ys) (ht : Tab w) :
    Calls Tryd.prog 4 #[.agg #[.bool s, .int .i64 e, .slice A n c], .agg #[.bool s', .int .i64 e', .slice B m d], .int .i64 p, .bool up] w (LawPost w) := by
  obtain ⟨k1, k2, b1⟩ := two_bx w s s' e e' A B n c m d
  have K := Lib.hid k1; have L := Lib.hid k2; have BB := Lib.hid b1; have HA := Lib.hid ha; have HB := Lib.hid hb; have HT := Lib.hid ht
  have C := Lib.hid (known_any _ (ht.below b1))
  clear k1 k2 b1 ha hb ht
  go_enter Tryd.func4, Tryd.ntmps4
  go_wp2_with fail
  refine C.out.mono ?_
  rintro _ w1 ⟨rfl, b⟩
  replace K := Lib.hid (K.out.step b)
  replace L := Lib.hid (L.out.step b)
  replace BB := Lib.hid (below_step BB.out b)
  clear b C
  have K0 := K.out.c0; have K1 := K.out.c1; have K2 := K.out.c2; have Kl := K.out.lt
  have L0 := L.out.c0; have L1 := L.out.c1; have L2 := L.out.c2; have Ll := L.out.lt
  have CL := Lib.hid (light3_any _ w1.heap.size 2 [n, m] (lensn2 w1 s s' e e' A B n c m d) rfl (by omega))
  have ob := one_below w1 (.cells #[.bool s, .int .i64 e, .slice A n c, .bool s', .int .i64 e', .slice B m d] 24)
  have BO := Lib.hid (below_step BB.out ob)
  have KO := Lib.hid (K.out.step ob); have LO := Lib.hid (L.out.step ob)
  clear ob
  by_cases hnm : n ≤ 70 ∧ m ≤ 70
  · obtain ⟨hn, hm⟩ := hnm
    rw [show ([n, m].all fun l => decide (l ≤ 70)) = true by simp [hn, hm]] at CL
    have D := Lib.hid (four_any _ s s' up e e' p A B n c m d xs ys (HA.out.step BO.out) (HB.out.step BO.out) (by omega) (by omega) (HT.out.below BO.out))
    go_wp2_with fail
    refine CL.out.mono ?_
    rintro _ w2' ⟨rfl, rfl⟩
    clear K0 K1 K2 Kl L0 L1 L2 Ll CL K L
    have K0 := KO.out.c0; have K1 := KO.out.c1; have K2 := KO.out.c2
    have L0 := LO.out.c0; have L1 := LO.out.c1; have L2 := LO.out.c2
    go_wp2_with fail
    refine D.out.mono ?_
    rintro _ w3 ⟨rfl, b⟩
    have B3 := Lib.hid (below_step BO.out b)
    clear b D
    go_wp2
    go_ret
    exact ⟨rfl, B3.out⟩
  · rw [show ([n, m].all fun l => decide (l ≤ 70)) = false by simp; omega] at CL
    go_wp2_with fail
    refine CL.out.mono ?_
    rintro _ w2' ⟨rfl, rfl⟩
    go_wp2
    go_ret
    exact ⟨rfl, BO.out⟩
end Go.Proofs.YtnkbamjjpdmbaaaDoor
