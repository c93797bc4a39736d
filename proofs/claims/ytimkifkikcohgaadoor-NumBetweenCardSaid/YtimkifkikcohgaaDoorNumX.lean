/- The laws of num, walked: NumRings. -/
import Derived.Test.YtimkifkikcohgaaDoorMathH
import Derived.Test.YtimkifkikcohgaaDoorSeatB
import Derived.Test.YtimkifkikcohgaaDoorNumT
namespace Go.Proofs.YtimkifkikcohgaaDoor
open Go.RowKit Nx

theorem NumV.mv {lo g : Nat} {w w' : World} {v : Value} {q : Q} (h : NumV lo w v q) (m : Mv g w w') (hg : g < lo) : NumV lo w' v q := by
  obtain ⟨A, n, c, e, h1⟩ := h
  exact ⟨A, n, c, e, (m.rd h1 (.inl hg) (Nat.le_refl _)).more m.size⟩
theorem Few.bd {q : Q} (h : Few q) : Bd 8 q := ⟨Nat.lt_trans h.2.1 (by decide), by have := h.2.2.1; omega, by have := h.2.2.2; omega⟩
/-- Three numbers in variables of their own. -/
theorem tri_bx (w : World) (a b d : Q) (Aa Ab Ac : Option Addr) (na ca nb cb nc cc : Nat) :
    Bx (((w.alloc (.cells #[.bool a.s, .int .i64 a.e, .slice Aa na ca] 24)).alloc (.cells #[.bool b.s, .int .i64 b.e, .slice Ab nb cb] 24)).alloc (.cells #[.bool d.s, .int .i64 d.e, .slice Ac nc cc] 24)) w.heap.size a.s a.e Aa na ca ∧ Bx (((w.alloc (.cells #[.bool a.s, .int .i64 a.e, .slice Aa na ca] 24)).alloc (.cells #[.bool b.s, .int .i64 b.e, .slice Ab nb cb] 24)).alloc (.cells #[.bool d.s, .int .i64 d.e, .slice Ac nc cc] 24)) (w.heap.size + 1) b.s b.e Ab nb cb ∧
    Bx (((w.alloc (.cells #[.bool a.s, .int .i64 a.e, .slice Aa na ca] 24)).alloc (.cells #[.bool b.s, .int .i64 b.e, .slice Ab nb cb] 24)).alloc (.cells #[.bool d.s, .int .i64 d.e, .slice Ac nc cc] 24)) (w.heap.size + 1 + 1) d.s d.e Ac nc cc ∧ Below w.heap.size w (((w.alloc (.cells #[.bool a.s, .int .i64 a.e, .slice Aa na ca] 24)).alloc (.cells #[.bool b.s, .int .i64 b.e, .slice Ab nb cb] 24)).alloc (.cells #[.bool d.s, .int .i64 d.e, .slice Ac nc cc] 24)) := by
  obtain ⟨k1, k2, b2⟩ := two_bx w a.s b.s a.e b.e Aa Ab na ca nb cb
  refine ⟨k1.step (one_below _ _), k2.step (one_below _ _), ?_, below_step b2 (one_below _ _)⟩
  have := Bx.new ((w.alloc (.cells #[.bool a.s, .int .i64 a.e, .slice Aa na ca] 24)).alloc (.cells #[.bool b.s, .int .i64 b.e, .slice Ab nb cb] 24)) d.s d.e Ac nc cc
  rwa [show ((w.alloc (.cells #[.bool a.s, .int .i64 a.e, .slice Aa na ca] 24)).alloc (.cells #[.bool b.s, .int .i64 b.e, .slice Ab nb cb] 24)).heap.size = w.heap.size + 1 + 1 by simp] at this

set_option maxRecDepth 100000 in
set_option maxHeartbeats 8000000 in
theorem ringsn_walk (hk : ∀ w : World, Tab w → Calls Tryd.prog 12 #[] w (BoolPost w true)) (w : World) (A : Option Addr) (n c : Nat) (xs : List Nat) (ha : Arg w A n c xs) (ht : Tab w) :
    Calls Tryd.prog 10 #[.slice A n c] w (LawPost w) := by
  have HA := Lib.hid ha; have HT := Lib.hid ht
  have C := Lib.hid (hk _ ht)
  clear ha ht hk
  go_enter Tryd.func10, Tryd.ntmps10
  go_wp2_with fail
  refine C.out.mono ?_
  rintro _ w1 ⟨rfl, b⟩
  have BB := Lib.hid b
  have D := Lib.hid (sof_any w1 A n c)
  clear b C
  go_wp2_with fail
  refine D.out.mono ?_
  rintro _ w2 ⟨rfl, dk, b⟩
  obtain ⟨g, hg⟩ : ∃ g, g = w1.heap.size := ⟨_, rfl⟩
  rw [← hg] at dk ⊢
  have hwg : w.heap.size ≤ g := by rw [hg]; exact BB.out.size
  replace BB := Lib.hid (below_step BB.out b)
  have DK := Lib.hid dk
  have hg2 : g < w2.heap.size := dk.lt
  clear b D dk hg
  have D := Lib.hid (small_any w2 g 0 w.heap.size A n c 0 xs DK.out (HA.out.1.below BB.out) HA.out.2 (by omega) BB.out.size)
  go_wp2_with fail
  refine D.out.mono ?_
  clear D
  rintro _ w3 ⟨qa, _, fa, rfl, na', dk, m⟩
  have Fa := Lib.hid fa; have Na := Lib.hid na'
  replace DK := Lib.hid dk
  replace BB := Lib.hid (Mv.below BB.out m hwg BB.out.size)
  have sz3 : w2.heap.size ≤ w3.heap.size := m.size
  clear fa na' dk m
  have D := Lib.hid (small_any w3 g 0 w.heap.size A n c 1 xs DK.out (HA.out.1.below BB.out) HA.out.2 (by omega) BB.out.size)
  go_wp2_with fail
  refine D.out.mono ?_
  clear D
  rintro _ w4 ⟨qb, _, fb, rfl, nb', dk, m⟩
  have Fb := Lib.hid fb; have Nb := Lib.hid nb'
  replace DK := Lib.hid dk
  replace BB := Lib.hid (Mv.below BB.out m hwg BB.out.size)
  have sz4 : w3.heap.size ≤ w4.heap.size := m.size
  replace Na := Lib.hid (Na.out.mv m (by omega))
  clear fb nb' dk m
  have D := Lib.hid (small_any w4 g 0 w.heap.size A n c 2 xs DK.out (HA.out.1.below BB.out) HA.out.2 (by omega) BB.out.size)
  go_wp2_with fail
  refine D.out.mono ?_
  clear D
  rintro _ w5 ⟨qc, _, fc, rfl, nc', dk, m⟩
  have Fc := Lib.hid fc; have Nc := Lib.hid nc'
  replace DK := Lib.hid dk
  replace BB := Lib.hid (Mv.below BB.out m hwg BB.out.size)
  have sz5 : w4.heap.size ≤ w5.heap.size := m.size
  replace Na := Lib.hid (Na.out.mv m (by omega))
  replace Nb := Lib.hid (Nb.out.mv m (by omega))
  clear fc nc' dk m
  obtain ⟨Aa, na, ca, rfl, ia⟩ := Na.out
  obtain ⟨Ab, nb, cb, rfl, ib⟩ := Nb.out
  obtain ⟨Ac, nc, cc, rfl, ic⟩ := Nc.out
  obtain ⟨k1, k2, k3, b0⟩ := tri_bx w5 qa qb qc Aa Ab Ac na ca nb cb nc cc
  have Ka := Lib.hid k1; have Kb := Lib.hid k2; have Kc := Lib.hid k3
  have Ia := Lib.hid (Is.step (num_is ia) b0); have Ib := Lib.hid (Is.step (num_is ib) b0); have Ic := Lib.hid (Is.step (num_is ic) b0)
  have Va := Lib.hid Fa.out.valid; have Vb := Lib.hid Fb.out.valid; have Vc := Lib.hid Fc.out.valid
  replace BB := Lib.hid (below_step BB.out b0)
  clear k1 k2 k3 b0 ia ib ic Na Nb Nc DK sz3 sz4 sz5
  have Xa := Fa.out.bd; have Xb := Fb.out.bd; have Xc := Fc.out.bd
  have X1 := bd_plus Xb Xc
  have X2 := bd_times (Xa.mono (show 8 ≤ 8 + (3 * 8 + 1) by omega)) X1
  have X3 := bd_times Xa Xb
  have X4 := bd_times Xc Xa
  have X5 := bd_plus X4 X3
  have X6 := bd_minus X5 (X3.mono (show 2 * 8 + 2 * 8 ≤ 2 * 8 + 2 * 8 + (3 * (2 * 8 + 2 * 8) + 1) by omega))
  have la : -((8 : Nat) : Int) ≤ qa.e := Xa.2.1
  have lb : -((8 : Nat) : Int) ≤ qb.e := Xb.2.1
  have lc : -((8 : Nat) : Int) ≤ qc.e := Xc.2.1
  have E1 := ring_mul la lb lc
  have E2 := ring_sub (a := times qc qa) (b := times qa qb) (low_times lc la) (low_times la lb) (ofz_canon _ _) (ofz_canon _ _)
  have V1 := Lib.hid (show Valid (plus qb qc) from ⟨ofz_canon _ _, X1.fits (by omega)⟩)
  have V2 := Lib.hid (show Valid (times qa (plus qb qc)) from ⟨ofz_canon _ _, X2.fits (by omega)⟩)
  have V3 := Lib.hid (show Valid (times qa qb) from ⟨ofz_canon _ _, X3.fits (by omega)⟩)
  have V4 := Lib.hid (show Valid (times qc qa) from ⟨ofz_canon _ _, X4.fits (by omega)⟩)
  have V5 := Lib.hid (show Valid (plus (times qc qa) (times qa qb)) from ⟨ofz_canon _ _, X5.fits (by omega)⟩)
  rw [E1] at V2
  have P1 := Lib.hid (res_ok V1.out.2); have P2 := Lib.hid (show res (times qa (plus qb qc)) = (plus (times qc qa) (times qa qb), 0) by rw [E1]; exact res_ok V5.out.2); have P3 := Lib.hid (res_ok V3.out.2); have P4 := Lib.hid (res_ok V4.out.2); have P5 := Lib.hid (res_ok V5.out.2); have P6 := Lib.hid (show res (minus (plus (times qc qa) (times qa qb)) (times qa qb)) = (times qc qa, 0) by rw [E2]; exact res_ok V4.out.2)
  clear Xa Xb Xc X1 X2 X3 X4 X5 X6 la lb lc E1 E2 V2
  obtain ⟨q1, hq1⟩ : ∃ q, q = plus qb qc := ⟨_, rfl⟩
  obtain ⟨q3, hq3⟩ : ∃ q, q = times qa qb := ⟨_, rfl⟩
  obtain ⟨q4, hq4⟩ : ∃ q, q = times qc qa := ⟨_, rfl⟩
  obtain ⟨q5, hq5⟩ : ∃ q, q = plus q4 q3 := ⟨_, rfl⟩
  rw [← hq1] at V1 P2
  rw [← hq3] at V3 V5 P2 P5 P6
  rw [← hq4] at V4 V5 P2 P5 P6
  rw [← hq5] at V5 P2 P6
  have R1 : Hid (res (plus qb qc) = (q1, 0)) := by rw [hq1]; exact P1
  have R2 : Hid (res (times qa q1) = (q5, 0)) := P2
  have R3 : Hid (res (times qa qb) = (q3, 0)) := by rw [hq3]; exact P3
  have R4 : Hid (res (times qc qa) = (q4, 0)) := by rw [hq4]; exact P4
  have R5 : Hid (res (plus q4 q3) = (q5, 0)) := by rw [hq5]; exact P5
  have R6 : Hid (res (minus q5 q3) = (q4, 0)) := P6
  clear hq1 hq3 hq4 hq5 P1 P2 P3 P4 P5 P6
  have D := Lib.hid (nadd_v (a := qb) (b := qc) Ib.out Ic.out Vb.out Vc.out (HT.out.below BB.out))
  rw [R1.out] at D
  go_wp2_with fail
  refine D.out.mono ?_
  clear D
  rintro _ w6 ⟨_, rfl, ⟨Ad, nd, cd, rfl, hh⟩, b⟩
  replace Ka := Lib.hid (Ka.out.step b)
  replace Ia := Lib.hid (Ia.out.step b)
  replace Kb := Lib.hid (Kb.out.step b)
  replace Ib := Lib.hid (Ib.out.step b)
  replace Kc := Lib.hid (Kc.out.step b)
  replace Ic := Lib.hid (Ic.out.step b)
  have obd := one_below w6 (.cells #[.bool q1.s, .int .i64 q1.e, .slice Ad nd cd] 24)
  have Id := Lib.hid (Is.step (num_is hh) obd); have Kd := Lib.hid (Bx.new w6 q1.s q1.e Ad nd cd)
  replace BB := Lib.hid (below_step (below_step BB.out b) obd)
  clear hh b
  have Ka0 := Ka.out.c0; have Ka1 := Ka.out.c1; have Ka2 := Ka.out.c2; have Kal := Ka.out.lt
  have Kb0 := Kb.out.c0; have Kb1 := Kb.out.c1; have Kb2 := Kb.out.c2; have Kbl := Kb.out.lt
  have Kc0 := Kc.out.c0; have Kc1 := Kc.out.c1; have Kc2 := Kc.out.c2; have Kcl := Kc.out.lt
  have D := Lib.hid (nmul_v (a := qa) (b := q1) (Ia.out.step obd) Id.out Va.out V1.out (HT.out.below BB.out))
  rw [R2.out] at D
  go_wp2_with fail
  refine D.out.mono ?_
  clear D
  rintro _ w7 ⟨_, rfl, ⟨Ax, nx, cx, rfl, hh⟩, b⟩
  clear Ka0 Ka1 Ka2 Kal Kb0 Kb1 Kb2 Kbl Kc0 Kc1 Kc2 Kcl
  replace Ka := Lib.hid (Ka.out.step (below_step obd b))
  replace Ia := Lib.hid (Ia.out.step (below_step obd b))
  replace Kb := Lib.hid (Kb.out.step (below_step obd b))
  replace Ib := Lib.hid (Ib.out.step (below_step obd b))
  replace Kc := Lib.hid (Kc.out.step (below_step obd b))
  replace Ic := Lib.hid (Ic.out.step (below_step obd b))
  replace Kd := Lib.hid (Kd.out.step b)
  replace Id := Lib.hid (Id.out.step b)
  have obx := one_below w7 (.cells #[.bool q5.s, .int .i64 q5.e, .slice Ax nx cx] 24)
  have Ix := Lib.hid (Is.step (num_is hh) obx); have Kx := Lib.hid (Bx.new w7 q5.s q5.e Ax nx cx)
  replace BB := Lib.hid (below_step (below_step BB.out b) obx)
  clear hh b
  clear obd
  have Ka0 := Ka.out.c0; have Ka1 := Ka.out.c1; have Ka2 := Ka.out.c2; have Kal := Ka.out.lt
  have Kb0 := Kb.out.c0; have Kb1 := Kb.out.c1; have Kb2 := Kb.out.c2; have Kbl := Kb.out.lt
  have Kc0 := Kc.out.c0; have Kc1 := Kc.out.c1; have Kc2 := Kc.out.c2; have Kcl := Kc.out.lt
  have Kd0 := Kd.out.c0; have Kd1 := Kd.out.c1; have Kd2 := Kd.out.c2; have Kdl := Kd.out.lt
  have D := Lib.hid (nmul_v (a := qa) (b := qb) (Ia.out.step obx) (Ib.out.step obx) Va.out Vb.out (HT.out.below BB.out))
  rw [R3.out] at D
  go_wp2_with fail
  refine D.out.mono ?_
  clear D
  rintro _ w8 ⟨_, rfl, ⟨Af, nf, cf, rfl, hh⟩, b⟩
  clear Ka0 Ka1 Ka2 Kal Kb0 Kb1 Kb2 Kbl Kc0 Kc1 Kc2 Kcl Kd0 Kd1 Kd2 Kdl
  replace Ka := Lib.hid (Ka.out.step (below_step obx b))
  replace Ia := Lib.hid (Ia.out.step (below_step obx b))
  replace Kb := Lib.hid (Kb.out.step (below_step obx b))
  replace Ib := Lib.hid (Ib.out.step (below_step obx b))
  replace Kc := Lib.hid (Kc.out.step (below_step obx b))
  replace Ic := Lib.hid (Ic.out.step (below_step obx b))
  replace Kd := Lib.hid (Kd.out.step (below_step obx b))
  replace Id := Lib.hid (Id.out.step (below_step obx b))
  replace Kx := Lib.hid (Kx.out.step b)
  replace Ix := Lib.hid (Ix.out.step b)
  have obf := one_below w8 (.cells #[.bool q3.s, .int .i64 q3.e, .slice Af nf cf] 24)
  have If := Lib.hid (Is.step (num_is hh) obf); have Kf := Lib.hid (Bx.new w8 q3.s q3.e Af nf cf)
  replace BB := Lib.hid (below_step (below_step BB.out b) obf)
  clear hh b
  clear obx
  have Ka0 := Ka.out.c0; have Ka1 := Ka.out.c1; have Ka2 := Ka.out.c2; have Kal := Ka.out.lt
  have Kb0 := Kb.out.c0; have Kb1 := Kb.out.c1; have Kb2 := Kb.out.c2; have Kbl := Kb.out.lt
  have Kc0 := Kc.out.c0; have Kc1 := Kc.out.c1; have Kc2 := Kc.out.c2; have Kcl := Kc.out.lt
  have Kd0 := Kd.out.c0; have Kd1 := Kd.out.c1; have Kd2 := Kd.out.c2; have Kdl := Kd.out.lt
  have Kx0 := Kx.out.c0; have Kx1 := Kx.out.c1; have Kx2 := Kx.out.c2; have Kxl := Kx.out.lt
  have D := Lib.hid (nmul_v (a := qc) (b := qa) (Ic.out.step obf) (Ia.out.step obf) Vc.out Va.out (HT.out.below BB.out))
  rw [R4.out] at D
  go_wp2_with fail
  refine D.out.mono ?_
  clear D
  rintro _ w9 ⟨_, rfl, ⟨Ah, nh, ch, rfl, hh⟩, b⟩
  clear Ka0 Ka1 Ka2 Kal Kb0 Kb1 Kb2 Kbl Kc0 Kc1 Kc2 Kcl Kd0 Kd1 Kd2 Kdl Kx0 Kx1 Kx2 Kxl
  replace Ka := Lib.hid (Ka.out.step (below_step obf b))
  replace Ia := Lib.hid (Ia.out.step (below_step obf b))
  replace Kb := Lib.hid (Kb.out.step (below_step obf b))
  replace Ib := Lib.hid (Ib.out.step (below_step obf b))
  replace Kc := Lib.hid (Kc.out.step (below_step obf b))
  replace Ic := Lib.hid (Ic.out.step (below_step obf b))
  replace Kd := Lib.hid (Kd.out.step (below_step obf b))
  replace Id := Lib.hid (Id.out.step (below_step obf b))
  replace Kx := Lib.hid (Kx.out.step (below_step obf b))
  replace Ix := Lib.hid (Ix.out.step (below_step obf b))
  replace Kf := Lib.hid (Kf.out.step b)
  replace If := Lib.hid (If.out.step b)
  have obh := one_below w9 (.cells #[.bool q4.s, .int .i64 q4.e, .slice Ah nh ch] 24)
  have Ih := Lib.hid (Is.step (num_is hh) obh); have Kh := Lib.hid (Bx.new w9 q4.s q4.e Ah nh ch)
  replace BB := Lib.hid (below_step (below_step BB.out b) obh)
  clear hh b
  clear obf
  have Ka0 := Ka.out.c0; have Ka1 := Ka.out.c1; have Ka2 := Ka.out.c2; have Kal := Ka.out.lt
  have Kb0 := Kb.out.c0; have Kb1 := Kb.out.c1; have Kb2 := Kb.out.c2; have Kbl := Kb.out.lt
  have Kc0 := Kc.out.c0; have Kc1 := Kc.out.c1; have Kc2 := Kc.out.c2; have Kcl := Kc.out.lt
  have Kd0 := Kd.out.c0; have Kd1 := Kd.out.c1; have Kd2 := Kd.out.c2; have Kdl := Kd.out.lt
  have Kx0 := Kx.out.c0; have Kx1 := Kx.out.c1; have Kx2 := Kx.out.c2; have Kxl := Kx.out.lt
  have Kf0 := Kf.out.c0; have Kf1 := Kf.out.c1; have Kf2 := Kf.out.c2; have Kfl := Kf.out.lt
  have D := Lib.hid (nadd_v (a := q4) (b := q3) Ih.out (If.out.step obh) V4.out V3.out (HT.out.below BB.out))
  rw [R5.out] at D
  go_wp2_with fail
  refine D.out.mono ?_
  clear D
  rintro _ w10 ⟨_, rfl, ⟨Ay, ny, cy, rfl, hh⟩, b⟩
  clear Ka0 Ka1 Ka2 Kal Kb0 Kb1 Kb2 Kbl Kc0 Kc1 Kc2 Kcl Kd0 Kd1 Kd2 Kdl Kx0 Kx1 Kx2 Kxl Kf0 Kf1 Kf2 Kfl
  replace Ka := Lib.hid (Ka.out.step (below_step obh b))
  replace Ia := Lib.hid (Ia.out.step (below_step obh b))
  replace Kb := Lib.hid (Kb.out.step (below_step obh b))
  replace Ib := Lib.hid (Ib.out.step (below_step obh b))
  replace Kc := Lib.hid (Kc.out.step (below_step obh b))
  replace Ic := Lib.hid (Ic.out.step (below_step obh b))
  replace Kd := Lib.hid (Kd.out.step (below_step obh b))
  replace Id := Lib.hid (Id.out.step (below_step obh b))
  replace Kx := Lib.hid (Kx.out.step (below_step obh b))
  replace Ix := Lib.hid (Ix.out.step (below_step obh b))
  replace Kf := Lib.hid (Kf.out.step (below_step obh b))
  replace If := Lib.hid (If.out.step (below_step obh b))
  replace Kh := Lib.hid (Kh.out.step b)
  replace Ih := Lib.hid (Ih.out.step b)
  have oby := one_below w10 (.cells #[.bool q5.s, .int .i64 q5.e, .slice Ay ny cy] 24)
  have Iy := Lib.hid (Is.step (num_is hh) oby); have Ky := Lib.hid (Bx.new w10 q5.s q5.e Ay ny cy)
  replace BB := Lib.hid (below_step (below_step BB.out b) oby)
  clear hh b
  clear obh
  have Ka0 := Ka.out.c0; have Ka1 := Ka.out.c1; have Ka2 := Ka.out.c2; have Kal := Ka.out.lt
  have Kb0 := Kb.out.c0; have Kb1 := Kb.out.c1; have Kb2 := Kb.out.c2; have Kbl := Kb.out.lt
  have Kc0 := Kc.out.c0; have Kc1 := Kc.out.c1; have Kc2 := Kc.out.c2; have Kcl := Kc.out.lt
  have Kd0 := Kd.out.c0; have Kd1 := Kd.out.c1; have Kd2 := Kd.out.c2; have Kdl := Kd.out.lt
  have Kx0 := Kx.out.c0; have Kx1 := Kx.out.c1; have Kx2 := Kx.out.c2; have Kxl := Kx.out.lt
  have Kf0 := Kf.out.c0; have Kf1 := Kf.out.c1; have Kf2 := Kf.out.c2; have Kfl := Kf.out.lt
  have Kh0 := Kh.out.c0; have Kh1 := Kh.out.c1; have Kh2 := Kh.out.c2; have Khl := Kh.out.lt
  have D := Lib.hid (nsub_v (a := q5) (b := q3) Iy.out (If.out.step oby) V5.out V3.out (HT.out.below BB.out))
  rw [R6.out] at D
  go_wp2_with fail
  refine D.out.mono ?_
  clear D
  rintro _ w11 ⟨_, rfl, ⟨Az, nz, cz, rfl, hh⟩, b⟩
  clear Ka0 Ka1 Ka2 Kal Kb0 Kb1 Kb2 Kbl Kc0 Kc1 Kc2 Kcl Kd0 Kd1 Kd2 Kdl Kx0 Kx1 Kx2 Kxl Kf0 Kf1 Kf2 Kfl Kh0 Kh1 Kh2 Khl
  replace Ka := Lib.hid (Ka.out.step (below_step oby b))
  replace Ia := Lib.hid (Ia.out.step (below_step oby b))
  replace Kb := Lib.hid (Kb.out.step (below_step oby b))
  replace Ib := Lib.hid (Ib.out.step (below_step oby b))
  replace Kc := Lib.hid (Kc.out.step (below_step oby b))
  replace Ic := Lib.hid (Ic.out.step (below_step oby b))
  replace Kd := Lib.hid (Kd.out.step (below_step oby b))
  replace Id := Lib.hid (Id.out.step (below_step oby b))
  replace Kx := Lib.hid (Kx.out.step (below_step oby b))
  replace Ix := Lib.hid (Ix.out.step (below_step oby b))
  replace Kf := Lib.hid (Kf.out.step (below_step oby b))
  replace If := Lib.hid (If.out.step (below_step oby b))
  replace Kh := Lib.hid (Kh.out.step (below_step oby b))
  replace Ih := Lib.hid (Ih.out.step (below_step oby b))
  replace Ky := Lib.hid (Ky.out.step b)
  replace Iy := Lib.hid (Iy.out.step b)
  have obz := one_below w11 (.cells #[.bool q4.s, .int .i64 q4.e, .slice Az nz cz] 24)
  have Iz := Lib.hid (Is.step (num_is hh) obz); have Kz := Lib.hid (Bx.new w11 q4.s q4.e Az nz cz)
  replace BB := Lib.hid (below_step (below_step BB.out b) obz)
  clear hh b
  clear oby
  have Ka0 := Ka.out.c0; have Ka1 := Ka.out.c1; have Ka2 := Ka.out.c2; have Kal := Ka.out.lt
  have Kb0 := Kb.out.c0; have Kb1 := Kb.out.c1; have Kb2 := Kb.out.c2; have Kbl := Kb.out.lt
  have Kc0 := Kc.out.c0; have Kc1 := Kc.out.c1; have Kc2 := Kc.out.c2; have Kcl := Kc.out.lt
  have Kd0 := Kd.out.c0; have Kd1 := Kd.out.c1; have Kd2 := Kd.out.c2; have Kdl := Kd.out.lt
  have Kx0 := Kx.out.c0; have Kx1 := Kx.out.c1; have Kx2 := Kx.out.c2; have Kxl := Kx.out.lt
  have Kf0 := Kf.out.c0; have Kf1 := Kf.out.c1; have Kf2 := Kf.out.c2; have Kfl := Kf.out.lt
  have Kh0 := Kh.out.c0; have Kh1 := Kh.out.c1; have Kh2 := Kh.out.c2; have Khl := Kh.out.lt
  have Ky0 := Ky.out.c0; have Ky1 := Ky.out.c1; have Ky2 := Ky.out.c2; have Kyl := Ky.out.lt
  have D := Lib.hid (nsame_v (a := q5) (b := q5) (Ix.out.step obz) (Iy.out.step obz) V5.out V5.out)
  rw [sameb_self] at D
  go_wp2_with fail
  refine D.out.mono ?_
  clear D
  rintro _ w12 ⟨rfl, b⟩
  clear Ka0 Ka1 Ka2 Kal Kb0 Kb1 Kb2 Kbl Kc0 Kc1 Kc2 Kcl Kd0 Kd1 Kd2 Kdl Kx0 Kx1 Kx2 Kxl Kf0 Kf1 Kf2 Kfl Kh0 Kh1 Kh2 Khl Ky0 Ky1 Ky2 Kyl
  replace Ka := Lib.hid (Ka.out.step (below_step obz b))
  replace Ia := Lib.hid (Ia.out.step (below_step obz b))
  replace Kb := Lib.hid (Kb.out.step (below_step obz b))
  replace Ib := Lib.hid (Ib.out.step (below_step obz b))
  replace Kc := Lib.hid (Kc.out.step (below_step obz b))
  replace Ic := Lib.hid (Ic.out.step (below_step obz b))
  replace Kd := Lib.hid (Kd.out.step (below_step obz b))
  replace Id := Lib.hid (Id.out.step (below_step obz b))
  replace Kx := Lib.hid (Kx.out.step (below_step obz b))
  replace Ix := Lib.hid (Ix.out.step (below_step obz b))
  replace Kf := Lib.hid (Kf.out.step (below_step obz b))
  replace If := Lib.hid (If.out.step (below_step obz b))
  replace Kh := Lib.hid (Kh.out.step (below_step obz b))
  replace Ih := Lib.hid (Ih.out.step (below_step obz b))
  replace Ky := Lib.hid (Ky.out.step (below_step obz b))
  replace Iy := Lib.hid (Iy.out.step (below_step obz b))
  replace Kz := Lib.hid (Kz.out.step b)
  replace Iz := Lib.hid (Iz.out.step b)
  replace BB := Lib.hid (below_step BB.out b)
  clear b obz
  have Ka0 := Ka.out.c0; have Ka1 := Ka.out.c1; have Ka2 := Ka.out.c2; have Kal := Ka.out.lt
  have Kb0 := Kb.out.c0; have Kb1 := Kb.out.c1; have Kb2 := Kb.out.c2; have Kbl := Kb.out.lt
  have Kc0 := Kc.out.c0; have Kc1 := Kc.out.c1; have Kc2 := Kc.out.c2; have Kcl := Kc.out.lt
  have Kd0 := Kd.out.c0; have Kd1 := Kd.out.c1; have Kd2 := Kd.out.c2; have Kdl := Kd.out.lt
  have Kx0 := Kx.out.c0; have Kx1 := Kx.out.c1; have Kx2 := Kx.out.c2; have Kxl := Kx.out.lt
  have Kf0 := Kf.out.c0; have Kf1 := Kf.out.c1; have Kf2 := Kf.out.c2; have Kfl := Kf.out.lt
  have Kh0 := Kh.out.c0; have Kh1 := Kh.out.c1; have Kh2 := Kh.out.c2; have Khl := Kh.out.lt
  have Ky0 := Ky.out.c0; have Ky1 := Ky.out.c1; have Ky2 := Ky.out.c2; have Kyl := Ky.out.lt
  have Kz0 := Kz.out.c0; have Kz1 := Kz.out.c1; have Kz2 := Kz.out.c2; have Kzl := Kz.out.lt
  have D := Lib.hid (nsame_v (a := q4) (b := q4) Iz.out Ih.out V4.out V4.out)
  rw [sameb_self] at D
  go_wp2_with fail
  refine D.out.mono ?_
  clear D
  rintro _ w13 ⟨rfl, b⟩
  clear Ka0 Ka1 Ka2 Kal Kb0 Kb1 Kb2 Kbl Kc0 Kc1 Kc2 Kcl Kd0 Kd1 Kd2 Kdl Kx0 Kx1 Kx2 Kxl Kf0 Kf1 Kf2 Kfl Kh0 Kh1 Kh2 Khl Ky0 Ky1 Ky2 Kyl Kz0 Kz1 Kz2 Kzl
  replace Ka := Lib.hid (Ka.out.step b)
  replace Ia := Lib.hid (Ia.out.step b)
  replace Kb := Lib.hid (Kb.out.step b)
  replace Ib := Lib.hid (Ib.out.step b)
  replace Kc := Lib.hid (Kc.out.step b)
  replace Ic := Lib.hid (Ic.out.step b)
  replace Kd := Lib.hid (Kd.out.step b)
  replace Id := Lib.hid (Id.out.step b)
  replace Kx := Lib.hid (Kx.out.step b)
  replace Ix := Lib.hid (Ix.out.step b)
  replace Kf := Lib.hid (Kf.out.step b)
  replace If := Lib.hid (If.out.step b)
  replace Kh := Lib.hid (Kh.out.step b)
  replace Ih := Lib.hid (Ih.out.step b)
  replace Ky := Lib.hid (Ky.out.step b)
  replace Iy := Lib.hid (Iy.out.step b)
  replace Kz := Lib.hid (Kz.out.step b)
  replace Iz := Lib.hid (Iz.out.step b)
  replace BB := Lib.hid (below_step BB.out b)
  clear b
  have Ka0 := Ka.out.c0; have Ka1 := Ka.out.c1; have Ka2 := Ka.out.c2; have Kal := Ka.out.lt
  have Kb0 := Kb.out.c0; have Kb1 := Kb.out.c1; have Kb2 := Kb.out.c2; have Kbl := Kb.out.lt
  have Kc0 := Kc.out.c0; have Kc1 := Kc.out.c1; have Kc2 := Kc.out.c2; have Kcl := Kc.out.lt
  have Kd0 := Kd.out.c0; have Kd1 := Kd.out.c1; have Kd2 := Kd.out.c2; have Kdl := Kd.out.lt
  have Kx0 := Kx.out.c0; have Kx1 := Kx.out.c1; have Kx2 := Kx.out.c2; have Kxl := Kx.out.lt
  have Kf0 := Kf.out.c0; have Kf1 := Kf.out.c1; have Kf2 := Kf.out.c2; have Kfl := Kf.out.lt
  have Kh0 := Kh.out.c0; have Kh1 := Kh.out.c1; have Kh2 := Kh.out.c2; have Khl := Kh.out.lt
  have Ky0 := Ky.out.c0; have Ky1 := Ky.out.c1; have Ky2 := Ky.out.c2; have Kyl := Ky.out.lt
  have Kz0 := Kz.out.c0; have Kz1 := Kz.out.c1; have Kz2 := Kz.out.c2; have Kzl := Kz.out.lt
  have D := Lib.hid (nright_v (a := q5) Ix.out V5.out)
  go_wp2_with fail
  refine D.out.mono ?_
  clear D
  rintro _ w14 ⟨rfl, b⟩
  clear Ka0 Ka1 Ka2 Kal Kb0 Kb1 Kb2 Kbl Kc0 Kc1 Kc2 Kcl Kd0 Kd1 Kd2 Kdl Kx0 Kx1 Kx2 Kxl Kf0 Kf1 Kf2 Kfl Kh0 Kh1 Kh2 Khl Ky0 Ky1 Ky2 Kyl Kz0 Kz1 Kz2 Kzl
  replace Ka := Lib.hid (Ka.out.step b)
  replace Ia := Lib.hid (Ia.out.step b)
  replace Kb := Lib.hid (Kb.out.step b)
  replace Ib := Lib.hid (Ib.out.step b)
  replace Kc := Lib.hid (Kc.out.step b)
  replace Ic := Lib.hid (Ic.out.step b)
  replace Kd := Lib.hid (Kd.out.step b)
  replace Id := Lib.hid (Id.out.step b)
  replace Kx := Lib.hid (Kx.out.step b)
  replace Ix := Lib.hid (Ix.out.step b)
  replace Kf := Lib.hid (Kf.out.step b)
  replace If := Lib.hid (If.out.step b)
  replace Kh := Lib.hid (Kh.out.step b)
  replace Ih := Lib.hid (Ih.out.step b)
  replace Ky := Lib.hid (Ky.out.step b)
  replace Iy := Lib.hid (Iy.out.step b)
  replace Kz := Lib.hid (Kz.out.step b)
  replace Iz := Lib.hid (Iz.out.step b)
  replace BB := Lib.hid (below_step BB.out b)
  clear b
  go_wp2
  go_ret
  exact ⟨rfl, BB.out⟩
end Go.Proofs.YtimkifkikcohgaaDoor
