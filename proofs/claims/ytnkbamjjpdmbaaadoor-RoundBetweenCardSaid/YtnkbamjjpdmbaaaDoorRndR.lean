/- The laws of round, walked: RoundBetween. -/
import Derived.Test.YtnkbamjjpdmbaaaDoorRndLO
import Derived.Test.YtnkbamjjpdmbaaaDoorSeatY
import Derived.Test.YtnkbamjjpdmbaaaDoorMathS
import Derived.Test.YtnkbamjjpdmbaaaDoorReg
namespace Go.Proofs.YtnkbamjjpdmbaaaDoor
open Go.RowKit Nx

/-- Two numbers and three empty variables. -/
theorem five_bx (w5 : World) (qa qb : Q) (Aa Ab : Option Addr) (na ca nb cb : Nat) : ∃ W, W = ((((w5.alloc (.cells #[.bool qa.s, .int .i64 qa.e, .slice Aa na ca] 24)).alloc (.cells #[.bool qb.s, .int .i64 qb.e, .slice Ab nb cb] 24)).alloc (.cells #[.bool false, .int .i64 0, .slice none 0 0] 24)).alloc (.cells #[.bool false, .int .i64 0, .slice none 0 0] 24)).alloc (.cells #[.bool false, .int .i64 0, .slice none 0 0] 24) ∧ W.heap.size = w5.heap.size + 5 ∧
    Bx W w5.heap.size qa.s qa.e Aa na ca ∧ Bx W (w5.heap.size + 1) qb.s qb.e Ab nb cb ∧ Bx W (w5.heap.size + 1 + 1) false 0 none 0 0 ∧ Bx W (w5.heap.size + 1 + 1 + 1) false 0 none 0 0 ∧ Bx W (w5.heap.size + 1 + 1 + 1 + 1) false 0 none 0 0 ∧ Below w5.heap.size w5 W := by
  obtain ⟨k1, k2, k3, b3⟩ := three_bx w5 qa.s qb.s qa.e qb.e Aa Ab na ca nb cb
  refine ⟨_, rfl, by simp, ?_⟩
  obtain ⟨W3, hW3⟩ : ∃ W3, W3 = ((w5.alloc (.cells #[.bool qa.s, .int .i64 qa.e, .slice Aa na ca] 24)).alloc (.cells #[.bool qb.s, .int .i64 qb.e, .slice Ab nb cb] 24)).alloc (.cells #[.bool false, .int .i64 0, .slice none 0 0] 24) := ⟨_, rfl⟩
  have s3 : W3.heap.size = w5.heap.size + 1 + 1 + 1 := by rw [hW3]; simp
  rw [← hW3] at k1 k2 k3 b3 ⊢
  obtain ⟨j1, j2, c2⟩ := two_bx W3 false false 0 0 none none 0 0 0 0
  rw [s3] at j1 j2
  exact ⟨k1.step c2, k2.step c2, k3.step c2, j1, j2, below_step b3 c2⟩
/-- A slice whose words lie outside the five variables. -/
def Out5 (S : Nat) (A : Option Addr) (n : Nat) : Prop := ∀ ad, 0 < n → A = some ad → ad.block < S ∨ S + 5 ≤ ad.block
theorem Out5.lo {S : Nat} {w : World} {A : Option Addr} {n c lo : Nat} {xs : List Nat} (h : Rd .u64 w lo S A n c xs) : Out5 S A n := fun ad h0 hA => by
  obtain ⟨ad', hA', _, hlt, _⟩ := h.2.2 h0
  rw [hA] at hA'; injection hA' with hA'; rw [hA']; exact .inl hlt
theorem Out5.hi {S lo hi : Nat} {w : World} {A : Option Addr} {n c : Nat} {xs : List Nat} (h : Rd .u64 w lo hi A n c xs) (hl : S + 5 ≤ lo) : Out5 S A n := fun ad h0 hA => by
  obtain ⟨ad', hA', hl', _, _⟩ := h.2.2 h0
  rw [hA] at hA'; injection hA' with hA'; rw [hA']; exact .inr (by omega)
theorem is_put {S g : Nat} {w : World} {A : Option Addr} {n c N : Nat} (h : Is w A n c N) (ho : Out5 S A n) (h1 : S ≤ g) (h2 : g < S + 5) (x y z : Value) : Is (put3 w g x y z) A n c N := by
  unfold Is
  rw [size_put3]
  exact Rd.put_ne h (fun ad h0 hA => by have := ho ad h0 hA; omega) x y z
theorem bx_far {w : World} {g h : Nat} {s : Bool} {e : Int} {A : Option Addr} {n c : Nat} (k : Bx w g s e A n c) (hh : g ≠ h) (x y z : Value) : Bx (put3 w h x y z) g s e A n c := by
  unfold put3
  exact Blk.far (Blk.far (Blk.far k hh _) hh _) hh _

set_option maxRecDepth 100000 in
set_option maxHeartbeats 8000000 in
theorem rbetween_walk (w : World) (A : Option Addr) (n c : Nat) (xs : List Nat) (u : Nat) (hu : u ≤ 255) (ha : Arg w A n c xs) (ht : Tab w) :
    Calls Tryd.prog 6 #[.slice A n c, .int .u8 (u : Int)] w (LawPost w) := by
  have HA := Lib.hid ha; have HT := Lib.hid ht
  have C := Lib.hid (known_any _ ht)
  clear ha ht
  go_enter Tryd.func6, Tryd.ntmps6
  go_wp2_with fail
  refine C.out.mono ?_
  rintro _ w1 ⟨rfl, b⟩
  have BB := Lib.hid b
  have D := Lib.hid (sof_any w1 A n c)
  clear b C
  go_wp2_with fail
  refine D.out.mono ?_
  rintro _ w2 ⟨rfl, dk, b⟩
  obtain ⟨g, hg⟩ : ∃ g, g = w1.heap.size := ⟨_, rfl⟩
  rw [← hg] at dk ⊢
  have hwg : w.heap.size ≤ g := by rw [hg]; exact BB.out.size
  replace BB := Lib.hid (below_step BB.out b)
  have DK := Lib.hid dk
  have hg2 : g < w2.heap.size := dk.lt
  clear b D dk hg
  have D := Lib.hid (small_any w2 g 0 w.heap.size A n c 0 xs DK.out (HA.out.1.below BB.out) HA.out.2 (by omega) BB.out.size)
  go_wp2_with fail
  refine D.out.mono ?_
  clear D
  rintro _ w3 ⟨qa, _, fa, rfl, na', dk, m⟩
  have Fa := Lib.hid fa; have Na := Lib.hid na'
  replace DK := Lib.hid dk
  replace BB := Lib.hid (Mv.below BB.out m hwg BB.out.size)
  have sz3 : w2.heap.size ≤ w3.heap.size := m.size
  clear fa na' dk m
  have D := Lib.hid (small_any w3 g 0 w.heap.size A n c 1 xs DK.out (HA.out.1.below BB.out) HA.out.2 (by omega) BB.out.size)
  go_wp2_with fail
  refine D.out.mono ?_
  clear D
  rintro _ w4 ⟨qb, _, fb, rfl, nb', dk, m⟩
  have Fb := Lib.hid fb; have Nb := Lib.hid nb'
  replace DK := Lib.hid dk
  replace BB := Lib.hid (Mv.below BB.out m hwg BB.out.size)
  have sz4 : w3.heap.size ≤ w4.heap.size := m.size
  replace Na := Lib.hid (Na.out.moved m (by omega))
  clear fb nb' dk m
  have D := Lib.hid (dprec_any w4 g 0 w.heap.size A n c 2 xs DK.out (HA.out.1.below BB.out) HA.out.2 (by omega) BB.out.size hwg)
  go_wp2_with fail
  refine D.out.mono ?_
  clear D
  rintro _ w5 ⟨p, kc, hp, rfl, dk, hkc, m⟩
  have HP := Lib.hid hp
  replace DK := Lib.hid dk
  replace BB := Lib.hid (Mv.below BB.out m hwg BB.out.size)
  replace Na := Lib.hid (Na.out.moved m (by omega))
  replace Nb := Lib.hid (Nb.out.moved m (by omega))
  have sz5 : w4.heap.size ≤ w5.heap.size := m.size
  clear hp dk m
  obtain ⟨Aa, na, ca, rfl, ia⟩ := Na.out
  obtain ⟨Ab, nb, cb, rfl, ib⟩ := Nb.out
  obtain ⟨W0, hW0, hs0, k1, k2, kv, kl, kh, b0⟩ := five_bx w5 qa qb Aa Ab na ca nb cb
  have Ka := Lib.hid k1; have Kb := Lib.hid k2
  have Ia := Lib.hid (Is.step (num_is ia) b0); have Ib := Lib.hid (Is.step (num_is ib) b0)
  have Va := Lib.hid Fa.out.valid; have Vb := Lib.hid Fb.out.valid
  have Kv := Lib.hid kv; have Kl := Lib.hid kl; have Kh := Lib.hid kh
  have Oa := Lib.hid (Out5.lo ia); have Ob := Lib.hid (Out5.lo ib)
  have hS := BB.out.size
  have hsw : w.heap.size ≤ w5.heap.size := hS
  replace BB := Lib.hid (below_step BB.out b0)
  obtain ⟨P, hP⟩ : ∃ P : Nat, p = (P : Int) := ⟨p.toNat, by have := HP.out; omega⟩
  have hP1 : 8 ≤ P := by have := HP.out.1; omega
  have hP2 : P ≤ 256 := by have := HP.out.2; omega
  have hPt : p.toNat = P := by omega
  clear k1 k2 kv kl kh b0 ia ib Na Nb DK sz3 sz4 sz5 hkc hS
  obtain ⟨κ, hκ⟩ : ∃ κ : Nat, κ = u % 3 := ⟨_, rfl⟩
  have e2 : Int.tmod (u : Int) 3 = (u : Int) % 3 := Int.tmod_eq_emod_of_nonneg (by omega)
  have hκ3 : κ = 0 ∨ κ = 1 ∨ κ = 2 := by omega
  have HK := Lib.hid (show (u : Int) % 3 = (κ : Int) by omega)
  have HPP := Lib.hid hP; have HPt := Lib.hid hPt
  subst hW0
  clear hκ hP hPt
  rcases hκ3 with h3 | h3 | h3
  · have e1 : (u : Int) % 3 = 0 := by rw [HK.out, h3]; rfl
    clear h3 HK
    obtain ⟨b1', b2', b3', b4', b5', b6', b7', b8', b9', ba'⟩ := betweens (v := plus qa qb) (P := P) (ofz_canon _ _) (bd_plus Fa.out.bd8 Fb.out.bd8) (by omega) hP1 hP2
    obtain ⟨qv, hqv⟩ : ∃ q, q = plus qa qb := ⟨_, rfl⟩
    rw [← hqv] at b1' b2' b3' b4' b5' b6' b7' b8' b9' ba'
    obtain ⟨ql, hql⟩ : ∃ q, q = rnd P false qv := ⟨_, rfl⟩
    obtain ⟨qh, hqh⟩ : ∃ q, q = rnd P true qv := ⟨_, rfl⟩
    rw [← hql] at b2' b4' b5' b6' b8' ba'
    rw [← hqh] at b3' b4' b5' b7' b9' ba'
    obtain ⟨qs, hqs⟩ : ∃ q, q = plus ql qh := ⟨_, rfl⟩
    rw [← hqs] at b4' b5' ba'
    obtain ⟨qm, hqm⟩ : ∃ q, q = halfq qs := ⟨_, rfl⟩
    rw [← hqm] at b5' ba'
    have R1 := Lib.hid (show res (plus qa qb) = (qv, 0) by rw [← hqv]; exact res_ok b1'.2)
    have R2 := Lib.hid (show gadd p false qa qb = (ql, 0) by unfold gadd; rw [HPt.out, ← hqv, ← hql]; exact res_ok b2'.2)
    have R3 := Lib.hid (show gadd p true qa qb = (qh, 0) by unfold gadd; rw [HPt.out, ← hqv, ← hqh]; exact res_ok b3'.2)
    have R4 := Lib.hid (show res (plus ql qh) = (qs, 0) by rw [← hqs]; exact res_ok b4'.2)
    have R5 := Lib.hid (show res (nm qs.s qs.m (qs.e + -1)) = (qm, 0) by rw [hqm]; rw [hqm] at b5'; exact res_ok b5'.2)
    have R6 := Lib.hid (show res (rnd p.toNat false qm) = (ql, 0) by rw [HPt.out, ba']; exact res_ok b2'.2)
    obtain ⟨t1, ht1⟩ : ∃ t, t = cmpq ql qv := ⟨_, rfl⟩
    obtain ⟨t2, ht2⟩ : ∃ t, t = cmpq qv qh := ⟨_, rfl⟩
    rw [← ht1] at b6'
    rw [← ht2] at b7'
    have l1 : (nbits ql.m : Int) ≤ p := by have := HPP.out; omega
    have l2 : (nbits qh.m : Int) ≤ p := by have := HPP.out; omega
    have Vv := Lib.hid b1'; have Vl := Lib.hid b2'; have Vh := Lib.hid b3'; have Vs := Lib.hid b4'; have Vm := Lib.hid b5'
    have TT1 := Lib.hid ht1; have TT2 := Lib.hid ht2
    clear b1' b2' b3' b4' b5' b8' b9' ba' hqv hql hqh hqs hqm ht1 ht2
    have D := Lib.hid (nadd_v (a := qa) (b := qb) Ia.out Ib.out Va.out Vb.out (HT.out.below BB.out))
    rw [R1.out] at D
    go_wp2_with fail
    refine D.out.mono ?_
    clear D
    rintro _ w6 ⟨_, rfl, ⟨Av, nv, cv, rfl, hh⟩, b⟩
    have hlo : w5.heap.size + 5 ≤ (((((w5.alloc (.cells #[.bool qa.s, .int .i64 qa.e, .slice Aa na ca] 24)).alloc (.cells #[.bool qb.s, .int .i64 qb.e, .slice Ab nb cb] 24)).alloc (.cells #[.bool false, .int .i64 0, .slice none 0 0] 24)).alloc (.cells #[.bool false, .int .i64 0, .slice none 0 0] 24)).alloc (.cells #[.bool false, .int .i64 0, .slice none 0 0] 24)).heap.size := by rw [hs0]; omega
    have Ov := Lib.hid (Out5.hi hh hlo)
    clear hlo
    replace Ka := Lib.hid (Ka.out.step b)
    replace Ia := Lib.hid (Ia.out.step b)
    replace Kb := Lib.hid (Kb.out.step b)
    replace Ib := Lib.hid (Ib.out.step b)
    replace Kv := Lib.hid (Kv.out.step b)
    replace Kl := Lib.hid (Kl.out.step b)
    replace Kh := Lib.hid (Kh.out.step b)
    replace BB := Lib.hid (below_step BB.out b)
    have Iv := Lib.hid (num_is hh)
    have hlz : w5.heap.size + 5 ≤ w6.heap.size := Nat.le_trans (by rw [hs0]; omega) b.size
    clear hh b
    have ar0 := Ka.out.c0; have ar1 := Ka.out.c1; have ar2 := Ka.out.c2; have alt := Ka.out.lt
    have br0 := Kb.out.c0; have br1 := Kb.out.c1; have br2 := Kb.out.c2; have blt := Kb.out.lt
    have vr0 := Kv.out.c0; have vr1 := Kv.out.c1; have vr2 := Kv.out.c2; have vlt := Kv.out.lt
    have lr0 := Kl.out.c0; have lr1 := Kl.out.c1; have lr2 := Kl.out.c2; have llt := Kl.out.lt
    have hr0 := Kh.out.c0; have hr1 := Kh.out.c1; have hr2 := Kh.out.c2; have hlt := Kh.out.lt
    have vz0 := Kv.out.fz 0; have vz1 := Kv.out.fz 1; have vz2 := Kv.out.fz 2
    obtain ⟨w7, hwn⟩ : ∃ W, W = put3 w6 (w5.heap.size + 1 + 1) (.bool qv.s) (.int .i64 qv.e) (.slice Av nv cv) := ⟨_, rfl⟩
    replace Ka := Lib.hid (bx_far Ka.out (show w5.heap.size ≠ (w5.heap.size + 1 + 1) by omega) (.bool qv.s) (.int .i64 qv.e) (.slice Av nv cv))
    rw [← hwn] at Ka
    replace Kb := Lib.hid (bx_far Kb.out (show (w5.heap.size + 1) ≠ (w5.heap.size + 1 + 1) by omega) (.bool qv.s) (.int .i64 qv.e) (.slice Av nv cv))
    rw [← hwn] at Kb
    replace Kv : Hid (Bx w7 (w5.heap.size + 1 + 1) qv.s qv.e Av nv cv) := Lib.hid (by rw [hwn]; exact Blk.putted Kv.out _ _ _)
    replace Kl := Lib.hid (bx_far Kl.out (show (w5.heap.size + 1 + 1 + 1) ≠ (w5.heap.size + 1 + 1) by omega) (.bool qv.s) (.int .i64 qv.e) (.slice Av nv cv))
    rw [← hwn] at Kl
    replace Kh := Lib.hid (bx_far Kh.out (show (w5.heap.size + 1 + 1 + 1 + 1) ≠ (w5.heap.size + 1 + 1) by omega) (.bool qv.s) (.int .i64 qv.e) (.slice Av nv cv))
    rw [← hwn] at Kh
    replace Ia := Lib.hid (is_put (g := (w5.heap.size + 1 + 1)) Ia.out Oa.out (by omega) (by omega) (.bool qv.s) (.int .i64 qv.e) (.slice Av nv cv))
    rw [← hwn] at Ia
    replace Ib := Lib.hid (is_put (g := (w5.heap.size + 1 + 1)) Ib.out Ob.out (by omega) (by omega) (.bool qv.s) (.int .i64 qv.e) (.slice Av nv cv))
    rw [← hwn] at Ib
    replace Iv := Lib.hid (is_put (g := (w5.heap.size + 1 + 1)) Iv.out Ov.out (by omega) (by omega) (.bool qv.s) (.int .i64 qv.e) (.slice Av nv cv))
    rw [← hwn] at Iv
    replace BB : Hid (Below w.heap.size w w7) := Lib.hid (by rw [hwn]; exact below_put3 BB.out (by omega) _ _ _)
    replace hlz : w5.heap.size + 5 ≤ w7.heap.size := by rw [hwn, size_put3]; exact hlz
    have HWn := Lib.hid hwn
    clear hwn
    have D := Lib.hid (xadd_v (a := qa) (b := qb) p false Ia.out Ib.out Va.out Vb.out HP.out (HT.out.below BB.out))
    rw [R2.out] at D
    go_wp2_with fail
    change Calls _ _ _ (put3 w6 (w5.heap.size + 1 + 1) (.bool qv.s) (.int .i64 qv.e) (.slice Av nv cv)) _
    rw [← HWn.out]
    refine D.out.mono ?_
    clear D HWn
    clear ar0 ar1 ar2 alt br0 br1 br2 blt vr0 vr1 vr2 vlt lr0 lr1 lr2 llt hr0 hr1 hr2 hlt vz0 vz1 vz2
    rintro _ w8 ⟨_, rfl, ⟨Al, nl, cl, rfl, hh⟩, b⟩
    have Ol := Lib.hid (Out5.hi hh hlz)
    replace Ka := Lib.hid (Ka.out.step b)
    replace Ia := Lib.hid (Ia.out.step b)
    replace Kb := Lib.hid (Kb.out.step b)
    replace Ib := Lib.hid (Ib.out.step b)
    replace Kv := Lib.hid (Kv.out.step b)
    replace Iv := Lib.hid (Iv.out.step b)
    replace Kl := Lib.hid (Kl.out.step b)
    replace Kh := Lib.hid (Kh.out.step b)
    replace BB := Lib.hid (below_step BB.out b)
    have Il := Lib.hid (num_is hh)
    replace hlz : w5.heap.size + 5 ≤ w8.heap.size := Nat.le_trans hlz b.size
    clear hh b
    have ar0 := Ka.out.c0; have ar1 := Ka.out.c1; have ar2 := Ka.out.c2; have alt := Ka.out.lt
    have br0 := Kb.out.c0; have br1 := Kb.out.c1; have br2 := Kb.out.c2; have blt := Kb.out.lt
    have vr0 := Kv.out.c0; have vr1 := Kv.out.c1; have vr2 := Kv.out.c2; have vlt := Kv.out.lt
    have lr0 := Kl.out.c0; have lr1 := Kl.out.c1; have lr2 := Kl.out.c2; have llt := Kl.out.lt
    have hr0 := Kh.out.c0; have hr1 := Kh.out.c1; have hr2 := Kh.out.c2; have hlt := Kh.out.lt
    have lz0 := Kl.out.fz 0; have lz1 := Kl.out.fz 1; have lz2 := Kl.out.fz 2
    obtain ⟨w9, hwn⟩ : ∃ W, W = put3 w8 (w5.heap.size + 1 + 1 + 1) (.bool ql.s) (.int .i64 ql.e) (.slice Al nl cl) := ⟨_, rfl⟩
    replace Ka := Lib.hid (bx_far Ka.out (show w5.heap.size ≠ (w5.heap.size + 1 + 1 + 1) by omega) (.bool ql.s) (.int .i64 ql.e) (.slice Al nl cl))
    rw [← hwn] at Ka
    replace Kb := Lib.hid (bx_far Kb.out (show (w5.heap.size + 1) ≠ (w5.heap.size + 1 + 1 + 1) by omega) (.bool ql.s) (.int .i64 ql.e) (.slice Al nl cl))
    rw [← hwn] at Kb
    replace Kv := Lib.hid (bx_far Kv.out (show (w5.heap.size + 1 + 1) ≠ (w5.heap.size + 1 + 1 + 1) by omega) (.bool ql.s) (.int .i64 ql.e) (.slice Al nl cl))
    rw [← hwn] at Kv
    replace Kl : Hid (Bx w9 (w5.heap.size + 1 + 1 + 1) ql.s ql.e Al nl cl) := Lib.hid (by rw [hwn]; exact Blk.putted Kl.out _ _ _)
    replace Kh := Lib.hid (bx_far Kh.out (show (w5.heap.size + 1 + 1 + 1 + 1) ≠ (w5.heap.size + 1 + 1 + 1) by omega) (.bool ql.s) (.int .i64 ql.e) (.slice Al nl cl))
    rw [← hwn] at Kh
    replace Ia := Lib.hid (is_put (g := (w5.heap.size + 1 + 1 + 1)) Ia.out Oa.out (by omega) (by omega) (.bool ql.s) (.int .i64 ql.e) (.slice Al nl cl))
    rw [← hwn] at Ia
    replace Ib := Lib.hid (is_put (g := (w5.heap.size + 1 + 1 + 1)) Ib.out Ob.out (by omega) (by omega) (.bool ql.s) (.int .i64 ql.e) (.slice Al nl cl))
    rw [← hwn] at Ib
    replace Iv := Lib.hid (is_put (g := (w5.heap.size + 1 + 1 + 1)) Iv.out Ov.out (by omega) (by omega) (.bool ql.s) (.int .i64 ql.e) (.slice Al nl cl))
    rw [← hwn] at Iv
    replace Il := Lib.hid (is_put (g := (w5.heap.size + 1 + 1 + 1)) Il.out Ol.out (by omega) (by omega) (.bool ql.s) (.int .i64 ql.e) (.slice Al nl cl))
    rw [← hwn] at Il
    replace BB : Hid (Below w.heap.size w w9) := Lib.hid (by rw [hwn]; exact below_put3 BB.out (by omega) _ _ _)
    replace hlz : w5.heap.size + 5 ≤ w9.heap.size := by rw [hwn, size_put3]; exact hlz
    have HWn := Lib.hid hwn
    clear hwn
    have D := Lib.hid (xadd_v (a := qa) (b := qb) p true Ia.out Ib.out Va.out Vb.out HP.out (HT.out.below BB.out))
    rw [R3.out] at D
    go_wp2_with fail
    change Calls _ _ _ (put3 w8 (w5.heap.size + 1 + 1 + 1) (.bool ql.s) (.int .i64 ql.e) (.slice Al nl cl)) _
    rw [← HWn.out]
    refine D.out.mono ?_
    clear D HWn
    clear ar0 ar1 ar2 alt br0 br1 br2 blt vr0 vr1 vr2 vlt lr0 lr1 lr2 llt hr0 hr1 hr2 hlt lz0 lz1 lz2
    rintro _ wa ⟨_, rfl, ⟨Ah, nh, ch, rfl, hh⟩, b⟩
    have Oh := Lib.hid (Out5.hi hh hlz)
    replace Ka := Lib.hid (Ka.out.step b)
    replace Ia := Lib.hid (Ia.out.step b)
    replace Kb := Lib.hid (Kb.out.step b)
    replace Ib := Lib.hid (Ib.out.step b)
    replace Kv := Lib.hid (Kv.out.step b)
    replace Iv := Lib.hid (Iv.out.step b)
    replace Kl := Lib.hid (Kl.out.step b)
    replace Il := Lib.hid (Il.out.step b)
    replace Kh := Lib.hid (Kh.out.step b)
    replace BB := Lib.hid (below_step BB.out b)
    have Ih := Lib.hid (num_is hh)
    replace hlz : w5.heap.size + 5 ≤ wa.heap.size := Nat.le_trans hlz b.size
    clear hh b
    have ar0 := Ka.out.c0; have ar1 := Ka.out.c1; have ar2 := Ka.out.c2; have alt := Ka.out.lt
    have br0 := Kb.out.c0; have br1 := Kb.out.c1; have br2 := Kb.out.c2; have blt := Kb.out.lt
    have vr0 := Kv.out.c0; have vr1 := Kv.out.c1; have vr2 := Kv.out.c2; have vlt := Kv.out.lt
    have lr0 := Kl.out.c0; have lr1 := Kl.out.c1; have lr2 := Kl.out.c2; have llt := Kl.out.lt
    have hr0 := Kh.out.c0; have hr1 := Kh.out.c1; have hr2 := Kh.out.c2; have hlt := Kh.out.lt
    have hz0 := Kh.out.fz 0; have hz1 := Kh.out.fz 1; have hz2 := Kh.out.fz 2
    obtain ⟨wb, hwn⟩ : ∃ W, W = put3 wa (w5.heap.size + 1 + 1 + 1 + 1) (.bool qh.s) (.int .i64 qh.e) (.slice Ah nh ch) := ⟨_, rfl⟩
    replace Ka := Lib.hid (bx_far Ka.out (show w5.heap.size ≠ (w5.heap.size + 1 + 1 + 1 + 1) by omega) (.bool qh.s) (.int .i64 qh.e) (.slice Ah nh ch))
    rw [← hwn] at Ka
    replace Kb := Lib.hid (bx_far Kb.out (show (w5.heap.size + 1) ≠ (w5.heap.size + 1 + 1 + 1 + 1) by omega) (.bool qh.s) (.int .i64 qh.e) (.slice Ah nh ch))
    rw [← hwn] at Kb
    replace Kv := Lib.hid (bx_far Kv.out (show (w5.heap.size + 1 + 1) ≠ (w5.heap.size + 1 + 1 + 1 + 1) by omega) (.bool qh.s) (.int .i64 qh.e) (.slice Ah nh ch))
    rw [← hwn] at Kv
    replace Kl := Lib.hid (bx_far Kl.out (show (w5.heap.size + 1 + 1 + 1) ≠ (w5.heap.size + 1 + 1 + 1 + 1) by omega) (.bool qh.s) (.int .i64 qh.e) (.slice Ah nh ch))
    rw [← hwn] at Kl
    replace Kh : Hid (Bx wb (w5.heap.size + 1 + 1 + 1 + 1) qh.s qh.e Ah nh ch) := Lib.hid (by rw [hwn]; exact Blk.putted Kh.out _ _ _)
    replace Ia := Lib.hid (is_put (g := (w5.heap.size + 1 + 1 + 1 + 1)) Ia.out Oa.out (by omega) (by omega) (.bool qh.s) (.int .i64 qh.e) (.slice Ah nh ch))
    rw [← hwn] at Ia
    replace Ib := Lib.hid (is_put (g := (w5.heap.size + 1 + 1 + 1 + 1)) Ib.out Ob.out (by omega) (by omega) (.bool qh.s) (.int .i64 qh.e) (.slice Ah nh ch))
    rw [← hwn] at Ib
    replace Iv := Lib.hid (is_put (g := (w5.heap.size + 1 + 1 + 1 + 1)) Iv.out Ov.out (by omega) (by omega) (.bool qh.s) (.int .i64 qh.e) (.slice Ah nh ch))
    rw [← hwn] at Iv
    replace Il := Lib.hid (is_put (g := (w5.heap.size + 1 + 1 + 1 + 1)) Il.out Ol.out (by omega) (by omega) (.bool qh.s) (.int .i64 qh.e) (.slice Ah nh ch))
    rw [← hwn] at Il
    replace Ih := Lib.hid (is_put (g := (w5.heap.size + 1 + 1 + 1 + 1)) Ih.out Oh.out (by omega) (by omega) (.bool qh.s) (.int .i64 qh.e) (.slice Ah nh ch))
    rw [← hwn] at Ih
    replace BB : Hid (Below w.heap.size w wb) := Lib.hid (by rw [hwn]; exact below_put3 BB.out (by omega) _ _ _)
    replace hlz : w5.heap.size + 5 ≤ wb.heap.size := by rw [hwn, size_put3]; exact hlz
    have HWn := Lib.hid hwn
    clear hwn
    have D := Lib.hid (ncmp_v (a := ql) (b := qv) Il.out Iv.out Vl.out Vv.out)
    rw [← TT1.out] at D
    go_wp2_with fail
    change Calls _ _ _ (put3 wa (w5.heap.size + 1 + 1 + 1 + 1) (.bool qh.s) (.int .i64 qh.e) (.slice Ah nh ch)) _
    rw [← HWn.out]
    refine D.out.mono ?_
    clear D HWn
    clear ar0 ar1 ar2 alt br0 br1 br2 blt vr0 vr1 vr2 vlt lr0 lr1 lr2 llt hr0 hr1 hr2 hlt hz0 hz1 hz2
    rintro _ wc ⟨rfl, b⟩
    replace Ka := Lib.hid (Ka.out.step b)
    replace Ia := Lib.hid (Ia.out.step b)
    replace Kb := Lib.hid (Kb.out.step b)
    replace Ib := Lib.hid (Ib.out.step b)
    replace Kv := Lib.hid (Kv.out.step b)
    replace Iv := Lib.hid (Iv.out.step b)
    replace Kl := Lib.hid (Kl.out.step b)
    replace Il := Lib.hid (Il.out.step b)
    replace Kh := Lib.hid (Kh.out.step b)
    replace Ih := Lib.hid (Ih.out.step b)
    replace BB := Lib.hid (below_step BB.out b)
    clear b
    have ar0 := Ka.out.c0; have ar1 := Ka.out.c1; have ar2 := Ka.out.c2; have alt := Ka.out.lt
    have br0 := Kb.out.c0; have br1 := Kb.out.c1; have br2 := Kb.out.c2; have blt := Kb.out.lt
    have vr0 := Kv.out.c0; have vr1 := Kv.out.c1; have vr2 := Kv.out.c2; have vlt := Kv.out.lt
    have lr0 := Kl.out.c0; have lr1 := Kl.out.c1; have lr2 := Kl.out.c2; have llt := Kl.out.lt
    have hr0 := Kh.out.c0; have hr1 := Kh.out.c1; have hr2 := Kh.out.c2; have hlt := Kh.out.lt
    have D := Lib.hid (ncmp_v (a := qv) (b := qh) Iv.out Ih.out Vv.out Vh.out)
    rw [← TT2.out] at D
    go_wp2_with fail
    refine D.out.mono ?_
    clear D
    clear ar0 ar1 ar2 alt br0 br1 br2 blt vr0 vr1 vr2 vlt lr0 lr1 lr2 llt hr0 hr1 hr2 hlt
    rintro _ wd ⟨rfl, b⟩
    replace Ka := Lib.hid (Ka.out.step b)
    replace Ia := Lib.hid (Ia.out.step b)
    replace Kb := Lib.hid (Kb.out.step b)
    replace Ib := Lib.hid (Ib.out.step b)
    replace Kv := Lib.hid (Kv.out.step b)
    replace Iv := Lib.hid (Iv.out.step b)
    replace Kl := Lib.hid (Kl.out.step b)
    replace Il := Lib.hid (Il.out.step b)
    replace Kh := Lib.hid (Kh.out.step b)
    replace Ih := Lib.hid (Ih.out.step b)
    replace BB := Lib.hid (below_step BB.out b)
    clear b
    have ar0 := Ka.out.c0; have ar1 := Ka.out.c1; have ar2 := Ka.out.c2; have alt := Ka.out.lt
    have br0 := Kb.out.c0; have br1 := Kb.out.c1; have br2 := Kb.out.c2; have blt := Kb.out.lt
    have vr0 := Kv.out.c0; have vr1 := Kv.out.c1; have vr2 := Kv.out.c2; have vlt := Kv.out.lt
    have lr0 := Kl.out.c0; have lr1 := Kl.out.c1; have lr2 := Kl.out.c2; have llt := Kl.out.lt
    have hr0 := Kh.out.c0; have hr1 := Kh.out.c1; have hr2 := Kh.out.c2; have hlt := Kh.out.lt
    have D := Lib.hid (bits_has (Il.out.has Vl.out.2.1) (by omega))
    go_wp2_with fail
    refine D.out.mono ?_
    clear D
    clear ar0 ar1 ar2 alt br0 br1 br2 blt vr0 vr1 vr2 vlt lr0 lr1 lr2 llt hr0 hr1 hr2 hlt
    rintro _ we ⟨rfl, rfl⟩
    have ar0 := Ka.out.c0; have ar1 := Ka.out.c1; have ar2 := Ka.out.c2; have alt := Ka.out.lt
    have br0 := Kb.out.c0; have br1 := Kb.out.c1; have br2 := Kb.out.c2; have blt := Kb.out.lt
    have vr0 := Kv.out.c0; have vr1 := Kv.out.c1; have vr2 := Kv.out.c2; have vlt := Kv.out.lt
    have lr0 := Kl.out.c0; have lr1 := Kl.out.c1; have lr2 := Kl.out.c2; have llt := Kl.out.lt
    have hr0 := Kh.out.c0; have hr1 := Kh.out.c1; have hr2 := Kh.out.c2; have hlt := Kh.out.lt
    have D := Lib.hid (bits_has (Ih.out.has Vh.out.2.1) (by omega))
    go_wp2_with fail
    refine D.out.mono ?_
    clear D
    clear ar0 ar1 ar2 alt br0 br1 br2 blt vr0 vr1 vr2 vlt lr0 lr1 lr2 llt hr0 hr1 hr2 hlt
    rintro _ wf ⟨rfl, rfl⟩
    clear Ka Kb Kv Ia Ib Iv
    have lr0 := Kl.out.c0; have lr1 := Kl.out.c1; have lr2 := Kl.out.c2; have llt := Kl.out.lt
    have hr0 := Kh.out.c0; have hr1 := Kh.out.c1; have hr2 := Kh.out.c2; have hlt := Kh.out.lt
    have D := Lib.hid (nadd_v (a := ql) (b := qh) Il.out Ih.out Vl.out Vh.out (HT.out.below BB.out))
    rw [R4.out] at D
    go_wp2_with fail
    refine D.out.mono ?_
    clear D
    clear lr0 lr1 lr2 llt hr0 hr1 hr2 hlt
    rintro _ wg ⟨_, rfl, ⟨As2, ns2, cs2, rfl, hh⟩, b⟩
    replace Kl := Lib.hid (Kl.out.step b)
    replace Il := Lib.hid (Il.out.step b)
    replace Kh := Lib.hid (Kh.out.step b)
    replace Ih := Lib.hid (Ih.out.step b)
    replace BB := Lib.hid (below_step BB.out b)
    have obs2 := one_below wg (.cells #[.bool qs.s, .int .i64 qs.e, .slice As2 ns2 cs2] 24)
    have Is2 := Lib.hid (Is.step (num_is hh) obs2); have Ks2 := Lib.hid (Bx.new wg qs.s qs.e As2 ns2 cs2)
    replace BB := Lib.hid (below_step BB.out obs2)
    clear hh
    clear b
    have lr0 := Kl.out.c0; have lr1 := Kl.out.c1; have lr2 := Kl.out.c2; have llt := Kl.out.lt
    have hr0 := Kh.out.c0; have hr1 := Kh.out.c1; have hr2 := Kh.out.c2; have hlt := Kh.out.lt
    have D := Lib.hid (nscale_v (a := qs) (-1) Is2.out Vs.out (HT.out.below BB.out))
    rw [R5.out] at D
    go_wp2_with fail
    refine D.out.mono ?_
    clear D
    clear lr0 lr1 lr2 llt hr0 hr1 hr2 hlt
    rintro _ wh ⟨_, rfl, ⟨Am, nm, cm, rfl, hh⟩, b⟩
    replace Kl := Lib.hid (Kl.out.step (below_step obs2 b))
    replace Il := Lib.hid (Il.out.step (below_step obs2 b))
    replace Kh := Lib.hid (Kh.out.step (below_step obs2 b))
    replace Ih := Lib.hid (Ih.out.step (below_step obs2 b))
    replace Ks2 := Lib.hid (Ks2.out.step b)
    replace Is2 := Lib.hid (Is2.out.step b)
    replace BB := Lib.hid (below_step BB.out b)
    clear obs2
    have obm := one_below wh (.cells #[.bool qm.s, .int .i64 qm.e, .slice Am nm cm] 24)
    have Im := Lib.hid (Is.step (num_is hh) obm); have Km := Lib.hid (Bx.new wh qm.s qm.e Am nm cm)
    replace BB := Lib.hid (below_step BB.out obm)
    clear hh
    clear b
    have lr0 := Kl.out.c0; have lr1 := Kl.out.c1; have lr2 := Kl.out.c2; have llt := Kl.out.lt
    have hr0 := Kh.out.c0; have hr1 := Kh.out.c1; have hr2 := Kh.out.c2; have hlt := Kh.out.lt
    have s2r0 := Ks2.out.c0; have s2r1 := Ks2.out.c1; have s2r2 := Ks2.out.c2; have s2lt := Ks2.out.lt
    have D := Lib.hid (xfit_v (a := qm) p false Im.out Vm.out HP.out (HT.out.below BB.out))
    rw [R6.out] at D
    go_wp2_with fail
    refine D.out.mono ?_
    clear D
    clear lr0 lr1 lr2 llt hr0 hr1 hr2 hlt s2r0 s2r1 s2r2 s2lt
    rintro _ wi ⟨_, rfl, ⟨At, nt, ct, rfl, hh⟩, b⟩
    replace Kl := Lib.hid (Kl.out.step (below_step obm b))
    replace Il := Lib.hid (Il.out.step (below_step obm b))
    replace Kh := Lib.hid (Kh.out.step (below_step obm b))
    replace Ih := Lib.hid (Ih.out.step (below_step obm b))
    replace Ks2 := Lib.hid (Ks2.out.step (below_step obm b))
    replace Is2 := Lib.hid (Is2.out.step (below_step obm b))
    replace Km := Lib.hid (Km.out.step b)
    replace Im := Lib.hid (Im.out.step b)
    replace BB := Lib.hid (below_step BB.out b)
    clear obm
    have obt := one_below wi (.cells #[.bool ql.s, .int .i64 ql.e, .slice At nt ct] 24)
    have It := Lib.hid (Is.step (num_is hh) obt); have Kt := Lib.hid (Bx.new wi ql.s ql.e At nt ct)
    replace BB := Lib.hid (below_step BB.out obt)
    clear hh
    clear b
    have lr0 := Kl.out.c0; have lr1 := Kl.out.c1; have lr2 := Kl.out.c2; have llt := Kl.out.lt
    have hr0 := Kh.out.c0; have hr1 := Kh.out.c1; have hr2 := Kh.out.c2; have hlt := Kh.out.lt
    have s2r0 := Ks2.out.c0; have s2r1 := Ks2.out.c1; have s2r2 := Ks2.out.c2; have s2lt := Ks2.out.lt
    have mr0 := Km.out.c0; have mr1 := Km.out.c1; have mr2 := Km.out.c2; have mlt := Km.out.lt
    have D := Lib.hid (nsame_v (a := ql) (b := ql) It.out (Il.out.step obt) Vl.out Vl.out)
    rw [sameb_self] at D
    go_wp2_with fail
    refine D.out.mono ?_
    clear D
    clear lr0 lr1 lr2 llt hr0 hr1 hr2 hlt s2r0 s2r1 s2r2 s2lt mr0 mr1 mr2 mlt
    rintro _ wj ⟨rfl, b⟩
    replace Kl := Lib.hid (Kl.out.step (below_step obt b))
    replace Il := Lib.hid (Il.out.step (below_step obt b))
    replace Kh := Lib.hid (Kh.out.step (below_step obt b))
    replace Ih := Lib.hid (Ih.out.step (below_step obt b))
    replace Ks2 := Lib.hid (Ks2.out.step (below_step obt b))
    replace Is2 := Lib.hid (Is2.out.step (below_step obt b))
    replace Km := Lib.hid (Km.out.step (below_step obt b))
    replace Im := Lib.hid (Im.out.step (below_step obt b))
    replace Kt := Lib.hid (Kt.out.step b)
    replace It := Lib.hid (It.out.step b)
    replace BB := Lib.hid (below_step BB.out b)
    clear obt
    clear b
    go_wp2
    go_ret
    exact ⟨rfl, BB.out⟩
  · have e1 : (u : Int) % 3 = 1 := by rw [HK.out, h3]; rfl
    clear h3 HK
    obtain ⟨b1', b2', b3', b4', b5', b6', b7', b8', b9', ba'⟩ := betweens (v := minus qa qb) (P := P) (ofz_canon _ _) (bd_minus Fa.out.bd8 Fb.out.bd8) (by omega) hP1 hP2
    obtain ⟨qv, hqv⟩ : ∃ q, q = minus qa qb := ⟨_, rfl⟩
    rw [← hqv] at b1' b2' b3' b4' b5' b6' b7' b8' b9' ba'
    obtain ⟨ql, hql⟩ : ∃ q, q = rnd P false qv := ⟨_, rfl⟩
    obtain ⟨qh, hqh⟩ : ∃ q, q = rnd P true qv := ⟨_, rfl⟩
    rw [← hql] at b2' b4' b5' b6' b8' ba'
    rw [← hqh] at b3' b4' b5' b7' b9' ba'
    obtain ⟨qs, hqs⟩ : ∃ q, q = plus ql qh := ⟨_, rfl⟩
    rw [← hqs] at b4' b5' ba'
    obtain ⟨qm, hqm⟩ : ∃ q, q = halfq qs := ⟨_, rfl⟩
    rw [← hqm] at b5' ba'
    have R1 := Lib.hid (show res (minus qa qb) = (qv, 0) by rw [← hqv]; exact res_ok b1'.2)
    have R2 := Lib.hid (show gsub p false qa qb = (ql, 0) by unfold gsub; rw [HPt.out, ← hqv, ← hql]; exact res_ok b2'.2)
    have R3 := Lib.hid (show gsub p true qa qb = (qh, 0) by unfold gsub; rw [HPt.out, ← hqv, ← hqh]; exact res_ok b3'.2)
    have R4 := Lib.hid (show res (plus ql qh) = (qs, 0) by rw [← hqs]; exact res_ok b4'.2)
    have R5 := Lib.hid (show res (nm qs.s qs.m (qs.e + -1)) = (qm, 0) by rw [hqm]; rw [hqm] at b5'; exact res_ok b5'.2)
    have R6 := Lib.hid (show res (rnd p.toNat false qm) = (ql, 0) by rw [HPt.out, ba']; exact res_ok b2'.2)
    obtain ⟨t1, ht1⟩ : ∃ t, t = cmpq ql qv := ⟨_, rfl⟩
    obtain ⟨t2, ht2⟩ : ∃ t, t = cmpq qv qh := ⟨_, rfl⟩
    rw [← ht1] at b6'
    rw [← ht2] at b7'
    have l1 : (nbits ql.m : Int) ≤ p := by have := HPP.out; omega
    have l2 : (nbits qh.m : Int) ≤ p := by have := HPP.out; omega
    have Vv := Lib.hid b1'; have Vl := Lib.hid b2'; have Vh := Lib.hid b3'; have Vs := Lib.hid b4'; have Vm := Lib.hid b5'
    have TT1 := Lib.hid ht1; have TT2 := Lib.hid ht2
    clear b1' b2' b3' b4' b5' b8' b9' ba' hqv hql hqh hqs hqm ht1 ht2
    have D := Lib.hid (nsub_v (a := qa) (b := qb) Ia.out Ib.out Va.out Vb.out (HT.out.below BB.out))
    rw [R1.out] at D
    go_wp2_with fail
    refine D.out.mono ?_
    clear D
    rintro _ w6 ⟨_, rfl, ⟨Av, nv, cv, rfl, hh⟩, b⟩
    have hlo : w5.heap.size + 5 ≤ (((((w5.alloc (.cells #[.bool qa.s, .int .i64 qa.e, .slice Aa na ca] 24)).alloc (.cells #[.bool qb.s, .int .i64 qb.e, .slice Ab nb cb] 24)).alloc (.cells #[.bool false, .int .i64 0, .slice none 0 0] 24)).alloc (.cells #[.bool false, .int .i64 0, .slice none 0 0] 24)).alloc (.cells #[.bool false, .int .i64 0, .slice none 0 0] 24)).heap.size := by rw [hs0]; omega
    have Ov := Lib.hid (Out5.hi hh hlo)
    clear hlo
    replace Ka := Lib.hid (Ka.out.step b)
    replace Ia := Lib.hid (Ia.out.step b)
    replace Kb := Lib.hid (Kb.out.step b)
    replace Ib := Lib.hid (Ib.out.step b)
    replace Kv := Lib.hid (Kv.out.step b)
    replace Kl := Lib.hid (Kl.out.step b)
    replace Kh := Lib.hid (Kh.out.step b)
    replace BB := Lib.hid (below_step BB.out b)
    have Iv := Lib.hid (num_is hh)
    have hlz : w5.heap.size + 5 ≤ w6.heap.size := Nat.le_trans (by rw [hs0]; omega) b.size
    clear hh b
    have ar0 := Ka.out.c0; have ar1 := Ka.out.c1; have ar2 := Ka.out.c2; have alt := Ka.out.lt
    have br0 := Kb.out.c0; have br1 := Kb.out.c1; have br2 := Kb.out.c2; have blt := Kb.out.lt
    have vr0 := Kv.out.c0; have vr1 := Kv.out.c1; have vr2 := Kv.out.c2; have vlt := Kv.out.lt
    have lr0 := Kl.out.c0; have lr1 := Kl.out.c1; have lr2 := Kl.out.c2; have llt := Kl.out.lt
    have hr0 := Kh.out.c0; have hr1 := Kh.out.c1; have hr2 := Kh.out.c2; have hlt := Kh.out.lt
    have vz0 := Kv.out.fz 0; have vz1 := Kv.out.fz 1; have vz2 := Kv.out.fz 2
    obtain ⟨w7, hwn⟩ : ∃ W, W = put3 w6 (w5.heap.size + 1 + 1) (.bool qv.s) (.int .i64 qv.e) (.slice Av nv cv) := ⟨_, rfl⟩
    replace Ka := Lib.hid (bx_far Ka.out (show w5.heap.size ≠ (w5.heap.size + 1 + 1) by omega) (.bool qv.s) (.int .i64 qv.e) (.slice Av nv cv))
    rw [← hwn] at Ka
    replace Kb := Lib.hid (bx_far Kb.out (show (w5.heap.size + 1) ≠ (w5.heap.size + 1 + 1) by omega) (.bool qv.s) (.int .i64 qv.e) (.slice Av nv cv))
    rw [← hwn] at Kb
    replace Kv : Hid (Bx w7 (w5.heap.size + 1 + 1) qv.s qv.e Av nv cv) := Lib.hid (by rw [hwn]; exact Blk.putted Kv.out _ _ _)
    replace Kl := Lib.hid (bx_far Kl.out (show (w5.heap.size + 1 + 1 + 1) ≠ (w5.heap.size + 1 + 1) by omega) (.bool qv.s) (.int .i64 qv.e) (.slice Av nv cv))
    rw [← hwn] at Kl
    replace Kh := Lib.hid (bx_far Kh.out (show (w5.heap.size + 1 + 1 + 1 + 1) ≠ (w5.heap.size + 1 + 1) by omega) (.bool qv.s) (.int .i64 qv.e) (.slice Av nv cv))
    rw [← hwn] at Kh
    replace Ia := Lib.hid (is_put (g := (w5.heap.size + 1 + 1)) Ia.out Oa.out (by omega) (by omega) (.bool qv.s) (.int .i64 qv.e) (.slice Av nv cv))
    rw [← hwn] at Ia
    replace Ib := Lib.hid (is_put (g := (w5.heap.size + 1 + 1)) Ib.out Ob.out (by omega) (by omega) (.bool qv.s) (.int .i64 qv.e) (.slice Av nv cv))
    rw [← hwn] at Ib
    replace Iv := Lib.hid (is_put (g := (w5.heap.size + 1 + 1)) Iv.out Ov.out (by omega) (by omega) (.bool qv.s) (.int .i64 qv.e) (.slice Av nv cv))
    rw [← hwn] at Iv
    replace BB : Hid (Below w.heap.size w w7) := Lib.hid (by rw [hwn]; exact below_put3 BB.out (by omega) _ _ _)
    replace hlz : w5.heap.size + 5 ≤ w7.heap.size := by rw [hwn, size_put3]; exact hlz
    have HWn := Lib.hid hwn
    clear hwn
    have D := Lib.hid (xsub_v (a := qa) (b := qb) p false Ia.out Ib.out Va.out Vb.out HP.out (HT.out.below BB.out))
    rw [R2.out] at D
    go_wp2_with fail
    change Calls _ _ _ (put3 w6 (w5.heap.size + 1 + 1) (.bool qv.s) (.int .i64 qv.e) (.slice Av nv cv)) _
    rw [← HWn.out]
    refine D.out.mono ?_
    clear D HWn
    clear ar0 ar1 ar2 alt br0 br1 br2 blt vr0 vr1 vr2 vlt lr0 lr1 lr2 llt hr0 hr1 hr2 hlt vz0 vz1 vz2
    rintro _ w8 ⟨_, rfl, ⟨Al, nl, cl, rfl, hh⟩, b⟩
    have Ol := Lib.hid (Out5.hi hh hlz)
    replace Ka := Lib.hid (Ka.out.step b)
    replace Ia := Lib.hid (Ia.out.step b)
    replace Kb := Lib.hid (Kb.out.step b)
    replace Ib := Lib.hid (Ib.out.step b)
    replace Kv := Lib.hid (Kv.out.step b)
    replace Iv := Lib.hid (Iv.out.step b)
    replace Kl := Lib.hid (Kl.out.step b)
    replace Kh := Lib.hid (Kh.out.step b)
    replace BB := Lib.hid (below_step BB.out b)
    have Il := Lib.hid (num_is hh)
    replace hlz : w5.heap.size + 5 ≤ w8.heap.size := Nat.le_trans hlz b.size
    clear hh b
    have ar0 := Ka.out.c0; have ar1 := Ka.out.c1; have ar2 := Ka.out.c2; have alt := Ka.out.lt
    have br0 := Kb.out.c0; have br1 := Kb.out.c1; have br2 := Kb.out.c2; have blt := Kb.out.lt
    have vr0 := Kv.out.c0; have vr1 := Kv.out.c1; have vr2 := Kv.out.c2; have vlt := Kv.out.lt
    have lr0 := Kl.out.c0; have lr1 := Kl.out.c1; have lr2 := Kl.out.c2; have llt := Kl.out.lt
    have hr0 := Kh.out.c0; have hr1 := Kh.out.c1; have hr2 := Kh.out.c2; have hlt := Kh.out.lt
    have lz0 := Kl.out.fz 0; have lz1 := Kl.out.fz 1; have lz2 := Kl.out.fz 2
    obtain ⟨w9, hwn⟩ : ∃ W, W = put3 w8 (w5.heap.size + 1 + 1 + 1) (.bool ql.s) (.int .i64 ql.e) (.slice Al nl cl) := ⟨_, rfl⟩
    replace Ka := Lib.hid (bx_far Ka.out (show w5.heap.size ≠ (w5.heap.size + 1 + 1 + 1) by omega) (.bool ql.s) (.int .i64 ql.e) (.slice Al nl cl))
    rw [← hwn] at Ka
    replace Kb := Lib.hid (bx_far Kb.out (show (w5.heap.size + 1) ≠ (w5.heap.size + 1 + 1 + 1) by omega) (.bool ql.s) (.int .i64 ql.e) (.slice Al nl cl))
    rw [← hwn] at Kb
    replace Kv := Lib.hid (bx_far Kv.out (show (w5.heap.size + 1 + 1) ≠ (w5.heap.size + 1 + 1 + 1) by omega) (.bool ql.s) (.int .i64 ql.e) (.slice Al nl cl))
    rw [← hwn] at Kv
    replace Kl : Hid (Bx w9 (w5.heap.size + 1 + 1 + 1) ql.s ql.e Al nl cl) := Lib.hid (by rw [hwn]; exact Blk.putted Kl.out _ _ _)
    replace Kh := Lib.hid (bx_far Kh.out (show (w5.heap.size + 1 + 1 + 1 + 1) ≠ (w5.heap.size + 1 + 1 + 1) by omega) (.bool ql.s) (.int .i64 ql.e) (.slice Al nl cl))
    rw [← hwn] at Kh
    replace Ia := Lib.hid (is_put (g := (w5.heap.size + 1 + 1 + 1)) Ia.out Oa.out (by omega) (by omega) (.bool ql.s) (.int .i64 ql.e) (.slice Al nl cl))
    rw [← hwn] at Ia
    replace Ib := Lib.hid (is_put (g := (w5.heap.size + 1 + 1 + 1)) Ib.out Ob.out (by omega) (by omega) (.bool ql.s) (.int .i64 ql.e) (.slice Al nl cl))
    rw [← hwn] at Ib
    replace Iv := Lib.hid (is_put (g := (w5.heap.size + 1 + 1 + 1)) Iv.out Ov.out (by omega) (by omega) (.bool ql.s) (.int .i64 ql.e) (.slice Al nl cl))
    rw [← hwn] at Iv
    replace Il := Lib.hid (is_put (g := (w5.heap.size + 1 + 1 + 1)) Il.out Ol.out (by omega) (by omega) (.bool ql.s) (.int .i64 ql.e) (.slice Al nl cl))
    rw [← hwn] at Il
    replace BB : Hid (Below w.heap.size w w9) := Lib.hid (by rw [hwn]; exact below_put3 BB.out (by omega) _ _ _)
    replace hlz : w5.heap.size + 5 ≤ w9.heap.size := by rw [hwn, size_put3]; exact hlz
    have HWn := Lib.hid hwn
    clear hwn
    have D := Lib.hid (xsub_v (a := qa) (b := qb) p true Ia.out Ib.out Va.out Vb.out HP.out (HT.out.below BB.out))
    rw [R3.out] at D
    go_wp2_with fail
    change Calls _ _ _ (put3 w8 (w5.heap.size + 1 + 1 + 1) (.bool ql.s) (.int .i64 ql.e) (.slice Al nl cl)) _
    rw [← HWn.out]
    refine D.out.mono ?_
    clear D HWn
    clear ar0 ar1 ar2 alt br0 br1 br2 blt vr0 vr1 vr2 vlt lr0 lr1 lr2 llt hr0 hr1 hr2 hlt lz0 lz1 lz2
    rintro _ wa ⟨_, rfl, ⟨Ah, nh, ch, rfl, hh⟩, b⟩
    have Oh := Lib.hid (Out5.hi hh hlz)
    replace Ka := Lib.hid (Ka.out.step b)
    replace Ia := Lib.hid (Ia.out.step b)
    replace Kb := Lib.hid (Kb.out.step b)
    replace Ib := Lib.hid (Ib.out.step b)
    replace Kv := Lib.hid (Kv.out.step b)
    replace Iv := Lib.hid (Iv.out.step b)
    replace Kl := Lib.hid (Kl.out.step b)
    replace Il := Lib.hid (Il.out.step b)
    replace Kh := Lib.hid (Kh.out.step b)
    replace BB := Lib.hid (below_step BB.out b)
    have Ih := Lib.hid (num_is hh)
    replace hlz : w5.heap.size + 5 ≤ wa.heap.size := Nat.le_trans hlz b.size
    clear hh b
    have ar0 := Ka.out.c0; have ar1 := Ka.out.c1; have ar2 := Ka.out.c2; have alt := Ka.out.lt
    have br0 := Kb.out.c0; have br1 := Kb.out.c1; have br2 := Kb.out.c2; have blt := Kb.out.lt
    have vr0 := Kv.out.c0; have vr1 := Kv.out.c1; have vr2 := Kv.out.c2; have vlt := Kv.out.lt
    have lr0 := Kl.out.c0; have lr1 := Kl.out.c1; have lr2 := Kl.out.c2; have llt := Kl.out.lt
    have hr0 := Kh.out.c0; have hr1 := Kh.out.c1; have hr2 := Kh.out.c2; have hlt := Kh.out.lt
    have hz0 := Kh.out.fz 0; have hz1 := Kh.out.fz 1; have hz2 := Kh.out.fz 2
    obtain ⟨wb, hwn⟩ : ∃ W, W = put3 wa (w5.heap.size + 1 + 1 + 1 + 1) (.bool qh.s) (.int .i64 qh.e) (.slice Ah nh ch) := ⟨_, rfl⟩
    replace Ka := Lib.hid (bx_far Ka.out (show w5.heap.size ≠ (w5.heap.size + 1 + 1 + 1 + 1) by omega) (.bool qh.s) (.int .i64 qh.e) (.slice Ah nh ch))
    rw [← hwn] at Ka
    replace Kb := Lib.hid (bx_far Kb.out (show (w5.heap.size + 1) ≠ (w5.heap.size + 1 + 1 + 1 + 1) by omega) (.bool qh.s) (.int .i64 qh.e) (.slice Ah nh ch))
    rw [← hwn] at Kb
    replace Kv := Lib.hid (bx_far Kv.out (show (w5.heap.size + 1 + 1) ≠ (w5.heap.size + 1 + 1 + 1 + 1) by omega) (.bool qh.s) (.int .i64 qh.e) (.slice Ah nh ch))
    rw [← hwn] at Kv
    replace Kl := Lib.hid (bx_far Kl.out (show (w5.heap.size + 1 + 1 + 1) ≠ (w5.heap.size + 1 + 1 + 1 + 1) by omega) (.bool qh.s) (.int .i64 qh.e) (.slice Ah nh ch))
    rw [← hwn] at Kl
    replace Kh : Hid (Bx wb (w5.heap.size + 1 + 1 + 1 + 1) qh.s qh.e Ah nh ch) := Lib.hid (by rw [hwn]; exact Blk.putted Kh.out _ _ _)
    replace Ia := Lib.hid (is_put (g := (w5.heap.size + 1 + 1 + 1 + 1)) Ia.out Oa.out (by omega) (by omega) (.bool qh.s) (.int .i64 qh.e) (.slice Ah nh ch))
    rw [← hwn] at Ia
    replace Ib := Lib.hid (is_put (g := (w5.heap.size + 1 + 1 + 1 + 1)) Ib.out Ob.out (by omega) (by omega) (.bool qh.s) (.int .i64 qh.e) (.slice Ah nh ch))
    rw [← hwn] at Ib
    replace Iv := Lib.hid (is_put (g := (w5.heap.size + 1 + 1 + 1 + 1)) Iv.out Ov.out (by omega) (by omega) (.bool qh.s) (.int .i64 qh.e) (.slice Ah nh ch))
    rw [← hwn] at Iv
    replace Il := Lib.hid (is_put (g := (w5.heap.size + 1 + 1 + 1 + 1)) Il.out Ol.out (by omega) (by omega) (.bool qh.s) (.int .i64 qh.e) (.slice Ah nh ch))
    rw [← hwn] at Il
    replace Ih := Lib.hid (is_put (g := (w5.heap.size + 1 + 1 + 1 + 1)) Ih.out Oh.out (by omega) (by omega) (.bool qh.s) (.int .i64 qh.e) (.slice Ah nh ch))
    rw [← hwn] at Ih
    replace BB : Hid (Below w.heap.size w wb) := Lib.hid (by rw [hwn]; exact below_put3 BB.out (by omega) _ _ _)
    replace hlz : w5.heap.size + 5 ≤ wb.heap.size := by rw [hwn, size_put3]; exact hlz
    have HWn := Lib.hid hwn
    clear hwn
    have D := Lib.hid (ncmp_v (a := ql) (b := qv) Il.out Iv.out Vl.out Vv.out)
    rw [← TT1.out] at D
    go_wp2_with fail
    change Calls _ _ _ (put3 wa (w5.heap.size + 1 + 1 + 1 + 1) (.bool qh.s) (.int .i64 qh.e) (.slice Ah nh ch)) _
    rw [← HWn.out]
    refine D.out.mono ?_
    clear D HWn
    clear ar0 ar1 ar2 alt br0 br1 br2 blt vr0 vr1 vr2 vlt lr0 lr1 lr2 llt hr0 hr1 hr2 hlt hz0 hz1 hz2
    rintro _ wc ⟨rfl, b⟩
    replace Ka := Lib.hid (Ka.out.step b)
    replace Ia := Lib.hid (Ia.out.step b)
    replace Kb := Lib.hid (Kb.out.step b)
    replace Ib := Lib.hid (Ib.out.step b)
    replace Kv := Lib.hid (Kv.out.step b)
    replace Iv := Lib.hid (Iv.out.step b)
    replace Kl := Lib.hid (Kl.out.step b)
    replace Il := Lib.hid (Il.out.step b)
    replace Kh := Lib.hid (Kh.out.step b)
    replace Ih := Lib.hid (Ih.out.step b)
    replace BB := Lib.hid (below_step BB.out b)
    clear b
    have ar0 := Ka.out.c0; have ar1 := Ka.out.c1; have ar2 := Ka.out.c2; have alt := Ka.out.lt
    have br0 := Kb.out.c0; have br1 := Kb.out.c1; have br2 := Kb.out.c2; have blt := Kb.out.lt
    have vr0 := Kv.out.c0; have vr1 := Kv.out.c1; have vr2 := Kv.out.c2; have vlt := Kv.out.lt
    have lr0 := Kl.out.c0; have lr1 := Kl.out.c1; have lr2 := Kl.out.c2; have llt := Kl.out.lt
    have hr0 := Kh.out.c0; have hr1 := Kh.out.c1; have hr2 := Kh.out.c2; have hlt := Kh.out.lt
    have D := Lib.hid (ncmp_v (a := qv) (b := qh) Iv.out Ih.out Vv.out Vh.out)
    rw [← TT2.out] at D
    go_wp2_with fail
    refine D.out.mono ?_
    clear D
    clear ar0 ar1 ar2 alt br0 br1 br2 blt vr0 vr1 vr2 vlt lr0 lr1 lr2 llt hr0 hr1 hr2 hlt
    rintro _ wd ⟨rfl, b⟩
    replace Ka := Lib.hid (Ka.out.step b)
    replace Ia := Lib.hid (Ia.out.step b)
    replace Kb := Lib.hid (Kb.out.step b)
    replace Ib := Lib.hid (Ib.out.step b)
    replace Kv := Lib.hid (Kv.out.step b)
    replace Iv := Lib.hid (Iv.out.step b)
    replace Kl := Lib.hid (Kl.out.step b)
    replace Il := Lib.hid (Il.out.step b)
    replace Kh := Lib.hid (Kh.out.step b)
    replace Ih := Lib.hid (Ih.out.step b)
    replace BB := Lib.hid (below_step BB.out b)
    clear b
    have ar0 := Ka.out.c0; have ar1 := Ka.out.c1; have ar2 := Ka.out.c2; have alt := Ka.out.lt
    have br0 := Kb.out.c0; have br1 := Kb.out.c1; have br2 := Kb.out.c2; have blt := Kb.out.lt
    have vr0 := Kv.out.c0; have vr1 := Kv.out.c1; have vr2 := Kv.out.c2; have vlt := Kv.out.lt
    have lr0 := Kl.out.c0; have lr1 := Kl.out.c1; have lr2 := Kl.out.c2; have llt := Kl.out.lt
    have hr0 := Kh.out.c0; have hr1 := Kh.out.c1; have hr2 := Kh.out.c2; have hlt := Kh.out.lt
    have D := Lib.hid (bits_has (Il.out.has Vl.out.2.1) (by omega))
    go_wp2_with fail
    refine D.out.mono ?_
    clear D
    clear ar0 ar1 ar2 alt br0 br1 br2 blt vr0 vr1 vr2 vlt lr0 lr1 lr2 llt hr0 hr1 hr2 hlt
    rintro _ we ⟨rfl, rfl⟩
    have ar0 := Ka.out.c0; have ar1 := Ka.out.c1; have ar2 := Ka.out.c2; have alt := Ka.out.lt
    have br0 := Kb.out.c0; have br1 := Kb.out.c1; have br2 := Kb.out.c2; have blt := Kb.out.lt
    have vr0 := Kv.out.c0; have vr1 := Kv.out.c1; have vr2 := Kv.out.c2; have vlt := Kv.out.lt
    have lr0 := Kl.out.c0; have lr1 := Kl.out.c1; have lr2 := Kl.out.c2; have llt := Kl.out.lt
    have hr0 := Kh.out.c0; have hr1 := Kh.out.c1; have hr2 := Kh.out.c2; have hlt := Kh.out.lt
    have D := Lib.hid (bits_has (Ih.out.has Vh.out.2.1) (by omega))
    go_wp2_with fail
    refine D.out.mono ?_
    clear D
    clear ar0 ar1 ar2 alt br0 br1 br2 blt vr0 vr1 vr2 vlt lr0 lr1 lr2 llt hr0 hr1 hr2 hlt
    rintro _ wf ⟨rfl, rfl⟩
    clear Ka Kb Kv Ia Ib Iv
    have lr0 := Kl.out.c0; have lr1 := Kl.out.c1; have lr2 := Kl.out.c2; have llt := Kl.out.lt
    have hr0 := Kh.out.c0; have hr1 := Kh.out.c1; have hr2 := Kh.out.c2; have hlt := Kh.out.lt
    have D := Lib.hid (nadd_v (a := ql) (b := qh) Il.out Ih.out Vl.out Vh.out (HT.out.below BB.out))
    rw [R4.out] at D
    go_wp2_with fail
    refine D.out.mono ?_
    clear D
    clear lr0 lr1 lr2 llt hr0 hr1 hr2 hlt
    rintro _ wg ⟨_, rfl, ⟨As2, ns2, cs2, rfl, hh⟩, b⟩
    replace Kl := Lib.hid (Kl.out.step b)
    replace Il := Lib.hid (Il.out.step b)
    replace Kh := Lib.hid (Kh.out.step b)
    replace Ih := Lib.hid (Ih.out.step b)
    replace BB := Lib.hid (below_step BB.out b)
    have obs2 := one_below wg (.cells #[.bool qs.s, .int .i64 qs.e, .slice As2 ns2 cs2] 24)
    have Is2 := Lib.hid (Is.step (num_is hh) obs2); have Ks2 := Lib.hid (Bx.new wg qs.s qs.e As2 ns2 cs2)
    replace BB := Lib.hid (below_step BB.out obs2)
    clear hh
    clear b
    have lr0 := Kl.out.c0; have lr1 := Kl.out.c1; have lr2 := Kl.out.c2; have llt := Kl.out.lt
    have hr0 := Kh.out.c0; have hr1 := Kh.out.c1; have hr2 := Kh.out.c2; have hlt := Kh.out.lt
    have D := Lib.hid (nscale_v (a := qs) (-1) Is2.out Vs.out (HT.out.below BB.out))
    rw [R5.out] at D
    go_wp2_with fail
    refine D.out.mono ?_
    clear D
    clear lr0 lr1 lr2 llt hr0 hr1 hr2 hlt
    rintro _ wh ⟨_, rfl, ⟨Am, nm, cm, rfl, hh⟩, b⟩
    replace Kl := Lib.hid (Kl.out.step (below_step obs2 b))
    replace Il := Lib.hid (Il.out.step (below_step obs2 b))
    replace Kh := Lib.hid (Kh.out.step (below_step obs2 b))
    replace Ih := Lib.hid (Ih.out.step (below_step obs2 b))
    replace Ks2 := Lib.hid (Ks2.out.step b)
    replace Is2 := Lib.hid (Is2.out.step b)
    replace BB := Lib.hid (below_step BB.out b)
    clear obs2
    have obm := one_below wh (.cells #[.bool qm.s, .int .i64 qm.e, .slice Am nm cm] 24)
    have Im := Lib.hid (Is.step (num_is hh) obm); have Km := Lib.hid (Bx.new wh qm.s qm.e Am nm cm)
    replace BB := Lib.hid (below_step BB.out obm)
    clear hh
    clear b
    have lr0 := Kl.out.c0; have lr1 := Kl.out.c1; have lr2 := Kl.out.c2; have llt := Kl.out.lt
    have hr0 := Kh.out.c0; have hr1 := Kh.out.c1; have hr2 := Kh.out.c2; have hlt := Kh.out.lt
    have s2r0 := Ks2.out.c0; have s2r1 := Ks2.out.c1; have s2r2 := Ks2.out.c2; have s2lt := Ks2.out.lt
    have D := Lib.hid (xfit_v (a := qm) p false Im.out Vm.out HP.out (HT.out.below BB.out))
    rw [R6.out] at D
    go_wp2_with fail
    refine D.out.mono ?_
    clear D
    clear lr0 lr1 lr2 llt hr0 hr1 hr2 hlt s2r0 s2r1 s2r2 s2lt
    rintro _ wi ⟨_, rfl, ⟨At, nt, ct, rfl, hh⟩, b⟩
    replace Kl := Lib.hid (Kl.out.step (below_step obm b))
    replace Il := Lib.hid (Il.out.step (below_step obm b))
    replace Kh := Lib.hid (Kh.out.step (below_step obm b))
    replace Ih := Lib.hid (Ih.out.step (below_step obm b))
    replace Ks2 := Lib.hid (Ks2.out.step (below_step obm b))
    replace Is2 := Lib.hid (Is2.out.step (below_step obm b))
    replace Km := Lib.hid (Km.out.step b)
    replace Im := Lib.hid (Im.out.step b)
    replace BB := Lib.hid (below_step BB.out b)
    clear obm
    have obt := one_below wi (.cells #[.bool ql.s, .int .i64 ql.e, .slice At nt ct] 24)
    have It := Lib.hid (Is.step (num_is hh) obt); have Kt := Lib.hid (Bx.new wi ql.s ql.e At nt ct)
    replace BB := Lib.hid (below_step BB.out obt)
    clear hh
    clear b
    have lr0 := Kl.out.c0; have lr1 := Kl.out.c1; have lr2 := Kl.out.c2; have llt := Kl.out.lt
    have hr0 := Kh.out.c0; have hr1 := Kh.out.c1; have hr2 := Kh.out.c2; have hlt := Kh.out.lt
    have s2r0 := Ks2.out.c0; have s2r1 := Ks2.out.c1; have s2r2 := Ks2.out.c2; have s2lt := Ks2.out.lt
    have mr0 := Km.out.c0; have mr1 := Km.out.c1; have mr2 := Km.out.c2; have mlt := Km.out.lt
    have D := Lib.hid (nsame_v (a := ql) (b := ql) It.out (Il.out.step obt) Vl.out Vl.out)
    rw [sameb_self] at D
    go_wp2_with fail
    refine D.out.mono ?_
    clear D
    clear lr0 lr1 lr2 llt hr0 hr1 hr2 hlt s2r0 s2r1 s2r2 s2lt mr0 mr1 mr2 mlt
    rintro _ wj ⟨rfl, b⟩
    replace Kl := Lib.hid (Kl.out.step (below_step obt b))
    replace Il := Lib.hid (Il.out.step (below_step obt b))
    replace Kh := Lib.hid (Kh.out.step (below_step obt b))
    replace Ih := Lib.hid (Ih.out.step (below_step obt b))
    replace Ks2 := Lib.hid (Ks2.out.step (below_step obt b))
    replace Is2 := Lib.hid (Is2.out.step (below_step obt b))
    replace Km := Lib.hid (Km.out.step (below_step obt b))
    replace Im := Lib.hid (Im.out.step (below_step obt b))
    replace Kt := Lib.hid (Kt.out.step b)
    replace It := Lib.hid (It.out.step b)
    replace BB := Lib.hid (below_step BB.out b)
    clear obt
    clear b
    go_wp2
    go_ret
    exact ⟨rfl, BB.out⟩
  · have e1 : (u : Int) % 3 = 2 := by rw [HK.out, h3]; rfl
    clear h3 HK
    obtain ⟨b1', b2', b3', b4', b5', b6', b7', b8', b9', ba'⟩ := betweens (v := times qa qb) (P := P) (ofz_canon _ _) (bd_times Fa.out.bd8 Fb.out.bd8) (by omega) hP1 hP2
    obtain ⟨qv, hqv⟩ : ∃ q, q = times qa qb := ⟨_, rfl⟩
    rw [← hqv] at b1' b2' b3' b4' b5' b6' b7' b8' b9' ba'
    obtain ⟨ql, hql⟩ : ∃ q, q = rnd P false qv := ⟨_, rfl⟩
    obtain ⟨qh, hqh⟩ : ∃ q, q = rnd P true qv := ⟨_, rfl⟩
    rw [← hql] at b2' b4' b5' b6' b8' ba'
    rw [← hqh] at b3' b4' b5' b7' b9' ba'
    obtain ⟨qs, hqs⟩ : ∃ q, q = plus ql qh := ⟨_, rfl⟩
    rw [← hqs] at b4' b5' ba'
    obtain ⟨qm, hqm⟩ : ∃ q, q = halfq qs := ⟨_, rfl⟩
    rw [← hqm] at b5' ba'
    have R1 := Lib.hid (show res (times qa qb) = (qv, 0) by rw [← hqv]; exact res_ok b1'.2)
    have R2 := Lib.hid (show gmul p false qa qb = (ql, 0) by unfold gmul; rw [HPt.out, ← hqv, ← hql]; exact res_ok b2'.2)
    have R3 := Lib.hid (show gmul p true qa qb = (qh, 0) by unfold gmul; rw [HPt.out, ← hqv, ← hqh]; exact res_ok b3'.2)
    have R4 := Lib.hid (show res (plus ql qh) = (qs, 0) by rw [← hqs]; exact res_ok b4'.2)
    have R5 := Lib.hid (show res (nm qs.s qs.m (qs.e + -1)) = (qm, 0) by rw [hqm]; rw [hqm] at b5'; exact res_ok b5'.2)
    have R6 := Lib.hid (show res (rnd p.toNat false qm) = (ql, 0) by rw [HPt.out, ba']; exact res_ok b2'.2)
    obtain ⟨t1, ht1⟩ : ∃ t, t = cmpq ql qv := ⟨_, rfl⟩
    obtain ⟨t2, ht2⟩ : ∃ t, t = cmpq qv qh := ⟨_, rfl⟩
    rw [← ht1] at b6'
    rw [← ht2] at b7'
    have l1 : (nbits ql.m : Int) ≤ p := by have := HPP.out; omega
    have l2 : (nbits qh.m : Int) ≤ p := by have := HPP.out; omega
    have Vv := Lib.hid b1'; have Vl := Lib.hid b2'; have Vh := Lib.hid b3'; have Vs := Lib.hid b4'; have Vm := Lib.hid b5'
    have TT1 := Lib.hid ht1; have TT2 := Lib.hid ht2
    clear b1' b2' b3' b4' b5' b8' b9' ba' hqv hql hqh hqs hqm ht1 ht2
    have D := Lib.hid (nmul_v (a := qa) (b := qb) Ia.out Ib.out Va.out Vb.out (HT.out.below BB.out))
    rw [R1.out] at D
    go_wp2_with fail
    refine D.out.mono ?_
    clear D
    rintro _ w6 ⟨_, rfl, ⟨Av, nv, cv, rfl, hh⟩, b⟩
    have hlo : w5.heap.size + 5 ≤ (((((w5.alloc (.cells #[.bool qa.s, .int .i64 qa.e, .slice Aa na ca] 24)).alloc (.cells #[.bool qb.s, .int .i64 qb.e, .slice Ab nb cb] 24)).alloc (.cells #[.bool false, .int .i64 0, .slice none 0 0] 24)).alloc (.cells #[.bool false, .int .i64 0, .slice none 0 0] 24)).alloc (.cells #[.bool false, .int .i64 0, .slice none 0 0] 24)).heap.size := by rw [hs0]; omega
    have Ov := Lib.hid (Out5.hi hh hlo)
    clear hlo
    replace Ka := Lib.hid (Ka.out.step b)
    replace Ia := Lib.hid (Ia.out.step b)
    replace Kb := Lib.hid (Kb.out.step b)
    replace Ib := Lib.hid (Ib.out.step b)
    replace Kv := Lib.hid (Kv.out.step b)
    replace Kl := Lib.hid (Kl.out.step b)
    replace Kh := Lib.hid (Kh.out.step b)
    replace BB := Lib.hid (below_step BB.out b)
    have Iv := Lib.hid (num_is hh)
    have hlz : w5.heap.size + 5 ≤ w6.heap.size := Nat.le_trans (by rw [hs0]; omega) b.size
    clear hh b
    have ar0 := Ka.out.c0; have ar1 := Ka.out.c1; have ar2 := Ka.out.c2; have alt := Ka.out.lt
    have br0 := Kb.out.c0; have br1 := Kb.out.c1; have br2 := Kb.out.c2; have blt := Kb.out.lt
    have vr0 := Kv.out.c0; have vr1 := Kv.out.c1; have vr2 := Kv.out.c2; have vlt := Kv.out.lt
    have lr0 := Kl.out.c0; have lr1 := Kl.out.c1; have lr2 := Kl.out.c2; have llt := Kl.out.lt
    have hr0 := Kh.out.c0; have hr1 := Kh.out.c1; have hr2 := Kh.out.c2; have hlt := Kh.out.lt
    have vz0 := Kv.out.fz 0; have vz1 := Kv.out.fz 1; have vz2 := Kv.out.fz 2
    obtain ⟨w7, hwn⟩ : ∃ W, W = put3 w6 (w5.heap.size + 1 + 1) (.bool qv.s) (.int .i64 qv.e) (.slice Av nv cv) := ⟨_, rfl⟩
    replace Ka := Lib.hid (bx_far Ka.out (show w5.heap.size ≠ (w5.heap.size + 1 + 1) by omega) (.bool qv.s) (.int .i64 qv.e) (.slice Av nv cv))
    rw [← hwn] at Ka
    replace Kb := Lib.hid (bx_far Kb.out (show (w5.heap.size + 1) ≠ (w5.heap.size + 1 + 1) by omega) (.bool qv.s) (.int .i64 qv.e) (.slice Av nv cv))
    rw [← hwn] at Kb
    replace Kv : Hid (Bx w7 (w5.heap.size + 1 + 1) qv.s qv.e Av nv cv) := Lib.hid (by rw [hwn]; exact Blk.putted Kv.out _ _ _)
    replace Kl := Lib.hid (bx_far Kl.out (show (w5.heap.size + 1 + 1 + 1) ≠ (w5.heap.size + 1 + 1) by omega) (.bool qv.s) (.int .i64 qv.e) (.slice Av nv cv))
    rw [← hwn] at Kl
    replace Kh := Lib.hid (bx_far Kh.out (show (w5.heap.size + 1 + 1 + 1 + 1) ≠ (w5.heap.size + 1 + 1) by omega) (.bool qv.s) (.int .i64 qv.e) (.slice Av nv cv))
    rw [← hwn] at Kh
    replace Ia := Lib.hid (is_put (g := (w5.heap.size + 1 + 1)) Ia.out Oa.out (by omega) (by omega) (.bool qv.s) (.int .i64 qv.e) (.slice Av nv cv))
    rw [← hwn] at Ia
    replace Ib := Lib.hid (is_put (g := (w5.heap.size + 1 + 1)) Ib.out Ob.out (by omega) (by omega) (.bool qv.s) (.int .i64 qv.e) (.slice Av nv cv))
    rw [← hwn] at Ib
    replace Iv := Lib.hid (is_put (g := (w5.heap.size + 1 + 1)) Iv.out Ov.out (by omega) (by omega) (.bool qv.s) (.int .i64 qv.e) (.slice Av nv cv))
    rw [← hwn] at Iv
    replace BB : Hid (Below w.heap.size w w7) := Lib.hid (by rw [hwn]; exact below_put3 BB.out (by omega) _ _ _)
    replace hlz : w5.heap.size + 5 ≤ w7.heap.size := by rw [hwn, size_put3]; exact hlz
    have HWn := Lib.hid hwn
    clear hwn
    have D := Lib.hid (xmul_v (a := qa) (b := qb) p false Ia.out Ib.out Va.out Vb.out HP.out (HT.out.below BB.out))
    rw [R2.out] at D
    go_wp2_with fail
    change Calls _ _ _ (put3 w6 (w5.heap.size + 1 + 1) (.bool qv.s) (.int .i64 qv.e) (.slice Av nv cv)) _
    rw [← HWn.out]
    refine D.out.mono ?_
    clear D HWn
    clear ar0 ar1 ar2 alt br0 br1 br2 blt vr0 vr1 vr2 vlt lr0 lr1 lr2 llt hr0 hr1 hr2 hlt vz0 vz1 vz2
    rintro _ w8 ⟨_, rfl, ⟨Al, nl, cl, rfl, hh⟩, b⟩
    have Ol := Lib.hid (Out5.hi hh hlz)
    replace Ka := Lib.hid (Ka.out.step b)
    replace Ia := Lib.hid (Ia.out.step b)
    replace Kb := Lib.hid (Kb.out.step b)
    replace Ib := Lib.hid (Ib.out.step b)
    replace Kv := Lib.hid (Kv.out.step b)
    replace Iv := Lib.hid (Iv.out.step b)
    replace Kl := Lib.hid (Kl.out.step b)
    replace Kh := Lib.hid (Kh.out.step b)
    replace BB := Lib.hid (below_step BB.out b)
    have Il := Lib.hid (num_is hh)
    replace hlz : w5.heap.size + 5 ≤ w8.heap.size := Nat.le_trans hlz b.size
    clear hh b
    have ar0 := Ka.out.c0; have ar1 := Ka.out.c1; have ar2 := Ka.out.c2; have alt := Ka.out.lt
    have br0 := Kb.out.c0; have br1 := Kb.out.c1; have br2 := Kb.out.c2; have blt := Kb.out.lt
    have vr0 := Kv.out.c0; have vr1 := Kv.out.c1; have vr2 := Kv.out.c2; have vlt := Kv.out.lt
    have lr0 := Kl.out.c0; have lr1 := Kl.out.c1; have lr2 := Kl.out.c2; have llt := Kl.out.lt
    have hr0 := Kh.out.c0; have hr1 := Kh.out.c1; have hr2 := Kh.out.c2; have hlt := Kh.out.lt
    have lz0 := Kl.out.fz 0; have lz1 := Kl.out.fz 1; have lz2 := Kl.out.fz 2
    obtain ⟨w9, hwn⟩ : ∃ W, W = put3 w8 (w5.heap.size + 1 + 1 + 1) (.bool ql.s) (.int .i64 ql.e) (.slice Al nl cl) := ⟨_, rfl⟩
    replace Ka := Lib.hid (bx_far Ka.out (show w5.heap.size ≠ (w5.heap.size + 1 + 1 + 1) by omega) (.bool ql.s) (.int .i64 ql.e) (.slice Al nl cl))
    rw [← hwn] at Ka
    replace Kb := Lib.hid (bx_far Kb.out (show (w5.heap.size + 1) ≠ (w5.heap.size + 1 + 1 + 1) by omega) (.bool ql.s) (.int .i64 ql.e) (.slice Al nl cl))
    rw [← hwn] at Kb
    replace Kv := Lib.hid (bx_far Kv.out (show (w5.heap.size + 1 + 1) ≠ (w5.heap.size + 1 + 1 + 1) by omega) (.bool ql.s) (.int .i64 ql.e) (.slice Al nl cl))
    rw [← hwn] at Kv
    replace Kl : Hid (Bx w9 (w5.heap.size + 1 + 1 + 1) ql.s ql.e Al nl cl) := Lib.hid (by rw [hwn]; exact Blk.putted Kl.out _ _ _)
    replace Kh := Lib.hid (bx_far Kh.out (show (w5.heap.size + 1 + 1 + 1 + 1) ≠ (w5.heap.size + 1 + 1 + 1) by omega) (.bool ql.s) (.int .i64 ql.e) (.slice Al nl cl))
    rw [← hwn] at Kh
    replace Ia := Lib.hid (is_put (g := (w5.heap.size + 1 + 1 + 1)) Ia.out Oa.out (by omega) (by omega) (.bool ql.s) (.int .i64 ql.e) (.slice Al nl cl))
    rw [← hwn] at Ia
    replace Ib := Lib.hid (is_put (g := (w5.heap.size + 1 + 1 + 1)) Ib.out Ob.out (by omega) (by omega) (.bool ql.s) (.int .i64 ql.e) (.slice Al nl cl))
    rw [← hwn] at Ib
    replace Iv := Lib.hid (is_put (g := (w5.heap.size + 1 + 1 + 1)) Iv.out Ov.out (by omega) (by omega) (.bool ql.s) (.int .i64 ql.e) (.slice Al nl cl))
    rw [← hwn] at Iv
    replace Il := Lib.hid (is_put (g := (w5.heap.size + 1 + 1 + 1)) Il.out Ol.out (by omega) (by omega) (.bool ql.s) (.int .i64 ql.e) (.slice Al nl cl))
    rw [← hwn] at Il
    replace BB : Hid (Below w.heap.size w w9) := Lib.hid (by rw [hwn]; exact below_put3 BB.out (by omega) _ _ _)
    replace hlz : w5.heap.size + 5 ≤ w9.heap.size := by rw [hwn, size_put3]; exact hlz
    have HWn := Lib.hid hwn
    clear hwn
    have D := Lib.hid (xmul_v (a := qa) (b := qb) p true Ia.out Ib.out Va.out Vb.out HP.out (HT.out.below BB.out))
    rw [R3.out] at D
    go_wp2_with fail
    change Calls _ _ _ (put3 w8 (w5.heap.size + 1 + 1 + 1) (.bool ql.s) (.int .i64 ql.e) (.slice Al nl cl)) _
    rw [← HWn.out]
    refine D.out.mono ?_
    clear D HWn
    clear ar0 ar1 ar2 alt br0 br1 br2 blt vr0 vr1 vr2 vlt lr0 lr1 lr2 llt hr0 hr1 hr2 hlt lz0 lz1 lz2
    rintro _ wa ⟨_, rfl, ⟨Ah, nh, ch, rfl, hh⟩, b⟩
    have Oh := Lib.hid (Out5.hi hh hlz)
    replace Ka := Lib.hid (Ka.out.step b)
    replace Ia := Lib.hid (Ia.out.step b)
    replace Kb := Lib.hid (Kb.out.step b)
    replace Ib := Lib.hid (Ib.out.step b)
    replace Kv := Lib.hid (Kv.out.step b)
    replace Iv := Lib.hid (Iv.out.step b)
    replace Kl := Lib.hid (Kl.out.step b)
    replace Il := Lib.hid (Il.out.step b)
    replace Kh := Lib.hid (Kh.out.step b)
    replace BB := Lib.hid (below_step BB.out b)
    have Ih := Lib.hid (num_is hh)
    replace hlz : w5.heap.size + 5 ≤ wa.heap.size := Nat.le_trans hlz b.size
    clear hh b
    have ar0 := Ka.out.c0; have ar1 := Ka.out.c1; have ar2 := Ka.out.c2; have alt := Ka.out.lt
    have br0 := Kb.out.c0; have br1 := Kb.out.c1; have br2 := Kb.out.c2; have blt := Kb.out.lt
    have vr0 := Kv.out.c0; have vr1 := Kv.out.c1; have vr2 := Kv.out.c2; have vlt := Kv.out.lt
    have lr0 := Kl.out.c0; have lr1 := Kl.out.c1; have lr2 := Kl.out.c2; have llt := Kl.out.lt
    have hr0 := Kh.out.c0; have hr1 := Kh.out.c1; have hr2 := Kh.out.c2; have hlt := Kh.out.lt
    have hz0 := Kh.out.fz 0; have hz1 := Kh.out.fz 1; have hz2 := Kh.out.fz 2
    obtain ⟨wb, hwn⟩ : ∃ W, W = put3 wa (w5.heap.size + 1 + 1 + 1 + 1) (.bool qh.s) (.int .i64 qh.e) (.slice Ah nh ch) := ⟨_, rfl⟩
    replace Ka := Lib.hid (bx_far Ka.out (show w5.heap.size ≠ (w5.heap.size + 1 + 1 + 1 + 1) by omega) (.bool qh.s) (.int .i64 qh.e) (.slice Ah nh ch))
    rw [← hwn] at Ka
    replace Kb := Lib.hid (bx_far Kb.out (show (w5.heap.size + 1) ≠ (w5.heap.size + 1 + 1 + 1 + 1) by omega) (.bool qh.s) (.int .i64 qh.e) (.slice Ah nh ch))
    rw [← hwn] at Kb
    replace Kv := Lib.hid (bx_far Kv.out (show (w5.heap.size + 1 + 1) ≠ (w5.heap.size + 1 + 1 + 1 + 1) by omega) (.bool qh.s) (.int .i64 qh.e) (.slice Ah nh ch))
    rw [← hwn] at Kv
    replace Kl := Lib.hid (bx_far Kl.out (show (w5.heap.size + 1 + 1 + 1) ≠ (w5.heap.size + 1 + 1 + 1 + 1) by omega) (.bool qh.s) (.int .i64 qh.e) (.slice Ah nh ch))
    rw [← hwn] at Kl
    replace Kh : Hid (Bx wb (w5.heap.size + 1 + 1 + 1 + 1) qh.s qh.e Ah nh ch) := Lib.hid (by rw [hwn]; exact Blk.putted Kh.out _ _ _)
    replace Ia := Lib.hid (is_put (g := (w5.heap.size + 1 + 1 + 1 + 1)) Ia.out Oa.out (by omega) (by omega) (.bool qh.s) (.int .i64 qh.e) (.slice Ah nh ch))
    rw [← hwn] at Ia
    replace Ib := Lib.hid (is_put (g := (w5.heap.size + 1 + 1 + 1 + 1)) Ib.out Ob.out (by omega) (by omega) (.bool qh.s) (.int .i64 qh.e) (.slice Ah nh ch))
    rw [← hwn] at Ib
    replace Iv := Lib.hid (is_put (g := (w5.heap.size + 1 + 1 + 1 + 1)) Iv.out Ov.out (by omega) (by omega) (.bool qh.s) (.int .i64 qh.e) (.slice Ah nh ch))
    rw [← hwn] at Iv
    replace Il := Lib.hid (is_put (g := (w5.heap.size + 1 + 1 + 1 + 1)) Il.out Ol.out (by omega) (by omega) (.bool qh.s) (.int .i64 qh.e) (.slice Ah nh ch))
    rw [← hwn] at Il
    replace Ih := Lib.hid (is_put (g := (w5.heap.size + 1 + 1 + 1 + 1)) Ih.out Oh.out (by omega) (by omega) (.bool qh.s) (.int .i64 qh.e) (.slice Ah nh ch))
    rw [← hwn] at Ih
    replace BB : Hid (Below w.heap.size w wb) := Lib.hid (by rw [hwn]; exact below_put3 BB.out (by omega) _ _ _)
    replace hlz : w5.heap.size + 5 ≤ wb.heap.size := by rw [hwn, size_put3]; exact hlz
    have HWn := Lib.hid hwn
    clear hwn
    have D := Lib.hid (ncmp_v (a := ql) (b := qv) Il.out Iv.out Vl.out Vv.out)
    rw [← TT1.out] at D
    go_wp2_with fail
    change Calls _ _ _ (put3 wa (w5.heap.size + 1 + 1 + 1 + 1) (.bool qh.s) (.int .i64 qh.e) (.slice Ah nh ch)) _
    rw [← HWn.out]
    refine D.out.mono ?_
    clear D HWn
    clear ar0 ar1 ar2 alt br0 br1 br2 blt vr0 vr1 vr2 vlt lr0 lr1 lr2 llt hr0 hr1 hr2 hlt hz0 hz1 hz2
    rintro _ wc ⟨rfl, b⟩
    replace Ka := Lib.hid (Ka.out.step b)
    replace Ia := Lib.hid (Ia.out.step b)
    replace Kb := Lib.hid (Kb.out.step b)
    replace Ib := Lib.hid (Ib.out.step b)
    replace Kv := Lib.hid (Kv.out.step b)
    replace Iv := Lib.hid (Iv.out.step b)
    replace Kl := Lib.hid (Kl.out.step b)
    replace Il := Lib.hid (Il.out.step b)
    replace Kh := Lib.hid (Kh.out.step b)
    replace Ih := Lib.hid (Ih.out.step b)
    replace BB := Lib.hid (below_step BB.out b)
    clear b
    have ar0 := Ka.out.c0; have ar1 := Ka.out.c1; have ar2 := Ka.out.c2; have alt := Ka.out.lt
    have br0 := Kb.out.c0; have br1 := Kb.out.c1; have br2 := Kb.out.c2; have blt := Kb.out.lt
    have vr0 := Kv.out.c0; have vr1 := Kv.out.c1; have vr2 := Kv.out.c2; have vlt := Kv.out.lt
    have lr0 := Kl.out.c0; have lr1 := Kl.out.c1; have lr2 := Kl.out.c2; have llt := Kl.out.lt
    have hr0 := Kh.out.c0; have hr1 := Kh.out.c1; have hr2 := Kh.out.c2; have hlt := Kh.out.lt
    have D := Lib.hid (ncmp_v (a := qv) (b := qh) Iv.out Ih.out Vv.out Vh.out)
    rw [← TT2.out] at D
    go_wp2_with fail
    refine D.out.mono ?_
    clear D
    clear ar0 ar1 ar2 alt br0 br1 br2 blt vr0 vr1 vr2 vlt lr0 lr1 lr2 llt hr0 hr1 hr2 hlt
    rintro _ wd ⟨rfl, b⟩
    replace Ka := Lib.hid (Ka.out.step b)
    replace Ia := Lib.hid (Ia.out.step b)
    replace Kb := Lib.hid (Kb.out.step b)
    replace Ib := Lib.hid (Ib.out.step b)
    replace Kv := Lib.hid (Kv.out.step b)
    replace Iv := Lib.hid (Iv.out.step b)
    replace Kl := Lib.hid (Kl.out.step b)
    replace Il := Lib.hid (Il.out.step b)
    replace Kh := Lib.hid (Kh.out.step b)
    replace Ih := Lib.hid (Ih.out.step b)
    replace BB := Lib.hid (below_step BB.out b)
    clear b
    have ar0 := Ka.out.c0; have ar1 := Ka.out.c1; have ar2 := Ka.out.c2; have alt := Ka.out.lt
    have br0 := Kb.out.c0; have br1 := Kb.out.c1; have br2 := Kb.out.c2; have blt := Kb.out.lt
    have vr0 := Kv.out.c0; have vr1 := Kv.out.c1; have vr2 := Kv.out.c2; have vlt := Kv.out.lt
    have lr0 := Kl.out.c0; have lr1 := Kl.out.c1; have lr2 := Kl.out.c2; have llt := Kl.out.lt
    have hr0 := Kh.out.c0; have hr1 := Kh.out.c1; have hr2 := Kh.out.c2; have hlt := Kh.out.lt
    have D := Lib.hid (bits_has (Il.out.has Vl.out.2.1) (by omega))
    go_wp2_with fail
    refine D.out.mono ?_
    clear D
    clear ar0 ar1 ar2 alt br0 br1 br2 blt vr0 vr1 vr2 vlt lr0 lr1 lr2 llt hr0 hr1 hr2 hlt
    rintro _ we ⟨rfl, rfl⟩
    have ar0 := Ka.out.c0; have ar1 := Ka.out.c1; have ar2 := Ka.out.c2; have alt := Ka.out.lt
    have br0 := Kb.out.c0; have br1 := Kb.out.c1; have br2 := Kb.out.c2; have blt := Kb.out.lt
    have vr0 := Kv.out.c0; have vr1 := Kv.out.c1; have vr2 := Kv.out.c2; have vlt := Kv.out.lt
    have lr0 := Kl.out.c0; have lr1 := Kl.out.c1; have lr2 := Kl.out.c2; have llt := Kl.out.lt
    have hr0 := Kh.out.c0; have hr1 := Kh.out.c1; have hr2 := Kh.out.c2; have hlt := Kh.out.lt
    have D := Lib.hid (bits_has (Ih.out.has Vh.out.2.1) (by omega))
    go_wp2_with fail
    refine D.out.mono ?_
    clear D
    clear ar0 ar1 ar2 alt br0 br1 br2 blt vr0 vr1 vr2 vlt lr0 lr1 lr2 llt hr0 hr1 hr2 hlt
    rintro _ wf ⟨rfl, rfl⟩
    clear Ka Kb Kv Ia Ib Iv
    have lr0 := Kl.out.c0; have lr1 := Kl.out.c1; have lr2 := Kl.out.c2; have llt := Kl.out.lt
    have hr0 := Kh.out.c0; have hr1 := Kh.out.c1; have hr2 := Kh.out.c2; have hlt := Kh.out.lt
    have D := Lib.hid (nadd_v (a := ql) (b := qh) Il.out Ih.out Vl.out Vh.out (HT.out.below BB.out))
    rw [R4.out] at D
    go_wp2_with fail
    refine D.out.mono ?_
    clear D
    clear lr0 lr1 lr2 llt hr0 hr1 hr2 hlt
    rintro _ wg ⟨_, rfl, ⟨As2, ns2, cs2, rfl, hh⟩, b⟩
    replace Kl := Lib.hid (Kl.out.step b)
    replace Il := Lib.hid (Il.out.step b)
    replace Kh := Lib.hid (Kh.out.step b)
    replace Ih := Lib.hid (Ih.out.step b)
    replace BB := Lib.hid (below_step BB.out b)
    have obs2 := one_below wg (.cells #[.bool qs.s, .int .i64 qs.e, .slice As2 ns2 cs2] 24)
    have Is2 := Lib.hid (Is.step (num_is hh) obs2); have Ks2 := Lib.hid (Bx.new wg qs.s qs.e As2 ns2 cs2)
    replace BB := Lib.hid (below_step BB.out obs2)
    clear hh
    clear b
    have lr0 := Kl.out.c0; have lr1 := Kl.out.c1; have lr2 := Kl.out.c2; have llt := Kl.out.lt
    have hr0 := Kh.out.c0; have hr1 := Kh.out.c1; have hr2 := Kh.out.c2; have hlt := Kh.out.lt
    have D := Lib.hid (nscale_v (a := qs) (-1) Is2.out Vs.out (HT.out.below BB.out))
    rw [R5.out] at D
    go_wp2_with fail
    refine D.out.mono ?_
    clear D
    clear lr0 lr1 lr2 llt hr0 hr1 hr2 hlt
    rintro _ wh ⟨_, rfl, ⟨Am, nm, cm, rfl, hh⟩, b⟩
    replace Kl := Lib.hid (Kl.out.step (below_step obs2 b))
    replace Il := Lib.hid (Il.out.step (below_step obs2 b))
    replace Kh := Lib.hid (Kh.out.step (below_step obs2 b))
    replace Ih := Lib.hid (Ih.out.step (below_step obs2 b))
    replace Ks2 := Lib.hid (Ks2.out.step b)
    replace Is2 := Lib.hid (Is2.out.step b)
    replace BB := Lib.hid (below_step BB.out b)
    clear obs2
    have obm := one_below wh (.cells #[.bool qm.s, .int .i64 qm.e, .slice Am nm cm] 24)
    have Im := Lib.hid (Is.step (num_is hh) obm); have Km := Lib.hid (Bx.new wh qm.s qm.e Am nm cm)
    replace BB := Lib.hid (below_step BB.out obm)
    clear hh
    clear b
    have lr0 := Kl.out.c0; have lr1 := Kl.out.c1; have lr2 := Kl.out.c2; have llt := Kl.out.lt
    have hr0 := Kh.out.c0; have hr1 := Kh.out.c1; have hr2 := Kh.out.c2; have hlt := Kh.out.lt
    have s2r0 := Ks2.out.c0; have s2r1 := Ks2.out.c1; have s2r2 := Ks2.out.c2; have s2lt := Ks2.out.lt
    have D := Lib.hid (xfit_v (a := qm) p false Im.out Vm.out HP.out (HT.out.below BB.out))
    rw [R6.out] at D
    go_wp2_with fail
    refine D.out.mono ?_
    clear D
    clear lr0 lr1 lr2 llt hr0 hr1 hr2 hlt s2r0 s2r1 s2r2 s2lt
    rintro _ wi ⟨_, rfl, ⟨At, nt, ct, rfl, hh⟩, b⟩
    replace Kl := Lib.hid (Kl.out.step (below_step obm b))
    replace Il := Lib.hid (Il.out.step (below_step obm b))
    replace Kh := Lib.hid (Kh.out.step (below_step obm b))
    replace Ih := Lib.hid (Ih.out.step (below_step obm b))
    replace Ks2 := Lib.hid (Ks2.out.step (below_step obm b))
    replace Is2 := Lib.hid (Is2.out.step (below_step obm b))
    replace Km := Lib.hid (Km.out.step b)
    replace Im := Lib.hid (Im.out.step b)
    replace BB := Lib.hid (below_step BB.out b)
    clear obm
    have obt := one_below wi (.cells #[.bool ql.s, .int .i64 ql.e, .slice At nt ct] 24)
    have It := Lib.hid (Is.step (num_is hh) obt); have Kt := Lib.hid (Bx.new wi ql.s ql.e At nt ct)
    replace BB := Lib.hid (below_step BB.out obt)
    clear hh
    clear b
    have lr0 := Kl.out.c0; have lr1 := Kl.out.c1; have lr2 := Kl.out.c2; have llt := Kl.out.lt
    have hr0 := Kh.out.c0; have hr1 := Kh.out.c1; have hr2 := Kh.out.c2; have hlt := Kh.out.lt
    have s2r0 := Ks2.out.c0; have s2r1 := Ks2.out.c1; have s2r2 := Ks2.out.c2; have s2lt := Ks2.out.lt
    have mr0 := Km.out.c0; have mr1 := Km.out.c1; have mr2 := Km.out.c2; have mlt := Km.out.lt
    have D := Lib.hid (nsame_v (a := ql) (b := ql) It.out (Il.out.step obt) Vl.out Vl.out)
    rw [sameb_self] at D
    go_wp2_with fail
    refine D.out.mono ?_
    clear D
    clear lr0 lr1 lr2 llt hr0 hr1 hr2 hlt s2r0 s2r1 s2r2 s2lt mr0 mr1 mr2 mlt
    rintro _ wj ⟨rfl, b⟩
    replace Kl := Lib.hid (Kl.out.step (below_step obt b))
    replace Il := Lib.hid (Il.out.step (below_step obt b))
    replace Kh := Lib.hid (Kh.out.step (below_step obt b))
    replace Ih := Lib.hid (Ih.out.step (below_step obt b))
    replace Ks2 := Lib.hid (Ks2.out.step (below_step obt b))
    replace Is2 := Lib.hid (Is2.out.step (below_step obt b))
    replace Km := Lib.hid (Km.out.step (below_step obt b))
    replace Im := Lib.hid (Im.out.step (below_step obt b))
    replace Kt := Lib.hid (Kt.out.step b)
    replace It := Lib.hid (It.out.step b)
    replace BB := Lib.hid (below_step BB.out b)
    clear obt
    clear b
    go_wp2
    go_ret
    exact ⟨rfl, BB.out⟩
end Go.Proofs.YtnkbamjjpdmbaaaDoor
