/- fathomlineref1: Less, Order, Exact. fathomlineref1: Straight, CmpNum. The contracts for valid numbers; fathomlinehelp.Zero; light. -/
import Derived.Test.YtobcbhppmgnioaaGreatDoorSNumMO
namespace Go.Proofs.YtobcbhppmgnioaaGreatDoor
set_option maxHeartbeats 4000000
set_option maxRecDepth 100000
open Go.RowKit Nx
theorem place_arg {w w' : World} {H n c N : Nat} {A : Option Addr} (h : Dg w A n c N) (hp : ∀ ad, 0 < n → A = some ad → ad.block < H ∨ w.heap.size ≤ ad.block) (_hb : Below w.heap.size w w') :
  ∀ ad, 0 < n → A = some ad → ad.block < H ∨ w'.heap.size ≤ ad.block := fun ad hn hA => by
 obtain ⟨ad', hA', _, hlt, _⟩ := h.2.2 hn
 have : ad = ad' := by rw [hA] at hA'; injection hA'
 subst this
 have := hp ad hn hA
 omega
theorem less_any (w : World) (H : Nat) (a b : Q) (A B : Option Addr) (n c m d k : Nat) (va : Canon a) (vb : Canon b) (ha : Dg w A n c a.m) (hb : Dg w B m d b.m)
  (pa : ∀ ad, 0 < n → A = some ad → ad.block < H ∨ w.heap.size ≤ ad.block) (pb : ∀ ad, 0 < m → B = some ad → ad.block < H ∨ w.heap.size ≤ ad.block) (hH : H ≤ w.heap.size)
  (hX : a.m < B64 ^ k) (hY : b.m < B64 ^ k) (hk : k ≤ 3000) (h1 : -550000 ≤ a.e) (h2 : a.e ≤ 550000) (h3 : -550000 ≤ b.e) (h4 : b.e ≤ 550000) :
  Calls Tryz.prog 104 #[.agg #[.bool a.s, .slice A n c, .int .i64 a.e], .agg #[.bool b.s, .slice B m d, .int .i64 b.e]] w (ValPost w H (minus a b)) := by
 obtain ⟨r, hr⟩ : ∃ r, r = minus a b := ⟨_, rfl⟩
 have hr' : plus a b.neg = r := hr.symm
 rw [← hr]
 obtain ⟨k1, k2, k3, b3⟩ := vals3_bx w a.s b.s a.e b.e A B n c m d
 have d0 := bdr (Below.refl (((w.alloc (.cells #[.bool a.s, .slice A n c, .int .i64 a.e] 56)).alloc (.cells #[.bool b.s, .slice B m d, .int .i64 b.e] 56)).alloc (.cells #[.bool false, .slice none 0 0, .int .i64 0] 56)).heap.size (((w.alloc (.cells #[.bool a.s, .slice A n c, .int .i64 a.e] 56)).alloc (.cells #[.bool b.s, .slice B m d, .int .i64 b.e] 56)).alloc (.cells #[.bool false, .slice none 0 0, .int .i64 0] 56)))
 have d3 := below_step b3 d0
 have CT := Lib.hid (turned_any _ b B m d vb (hb.step d3))
 have CP := fun w4 (h : Below w.heap.size w w4) => Lib.hid (plus_any w4 H a b.neg A B n c m d k va (neg_canon vb) (ha.step h) (by rw [m_neg]; exact hb.step h) (place_arg ha pa h) (place_arg hb pb h) (by have := h.size; omega) hX (by rw [m_neg]; exact hY) hk h1 h2 (by rw [e_neg vb]; exact h3) (by rw [e_neg vb]; exact h4))
 rw [hr'] at CP
 have K1d := Lib.hid (k1.step d0); have K2d := Lib.hid (k2.step d0); have K3d := Lib.hid (k3.step d0); have B3d := Lib.hid d3
 have S0 := And.intro k1.c0 (And.intro k1.c1 (And.intro k1.c2 (And.intro k2.c0 (And.intro k2.c1 k2.c2))))
 clear k1 k2 k3 b3 d0 d3 ha hb pa pb hX hY hr hr' va vb h1 h2 h3 h4
 generalize b.neg = bn at *
 obtain ⟨s, M, e⟩ := a
 obtain ⟨s', M', e'⟩ := b
 simp only at *
 go_enter Tryz.func104, Tryz.ntmps104
 go_wp2_with fail
 generalize (((w.alloc (.cells #[.bool s, .slice A n c, .int .i64 e] 56)).alloc (.cells #[.bool s', .slice B m d, .int .i64 e'] 56)).alloc (.cells #[.bool false, .slice none 0 0, .int .i64 0] 56)) = w2 at *
 go_region_held3 (fun w' => w'.cell? ⟨w.heap.size, 0, none⟩ = some (.bool s) ∧ w'.cell? ⟨w.heap.size, 1, none⟩ = some (.slice A n c) ∧ w'.cell? ⟨w.heap.size, 2, none⟩ = some (.int .i64 e) ∧ w'.cell? ⟨w.heap.size + 1, 0, none⟩ = some (.bool s') ∧ w'.cell? ⟨w.heap.size + 1, 1, none⟩ = some (.slice B m d) ∧ w'.cell? ⟨w.heap.size + 1, 2, none⟩ = some (.int .i64 e'))
    (first | exact S0 | assumption)
    (first
     | (go_at_call 132
        refine CT.out.mono ?_
        rintro _ w6 ⟨rfl, b6⟩
        have K16 := Lib.hid (K1d.out.step b6); have K26 := Lib.hid (K2d.out.step b6); have K36 := Lib.hid (K3d.out.step b6); have B6 := Lib.hid (below_step B3d.out b6)
        have S6 : w6.cell? ⟨w.heap.size, 0, none⟩ = some (.bool s) ∧ w6.cell? ⟨w.heap.size, 1, none⟩ = some (.slice A n c) ∧ w6.cell? ⟨w.heap.size, 2, none⟩ = some (.int .i64 e) ∧ w6.cell? ⟨w.heap.size + 1, 0, none⟩ = some (.bool s') ∧ w6.cell? ⟨w.heap.size + 1, 1, none⟩ = some (.slice B m d) ∧ w6.cell? ⟨w.heap.size + 1, 2, none⟩ = some (.int .i64 e') := ⟨K16.out.c0, K16.out.c1, K16.out.c2, K26.out.c0, K26.out.c1, K26.out.c2⟩
        have CP6 := CP w6 B6.out
        clear b6)
     | (go_at_call 23
        refine CP6.out.mono ?_
        rintro _ w7 ⟨_, rfl, ⟨A7, n7, c7, rfl, h7, p7⟩, b7⟩
        have K17 := Lib.hid (K16.out.step b7); have K27 := Lib.hid (K26.out.step b7); have K37 := Lib.hid (K36.out.step b7)
        have S7 : w7.cell? ⟨w.heap.size, 0, none⟩ = some (.bool s) ∧ w7.cell? ⟨w.heap.size, 1, none⟩ = some (.slice A n c) ∧ w7.cell? ⟨w.heap.size, 2, none⟩ = some (.int .i64 e) ∧ w7.cell? ⟨w.heap.size + 1, 0, none⟩ = some (.bool s') ∧ w7.cell? ⟨w.heap.size + 1, 1, none⟩ = some (.slice B m d) ∧ w7.cell? ⟨w.heap.size + 1, 2, none⟩ = some (.int .i64 e') := ⟨K17.out.c0, K17.out.c1, K17.out.c2, K27.out.c0, K27.out.c1, K27.out.c2⟩
        have r0 := K37.out.c0; have r1 := K37.out.c1; have r2 := K37.out.c2
        have z0 := K37.out.fz 0; have z1 := K37.out.fz 1; have z2 := K37.out.fz 2
        have F := fun (h i : Nat) (hn : h ≠ w.heap.size + 1 + 1) => put3_far w7 (w.heap.size + 1 + 1) h i (.bool r.s) (.slice A7 n7 c7) (.int .i64 r.e) hn
        have S9 := And.intro ((F w.heap.size 0 (by omega)).trans K17.out.c0) (And.intro ((F w.heap.size 1 (by omega)).trans K17.out.c1) (And.intro ((F w.heap.size 2 (by omega)).trans K17.out.c2) (And.intro ((F (w.heap.size + 1) 0 (by omega)).trans K27.out.c0) (And.intro ((F (w.heap.size + 1) 1 (by omega)).trans K27.out.c1) ((F (w.heap.size + 1) 2 (by omega)).trans K27.out.c2)))))
        clear F
        have RN := Lib.hid (ret_val (g := w.heap.size + 1 + 1) (H := H) (below_step B6.out b7) (by omega) K37.out hH K36.out.lt h7 p7)
        clear h7 b7 p7))
 go_wp2
 obtain ⟨kr, nr, br⟩ := RN.out
 refine bodyPost_ret (v := .agg #[.bool r.s, .slice A7 n7 c7, .int .i64 r.e]) ?_ rfl ⟨_, rfl, nr, br⟩
 have u0 := kr.c0; have u1 := kr.c1; have u2 := kr.c2
 unfold put3 at u0 u1 u2
 simp [results, Tryz.results104, go_sem, u0, u1, u2]
theorem sign_minus {a b : Q} (hb : Canon b) : signq (minus a b) = cmpq a b := by
 obtain ⟨E, hE⟩ : ∃ E : Nat, E = a.e.natAbs + b.e.natAbs := ⟨_, rfl⟩
 have e1 : -(E : Int) ≤ a.e := by omega
 have e2 : -(E : Int) ≤ b.e := by omega
 rw [signq_at (E := E), cmpq_at e1 e2, at_minus hb e1 e2]
 generalize a.at E = x
 generalize b.at E = y
 by_cases h1 : x < y
 ·rw [if_pos (by omega), if_pos h1]
 ·rw [if_neg (by omega), if_neg h1]
  by_cases h2 : y < x
  ·rw [if_pos (by omega), if_pos h2]
  ·rw [if_neg (by omega), if_neg h2]
theorem order_any (w : World) (H : Nat) (a b : Q) (A B : Option Addr) (n c m d k : Nat) (va : Canon a) (vb : Canon b) (ha : Dg w A n c a.m) (hb : Dg w B m d b.m)
  (pa : ∀ ad, 0 < n → A = some ad → ad.block < H ∨ w.heap.size ≤ ad.block) (pb : ∀ ad, 0 < m → B = some ad → ad.block < H ∨ w.heap.size ≤ ad.block) (hH : H ≤ w.heap.size)
  (hX : a.m < B64 ^ k) (hY : b.m < B64 ^ k) (hk : k ≤ 3000) (h1 : -550000 ≤ a.e) (h2 : a.e ≤ 550000) (h3 : -550000 ≤ b.e) (h4 : b.e ≤ 550000) :
  Calls Tryz.prog 64 #[.agg #[.bool a.s, .slice A n c, .int .i64 a.e], .agg #[.bool b.s, .slice B m d, .int .i64 b.e]] w (IPost w (cmpq a b)) := by
 obtain ⟨k1, k2, b3⟩ := vals_bx w a.s b.s a.e b.e A B n c m d
 have CL := Lib.hid (less_any _ H a b A B n c m d k va vb (ha.step b3) (hb.step b3) (place_arg ha pa b3) (place_arg hb pb b3) (by have := b3.size; omega) hX hY hk h1 h2 h3 h4)
 have B3 := Lib.hid b3
 rw [← sign_minus vb]
 clear k1 k2 b3 ha hb pa pb hX hY va vb h1 h2 h3 h4
 generalize minus a b = r at *
 obtain ⟨s, M, e⟩ := a
 obtain ⟨s', M', e'⟩ := b
 simp only at *
 go_enter Tryz.func64, Tryz.ntmps64
 go_wp2_with fail
 refine CL.out.mono ?_
 rintro _ w4 ⟨_, rfl, ⟨A4, n4, c4, rfl, h4, _⟩, b4⟩
 have CS := Lib.hid (vsign_any w4 r A4 n4 c4 h4); have B4 := Lib.hid (below_step B3.out b4)
 clear h4 b4
 go_wp2_with fail
 refine CS.out.mono ?_
 rintro _ w5 ⟨rfl, b5⟩
 have B5 := Lib.hid (below_step B4.out b5)
 clear b5
 go_wp2
 go_ret
 exact ⟨rfl, B5.out⟩
theorem dg_all {w : World} {A : Option Addr} {n c N : Nat} (_h : Dg w A n c N) : ∀ ad, 0 < n → A = some ad → ad.block < w.heap.size ∨ w.heap.size ≤ ad.block := fun ad _ _ => by omega
theorem ofz_le (Z e : Int) : (ofz Z e).m ≤ Z.natAbs := by
 unfold ofz nm
 split
 ·exact Nat.zero_le _
 ·exact Nat.div_le_self _ _
theorem up_abs {q : Q} {t : Int} : (q.up t).natAbs = q.m * 2 ^ (q.e - t).toNat := by
 rw [up_eq]
 split
 ·rw [Int.natAbs_neg, Int.natAbs_natCast]
 ·rw [Int.natAbs_natCast]
theorem rcmpnum_any (w : World) (s s' : Bool) (e e' : Int) (A B : Option Addr) (n c m d : Nat) (xs ys : List Nat) (ha : Arg w A n c xs) (hb : Arg w B m d ys) (hn : n ≤ 100000) (hm : m ≤ 100000) :
  Calls Tryz.prog 78 #[.agg #[.bool s, .int .i64 e, .slice A n c], .agg #[.bool s', .int .i64 e', .slice B m d]] w (IPost w (anscmp s e n xs s' e' m ys)) := by
 obtain ⟨k1, k2, b3⟩ := two_bx w s s' e e' A B n c m d
 have C1 := Lib.hid (rright_any _ s e A n c xs (ha.step b3) hn)
 have K1 := Lib.hid k1; have K2 := Lib.hid k2; have B3 := Lib.hid b3
 have HA := Lib.hid ha; have HB := Lib.hid hb
 clear k1 k2 b3 ha hb
 obtain ⟨r, hr⟩ : ∃ r, r = anscmp s e n xs s' e' m ys := ⟨_, rfl⟩
 rw [← hr]
 have HR := Lib.hid hr
 clear hr
 go_enter Tryz.func78, Tryz.ntmps78
 go_wp2_with fail
 refine C1.out.mono ?_
 rintro _ w4 ⟨rfl, b4⟩
 have K14 := Lib.hid (K1.out.step b4); have K24 := Lib.hid (K2.out.step b4); have B4 := Lib.hid (below_step B3.out b4)
 clear b4 C1 K1 K2 B3
 have x0 := K24.out.c0; have x1 := K24.out.c1; have x2 := K24.out.c2
 by_cases hok : okb s e n xs = true
 ·have C2 := Lib.hid (rright_any w4 s' e' B m d ys (HB.out.step B4.out) hm)
  rw [hok]
  go_wp2_with fail
  refine C2.out.mono ?_
  rintro _ w5 ⟨rfl, b5⟩
  have K15 := Lib.hid (K14.out.step b5); have K25 := Lib.hid (K24.out.step b5); have B5 := Lib.hid (below_step B4.out b5)
  clear b5 C2 K14 K24 B4 x0 x1 x2
  by_cases hok' : okb s' e' m ys = true
  ·have hr : r = cmpq ⟨s, nval B64 xs, e⟩ ⟨s', nval B64 ys, e'⟩ := by rw [HR.out]; unfold anscmp; rw [hok, hok']; rfl
   rw [hok']
   have d5 := bdr (Below.refl w5.heap.size w5)
   have b5d := below_step B5.out d5
   obtain ⟨i1, va, fa⟩ := okb_true HA.out hok
   obtain ⟨i2, vb, fb⟩ := okb_true HB.out hok'
   obtain ⟨a, ha⟩ : ∃ a : Q, a = ⟨s, nval B64 xs, e⟩ := ⟨_, rfl⟩
   obtain ⟨b, hb⟩ : ∃ b : Q, b = ⟨s', nval B64 ys, e'⟩ := ⟨_, rfl⟩
   rw [← ha] at va fa hr
   rw [← hb] at vb fb hr
   have sa : a.s = s := by rw [ha]
   have ea : a.e = e := by rw [ha]
   have sb : b.s = s' := by rw [hb]
   have eb : b.e = e' := by rw [hb]
   have I1 := Lib.hid (show Is w A n c a.m by rw [ha]; exact i1); have I2 := Lib.hid (show Is w B m d b.m by rw [hb]; exact i2)
   have COa := Lib.hid (of_any w5.drew a A n c (I1.out.step b5d) hn)
   have COb := fun w4 (h : Below w.heap.size w w4) => Lib.hid (of_any w4 b B m d (I2.out.step h) hm)
   rw [sa, ea] at COa
   rw [sb, eb] at COb
   have VA := Lib.hid va; have VB := Lib.hid vb; have FA := Lib.hid fa; have FB := Lib.hid fb; have HR2 := Lib.hid hr
   have K1d := Lib.hid (K15.out.step d5); have K2d := Lib.hid (K25.out.step d5); have B5d := Lib.hid b5d
   have S0 : w5.cell? ⟨w.heap.size, 0, none⟩ = some (.bool s) ∧ w5.cell? ⟨w.heap.size, 1, none⟩ = some (.int .i64 e) ∧ w5.cell? ⟨w.heap.size, 2, none⟩ = some (.slice A n c) ∧ w5.cell? ⟨w.heap.size + 1, 0, none⟩ = some (.bool s') ∧ w5.cell? ⟨w.heap.size + 1, 1, none⟩ = some (.int .i64 e') ∧ w5.cell? ⟨w.heap.size + 1, 2, none⟩ = some (.slice B m d) := ⟨K15.out.c0, K15.out.c1, K15.out.c2, K25.out.c0, K25.out.c1, K25.out.c2⟩
   clear ha hb sa ea sb eb i1 i2 va vb fa fb hr d5 b5d K15 K25 B5
   go_wp2_with fail
   go_region_held3 (fun w' => w'.cell? ⟨w.heap.size, 0, none⟩ = some (.bool s) ∧ w'.cell? ⟨w.heap.size, 1, none⟩ = some (.int .i64 e) ∧ w'.cell? ⟨w.heap.size, 2, none⟩ = some (.slice A n c) ∧ w'.cell? ⟨w.heap.size + 1, 0, none⟩ = some (.bool s') ∧ w'.cell? ⟨w.heap.size + 1, 1, none⟩ = some (.int .i64 e') ∧ w'.cell? ⟨w.heap.size + 1, 2, none⟩ = some (.slice B m d))
    (first | exact S0 | assumption)
    (first
     | (go_at_call 25
        refine COa.out.mono ?_
        rintro _ w6 ⟨_, rfl, ⟨A6, n6, c6, rfl, h6, p6⟩, b6⟩
        have K16 := Lib.hid (K1d.out.step b6); have K26 := Lib.hid (K2d.out.step b6); have B6 := Lib.hid (below_step B5d.out b6)
        have S6 : w6.cell? ⟨w.heap.size, 0, none⟩ = some (.bool s) ∧ w6.cell? ⟨w.heap.size, 1, none⟩ = some (.int .i64 e) ∧ w6.cell? ⟨w.heap.size, 2, none⟩ = some (.slice A n c) ∧ w6.cell? ⟨w.heap.size + 1, 0, none⟩ = some (.bool s') ∧ w6.cell? ⟨w.heap.size + 1, 1, none⟩ = some (.int .i64 e') ∧ w6.cell? ⟨w.heap.size + 1, 2, none⟩ = some (.slice B m d) := ⟨K16.out.c0, K16.out.c1, K16.out.c2, K26.out.c0, K26.out.c1, K26.out.c2⟩
        have G6 := Lib.hid (show Dg w6 A6 n6 c6 a.m from h6)
        have COb6 := COb w6 B6.out
        clear h6 b6 p6 COa)
     | (go_at_call 25
        refine COb6.out.mono ?_
        rintro _ w7 ⟨_, rfl, ⟨A7, n7, c7, rfl, h7, p7⟩, b7⟩
        have K17 := Lib.hid (K16.out.step b7); have K27 := Lib.hid (K26.out.step b7); have B7 := Lib.hid (below_step B6.out b7)
        have S7 : w7.cell? ⟨w.heap.size, 0, none⟩ = some (.bool s) ∧ w7.cell? ⟨w.heap.size, 1, none⟩ = some (.int .i64 e) ∧ w7.cell? ⟨w.heap.size, 2, none⟩ = some (.slice A n c) ∧ w7.cell? ⟨w.heap.size + 1, 0, none⟩ = some (.bool s') ∧ w7.cell? ⟨w.heap.size + 1, 1, none⟩ = some (.int .i64 e') ∧ w7.cell? ⟨w.heap.size + 1, 2, none⟩ = some (.slice B m d) := ⟨K17.out.c0, K17.out.c1, K17.out.c2, K27.out.c0, K27.out.c1, K27.out.c2⟩
        have G67 := Lib.hid (G6.out.step b7); have G7 := Lib.hid (show Dg w7 A7 n7 c7 b.m from h7)
        have CE := Lib.hid (order_any w7 w7.heap.size a b A6 A7 n6 c6 n7 c7 64 VA.out VB.out G67.out G7.out (dg_all G67.out) (dg_all G7.out) (Nat.le_refl _) FA.out.1 FB.out.1 (by omega) (by have := FA.out.2.1; omega) (by have := FA.out.2.2; omega) (by have := FB.out.2.1; omega) (by have := FB.out.2.2; omega))
        rw [← HR2.out] at CE
        clear h7 b7 p7 COb6)
     | (go_at_call 64
        refine CE.out.mono ?_
        rintro _ w8 ⟨rfl, b8⟩
        have K18 := Lib.hid (K17.out.step b8); have K28 := Lib.hid (K27.out.step b8); have B8 := Lib.hid (below_step B7.out b8)
        have S8 : w8.cell? ⟨w.heap.size, 0, none⟩ = some (.bool s) ∧ w8.cell? ⟨w.heap.size, 1, none⟩ = some (.int .i64 e) ∧ w8.cell? ⟨w.heap.size, 2, none⟩ = some (.slice A n c) ∧ w8.cell? ⟨w.heap.size + 1, 0, none⟩ = some (.bool s') ∧ w8.cell? ⟨w.heap.size + 1, 1, none⟩ = some (.int .i64 e') ∧ w8.cell? ⟨w.heap.size + 1, 2, none⟩ = some (.slice B m d) := ⟨K18.out.c0, K18.out.c1, K18.out.c2, K28.out.c0, K28.out.c1, K28.out.c2⟩
        clear b8 CE))
   go_wp2
   go_ret
   exact ⟨rfl, B8.out⟩
  ·have hr : r = 0 := by rw [HR.out]; unfold anscmp; rw [if_neg (by simp [hok'])]
   have hf : okb s' e' m ys = false := by simpa using hok'
   have HR2 := Lib.hid hr
   clear hr
   rw [hf]
   go_wp2
   go_ret
   exact ⟨by rw [HR2.out]; rfl, B5.out⟩
 ·have hr : r = 0 := by rw [HR.out]; unfold anscmp; rw [if_neg (by simp [hok])]
  have hf : okb s e n xs = false := by simpa using hok
  have HR2 := Lib.hid hr
  clear hr
  rw [hf]
  go_wp2
  go_ret
  exact ⟨by rw [HR2.out]; rfl, B4.out⟩
instance : DecidableEq Q := fun a b => decidable_of_iff (a.s = b.s ∧ a.m = b.m ∧ a.e = b.e) ⟨fun ⟨h1, h2, h3⟩ => Q.ext' h1 h2 h3, fun h => by subst h; exact ⟨rfl, rfl, rfl⟩⟩
section
variable {w : World} {a b : Q} {A B : Option Addr} {n c m d : Nat}
end
theorem valid0 : Valid q0 := ⟨canon0, fits0⟩
theorem res_valid {q : Q} (h : Canon q) : Valid (res q).1 := by
 by_cases hf : Fits q
 ·rw [res_ok hf]; exact ⟨h, hf⟩
 ·rw [res_over hf]; exact valid0
theorem num_is {lo : Nat} {w : World} {A : Option Addr} {n c N : Nat} (h : Rd .u64 w lo w.heap.size A n c (digs B64 N)) : Is w A n c N := h.less (Nat.zero_le _)
end Go.Proofs.YtobcbhppmgnioaaGreatDoor
