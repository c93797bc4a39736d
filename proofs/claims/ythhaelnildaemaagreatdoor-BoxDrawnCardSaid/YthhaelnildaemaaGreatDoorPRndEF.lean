/- round.Fit, round.Add, round.Sub, round.Mul, round.Div. round.Sub, round.Mul, round.Div. -/
import Derived.Test.YthhaelnildaemaaGreatDoorPRndCD
namespace Go.Proofs.YthhaelnildaemaaGreatDoor
open Go.RowKit Nx
theorem nums2 (w : World) (s s' : Bool) (e e' : Int) (A B : Option Addr) (n c m d : Nat) (xs ys : List Nat) (ha : Arg w A n c xs) (hn : n ≤ 100000) (hb : Arg w B m d ys) (hm : m ≤ 100000) :
    NumsAt (w.alloc (.cells #[.bool s, .int .i64 e, .slice A n c, .bool s', .int .i64 e', .slice B m d] 28)) w.heap.size 2 [okb s e n xs, okb s' e' m ys] := by
  have h := Blk.new w 28 #[.bool s, .int .i64 e, .slice A n c, .bool s', .int .i64 e', .slice B m d]
  refine ⟨rfl, h.lt, fun i hi => ?_⟩
  have c0 := h.cell 0; have c1 := h.cell 1; have c2 := h.cell 2; have c3 := h.cell 3; have c4 := h.cell 4; have c5 := h.cell 5
  rcases (by omega : i = 0 ∨ i = 1) with rfl | rfl
  · exact ⟨s, e, A, n, c, xs, c0, c1, c2, ha.step (one_below _ _), hn, rfl⟩
  · exact ⟨s', e', B, m, d, ys, c3, c4, c5, hb.step (one_below _ _), hm, rfl⟩
noncomputable def ansr (g : Q → Q → Q × Int) (p : Int) (s : Bool) (e : Int) (n : Nat) (xs : List Nat) (s' : Bool) (e' : Int) (m : Nat) (ys : List Nat) : Q × Int :=
  if okb s e n xs && okb s' e' m ys && precb p then g ⟨s, nval B64 xs, e⟩ ⟨s', nval B64 ys, e'⟩ else (q0, 1)
noncomputable def gadd (p : Int) (up : Bool) (a b : Q) : Q × Int := res (rnd p.toNat up (plus a b))
noncomputable def gsub (p : Int) (up : Bool) (a b : Q) : Q × Int := res (rnd p.toNat up (minus a b))
theorem prec_true {p : Int} (h : precb p = true) : 8 ≤ p ∧ p ≤ 256 := by simpa [precb] using h
set_option maxRecDepth 100000 in
set_option maxHeartbeats 4000000 in
theorem xadd_any (w : World) (s s' up : Bool) (e e' p : Int) (A B : Option Addr) (n c m d : Nat) (xs ys : List Nat) (ha : Arg w A n c xs) (hb : Arg w B m d ys) (hn : n ≤ 100000) (hm : m ≤ 100000) (ht : Tab w) :
    Calls Tryz.prog 119 #[.agg #[.bool s, .int .i64 e, .slice A n c], .agg #[.bool s', .int .i64 e', .slice B m d], .int .i64 p, .bool up] w (NumPost2 w (ansr (gadd p up) p s e n xs s' e' m ys)) := by
  obtain ⟨k1, k2, k3, b3⟩ := three_bx w s s' e e' A B n c m d
  obtain ⟨W, hW⟩ : ∃ W, W = (((w.alloc (.cells #[.bool s, .int .i64 e, .slice A n c] 28)).alloc (.cells #[.bool s', .int .i64 e', .slice B m d] 28)).alloc (.cells #[.bool false, .int .i64 0, .slice none 0 0] 28)) := ⟨_, rfl⟩
  have hsz : W.heap.size = w.heap.size + 1 + 1 + 1 := by rw [hW]; simp
  rw [← hW] at k1 k2 k3 b3
  have ob := one_below W (.cells #[.bool s, .int .i64 e, .slice A n c, .bool s', .int .i64 e', .slice B m d] 28)
  have C1 := Lib.hid (prec_any _ _ 2 p _ (nums2 W s s' e e' A B n c m d xs ys (ha.step b3) hn (hb.step b3) hm) (by omega))
  rw [hsz] at C1
  have K1 := Lib.hid (k1.step ob); have K2 := Lib.hid (k2.step ob); have K3 := Lib.hid (k3.step ob); have B3 := Lib.hid (below_step b3 ob)
  have HA := Lib.hid ha; have HB := Lib.hid hb; have HT := Lib.hid ht
  have y0 := k1.c0; have y1 := k1.c1; have y2 := k1.c2
  have x0 := k2.c0; have x1 := k2.c1; have x2 := k2.c2
  subst hW
  clear k1 k2 k3 b3 ha hb ht ob hsz
  obtain ⟨r, hr⟩ : ∃ r, r = ansr (gadd p up) p s e n xs s' e' m ys := ⟨_, rfl⟩
  rw [← hr]
  have HR := Lib.hid hr
  clear hr
  go_enter Tryz.func119, Tryz.ntmps119
  go_wp2_with fail
  refine C1.out.mono ?_
  rintro _ w4 ⟨rfl, b4⟩
  have K14 := Lib.hid (K1.out.step b4); have K24 := Lib.hid (K2.out.step b4); have K34 := Lib.hid (K3.out.step b4); have B4 := Lib.hid (below_step B3.out b4)
  clear b4 C1 K1 K2 K3 B3 y0 y1 y2 x0 x1 x2
  have hall : ([okb s e n xs, okb s' e' m ys].all id && precb p) = (okb s e n xs && okb s' e' m ys && precb p) := by simp
  rw [hall]
  clear hall
  cases hok : (okb s e n xs && okb s' e' m ys && precb p)
  · have hr : r = (q0, 1) := by rw [HR.out]; unfold ansr; rw [hok]; rfl
    have r0 := K34.out.c0; have r1 := K34.out.c1; have r2 := K34.out.c2
    have z0 := K34.out.fz 0; have z1 := K34.out.fz 1; have z2 := K34.out.fz 2
    go_wp2
    obtain ⟨kr, nr, br⟩ := ret_zero B4.out (Nat.le_add_right w.heap.size 2) K34.out
    refine bodyPost_ret (v := .tuple #[.agg #[.bool false, .int .i64 0, .slice none 0 0], .int .i64 1]) ?_ rfl (by rw [hr]; exact ⟨_, rfl, nr, br⟩)
    have q0 := kr.c0; have q1 := kr.c1; have q2 := kr.c2
    unfold put3 at q0 q1 q2
    simp [results, Tryz.results119, go_sem, q0, q1, q2]
  · have hr : r = gadd p up ⟨s, nval B64 xs, e⟩ ⟨s', nval B64 ys, e'⟩ := by rw [HR.out]; unfold ansr; rw [hok]; rfl
    obtain ⟨ho12, ho3⟩ := (Bool.and_eq_true _ _).mp hok
    obtain ⟨ho1, ho2⟩ := (Bool.and_eq_true _ _).mp ho12
    obtain ⟨p1, p2⟩ := prec_true ho3
    obtain ⟨i1, v1, f1, f2, f3⟩ := okb_true (HA.out.step B4.out) ho1
    obtain ⟨i2, v2, f4, f5, f6⟩ := okb_true (HB.out.step B4.out) ho2
    simp only at f1 f2 f3 f4 f5 f6
    have I1 := Lib.hid i1; have I2 := Lib.hid i2; have F1 := Lib.hid f1; have F4 := Lib.hid f4; have V2 := Lib.hid v2
    have HR2 := Lib.hid hr
    have T4 := Lib.hid (HT.out.below B4.out)
    generalize nval B64 xs = X at *
    generalize nval B64 ys = Y at *
    clear hr hok ho1 ho2 ho3 ho12 i1 i2 f1 f4 v1 v2 HR HA HB HT
    have C5 := Lib.hid (rsum_any w4 ⟨s, X, e⟩ ⟨s', Y, e'⟩ A B n c m d I1.out I2.out F1.out F4.out f2 f3 f5 f6)
    simp only at C5
    have y0 := K14.out.c0; have y1 := K14.out.c1; have y2 := K14.out.c2
    have x0 := K24.out.c0; have x1 := K24.out.c1; have x2 := K24.out.c2
    have PR := Lib.hid (show ∀ q : Q, nm q.s q.m q.e = plus ⟨s, X, e⟩ ⟨s', Y, e'⟩ → res (rnd p.toNat up q) = r from fun q h => by
      rw [HR2.out]; unfold gadd
      congr 1
      have e1 : rnd p.toNat up q = rnd p.toNat up (nm q.s q.m q.e) := (rnd_nm _ _ _ _ _).symm
      rw [e1, h])
    clear HR2
    generalize plus ⟨s, X, e⟩ ⟨s', Y, e'⟩ = z at *
    obtain ⟨KK, hKK⟩ : ∃ KK : Nat, KK = 2120 := ⟨_, rfl⟩
    rw [← hKK] at C5
    have hK2 : KK ≤ 2120 := by omega
    clear hKK
    go_wp2_with fail
    refine C5.out.mono ?_
    rintro _ w6 ⟨q, ⟨_, rfl, ⟨A6, n6, c6, rfl, h6⟩, b6⟩, hq, lq, e1, e2⟩
    have HZ := Lib.hid (PR.out q hq)
    have K36 := Lib.hid (K34.out.step b6); have B6 := Lib.hid (below_step B4.out b6); have T6 := Lib.hid (T4.out.below b6)
    have IQ := Lib.hid (num_is h6); have LQ := Lib.hid lq
    have CD := Lib.hid (dir_any w6 up)
    unfold awayf at CD
    clear hq lq h6 b6 C5 PR z y0 y1 y2 x0 x1 x2
    go_wp2_with fail
    refine CD.out.mono ?_
    rintro _ w7 ⟨rfl, u7, b7⟩
    have K37 := Lib.hid (K36.out.step b7); have B7 := Lib.hid (below_step B6.out b7)
    have CF := Lib.hid (fit_any w7 q A6 n6 c6 KK _ p up (IQ.out.step b7) LQ.out (by omega) (by omega) (by omega) p1 p2 u7 (T6.out.below b7))
    rw [HZ.out] at CF
    unfold awayf at CF
    clear u7 b7 CD IQ LQ HZ T6
    go_wp2_with fail
    refine CF.out.mono ?_
    rintro _ w8 ⟨_, rfl, ⟨A8, n8, c8, rfl, h8⟩, b8⟩
    have K38 := Lib.hid (K37.out.step b8)
    have r0 := K38.out.c0; have r1 := K38.out.c1; have r2 := K38.out.c2
    have z0 := K38.out.fz 0; have z1 := K38.out.fz 1; have z2 := K38.out.fz 2
    have RN := Lib.hid (ret_num B7.out (Nat.le_add_right w.heap.size 2) K38.out K37.out.lt b8 h8)
    clear h8 b8 CF
    go_wp2
    obtain ⟨kr, nr, br⟩ := RN.out
    refine bodyPost_ret (v := .tuple #[.agg #[.bool r.1.s, .int .i64 r.1.e, .slice A8 n8 c8], .int .i64 r.2]) ?_ rfl ⟨_, rfl, nr, br⟩
    have q0 := kr.c0; have q1 := kr.c1; have q2 := kr.c2
    unfold put3 at q0 q1 q2
    simp [results, Tryz.results119, go_sem, q0, q1, q2]
end Go.Proofs.YthhaelnildaemaaGreatDoor
namespace Go.Proofs.YthhaelnildaemaaGreatDoor
open Go.RowKit Nx
set_option maxRecDepth 100000 in
set_option maxHeartbeats 4000000 in
theorem xsub_any (w : World) (s s' up : Bool) (e e' p : Int) (A B : Option Addr) (n c m d : Nat) (xs ys : List Nat) (ha : Arg w A n c xs) (hb : Arg w B m d ys) (hn : n ≤ 100000) (hm : m ≤ 100000) (ht : Tab w) :
    Calls Tryz.prog 122 #[.agg #[.bool s, .int .i64 e, .slice A n c], .agg #[.bool s', .int .i64 e', .slice B m d], .int .i64 p, .bool up] w (NumPost2 w (ansr (gsub p up) p s e n xs s' e' m ys)) := by
  obtain ⟨k1, k2, k3, b3⟩ := three_bx w s s' e e' A B n c m d
  obtain ⟨W, hW⟩ : ∃ W, W = (((w.alloc (.cells #[.bool s, .int .i64 e, .slice A n c] 28)).alloc (.cells #[.bool s', .int .i64 e', .slice B m d] 28)).alloc (.cells #[.bool false, .int .i64 0, .slice none 0 0] 28)) := ⟨_, rfl⟩
  have hsz : W.heap.size = w.heap.size + 1 + 1 + 1 := by rw [hW]; simp
  rw [← hW] at k1 k2 k3 b3
  have ob := one_below W (.cells #[.bool s, .int .i64 e, .slice A n c, .bool s', .int .i64 e', .slice B m d] 28)
  have C1 := Lib.hid (prec_any _ _ 2 p _ (nums2 W s s' e e' A B n c m d xs ys (ha.step b3) hn (hb.step b3) hm) (by omega))
  rw [hsz] at C1
  have K1 := Lib.hid (k1.step ob); have K2 := Lib.hid (k2.step ob); have K3 := Lib.hid (k3.step ob); have B3 := Lib.hid (below_step b3 ob)
  have HA := Lib.hid ha; have HB := Lib.hid hb; have HT := Lib.hid ht
  have y0 := k1.c0; have y1 := k1.c1; have y2 := k1.c2
  have x0 := k2.c0; have x1 := k2.c1; have x2 := k2.c2
  subst hW
  clear k1 k2 k3 b3 ha hb ht ob hsz
  obtain ⟨r, hr⟩ : ∃ r, r = ansr (gsub p up) p s e n xs s' e' m ys := ⟨_, rfl⟩
  rw [← hr]
  have HR := Lib.hid hr
  clear hr
  go_enter Tryz.func122, Tryz.ntmps122
  go_wp2_with fail
  refine C1.out.mono ?_
  rintro _ w4 ⟨rfl, b4⟩
  have K14 := Lib.hid (K1.out.step b4); have K24 := Lib.hid (K2.out.step b4); have K34 := Lib.hid (K3.out.step b4); have B4 := Lib.hid (below_step B3.out b4)
  clear b4 C1 K1 K2 K3 B3 y0 y1 y2 x0 x1 x2
  have hall : ([okb s e n xs, okb s' e' m ys].all id && precb p) = (okb s e n xs && okb s' e' m ys && precb p) := by simp
  rw [hall]
  clear hall
  cases hok : (okb s e n xs && okb s' e' m ys && precb p)
  · have hr : r = (q0, 1) := by rw [HR.out]; unfold ansr; rw [hok]; rfl
    have r0 := K34.out.c0; have r1 := K34.out.c1; have r2 := K34.out.c2
    have z0 := K34.out.fz 0; have z1 := K34.out.fz 1; have z2 := K34.out.fz 2
    go_wp2
    obtain ⟨kr, nr, br⟩ := ret_zero B4.out (Nat.le_add_right w.heap.size 2) K34.out
    refine bodyPost_ret (v := .tuple #[.agg #[.bool false, .int .i64 0, .slice none 0 0], .int .i64 1]) ?_ rfl (by rw [hr]; exact ⟨_, rfl, nr, br⟩)
    have q0 := kr.c0; have q1 := kr.c1; have q2 := kr.c2
    unfold put3 at q0 q1 q2
    simp [results, Tryz.results122, go_sem, q0, q1, q2]
  · have hr : r = gsub p up ⟨s, nval B64 xs, e⟩ ⟨s', nval B64 ys, e'⟩ := by rw [HR.out]; unfold ansr; rw [hok]; rfl
    obtain ⟨ho12, ho3⟩ := (Bool.and_eq_true _ _).mp hok
    obtain ⟨ho1, ho2⟩ := (Bool.and_eq_true _ _).mp ho12
    obtain ⟨p1, p2⟩ := prec_true ho3
    obtain ⟨i1, v1, f1, f2, f3⟩ := okb_true (HA.out.step B4.out) ho1
    obtain ⟨i2, v2, f4, f5, f6⟩ := okb_true (HB.out.step B4.out) ho2
    simp only at f1 f2 f3 f4 f5 f6
    have I1 := Lib.hid i1; have I2 := Lib.hid i2; have IsX := Lib.hid (fun (W : World) (b : Below w.heap.size w W) => (okb_true (HA.out.step b) ho1).1); have IsY := Lib.hid (fun (W : World) (b : Below w.heap.size w W) => (okb_true (HB.out.step b) ho2).1); have HTT := Lib.hid (fun (W : World) (b : Below w.heap.size w W) => HT.out.below b); have F1 := Lib.hid f1; have F4 := Lib.hid f4; have V2 := Lib.hid v2
    have HR2 := Lib.hid hr
    have T4 := Lib.hid (HT.out.below B4.out)
    generalize nval B64 xs = X at *
    generalize nval B64 ys = Y at *
    clear hr hok ho1 ho2 ho3 ho12 i1 i2 f1 f4 v1 v2 HR HA HB HT
    have v0 := K24.out.fz 0
    have x0 := K24.out.c0
    have k15 : Bx (w4.setCell ⟨w.heap.size + 1, 0, none⟩ (.bool !s')) w.heap.size s e A n c := Blk.far K14.out (by simp) _
    have k25 : Bx (w4.setCell ⟨w.heap.size + 1, 0, none⟩ (.bool !s')) (w.heap.size + 1) (!s') e' B m d := by have := Blk.set_ K24.out 0 (.bool !s'); unfold Bx; simpa using this
    have k35 : Bx (w4.setCell ⟨w.heap.size + 1, 0, none⟩ (.bool !s')) (w.heap.size + 1 + 1) false 0 none 0 0 := Blk.far K34.out (by simp) _
    have b5 : Below w.heap.size w (w4.setCell ⟨w.heap.size + 1, 0, none⟩ (.bool !s')) := B4.out.setCell (by simp) _
    have hX : Is (w4.setCell ⟨w.heap.size + 1, 0, none⟩ (.bool !s')) A n c X := IsX.out _ b5
    have hY : Is (w4.setCell ⟨w.heap.size + 1, 0, none⟩ (.bool !s')) B m d Y := IsY.out _ b5
    have C5 := Lib.hid (rsum_any _ ⟨s, X, e⟩ ⟨!s', Y, e'⟩ A B n c m d hX hY F1.out F4.out f2 f3 f5 f6)
    rw [plus_flip V2.out] at C5
    simp only at C5
    have hsz : w.heap.size + 1 + 1 < w4.heap.size := K34.out.lt
    have K35 := Lib.hid k35; have B5 := Lib.hid b5; have T5 := Lib.hid (HTT.out _ b5)
    have K15 := Lib.hid k15; have K25 := Lib.hid k25
    clear hX hY k15 k25 k35 b5 I1 I2 T4
    have y0 := K14.out.c0; have y1 := K14.out.c1; have y2 := K14.out.c2
    have x1 := K24.out.c1; have x2 := K24.out.c2
    clear K14 K24 K34 B4
    have PR := Lib.hid (show ∀ q : Q, nm q.s q.m q.e = minus ⟨s, X, e⟩ ⟨s', Y, e'⟩ → res (rnd p.toNat up q) = r from fun q h => by
      rw [HR2.out]; unfold gsub
      congr 1
      have e1 : rnd p.toNat up q = rnd p.toNat up (nm q.s q.m q.e) := (rnd_nm _ _ _ _ _).symm
      rw [e1, h])
    clear HR2
    generalize minus ⟨s, X, e⟩ ⟨s', Y, e'⟩ = z at *
    obtain ⟨KK, hKK⟩ : ∃ KK : Nat, KK = 2120 := ⟨_, rfl⟩
    rw [← hKK] at C5
    have hK2 : KK ≤ 2120 := by omega
    clear hKK
    go_wp2_with fail
    refine C5.out.mono ?_
    rintro _ w6 ⟨q, ⟨_, rfl, ⟨A6, n6, c6, rfl, h6⟩, b6⟩, hq, lq, e1, e2⟩
    have HZ := Lib.hid (PR.out q hq)
    have K36 := Lib.hid (K35.out.step b6); have B6 := Lib.hid (below_step B5.out b6); have T6 := Lib.hid (T5.out.below b6)
    have IQ := Lib.hid (num_is h6); have LQ := Lib.hid lq
    have CD := Lib.hid (dir_any w6 up)
    unfold awayf at CD
    clear hq lq h6 b6 C5 PR z y0 y1 y2 x0 x1 x2
    go_wp2_with fail
    refine CD.out.mono ?_
    rintro _ w7 ⟨rfl, u7, b7⟩
    have K37 := Lib.hid (K36.out.step b7); have B7 := Lib.hid (below_step B6.out b7)
    have CF := Lib.hid (fit_any w7 q A6 n6 c6 KK _ p up (IQ.out.step b7) LQ.out (by omega) (by omega) (by omega) p1 p2 u7 (T6.out.below b7))
    rw [HZ.out] at CF
    unfold awayf at CF
    clear u7 b7 CD IQ LQ HZ T6
    go_wp2_with fail
    refine CF.out.mono ?_
    rintro _ w8 ⟨_, rfl, ⟨A8, n8, c8, rfl, h8⟩, b8⟩
    have K38 := Lib.hid (K37.out.step b8)
    have r0 := K38.out.c0; have r1 := K38.out.c1; have r2 := K38.out.c2
    have z0 := K38.out.fz 0; have z1 := K38.out.fz 1; have z2 := K38.out.fz 2
    have RN := Lib.hid (ret_num B7.out (Nat.le_add_right w.heap.size 2) K38.out K37.out.lt b8 h8)
    clear h8 b8 CF
    go_wp2
    obtain ⟨kr, nr, br⟩ := RN.out
    refine bodyPost_ret (v := .tuple #[.agg #[.bool r.1.s, .int .i64 r.1.e, .slice A8 n8 c8], .int .i64 r.2]) ?_ rfl ⟨_, rfl, nr, br⟩
    have q0 := kr.c0; have q1 := kr.c1; have q2 := kr.c2
    unfold put3 at q0 q1 q2
    simp [results, Tryz.results122, go_sem, q0, q1, q2]
end Go.Proofs.YthhaelnildaemaaGreatDoor
