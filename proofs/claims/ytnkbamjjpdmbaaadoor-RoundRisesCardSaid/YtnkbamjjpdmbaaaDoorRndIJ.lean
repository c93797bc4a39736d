/- fathomlineref1: Fit. fathomlineref1: Reckon. -/
import Derived.Test.YtnkbamjjpdmbaaaDoorRndGH
import Derived.Test.YtnkbamjjpdmbaaaDoorRndEF
import Derived.Test.YtnkbamjjpdmbaaaDoorReg
import Derived.Deep.DeepCutAuto
namespace Go.Proofs.YtnkbamjjpdmbaaaDoor
open Go.RowKit Nx

theorem bits_words {M P k : Nat} (h : nbits M ≤ P) (hP : P ≤ 64 * k) : M < B64 ^ k := by
  rw [pow64]; exact Nat.lt_of_lt_of_le (lt_of_nbits h) (Nat.pow_le_pow_right (by omega) hP)

set_option maxRecDepth 100000 in
set_option maxHeartbeats 4000000 in
theorem yfit_any (w : World) (s up : Bool) (e p : Int) (A : Option Addr) (n c : Nat) (xs : List Nat) (ha : Arg w A n c xs) (hn : n ≤ 100000) :
    Calls Tryd.prog 12 #[.agg #[.bool s, .int .i64 e, .slice A n c], .int .i64 p, .bool up] w (NumPost2 w (ansf p up s e n xs)) := by
  obtain ⟨k1, k2, b3⟩ := one_bx w s e A n c
  obtain ⟨W, hW⟩ : ∃ W, W = (w.alloc (.cells #[.bool s, .int .i64 e, .slice A n c] 24)).alloc (.cells #[.bool false, .int .i64 0, .slice none 0 0] 24) := ⟨_, rfl⟩
  have hsz : W.heap.size = w.heap.size + 1 + 1 := by rw [hW]; simp
  rw [← hW] at k1 k2 b3
  have ob := one_below W (.cells #[.bool s, .int .i64 e, .slice A n c] 24)
  have C1 := Lib.hid (bad_any _ _ 1 p _ (nums1 W s e A n c xs (ha.step b3) hn) (by omega))
  rw [hsz] at C1
  have K1 := Lib.hid (k1.step ob); have K2 := Lib.hid (k2.step ob); have B3 := Lib.hid (below_step b3 ob)
  have HA := Lib.hid ha
  have y0 := k1.c0; have y1 := k1.c1; have y2 := k1.c2
  subst hW
  clear k1 k2 b3 ha ob hsz
  obtain ⟨r, hr⟩ : ∃ r, r = ansf p up s e n xs := ⟨_, rfl⟩
  rw [← hr]
  have HR := Lib.hid hr
  clear hr
  go_enter Tryd.func12, Tryd.ntmps12
  go_wp2_with fail
  refine C1.out.mono ?_
  rintro _ w4 ⟨rfl, b4⟩
  have K14 := Lib.hid (K1.out.step b4); have K24 := Lib.hid (K2.out.step b4); have B4 := Lib.hid (below_step B3.out b4)
  clear b4 C1 K1 K2 B3 y0 y1 y2
  have hall : (!([okb s e n xs].all id && precb p)) = !(okb s e n xs && precb p) := by simp
  rw [hall]
  clear hall
  cases hok : (okb s e n xs && precb p)
  · have hr : r = (q0, 1) := by rw [HR.out]; unfold ansf; rw [hok]; rfl
    have hb : (!false) = true := rfl
    rw [hb]
    clear hb
    have r0 := K24.out.c0; have r1 := K24.out.c1; have r2 := K24.out.c2
    have z0 := K24.out.fz 0; have z1 := K24.out.fz 1; have z2 := K24.out.fz 2
    go_wp2
    obtain ⟨kr, nr, br⟩ := ret_zero B4.out (Nat.le_add_right w.heap.size 1) K24.out
    refine bodyPost_ret (v := .tuple #[.agg #[.bool false, .int .i64 0, .slice none 0 0], .int .i64 1]) ?_ rfl (by rw [hr]; exact ⟨_, rfl, nr, br⟩)
    have q0 := kr.c0; have q1 := kr.c1; have q2 := kr.c2
    unfold put3 at q0 q1 q2
    simp [results, Tryd.results12, go_sem, q0, q1, q2]
  · have hr : r = res (rnd p.toNat up ⟨s, nval B64 xs, e⟩) := by rw [HR.out]; unfold ansf; rw [hok]; rfl
    have hb : (!true) = false := rfl
    rw [hb]
    clear hb
    obtain ⟨ho1, ho2⟩ := (Bool.and_eq_true _ _).mp hok
    obtain ⟨p1, p2⟩ := prec_true ho2
    obtain ⟨P, hP⟩ : ∃ P : Nat, p = (P : Int) := ⟨p.toNat, by omega⟩
    subst hP
    rw [show ((P : Int)).toNat = P by simp] at hr
    obtain ⟨i1, cn, f1, f2, f3⟩ := okb_true (HA.out.step B4.out) ho1
    simp only at f1 f2 f3
    have CO := Lib.hid (of_any w4 ⟨s, nval B64 xs, e⟩ A n c i1 hn)
    simp only at CO
    obtain ⟨k0, hk0⟩ : ∃ k0 : Nat, k0 = 64 := ⟨_, rfl⟩
    rw [← hk0] at f1
    have hk1 : k0 ≤ 64 := by omega
    have hk2 : 4 ≤ k0 := by omega
    have F1 := Lib.hid f1; have CN := Lib.hid cn; have HR2 := Lib.hid hr
    generalize nval B64 xs = X at *
    clear hr hok ho1 ho2 i1 hk0 f1 cn HA HR
    have y0 := K14.out.c0; have y1 := K14.out.c1; have y2 := K14.out.c2
    go_wp2_with fail
    refine CO.out.mono ?_
    rintro _ w5 ⟨_, rfl, ⟨A5, n5, c5, rfl, h5, p5⟩, b5⟩
    have K25 := Lib.hid (K24.out.step b5); have B5 := Lib.hid (below_step B4.out b5)
    have CR := Lib.hid (round_any w5 ⟨s, X, e⟩ A5 n5 c5 k0 P up CN.out h5 F1.out (by omega) (by omega) (by omega) (by show -50000000 ≤ e; omega) (by show e ≤ 50000000; omega))
    simp only at CR
    have RC := Lib.hid (rnd_canon P up ⟨s, X, e⟩); have RB := Lib.hid (bits_words (k := k0) (nbits_rnd (p := P) up ⟨s, X, e⟩ (by omega)) (by omega))
    generalize rnd P up ⟨s, X, e⟩ = z at *
    clear h5 p5 b5 CO y0 y1 y2 K14 K24 B4
    go_wp2_with fail
    refine CR.out.mono ?_
    rintro _ w6 ⟨A6, n6, c6, rfl, h6, p6, b6⟩
    have K26 := Lib.hid (K25.out.step b6); have B6 := Lib.hid (below_step B5.out b6)
    have CV := Lib.hid (vnum_any w6 z A6 n6 c6 k0 h6 RC.out RB.out (by omega))
    rw [← HR2.out] at CV
    clear h6 p6 b6 CR K25 B5
    go_wp2_with fail
    refine CV.out.mono ?_
    rintro _ w8 ⟨_, rfl, ⟨A8, n8, c8, rfl, h8⟩, b8⟩
    have K28 := Lib.hid (K26.out.step b8)
    have r0 := K28.out.c0; have r1 := K28.out.c1; have r2 := K28.out.c2
    have z0 := K28.out.fz 0; have z1 := K28.out.fz 1; have z2 := K28.out.fz 2
    have RN := Lib.hid (ret_num B6.out (Nat.le_add_right w.heap.size 1) K28.out K26.out.lt b8 h8)
    clear h8 b8 CV
    go_wp2
    obtain ⟨kr, nr, br⟩ := RN.out
    refine bodyPost_ret (v := .tuple #[.agg #[.bool r.1.s, .int .i64 r.1.e, .slice A8 n8 c8], .int .i64 r.2]) ?_ rfl ⟨_, rfl, nr, br⟩
    have q0 := kr.c0; have q1 := kr.c1; have q2 := kr.c2
    unfold put3 at q0 q1 q2
    simp [results, Tryd.results12, go_sem, q0, q1, q2]
end Go.Proofs.YtnkbamjjpdmbaaaDoor

namespace Go.Proofs.YtnkbamjjpdmbaaaDoor
open Go.RowKit Nx

/-- What Reckon answers, by its kind. -/
noncomputable def gk (kd p : Int) (up : Bool) (a b : Q) : Q × Int := if kd = 3 then (if b.m = 0 then (q0, 3) else res (ratq p.toNat up a b)) else res (rnd p.toNat up (exq kd a b))
theorem ofz_bd {Z e : Int} {k : Nat} {b : Int} (hZ : Z.natAbs < B64 ^ k) (h1 : -b ≤ e) (h2 : e ≤ b) (hb : 0 ≤ b) : (ofz Z e).m < B64 ^ k ∧ -b ≤ (ofz Z e).e ∧ (ofz Z e).e ≤ b + 64 * k :=
  ⟨Nat.lt_of_le_of_lt (ofz_le _ _) hZ, nm_e_bd hZ h1 h2 hb⟩
theorem plus_bd {a b : Q} {k : Nat} (ha : a.m < B64 ^ k) (hb : b.m < B64 ^ k) (h1 : -65536 ≤ a.e) (h2 : a.e ≤ 65536) (h3 : -65536 ≤ b.e) (h4 : b.e ≤ 65536) :
    (plus a b).m < B64 ^ (k + 2048 + 1) ∧ -65536 ≤ (plus a b).e ∧ (plus a b).e ≤ 65536 + 64 * (k + 2048 + 1 : Nat) := by
  have hl1 : (a.e - lowe a b).toNat ≤ 131072 := by unfold lowe; omega
  have hl2 : (b.e - lowe a b).toNat ≤ 131072 := by unfold lowe; omega
  refine ofz_bd (Nat.lt_of_le_of_lt (Int.natAbs_add_le _ _) ?_) (by unfold lowe; omega) (by unfold lowe; omega) (by omega)
  rw [up_abs, up_abs]
  exact lt_add2 (up_lt2 ha hl1) (up_lt2 hb hl2)
theorem exq_bd (kd : Int) {a b : Q} (ha : Fits a) (hb : Fits b) : ∃ K : Nat, K ≤ 3000 ∧ (exq kd a b).m < B64 ^ K ∧ -50000000 ≤ (exq kd a b).e ∧ (exq kd a b).e ≤ 50000000 := by
  obtain ⟨k, hk⟩ : ∃ k : Nat, k = 64 := ⟨_, rfl⟩
  obtain ⟨a1, a2, a3⟩ := ha
  obtain ⟨b1, b2, b3⟩ := hb
  rw [← hk] at a1 b1
  unfold exq
  split
  · obtain ⟨l1, l2, l3⟩ := plus_bd a1 b1 a2 a3 b2 b3
    exact ⟨_, by omega, l1, by omega, by omega⟩
  · split
    · unfold minus
      have n1 : -65536 ≤ b.neg.e := by
        unfold Q.neg; split
        · show -65536 ≤ (0 : Int); omega
        · exact b2
      have n2 : b.neg.e ≤ 65536 := by
        unfold Q.neg; split
        · show (0 : Int) ≤ 65536; omega
        · exact b3
      obtain ⟨l1, l2, l3⟩ := plus_bd a1 (show b.neg.m < B64 ^ k by rw [m_neg]; exact b1) a2 a3 n1 n2
      exact ⟨_, by omega, l1, by omega, by omega⟩
    · have hz : (a.z * b.z).natAbs < B64 ^ (k + k) := by
        rw [Int.natAbs_mul]
        have h1 : ∀ q : Q, q.z.natAbs = q.m := fun q => by unfold Q.z; cases q.s <;> simp
        rw [h1, h1]
        exact lt_mul a1 b1
      obtain ⟨l1, l2, l3⟩ := ofz_bd (b := 131072) hz (show -131072 ≤ a.e + b.e by omega) (by omega) (by omega)
      exact ⟨_, by omega, l1, by show -50000000 ≤ (ofz _ _).e; omega, by show (ofz _ _).e ≤ 50000000; omega⟩

theorem en_of (args : Array Value) (w : World) : (callFunc 38 args).run Tryd.prog w = .ok (.enter 38 args) w := by go_simp

set_option maxRecDepth 100000 in
set_option maxHeartbeats 8000000 in
theorem reckon_any (w : World) (kd : Int) (s s' up : Bool) (e e' p : Int) (A B : Option Addr) (n c m d : Nat) (xs ys : List Nat) (ha : Arg w A n c xs) (hb : Arg w B m d ys) (hn : n ≤ 100000) (hm : m ≤ 100000) :
    Calls Tryd.prog 40 #[.int .i64 kd, .agg #[.bool s, .int .i64 e, .slice A n c], .agg #[.bool s', .int .i64 e', .slice B m d], .int .i64 p, .bool up] w (NumPost2 w (ansr (gk kd p up) p s e n xs s' e' m ys)) := by
  obtain ⟨k1, k2, k3, b3⟩ := three_bx w s s' e e' A B n c m d
  obtain ⟨W, hW⟩ : ∃ W, W = (((w.alloc (.cells #[.bool s, .int .i64 e, .slice A n c] 24)).alloc (.cells #[.bool s', .int .i64 e', .slice B m d] 24)).alloc (.cells #[.bool false, .int .i64 0, .slice none 0 0] 24)) := ⟨_, rfl⟩
  have hsz : W.heap.size = w.heap.size + 1 + 1 + 1 := by rw [hW]; simp
  rw [← hW] at k1 k2 k3 b3
  have ob := one_below W (.cells #[.bool s, .int .i64 e, .slice A n c, .bool s', .int .i64 e', .slice B m d] 24)
  have C1 := Lib.hid (bad_any _ _ 2 p _ (nums2 W s s' e e' A B n c m d xs ys (ha.step b3) hn (hb.step b3) hm) (by omega))
  rw [hsz] at C1
  have K1 := Lib.hid (k1.step ob); have K2 := Lib.hid (k2.step ob); have K3 := Lib.hid (k3.step ob); have B3 := Lib.hid (below_step b3 ob)
  have HA := Lib.hid ha; have HB := Lib.hid hb
  have y0 := k1.c0; have y1 := k1.c1; have y2 := k1.c2
  have x0 := k2.c0; have x1 := k2.c1; have x2 := k2.c2
  subst hW
  clear k1 k2 k3 b3 ha hb ob hsz
  obtain ⟨r, hr⟩ : ∃ r, r = ansr (gk kd p up) p s e n xs s' e' m ys := ⟨_, rfl⟩
  rw [← hr]
  have HR := Lib.hid hr
  clear hr
  go_enter Tryd.func40, Tryd.ntmps40
  go_wp2_with fail
  refine C1.out.mono ?_
  rintro _ w4 ⟨rfl, b4⟩
  have K14 := Lib.hid (K1.out.step b4); have K24 := Lib.hid (K2.out.step b4); have K34 := Lib.hid (K3.out.step b4); have B4 := Lib.hid (below_step B3.out b4)
  clear b4 C1 K1 K2 K3 B3 y0 y1 y2 x0 x1 x2
  have hall : (!([okb s e n xs, okb s' e' m ys].all id && precb p)) = !(okb s e n xs && okb s' e' m ys && precb p) := by simp
  rw [hall]
  clear hall
  cases hok : (okb s e n xs && okb s' e' m ys && precb p)
  · have hr : r = (q0, 1) := by rw [HR.out]; unfold ansr; rw [hok]; rfl
    have hb : (!false) = true := rfl
    rw [hb]
    clear hb
    have r0 := K34.out.c0; have r1 := K34.out.c1; have r2 := K34.out.c2
    have z0 := K34.out.fz 0; have z1 := K34.out.fz 1; have z2 := K34.out.fz 2
    go_wp2
    obtain ⟨kr, nr, br⟩ := ret_zero B4.out (Nat.le_add_right w.heap.size 2) K34.out
    refine bodyPost_ret (v := .tuple #[.agg #[.bool false, .int .i64 0, .slice none 0 0], .int .i64 1]) ?_ rfl (by rw [hr]; exact ⟨_, rfl, nr, br⟩)
    have q0 := kr.c0; have q1 := kr.c1; have q2 := kr.c2
    unfold put3 at q0 q1 q2
    simp [results, Tryd.results40, go_sem, q0, q1, q2]
  · have hr : r = gk kd p up ⟨s, nval B64 xs, e⟩ ⟨s', nval B64 ys, e'⟩ := by rw [HR.out]; unfold ansr; rw [hok]; rfl
    have hb : (!true) = false := rfl
    rw [hb]
    clear hb
    obtain ⟨ho12, ho3⟩ := (Bool.and_eq_true _ _).mp hok
    obtain ⟨ho1, ho2⟩ := (Bool.and_eq_true _ _).mp ho12
    obtain ⟨p1, p2⟩ := prec_true ho3
    obtain ⟨P, hP⟩ : ∃ P : Nat, p = (P : Int) := ⟨p.toNat, by omega⟩
    subst hP
    obtain ⟨i1, cn1, f1, f2, f3⟩ := okb_true (HA.out.step B4.out) ho1
    obtain ⟨i2, cn2, f4, f5, f6⟩ := okb_true (HB.out.step B4.out) ho2
    simp only at f1 f2 f3 f4 f5 f6
    have CA := fun W (h : Below w4.heap.size w4 W) => Lib.hid (of_any W ⟨s, nval B64 xs, e⟩ A n c (i1.step h) hn)
    have CB := fun W (h : Below w4.heap.size w4 W) => Lib.hid (of_any W ⟨s', nval B64 ys, e'⟩ B m d (i2.step h) hm)
    simp only at CA CB
    have N1 := Lib.hid cn1; have N2 := Lib.hid cn2; have F1 := Lib.hid f1; have F4 := Lib.hid f4; have HR2 := Lib.hid hr
    generalize nval B64 xs = X at *
    generalize nval B64 ys = Y at *
    clear hr hok ho1 ho2 ho3 ho12 i1 i2 f1 f4 cn1 cn2 HA HB HR
    go_wp2_with fail
    refine pair_stmt (fr := (fun v12 v13 v20 v21 v22 v23 => ⟨#[.int .i64 kd, .agg #[.bool s, .int .i64 e, .slice A n c], .agg #[.bool s', .int .i64 e', .slice B m d], .int .i64 (P : Int), .bool up, undef, .pointer (some ⟨w.heap.size, 0, none⟩), .pointer (some ⟨w.heap.size + 1, 0, none⟩), undef, undef, .pointer (some ⟨w.heap.size + 1 + 1, 0, none⟩), .int .i64 0, v12, v13, .int .i64 (P : Int), .agg #[.bool s, .int .i64 e, .slice A n c], .agg #[.bool s', .int .i64 e', .slice B m d], .slice (some ⟨w.heap.size + 1 + 1 + 1, 0, none⟩) 2 2, .bool false, undef, v20, v21, v22, v23, undef, undef, undef, undef, undef, undef, undef, undef, undef, undef, undef, undef, undef, undef, undef, undef, undef, undef, undef, undef, undef, undef, undef, undef, undef], []⟩)) (f := 38) (g6 := w.heap.size) (g7 := w.heap.size + 1) (qa := ⟨s, X, e⟩) (qb := ⟨s', Y, e'⟩) (by kernel_rfl) rfl (pair_ready (by kernel_rfl)) rfl rfl rfl rfl rfl rfl rfl rfl
      ⟨rfl, rfl, rfl⟩ ⟨rfl, rfl, rfl⟩ ⟨rfl, rfl, rfl⟩ ⟨rfl, rfl, rfl⟩ ⟨rfl, rfl, rfl⟩ ⟨rfl, rfl, rfl⟩ ⟨rfl, rfl, rfl⟩ ⟨rfl, rfl, rfl⟩ en_of
      (fun _ _ _ _ _ _ _ => rfl) (fun _ _ _ _ _ _ _ => rfl) (fun _ _ _ _ _ _ _ => rfl) (fun _ _ _ _ _ _ _ => rfl) (fun _ _ _ _ _ _ _ => rfl) (fun _ _ _ _ _ _ _ => rfl)
      (fun _ _ _ _ _ _ => rfl) (fun _ _ _ _ _ _ => rfl) (fun _ _ _ _ _ _ => rfl) (fun _ _ _ _ _ _ => rfl) (fun _ _ _ _ _ _ => rfl) (fun _ _ _ _ _ _ => rfl) (fun _ _ _ _ _ _ => rfl) (fun _ _ _ _ _ _ => rfl) (fun _ _ _ _ _ _ => rfl)
      K14.out K24.out (fun W h => (CA W h).out) (fun W h => (CB W h).out) ?_
    intro g h v20 v21 v22 v23 w5 A5 B5 n5 c5 m5 d5 x1 x2 g1 g2 b5
    simp only at x1 x2 g1 g2
    have X1 := Lib.hid x1; have X2 := Lib.hid x2; have G1 := Lib.hid g1; have G2 := Lib.hid g2
    have K35 := Lib.hid (K34.out.step b5); have BB := Lib.hid (below_step B4.out b5)
    obtain ⟨k0, hk0⟩ : ∃ k0 : Nat, k0 = 64 := ⟨_, rfl⟩
    have F1' := Lib.hid (show X < B64 ^ k0 by rw [hk0]; exact F1.out); have F4' := Lib.hid (show Y < B64 ^ k0 by rw [hk0]; exact F4.out)
    have hk1 : k0 ≤ 64 := by omega
    have hk2 : 4 ≤ k0 := by omega
    clear x1 x2 g1 g2 b5 CA CB K14 K24 K34 B4 hk0
    have y0 := X1.out.c0; have y1 := X1.out.c1; have y2 := X1.out.c2
    have w0 := X2.out.c0; have w1 := X2.out.c1; have w2 := X2.out.c2
    by_cases hkd : kd = 3
    · subst hkd
      by_cases hY0 : Y = 0
      · have hr : r = (q0, 3) := by rw [HR2.out]; unfold gk; rw [if_pos rfl, if_pos hY0]
        have hm5 := (dg_zero G2.out).2 hY0
        subst hm5
        have HR3 := Lib.hid hr
        clear hr
        have r0 := K35.out.c0; have r1 := K35.out.c1; have r2 := K35.out.c2
        have z0 := K35.out.fz 0; have z1 := K35.out.fz 1; have z2 := K35.out.fz 2
        go_wp2
        obtain ⟨kr, nr, br⟩ := ret_zero BB.out (Nat.le_add_right w.heap.size 2) K35.out
        refine bodyPost_ret (v := .tuple #[.agg #[.bool false, .int .i64 0, .slice none 0 0], .int .i64 3]) ?_ rfl (by rw [HR3.out]; exact ⟨_, rfl, nr, br⟩)
        have q0 := kr.c0; have q1 := kr.c1; have q2 := kr.c2
        unfold put3 at q0 q1 q2
        simp [results, Tryd.results40, go_sem, q0, q1, q2]
      · have hr : r = res (ratq P up ⟨s, X, e⟩ ⟨s', Y, e'⟩) := by rw [HR2.out]; unfold gk; rw [if_pos rfl, if_neg hY0, show ((P : Int)).toNat = P by simp]
        have hm5 : m5 ≠ 0 := fun h => hY0 ((dg_zero G2.out).1 h)
        have f0 : ((m5 : Int) == 0) = false := by simp; omega
        have CR := Lib.hid (ratio_any w5 ⟨s, X, e⟩ ⟨s', Y, e'⟩ A5 B5 n5 c5 m5 d5 P up N1.out N2.out G1.out G2.out F1.out F4.out hY0 (by omega) (by omega) f2 f3 f5 f6)
        have RC := Lib.hid (ratq_canon P up ⟨s, X, e⟩ ⟨s', Y, e'⟩); have RB := Lib.hid (bits_words (k := k0) (ratq_bits (p := P) up ⟨s, X, e⟩ ⟨s', Y, e'⟩ (by omega)) (by omega))
        simp only at CR
        have HR3 := Lib.hid hr
        generalize ratq P up ⟨s, X, e⟩ ⟨s', Y, e'⟩ = z at *
        clear hr hY0 hm5 HR2 F1 F4 N1 N2
        go_wp2_with fail
        refine CR.out.mono ?_
        rintro _ w7 ⟨_, rfl, ⟨A7, n7, c7, rfl, h7, p7⟩, b7⟩
        have K37 := Lib.hid (K35.out.step b7); have B7 := Lib.hid (below_step BB.out b7)
        have CV := Lib.hid (vnum_any w7 z A7 n7 c7 k0 h7 RC.out RB.out (by omega))
        rw [← HR3.out] at CV
        clear h7 p7 b7 CR
        go_wp2_with fail
        refine CV.out.mono ?_
        rintro _ w8 ⟨_, rfl, ⟨A8, n8, c8, rfl, h8⟩, b8⟩
        have K38 := Lib.hid (K37.out.step b8)
        have r0 := K38.out.c0; have r1 := K38.out.c1; have r2 := K38.out.c2
        have z0 := K38.out.fz 0; have z1 := K38.out.fz 1; have z2 := K38.out.fz 2
        have RN := Lib.hid (ret_num B7.out (Nat.le_add_right w.heap.size 2) K38.out K37.out.lt b8 h8)
        clear h8 b8 CV
        go_wp2
        obtain ⟨kr, nr, br⟩ := RN.out
        refine bodyPost_ret (v := .tuple #[.agg #[.bool r.1.s, .int .i64 r.1.e, .slice A8 n8 c8], .int .i64 r.2]) ?_ rfl ⟨_, rfl, nr, br⟩
        have q0 := kr.c0; have q1 := kr.c1; have q2 := kr.c2
        unfold put3 at q0 q1 q2
        simp [results, Tryd.results40, go_sem, q0, q1, q2]
    · have hr : r = res (rnd P up (exq kd ⟨s, X, e⟩ ⟨s', Y, e'⟩)) := by rw [HR2.out]; unfold gk; rw [if_neg hkd, show ((P : Int)).toNat = P by simp]
      have f0 : (kd == 3) = false := by simp [hkd]
      have CE := Lib.hid (exact_any w5 w5.heap.size kd ⟨s, X, e⟩ ⟨s', Y, e'⟩ A5 B5 n5 c5 m5 d5 k0 N1.out N2.out G1.out G2.out (dg_all G1.out) (dg_all G2.out) (Nat.le_refl _) F1'.out F4'.out (by omega) (by show -131072 ≤ e; omega) (by show e ≤ 131072; omega) (by show -131072 ≤ e'; omega) (by show e' ≤ 131072; omega))
      obtain ⟨K, hK, lK, el, eh⟩ := exq_bd kd (a := ⟨s, X, e⟩) (b := ⟨s', Y, e'⟩) ⟨F1.out, f2, f3⟩ ⟨F4.out, f5, f6⟩
      have EC := Lib.hid (exq_canon kd ⟨s, X, e⟩ ⟨s', Y, e'⟩); have LK := Lib.hid lK
      have RC := Lib.hid (rnd_canon P up (exq kd ⟨s, X, e⟩ ⟨s', Y, e'⟩)); have RB := Lib.hid (bits_words (k := k0) (nbits_rnd (p := P) up (exq kd ⟨s, X, e⟩ ⟨s', Y, e'⟩) (by omega)) (by omega))
      simp only at CE
      have HR3 := Lib.hid hr
      generalize exq kd ⟨s, X, e⟩ ⟨s', Y, e'⟩ = z at *
      clear hr hkd HR2 F1 F4 N1 N2 lK
      go_wp2_with fail
      refine CE.out.mono ?_
      rintro _ w6 ⟨_, rfl, ⟨A6, n6, c6, rfl, h6, p6⟩, b6⟩
      have K36 := Lib.hid (K35.out.step b6); have B6 := Lib.hid (below_step BB.out b6)
      have CR := Lib.hid (round_any w6 z A6 n6 c6 K P up EC.out h6 LK.out (by omega) (by omega) (by omega) el eh)
      generalize rnd P up z = zz at *
      clear h6 p6 b6 CE y0 y1 y2 w0 w1 w2
      go_wp2_with fail
      refine CR.out.mono ?_
      rintro _ w7 ⟨A7, n7, c7, rfl, h7, p7, b7⟩
      have K37 := Lib.hid (K36.out.step b7); have B7 := Lib.hid (below_step B6.out b7)
      have CV := Lib.hid (vnum_any w7 zz A7 n7 c7 k0 h7 RC.out RB.out (by omega))
      rw [← HR3.out] at CV
      clear h7 p7 b7 CR
      go_wp2_with fail
      refine CV.out.mono ?_
      rintro _ w8 ⟨_, rfl, ⟨A8, n8, c8, rfl, h8⟩, b8⟩
      have K38 := Lib.hid (K37.out.step b8)
      have r0 := K38.out.c0; have r1 := K38.out.c1; have r2 := K38.out.c2
      have z0 := K38.out.fz 0; have z1 := K38.out.fz 1; have z2 := K38.out.fz 2
      have RN := Lib.hid (ret_num B7.out (Nat.le_add_right w.heap.size 2) K38.out K37.out.lt b8 h8)
      clear h8 b8 CV
      go_wp2
      obtain ⟨kr, nr, br⟩ := RN.out
      refine bodyPost_ret (v := .tuple #[.agg #[.bool r.1.s, .int .i64 r.1.e, .slice A8 n8 c8], .int .i64 r.2]) ?_ rfl ⟨_, rfl, nr, br⟩
      have q0 := kr.c0; have q1 := kr.c1; have q2 := kr.c2
      unfold put3 at q0 q1 q2
      simp [results, Tryd.results40, go_sem, q0, q1, q2]
end Go.Proofs.YtnkbamjjpdmbaaaDoor
