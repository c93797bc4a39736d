/- round.sum, round.product, round.quotient. round.product, round.quotient. -/
import Derived.Test.YthhaelnildaemaaGreatDoorPRndAB
namespace Go.Proofs.YthhaelnildaemaaGreatDoor
open Go.RowKit Nx
def NewRd (W : World) (N : Nat) (e : Ending) (w' : World) : Prop := ∃ (A : Option Addr) (n c : Nat), e = .returned (.slice A n c) ∧ Rd .u64 w' W.heap.size w'.heap.size A n c (digs B64 N) ∧ Below W.heap.size W w'
section
variable {W : World} {A B : Option Addr} {n c m d X Y k l : Nat}
theorem add_nw (ha : Has W A n c X k) (hb : Has W B m d Y l) (hk : k ≤ 100000) (hl : l ≤ 100000) : Calls Tryz.prog 142 #[.slice A n c, .slice B m d] W (NewRd W (X + Y)) := by
  obtain ⟨xs, a1, a2, rfl, a4⟩ := ha
  obtain ⟨ys, b1, b2, rfl, b4⟩ := hb
  exact (add_any W 0 _ A B n c m d xs ys a1 b1 a2 b2 (by omega) (by omega) (Nat.le_refl _)).mono fun e w' ⟨A, n, c, he, h1, h2, _⟩ => ⟨A, n, c, he, h1, h2⟩
theorem sub_nw (ha : Has W A n c X k) (hb : Has W B m d Y l) (hk : k ≤ 100000) (hl : l ≤ 100000) : Calls Tryz.prog 143 #[.slice A n c, .slice B m d] W
    fun e w' => ∃ (A' : Option Addr) (n' c' : Nat), e = .returned (.tuple #[.slice A' n' c', .bool (decide (Y ≤ X))]) ∧ Rd .u64 w' W.heap.size w'.heap.size A' n' c' (digs B64 (X - Y)) ∧ Below W.heap.size W w' := by
  obtain ⟨xs, a1, a2, rfl, a4⟩ := ha
  obtain ⟨ys, b1, b2, rfl, b4⟩ := hb
  refine (sub_any W 0 _ A B n c m d xs ys a1 b1 a2 b2 (by omega) (by omega) (Nat.le_refl _)).mono ?_
  rintro e w' ⟨A', n', c', rfl, h1, h2, _⟩
  exact ⟨A', n', c', rfl, h1, h2⟩
end
def RawPost (w : World) (r : Q) (K : Nat) (e : Ending) (w' : World) : Prop := ∃ q : Q, NumPost1 w q e w' ∧ nm q.s q.m q.e = r ∧ q.m < B64 ^ K ∧ -1000000 ≤ q.e ∧ q.e ≤ 1000000
theorem up_lt2 {X k : Nat} {t : Nat} (h : X < B64 ^ k) (ht : t ≤ 131072) : X * 2 ^ t < B64 ^ (k + 2048) := by
  obtain ⟨E, hE⟩ : ∃ E : Nat, E = 2048 := ⟨_, rfl⟩
  rw [← hE]
  have h1 : 2 ^ t ≤ B64 ^ E := by rw [pow64]; exact Nat.pow_le_pow_right (by omega) (by omega)
  rw [Nat.pow_add]
  exact Nat.lt_of_lt_of_le (Nat.mul_lt_mul_of_pos_right h (Nat.pow_pos (by omega))) (Nat.mul_le_mul_left _ h1)
theorem lt_add2 {k x y : Nat} (hx : x < B64 ^ k) (hy : y < B64 ^ k) : x + y < B64 ^ (k + 1) := by
  rw [Nat.pow_succ]
  have : B64 ^ k * 2 ≤ B64 ^ k * B64 := Nat.mul_le_mul_left _ (by unfold B64; omega)
  omega
set_option maxRecDepth 100000 in
set_option maxHeartbeats 4000000 in
theorem rsum_any (w : World) (a b : Q) (A B : Option Addr) (n c m d : Nat) (ha : Is w A n c a.m) (hb : Is w B m d b.m) (hX : a.m < B64 ^ 64) (hY : b.m < B64 ^ 64)
    (h1 : -65536 ≤ a.e) (h2 : a.e ≤ 65536) (h3 : -65536 ≤ b.e) (h4 : b.e ≤ 65536) :
    Calls Tryz.prog 180 #[.agg #[.bool a.s, .int .i64 a.e, .slice A n c], .agg #[.bool b.s, .int .i64 b.e, .slice B m d]] w (RawPost w (plus a b) 2120) := by
  obtain ⟨k1, k2, k3, b3⟩ := three_bx w a.s b.s a.e b.e A B n c m d
  obtain ⟨X, hXv⟩ : ∃ X, X = a.m * 2 ^ (a.e - lowe a b).toNat := ⟨_, rfl⟩
  obtain ⟨Y, hYv⟩ : ∃ Y, Y = b.m * 2 ^ (b.e - lowe a b).toNat := ⟨_, rfl⟩
  have PS := Lib.hid (plus_same hXv hYv); have PL := Lib.hid (plus_left hXv hYv); have PR := Lib.hid (plus_right hXv hYv)
  have hl1 : (a.e - lowe a b).toNat ≤ 131072 := by unfold lowe; omega
  have hl2 : (b.e - lowe a b).toNat ≤ 131072 := by unfold lowe; omega
  obtain ⟨k0, hk0⟩ : ∃ k0 : Nat, k0 = 64 := ⟨_, rfl⟩
  obtain ⟨K, hK⟩ : ∃ K : Nat, K = 2120 := ⟨_, rfl⟩
  rw [← hK]
  have hX' : a.m < B64 ^ k0 := by rw [hk0]; exact hX
  have hY' : b.m < B64 ^ k0 := by rw [hk0]; exact hY
  have LX := Lib.hid (show X < B64 ^ (k0 + 2048) by rw [hXv]; exact up_lt2 hX' hl1)
  have LY := Lib.hid (show Y < B64 ^ (k0 + 2048) by rw [hYv]; exact up_lt2 hY' hl2)
  have LXY := Lib.hid (lt_up (lt_add2 LX.out LY.out) (show k0 + 2048 + 1 ≤ K by omega))
  have LXK := Lib.hid (lt_up LX.out (show k0 + 2048 ≤ K by omega)); have LYK := Lib.hid (lt_up LY.out (show k0 + 2048 ≤ K by omega))
  have ha2 := Lib.hid ((ha.step b3).has hX'); have hb2 := Lib.hid ((hb.step b3).has hY')
  have q1 := Lib.hid (shv_num (M := a.m) (e := a.e) (t := lowe a b) (by unfold lowe; omega) (by unfold lowe; omega)); have q2 := Lib.hid (shv_num (M := b.m) (e := b.e) (t := lowe a b) (by unfold lowe; omega) (by unfold lowe; omega))
  rw [← hXv] at q1
  rw [← hYv] at q2
  clear hX' hY' hl1 hl2
  have K1 := Lib.hid k1; have K2 := Lib.hid k2; have K3 := Lib.hid k3; have B3 := Lib.hid b3
  clear k1 k2 k3 b3 hXv hYv ha hb hX hY
  have t1 : -65536 ≤ lowe a b := by unfold lowe; omega
  have t2 : lowe a b ≤ a.e := by unfold lowe; omega
  have t3 : lowe a b ≤ b.e := by unfold lowe; omega
  have f1 : min a.e b.e = lowe a b := rfl
  generalize plus a b = r at *
  generalize lowe a b = t at *
  obtain ⟨s, am, e⟩ := a
  obtain ⟨s', bm, e'⟩ := b
  simp only at *
  go_enter Tryz.func180, Tryz.ntmps180
  go_wp2_with fail
  generalize (((w.alloc (.cells #[.bool s, .int .i64 e, .slice A n c] 28)).alloc (.cells #[.bool s', .int .i64 e', .slice B m d] 28)).alloc (.cells #[.bool false, .int .i64 0, .slice none 0 0] 28)) = w2 at *
  have S0 : w2.cell? ⟨w.heap.size, 0, none⟩ = some (.bool s) ∧ w2.cell? ⟨w.heap.size, 1, none⟩ = some (.int .i64 e) ∧ w2.cell? ⟨w.heap.size, 2, none⟩ = some (.slice A n c) ∧ w2.cell? ⟨w.heap.size + 1, 0, none⟩ = some (.bool s') ∧ w2.cell? ⟨w.heap.size + 1, 1, none⟩ = some (.int .i64 e') ∧ w2.cell? ⟨w.heap.size + 1, 2, none⟩ = some (.slice B m d) := ⟨K1.out.c0, K1.out.c1, K1.out.c2, K2.out.c0, K2.out.c1, K2.out.c2⟩
  try rw [f1]
  have x1 := i64_sub e t (by omega) (by omega)
  have x2 := i64_sub e' t (by omega) (by omega)
  have d2 := bdr (Below.refl w2.heap.size w2)
  have C1 := Lib.hid (shift_is (e - t) (ha2.out.step d2) (by omega))
  have K1d := Lib.hid (K1.out.step d2); have K2d := Lib.hid (K2.out.step d2); have K3d := Lib.hid (K3.out.step d2); have B2d := Lib.hid (below_step B3.out d2); have hb2d := Lib.hid (hb2.out.step d2)
  rw [q1.out] at C1
  clear f1 d2 B3 K1 K2 K3 ha2 hb2
  go_region_held3 (fun w' => w'.cell? ⟨w.heap.size, 0, none⟩ = some (.bool s) ∧ w'.cell? ⟨w.heap.size, 1, none⟩ = some (.int .i64 e) ∧ w'.cell? ⟨w.heap.size, 2, none⟩ = some (.slice A n c) ∧ w'.cell? ⟨w.heap.size + 1, 0, none⟩ = some (.bool s') ∧ w'.cell? ⟨w.heap.size + 1, 1, none⟩ = some (.int .i64 e') ∧ w'.cell? ⟨w.heap.size + 1, 2, none⟩ = some (.slice B m d))
    (first | exact S0 | assumption)
    (first
      | (go_at_call 190
         refine C1.out.mono ?_
         rintro _ w3 ⟨A3, n3, c3, rfl, h3, b3⟩
         have K13 := Lib.hid (K1d.out.step b3); have K23 := Lib.hid (K2d.out.step b3); have K33 := Lib.hid (K3d.out.step b3)
         have S3 : w3.cell? ⟨w.heap.size, 0, none⟩ = some (.bool s) ∧ w3.cell? ⟨w.heap.size, 1, none⟩ = some (.int .i64 e) ∧ w3.cell? ⟨w.heap.size, 2, none⟩ = some (.slice A n c) ∧ w3.cell? ⟨w.heap.size + 1, 0, none⟩ = some (.bool s') ∧ w3.cell? ⟨w.heap.size + 1, 1, none⟩ = some (.int .i64 e') ∧ w3.cell? ⟨w.heap.size + 1, 2, none⟩ = some (.slice B m d) := ⟨K13.out.c0, K13.out.c1, K13.out.c2, K23.out.c0, K23.out.c1, K23.out.c2⟩
         have C3 := Lib.hid (shift_is (e' - t) (hb2d.out.step b3) (by omega))
         have B3 := Lib.hid (below_step B2d.out b3); have H3 := Lib.hid h3
         rw [q2.out] at C3
         clear h3 b3 C1)
      | (go_at_call 190
         refine C3.out.mono ?_
         rintro _ w4 ⟨A4, n4, c4, rfl, h4, b4⟩
         have K14 := Lib.hid (K13.out.step b4); have K24 := Lib.hid (K23.out.step b4); have K34 := Lib.hid (K33.out.step b4)
         have S4 : w4.cell? ⟨w.heap.size, 0, none⟩ = some (.bool s) ∧ w4.cell? ⟨w.heap.size, 1, none⟩ = some (.int .i64 e) ∧ w4.cell? ⟨w.heap.size, 2, none⟩ = some (.slice A n c) ∧ w4.cell? ⟨w.heap.size + 1, 0, none⟩ = some (.bool s') ∧ w4.cell? ⟨w.heap.size + 1, 1, none⟩ = some (.int .i64 e') ∧ w4.cell? ⟨w.heap.size + 1, 2, none⟩ = some (.slice B m d) := ⟨K14.out.c0, K14.out.c1, K14.out.c2, K24.out.c0, K24.out.c1, K24.out.c2⟩
         have B4 := Lib.hid (below_step B3.out b4); have G1 := Lib.hid (H3.out.step b4); have G2 := Lib.hid h4
         clear h4 b4 C3))
  clear S3 S4 S0 x1 x2 K13 K23 K33 K1d K2d K3d B3 B2d hb2d H3 q1 q2
  have c0 := K14.out.c0; have c0' := K24.out.c0
  by_cases hs : s = s'
  · subst hs
    have P := Lib.hid (PS.out rfl)
    clear PS PL PR
    have CA := Lib.hid (add_nw (G1.out.has LX.out |>.step (bdr (Below.refl _ w4))) (G2.out.has LY.out |>.step (bdr (Below.refl _ w4))) (by omega) (by omega))
    have K14d := Lib.hid (K14.out.step (bdr (Below.refl _ w4))); have K34d := Lib.hid (K34.out.step (bdr (Below.refl _ w4))); have B4d := Lib.hid (bdr B4.out)
    clear K24 K34 K14 G1 G2 B4
    have f0 : (s == s) = true := by simp
    focus
      go_wp2_with fail
      go_region_held3 (fun w' => w'.cell? ⟨w.heap.size, 0, none⟩ = some (.bool s))
        (first | exact c0 | assumption | go_keep)
        (first
          | (go_at_call 142
             refine CA.out.mono ?_
             rintro _ w5 ⟨A5, n5, c5, rfl, h5, b5⟩
             have K15 := Lib.hid (K14d.out.step b5); have K35 := Lib.hid (K34d.out.step b5)
             have s5 := K15.out.c0
             have r0 := K35.out.c0; have r1 := K35.out.c1; have r2 := K35.out.c2
             have z0 := K35.out.fz 0; have z1 := K35.out.fz 1; have z2 := K35.out.fz 2
             have s7 := (put3_far w5 (w.heap.size + 1 + 1) w.heap.size 0 (.bool s) (.int .i64 t) (.slice A5 n5 c5) (by omega)).trans s5
             have RN := Lib.hid (ret_num (q := ⟨s, X + Y, t⟩) B4d.out (Nat.le_add_right w.heap.size 2) K35.out K34d.out.lt b5 h5)
             clear h5 b5))
      go_wp2
      obtain ⟨kr, nr, br⟩ := RN.out
      refine bodyPost_ret (v := .agg #[.bool s, .int .i64 t, .slice A5 n5 c5]) ?_ rfl ⟨⟨s, X + Y, t⟩, ⟨_, rfl, nr, br⟩, P.out, LXY.out, by show -1000000 ≤ t; omega, by show t ≤ 1000000; omega⟩
      have q0 := kr.c0; have q1 := kr.c1; have q2 := kr.c2
      unfold put3 at q0 q1 q2
      simp [results, Tryz.results180, go_sem, q0, q1, q2]
  · have hs' : s' = !s := by revert hs; cases s <;> cases s' <;> simp
    subst hs'
    have f0 : (s == !s) = false := by cases s <;> rfl
    have CS := Lib.hid (sub_nw (G1.out.has LX.out) (G2.out.has LY.out) (by omega) (by omega))
    by_cases hle : Y ≤ X
    · have P := Lib.hid (PL.out hs hle)
      have hd : decide (Y ≤ X) = true := decide_eq_true hle
      rw [hd] at CS
      clear PS PL PR hs K24
      go_wp2_with fail
      refine CS.out.mono ?_
      rintro _ w5 ⟨A5, n5, c5, rfl, h5, b5⟩
      have K15 := Lib.hid (K14.out.step b5); have K35 := Lib.hid (K34.out.step b5)
      have s5 := K15.out.c0
      have r0 := K35.out.c0; have r1 := K35.out.c1; have r2 := K35.out.c2
      have z0 := K35.out.fz 0; have z1 := K35.out.fz 1; have z2 := K35.out.fz 2
      have RN := Lib.hid (ret_num (q := ⟨s, X - Y, t⟩) B4.out (Nat.le_add_right w.heap.size 2) K35.out K34.out.lt b5 h5)
      have LR := Lib.hid (Nat.lt_of_le_of_lt (Nat.sub_le X Y) LXK.out)
      clear h5 b5 CS
      go_wp2
      obtain ⟨kr, nr, br⟩ := RN.out
      refine bodyPost_ret (v := .agg #[.bool s, .int .i64 t, .slice A5 n5 c5]) ?_ rfl ⟨⟨s, X - Y, t⟩, ⟨_, rfl, nr, br⟩, P.out, LR.out, by show -1000000 ≤ t; omega, by show t ≤ 1000000; omega⟩
      have q0 := kr.c0; have q1 := kr.c1; have q2 := kr.c2
      unfold put3 at q0 q1 q2
      simp [results, Tryz.results180, go_sem, q0, q1, q2]
    · have P := Lib.hid (PR.out hs hle)
      have hd : decide (Y ≤ X) = false := decide_eq_false hle
      rw [hd] at CS
      clear PS PL PR hs
      go_wp2_with fail
      refine CS.out.mono ?_
      rintro _ w5 ⟨A5, n5, c5, rfl, _, b5⟩
      have K25 := Lib.hid (K24.out.step b5); have K35 := Lib.hid (K34.out.step b5); have B5 := Lib.hid (below_step B4.out b5)
      have CT := Lib.hid (sub_nw ((G2.out.has LY.out).step b5) ((G1.out.has LX.out).step b5) (by omega) (by omega))
      clear b5 K14 K24 K34 B4 CS
      go_wp2_with fail
      refine CT.out.mono ?_
      rintro _ w6 ⟨A6, n6, c6, rfl, h6, b6⟩
      have K26 := Lib.hid (K25.out.step b6); have K36 := Lib.hid (K35.out.step b6)
      have s5 := K26.out.c0
      have r0 := K36.out.c0; have r1 := K36.out.c1; have r2 := K36.out.c2
      have z0 := K36.out.fz 0; have z1 := K36.out.fz 1; have z2 := K36.out.fz 2
      have RN := Lib.hid (ret_num (q := ⟨!s, Y - X, t⟩) B5.out (Nat.le_add_right w.heap.size 2) K36.out K35.out.lt b6 h6)
      have LR := Lib.hid (Nat.lt_of_le_of_lt (Nat.sub_le Y X) LYK.out)
      clear h6 b6 CT
      go_wp2
      obtain ⟨kr, nr, br⟩ := RN.out
      refine bodyPost_ret (v := .agg #[.bool (!s), .int .i64 t, .slice A6 n6 c6]) ?_ rfl ⟨⟨!s, Y - X, t⟩, ⟨_, rfl, nr, br⟩, P.out, LR.out, by show -1000000 ≤ t; omega, by show t ≤ 1000000; omega⟩
      have q0 := kr.c0; have q1 := kr.c1; have q2 := kr.c2
      unfold put3 at q0 q1 q2
      simp [results, Tryz.results180, go_sem, q0, q1, q2]
end Go.Proofs.YthhaelnildaemaaGreatDoor
namespace Go.Proofs.YthhaelnildaemaaGreatDoor
open Go.RowKit Nx
end Go.Proofs.YthhaelnildaemaaGreatDoor
