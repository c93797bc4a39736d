/- fathomlineref1: Round. -/
import Derived.Test.YtnkbamjjpdmbaaaDoorRndA
import Derived.Test.YtnkbamjjpdmbaaaDoorRefG
namespace Go.Proofs.YtnkbamjjpdmbaaaDoor
open Go.RowKit Nx

theorem one_dg (w : World) : Dg (w.alloc (.cells #[.int .u32 1] 79)) (some ⟨w.heap.size, 0, none⟩) 1 1 1 := by
  have h := one_row w
  unfold Dg
  have : digs B32 1 = [1] := by rw [digs_pos B32_two (by omega)]; show [1 % B32] ++ digs B32 (1 / B32) = [1]; rw [show 1 / B32 = 0 from rfl, digs_zero]; rfl
  rw [this]; exact h
theorem rnd_low_form {P low : Nat} {up s : Bool} {M : Nat} {e : Int} (hl : low = nbits M - P) : rnd P up ⟨s, M, e⟩ = nm s (M / 2 ^ low + (if M % 2 ^ low ≠ 0 ∧ (s != up) = true then 1 else 0)) (e + low) := by
  unfold rnd rndm; simp only; rw [← hl]

/-- A value is returned whose digits are the given ones, or new. -/
def RndPost (w : World) (A : Option Addr) (n : Nat) (q : Q) (e : Ending) (w' : World) : Prop :=
  ∃ (A' : Option Addr) (n' c' : Nat), e = .returned (.agg #[.bool q.s, .slice A' n' c', .int .i64 q.e]) ∧ Dg w' A' n' c' q.m ∧ (∀ ad, 0 < n' → A' = some ad → (A' = A ∧ n' = n) ∨ w.heap.size ≤ ad.block) ∧ Below w.heap.size w w'
theorem RndPost.of {w w' : World} {A A' : Option Addr} {n n' c' : Nat} {q : Q} (h : ValV 0 w.heap.size w' (.agg #[.bool q.s, .slice A' n' c', .int .i64 q.e]) q) (hb : Below w.heap.size w w') : RndPost w A n q (.returned (.agg #[.bool q.s, .slice A' n' c', .int .i64 q.e])) w' := by
  obtain ⟨A2, n2, c2, he, h1, h2⟩ := h
  simp at he
  obtain ⟨rfl, rfl, rfl⟩ := he
  exact ⟨_, _, _, rfl, h1, fun ad h0 hA => .inr (by have := h2 ad h0 hA; omega), hb⟩

set_option maxRecDepth 100000 in
set_option maxHeartbeats 4000000 in
theorem round_any (w : World) (q : Q) (A : Option Addr) (n c k P : Nat) (up : Bool) (hq : Canon q) (ha : Dg w A n c q.m) (hM : q.m < B64 ^ k) (hk : k ≤ 14000) (hp : 8 ≤ P) (hp2 : P ≤ 256) (h1 : -50000000 ≤ q.e) (h2 : q.e ≤ 50000000) :
    Calls Tryd.prog 37 #[.agg #[.bool q.s, .slice A n c, .int .i64 q.e], .int .i64 (P : Int), .bool up] w (RndPost w A n (rnd P up q)) := by
  obtain ⟨k1, k2, b3⟩ := vals_bx w q.s false q.e 0 A none n c 0 0
  have K1 := Lib.hid k1; have K2 := Lib.hid k2; have B3 := Lib.hid b3
  have G0 := Lib.hid ha; have G1 := Lib.hid (ha.step b3); have LM := Lib.hid hM
  have C1 := Lib.hid (rbits_is G1.out hM (by omega))
  have hnb : nbits q.m ≤ 64 * k := nbits_le (by rw [← pow64]; exact hM)

  obtain ⟨r, hr⟩ : ∃ r, r = rnd P up q := ⟨_, rfl⟩
  rw [← hr]
  have HQ := Lib.hid hq
  clear k1 k2 b3 hM ha hq
  obtain ⟨s, M, e⟩ := q
  simp only at *
  have g0 := i64_sub (nbits M : Int) (P : Int) (by omega) (by omega)
  have y0 := K1.out.c0; have y1 := K1.out.c1; have y2 := K1.out.c2
  by_cases hlow : nbits M ≤ P
  · have hr2 : r = ⟨s, M, e⟩ := by rw [hr]; exact rnd_id HQ.out hlow
    have f0 : (nbits M : Int) - (P : Int) ≤ 0 := by omega
    obtain ⟨-, k2', b3'⟩ := vals_bx w s s e e A A n c n c
    have KE := Lib.hid k2'; have BE := Lib.hid b3'; have GE := Lib.hid (G0.out.step b3')
    have r0 := K2.out.c0; have r1 := K2.out.c1; have r2 := K2.out.c2
    have z0 := K2.out.fz 0; have z1 := K2.out.fz 1; have z2 := K2.out.fz 2
    have HR2 := Lib.hid hr2
    clear hr hr2 G1 k2' b3'
    go_enter Tryd.func37, Tryd.ntmps37
    go_wp2_with fail
    refine C1.out.mono ?_
    rintro _ w4 ⟨rfl, rfl⟩
    clear C1
    go_wp2
    refine bodyPost_ret (v := .agg #[.bool s, .slice A n c, .int .i64 e]) ?_ rfl (by
      rw [HR2.out]
      exact ⟨A, n, c, rfl, GE.out, fun ad h0 hA => .inl ⟨rfl, rfl⟩, BE.out⟩)
    have q0 := KE.out.c0; have q1 := KE.out.c1; have q2 := KE.out.c2
    simp [results, Tryd.results37, go_sem, q0, q1, q2]
  · obtain ⟨low, hl⟩ : ∃ low : Nat, low = nbits M - P := ⟨_, rfl⟩
    have hl' : (nbits M : Int) - (P : Int) = (low : Int) := by omega
    have hlp : 0 < low := by omega
    have hlb : low ≤ 1000000 := by omega
    have f0 : ¬ ((low : Int) ≤ 0) := by omega
    have g2 := i64_add e (low : Int) (by omega) (by omega)
    have CS := Lib.hid (lost_is (b := low) G1.out LM.out (by omega) (by omega))
    rw [rnd_low_form hl] at hr
    have LH := Lib.hid (show M / 2 ^ low < B64 ^ k from Nat.lt_of_le_of_lt (Nat.div_le_self _ _) LM.out)
    have HR := Lib.hid hr
    replace g0 := g0.trans hl'
    clear hr hl hl' hlow HQ LM G0 G1
    obtain ⟨D, hD⟩ : ∃ D, D = M / 2 ^ low := ⟨_, rfl⟩
    obtain ⟨D3, hD3⟩ : ∃ D3, D3 = D + 1 := ⟨_, rfl⟩
    obtain ⟨k3, hk3⟩ : ∃ k3, k3 = k + 1 + 1 := ⟨_, rfl⟩
    rw [← hD] at CS HR LH
    have LH2 := Lib.hid (show D3 < B64 ^ k3 by rw [hD3, hk3]; exact lt_add LH.out (show 1 < B64 ^ 1 by unfold B64; omega))
    have R0 := Lib.hid (show ¬ (M % 2 ^ low ≠ 0 ∧ (s != up) = true) → r = nm s D (e + low) from fun h => by rw [HR.out, if_neg h]; rfl)
    have R1 := Lib.hid (show (M % 2 ^ low ≠ 0 ∧ (s != up) = true) → r = nm s D3 (e + low) from fun h => by rw [HR.out, if_pos h, hD3])
    have HD3 := Lib.hid hD3
    have hk4 : k3 ≤ 14010 := by omega
    clear HR hD hD3 hk3
    go_enter Tryd.func37, Tryd.ntmps37
    go_wp2_with fail
    refine C1.out.mono ?_
    rintro _ w4 ⟨rfl, rfl⟩
    clear C1
    go_wp2_with fail
    refine CS.out.mono ?_
    rintro _ w5 ⟨A5, n5, c5, rfl, h5, b5⟩
    have K15 := Lib.hid (K1.out.step b5); have K25 := Lib.hid (K2.out.step b5); have B5 := Lib.hid (below_step B3.out b5)
    have H5 := Lib.hid (show Dg w5 A5 n5 c5 D from h5.less (Nat.zero_le _))
    clear y0 y1 y2 b5 h5 CS K1 K2 B3
    have y0 := K15.out.c0; have y1 := K15.out.c1; have y2 := K15.out.c2
    by_cases hz : M % 2 ^ low = 0
    · have hdz : decide (M % 2 ^ low ≠ 0) = false := by simp [hz]
      have CM := Lib.hid (odd_any w5 s (e + low) A5 n5 c5 D k H5.out LH.out (by omega) (by omega) (by omega))
      rw [← R0.out (by simp [hz])] at CM
      rw [hdz]
      clear R0 R1 hz hdz
      go_wp2_with fail
      refine CM.out.mono ?_
      rintro _ w8 ⟨_, rfl, ⟨A8, n8, c8, rfl, h8, p8⟩, b8⟩
      have K28 := Lib.hid (K25.out.step b8)
      have r0 := K28.out.c0; have r1 := K28.out.c1; have r2 := K28.out.c2
      have z0 := K28.out.fz 0; have z1 := K28.out.fz 1; have z2 := K28.out.fz 2
      have RN := Lib.hid (ret_val (H := 0) (below_step B5.out b8) (Nat.le_add_right w.heap.size 1) K28.out (Nat.zero_le _) K25.out.lt h8 (fun ad h0 hA => .inr (by have := p8 ad h0 hA; omega)))
      clear h8 b8 p8 CM
      go_wp2
      obtain ⟨kr, nr, br⟩ := RN.out
      refine bodyPost_ret (v := .agg #[.bool r.s, .slice A8 n8 c8, .int .i64 r.e]) ?_ rfl (RndPost.of nr br)
      have q0 := kr.c0; have q1 := kr.c1; have q2 := kr.c2
      unfold put3 at q0 q1 q2
      simp [results, Tryd.results37, go_sem, q0, q1, q2]
    · have hdz : decide (M % 2 ^ low ≠ 0) = true := by simp [hz]
      rw [hdz]
      cases hd : (up == s)
      · have hr := R1.out ⟨hz, by revert hd; cases up <;> cases s <;> simp⟩
        have ob := one_below w5 (.cells #[.int .u32 1] 79)
        have CA := Lib.hid (radd_is (H5.out.step ob) (one_dg w5) LH.out (show 1 < B64 ^ 1 by unfold B64; omega) (by omega) (by omega))
        rw [← HD3.out] at CA
        have HR2 := Lib.hid hr
        have K25o := Lib.hid (K25.out.step ob); have K15o := Lib.hid (K15.out.step ob); have B5o := Lib.hid (below_step B5.out ob)
        clear R0 R1 hz hdz hr ob
        go_wp2_with fail
        refine CA.out.mono ?_
        rintro _ w7 ⟨A7, n7, c7, rfl, h7, b7⟩
        have K17 := Lib.hid (K15o.out.step b7); have K27 := Lib.hid (K25o.out.step b7); have B7 := Lib.hid (below_step B5o.out b7)
        have CM := Lib.hid (odd_any w7 s (e + low) A7 n7 c7 D3 k3 h7 LH2.out (by omega) (by omega) (by omega))
        rw [← HR2.out] at CM
        clear y0 y1 y2 h7 b7 CA
        have y0 := K17.out.c0; have y1 := K17.out.c1; have y2 := K17.out.c2
        go_wp2_with fail
        refine CM.out.mono ?_
        rintro _ w8 ⟨_, rfl, ⟨A8, n8, c8, rfl, h8, p8⟩, b8⟩
        have K28 := Lib.hid (K27.out.step b8)
        have r0 := K28.out.c0; have r1 := K28.out.c1; have r2 := K28.out.c2
        have z0 := K28.out.fz 0; have z1 := K28.out.fz 1; have z2 := K28.out.fz 2
        have RN := Lib.hid (ret_val (H := 0) (below_step B7.out b8) (Nat.le_add_right w.heap.size 1) K28.out (Nat.zero_le _) K27.out.lt h8 (fun ad h0 hA => .inr (by have := p8 ad h0 hA; omega)))
        clear h8 b8 p8 CM
        go_wp2
        obtain ⟨kr, nr, br⟩ := RN.out
        refine bodyPost_ret (v := .agg #[.bool r.s, .slice A8 n8 c8, .int .i64 r.e]) ?_ rfl (RndPost.of nr br)
        have q0 := kr.c0; have q1 := kr.c1; have q2 := kr.c2
        unfold put3 at q0 q1 q2
        simp [results, Tryd.results37, go_sem, q0, q1, q2]
      · have hr := R0.out (fun h => by have := h.2; revert hd this; cases up <;> cases s <;> simp)
        have CM := Lib.hid (odd_any w5 s (e + low) A5 n5 c5 D k H5.out LH.out (by omega) (by omega) (by omega))
        rw [← hr] at CM
        clear R0 R1 hz hdz hr
        go_wp2_with fail
        refine CM.out.mono ?_
        rintro _ w8 ⟨_, rfl, ⟨A8, n8, c8, rfl, h8, p8⟩, b8⟩
        have K28 := Lib.hid (K25.out.step b8)
        have r0 := K28.out.c0; have r1 := K28.out.c1; have r2 := K28.out.c2
        have z0 := K28.out.fz 0; have z1 := K28.out.fz 1; have z2 := K28.out.fz 2
        have RN := Lib.hid (ret_val (H := 0) (below_step B5.out b8) (Nat.le_add_right w.heap.size 1) K28.out (Nat.zero_le _) K25.out.lt h8 (fun ad h0 hA => .inr (by have := p8 ad h0 hA; omega)))
        clear h8 b8 p8 CM
        go_wp2
        obtain ⟨kr, nr, br⟩ := RN.out
        refine bodyPost_ret (v := .agg #[.bool r.s, .slice A8 n8 c8, .int .i64 r.e]) ?_ rfl (RndPost.of nr br)
        have q0 := kr.c0; have q1 := kr.c1; have q2 := kr.c2
        unfold put3 at q0 q1 q2
        simp [results, Tryd.results37, go_sem, q0, q1, q2]
end Go.Proofs.YtnkbamjjpdmbaaaDoor
