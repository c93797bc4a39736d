/- fathomlineref1: Round. fathomlineref1: Ratio. -/
import Derived.Test.YtfggnoejcgehdaaGreatDoorPRndAB
import Derived.Test.YtfggnoejcgehdaaGreatDoorPRefZ
import Derived.Test.YtfggnoejcgehdaaGreatDoorPRndCD
namespace Go.Proofs.YtfggnoejcgehdaaGreatDoor
open Go.RowKit Nx
theorem one_dg (w : World) : Dg (w.alloc (.cells #[.int .u32 1] 116)) (some ⟨w.heap.size, 0, none⟩) 1 1 1 := by
  have h := one_row w
  unfold Dg
  have : digs B32 1 = [1] := by rw [digs_pos B32_two (by omega)]; show [1 % B32] ++ digs B32 (1 / B32) = [1]; rw [show 1 / B32 = 0 from rfl, digs_zero]; rfl
  rw [this]; exact h
theorem rnd_low_form {P low : Nat} {up s : Bool} {M : Nat} {e : Int} (hl : low = nbits M - P) : rnd P up ⟨s, M, e⟩ = nm s (M / 2 ^ low + (if M % 2 ^ low ≠ 0 ∧ (s != up) = true then 1 else 0)) (e + low) := by
  unfold rnd rndm; simp only; rw [← hl]
def RndPost (w : World) (A : Option Addr) (n : Nat) (q : Q) (e : Ending) (w' : World) : Prop :=
  ∃ (A' : Option Addr) (n' c' : Nat), e = .returned (.agg #[.bool q.s, .slice A' n' c', .int .i64 q.e]) ∧ Dg w' A' n' c' q.m ∧ (∀ ad, 0 < n' → A' = some ad → (A' = A ∧ n' = n) ∨ w.heap.size ≤ ad.block) ∧ Below w.heap.size w w'
theorem RndPost.of {w w' : World} {A A' : Option Addr} {n n' c' : Nat} {q : Q} (h : ValV 0 w.heap.size w' (.agg #[.bool q.s, .slice A' n' c', .int .i64 q.e]) q) (hb : Below w.heap.size w w') : RndPost w A n q (.returned (.agg #[.bool q.s, .slice A' n' c', .int .i64 q.e])) w' := by
  obtain ⟨A2, n2, c2, he, h1, h2⟩ := h
  simp at he
  obtain ⟨rfl, rfl, rfl⟩ := he
  exact ⟨_, _, _, rfl, h1, fun ad h0 hA => .inr (by have := h2 ad h0 hA; omega), hb⟩
set_option maxRecDepth 100000 in
set_option maxHeartbeats 4000000 in
theorem round_any (w : World) (q : Q) (A : Option Addr) (n c k P : Nat) (up : Bool) (hq : Canon q) (ha : Dg w A n c q.m) (hM : q.m < B64 ^ k) (hk : k ≤ 14000) (hp : 8 ≤ P) (hp2 : P ≤ 256) (h1 : -50000000 ≤ q.e) (h2 : q.e ≤ 50000000) :
    Calls Tryz.prog 86 #[.agg #[.bool q.s, .slice A n c, .int .i64 q.e], .int .i64 (P : Int), .bool up] w (RndPost w A n (rnd P up q)) := by
  obtain ⟨k1, k2, b3⟩ := vals_bx w q.s false q.e 0 A none n c 0 0
  have K1 := Lib.hid k1; have K2 := Lib.hid k2; have B3 := Lib.hid b3
  have G0 := Lib.hid ha; have G1 := Lib.hid (ha.step b3); have LM := Lib.hid hM
  have C1 := Lib.hid (rbits_is G1.out hM (by omega))
  have hnb : nbits q.m ≤ 64 * k := nbits_le (by rw [← pow64]; exact hM)
  obtain ⟨r, hr⟩ : ∃ r, r = rnd P up q := ⟨_, rfl⟩
  rw [← hr]
  have HQ := Lib.hid hq
  clear k1 k2 b3 hM ha hq
  obtain ⟨s, M, e⟩ := q
  simp only at *
  have g0 := i64_sub (nbits M : Int) (P : Int) (by omega) (by omega)
  have y0 := K1.out.c0; have y1 := K1.out.c1; have y2 := K1.out.c2
  by_cases hlow : nbits M ≤ P
  · have hr2 : r = ⟨s, M, e⟩ := by rw [hr]; exact rnd_id HQ.out hlow
    have f0 : (nbits M : Int) - (P : Int) ≤ 0 := by omega
    obtain ⟨-, k2', b3'⟩ := vals_bx w s s e e A A n c n c
    have KE := Lib.hid k2'; have BE := Lib.hid b3'; have GE := Lib.hid (G0.out.step b3')
    have r0 := K2.out.c0; have r1 := K2.out.c1; have r2 := K2.out.c2
    have z0 := K2.out.fz 0; have z1 := K2.out.fz 1; have z2 := K2.out.fz 2
    have HR2 := Lib.hid hr2
    clear hr hr2 G1 k2' b3'
    go_enter Tryz.func86, Tryz.ntmps86
    go_wp2_with fail
    refine C1.out.mono ?_
    rintro _ w4 ⟨rfl, rfl⟩
    clear C1
    go_wp2
    refine bodyPost_ret (v := .agg #[.bool s, .slice A n c, .int .i64 e]) ?_ rfl (by
      rw [HR2.out]
      exact ⟨A, n, c, rfl, GE.out, fun ad h0 hA => .inl ⟨rfl, rfl⟩, BE.out⟩)
    have q0 := KE.out.c0; have q1 := KE.out.c1; have q2 := KE.out.c2
    simp [results, Tryz.results86, go_sem, q0, q1, q2]
  · obtain ⟨low, hl⟩ : ∃ low : Nat, low = nbits M - P := ⟨_, rfl⟩
    have hl' : (nbits M : Int) - (P : Int) = (low : Int) := by omega
    have hlp : 0 < low := by omega
    have hlb : low ≤ 1000000 := by omega
    have f0 : ¬ ((low : Int) ≤ 0) := by omega
    have g2 := i64_add e (low : Int) (by omega) (by omega)
    have CS := Lib.hid (lost_is (b := low) G1.out LM.out (by omega) (by omega))
    rw [rnd_low_form hl] at hr
    have LH := Lib.hid (show M / 2 ^ low < B64 ^ k from Nat.lt_of_le_of_lt (Nat.div_le_self _ _) LM.out)
    have HR := Lib.hid hr
    replace g0 := g0.trans hl'
    clear hr hl hl' hlow HQ LM G0 G1
    obtain ⟨D, hD⟩ : ∃ D, D = M / 2 ^ low := ⟨_, rfl⟩
    obtain ⟨D3, hD3⟩ : ∃ D3, D3 = D + 1 := ⟨_, rfl⟩
    obtain ⟨k3, hk3⟩ : ∃ k3, k3 = k + 1 + 1 := ⟨_, rfl⟩
    rw [← hD] at CS HR LH
    have LH2 := Lib.hid (show D3 < B64 ^ k3 by rw [hD3, hk3]; exact lt_add LH.out (show 1 < B64 ^ 1 by unfold B64; omega))
    have R0 := Lib.hid (show ¬ (M % 2 ^ low ≠ 0 ∧ (s != up) = true) → r = nm s D (e + low) from fun h => by rw [HR.out, if_neg h]; rfl)
    have R1 := Lib.hid (show (M % 2 ^ low ≠ 0 ∧ (s != up) = true) → r = nm s D3 (e + low) from fun h => by rw [HR.out, if_pos h, hD3])
    have HD3 := Lib.hid hD3
    have hk4 : k3 ≤ 14010 := by omega
    clear HR hD hD3 hk3
    go_enter Tryz.func86, Tryz.ntmps86
    go_wp2_with fail
    refine C1.out.mono ?_
    rintro _ w4 ⟨rfl, rfl⟩
    clear C1
    go_wp2_with fail
    refine CS.out.mono ?_
    rintro _ w5 ⟨A5, n5, c5, rfl, h5, b5⟩
    have K15 := Lib.hid (K1.out.step b5); have K25 := Lib.hid (K2.out.step b5); have B5 := Lib.hid (below_step B3.out b5)
    have H5 := Lib.hid (show Dg w5 A5 n5 c5 D from h5.less (Nat.zero_le _))
    clear y0 y1 y2 b5 h5 CS K1 K2 B3
    have y0 := K15.out.c0; have y1 := K15.out.c1; have y2 := K15.out.c2
    by_cases hz : M % 2 ^ low = 0
    · have hdz : decide (M % 2 ^ low ≠ 0) = false := by simp [hz]
      have CM := Lib.hid (odd_any w5 s (e + low) A5 n5 c5 D k H5.out LH.out (by omega) (by omega) (by omega))
      rw [← R0.out (by simp [hz])] at CM
      rw [hdz]
      clear R0 R1 hz hdz
      go_wp2_with fail
      refine CM.out.mono ?_
      rintro _ w8 ⟨_, rfl, ⟨A8, n8, c8, rfl, h8, p8⟩, b8⟩
      have K28 := Lib.hid (K25.out.step b8)
      have r0 := K28.out.c0; have r1 := K28.out.c1; have r2 := K28.out.c2
      have z0 := K28.out.fz 0; have z1 := K28.out.fz 1; have z2 := K28.out.fz 2
      have RN := Lib.hid (ret_val (H := 0) (below_step B5.out b8) (Nat.le_add_right w.heap.size 1) K28.out (Nat.zero_le _) K25.out.lt h8 (fun ad h0 hA => .inr (by have := p8 ad h0 hA; omega)))
      clear h8 b8 p8 CM
      go_wp2
      obtain ⟨kr, nr, br⟩ := RN.out
      refine bodyPost_ret (v := .agg #[.bool r.s, .slice A8 n8 c8, .int .i64 r.e]) ?_ rfl (RndPost.of nr br)
      have q0 := kr.c0; have q1 := kr.c1; have q2 := kr.c2
      unfold put3 at q0 q1 q2
      simp [results, Tryz.results86, go_sem, q0, q1, q2]
    · have hdz : decide (M % 2 ^ low ≠ 0) = true := by simp [hz]
      rw [hdz]
      cases hd : (up == s)
      · have hr := R1.out ⟨hz, by revert hd; cases up <;> cases s <;> simp⟩
        have ob := one_below w5 (.cells #[.int .u32 1] 116)
        have CA := Lib.hid (radd_is (H5.out.step ob) (one_dg w5) LH.out (show 1 < B64 ^ 1 by unfold B64; omega) (by omega) (by omega))
        rw [← HD3.out] at CA
        have HR2 := Lib.hid hr
        have K25o := Lib.hid (K25.out.step ob); have K15o := Lib.hid (K15.out.step ob); have B5o := Lib.hid (below_step B5.out ob)
        clear R0 R1 hz hdz hr ob
        go_wp2_with fail
        refine CA.out.mono ?_
        rintro _ w7 ⟨A7, n7, c7, rfl, h7, b7⟩
        have K17 := Lib.hid (K15o.out.step b7); have K27 := Lib.hid (K25o.out.step b7); have B7 := Lib.hid (below_step B5o.out b7)
        have CM := Lib.hid (odd_any w7 s (e + low) A7 n7 c7 D3 k3 h7 LH2.out (by omega) (by omega) (by omega))
        rw [← HR2.out] at CM
        clear y0 y1 y2 h7 b7 CA
        have y0 := K17.out.c0; have y1 := K17.out.c1; have y2 := K17.out.c2
        go_wp2_with fail
        refine CM.out.mono ?_
        rintro _ w8 ⟨_, rfl, ⟨A8, n8, c8, rfl, h8, p8⟩, b8⟩
        have K28 := Lib.hid (K27.out.step b8)
        have r0 := K28.out.c0; have r1 := K28.out.c1; have r2 := K28.out.c2
        have z0 := K28.out.fz 0; have z1 := K28.out.fz 1; have z2 := K28.out.fz 2
        have RN := Lib.hid (ret_val (H := 0) (below_step B7.out b8) (Nat.le_add_right w.heap.size 1) K28.out (Nat.zero_le _) K27.out.lt h8 (fun ad h0 hA => .inr (by have := p8 ad h0 hA; omega)))
        clear h8 b8 p8 CM
        go_wp2
        obtain ⟨kr, nr, br⟩ := RN.out
        refine bodyPost_ret (v := .agg #[.bool r.s, .slice A8 n8 c8, .int .i64 r.e]) ?_ rfl (RndPost.of nr br)
        have q0 := kr.c0; have q1 := kr.c1; have q2 := kr.c2
        unfold put3 at q0 q1 q2
        simp [results, Tryz.results86, go_sem, q0, q1, q2]
      · have hr := R0.out (fun h => by have := h.2; revert hd this; cases up <;> cases s <;> simp)
        have CM := Lib.hid (odd_any w5 s (e + low) A5 n5 c5 D k H5.out LH.out (by omega) (by omega) (by omega))
        rw [← hr] at CM
        clear R0 R1 hz hdz hr
        go_wp2_with fail
        refine CM.out.mono ?_
        rintro _ w8 ⟨_, rfl, ⟨A8, n8, c8, rfl, h8, p8⟩, b8⟩
        have K28 := Lib.hid (K25.out.step b8)
        have r0 := K28.out.c0; have r1 := K28.out.c1; have r2 := K28.out.c2
        have z0 := K28.out.fz 0; have z1 := K28.out.fz 1; have z2 := K28.out.fz 2
        have RN := Lib.hid (ret_val (H := 0) (below_step B5.out b8) (Nat.le_add_right w.heap.size 1) K28.out (Nat.zero_le _) K25.out.lt h8 (fun ad h0 hA => .inr (by have := p8 ad h0 hA; omega)))
        clear h8 b8 p8 CM
        go_wp2
        obtain ⟨kr, nr, br⟩ := RN.out
        refine bodyPost_ret (v := .agg #[.bool r.s, .slice A8 n8 c8, .int .i64 r.e]) ?_ rfl (RndPost.of nr br)
        have q0 := kr.c0; have q1 := kr.c1; have q2 := kr.c2
        unfold put3 at q0 q1 q2
        simp [results, Tryz.results86, go_sem, q0, q1, q2]
end Go.Proofs.YtfggnoejcgehdaaGreatDoor
namespace Go.Proofs.YtfggnoejcgehdaaGreatDoor
open Go.RowKit Nx
theorem left_new {w : World} {A : Option Addr} {n c X k : Nat} (t : Int) (ha : Dg w A n c X) (hX : X < B64 ^ k) (hk : k ≤ 100000) (h0 : 0 ≤ t) (h1 : t ≤ 262144) :
    Calls Tryz.prog 123 #[.slice A n c, .int .i64 t] w (NewDg w (X * 2 ^ t.toNat)) := (left_is t ha hX hk h0 (by omega)).mono fun _ _ h => NewDg.of h rfl
theorem rdiv_is {w : World} {A B : Option Addr} {n c m d X Y k l : Nat} (ha : Dg w A n c X) (hb : Dg w B m d Y) (hX : X < B64 ^ k) (hY : Y < B64 ^ l) (hk : k ≤ 100000) (hl : l ≤ 100000) (h0 : Y ≠ 0) :
    Calls Tryz.prog 179 #[.slice A n c, .slice B m d] w fun e w' => ∃ (Aq Ar : Option Addr) (nq cq nr cr : Nat), e = .returned (.tuple #[.slice Aq nq cq, .slice Ar nr cr]) ∧ Dg w' Aq nq cq (X / Y) ∧ Dg w' Ar nr cr (X % Y) ∧ Below w.heap.size w w' := by
  refine (div32_any w 0 _ 0 _ A B n c m d X Y ha hb (by have := ha.len hX; omega) (by have := hb.len hY; omega) (Nat.le_refl _) (Nat.le_refl _) h0).mono ?_
  rintro e w' ⟨Aq, Ar, nq, cq, nr, cr, rfl, h1, h2, h3⟩
  exact ⟨Aq, Ar, nq, cq, nr, cr, rfl, h1.less (Nat.zero_le _), h2.less (Nat.zero_le _), h3⟩
theorem nm_e_bd {s : Bool} {N k : Nat} {E : Int} {b : Int} (hN : N < B64 ^ k) (h1 : -b ≤ E) (h2 : E ≤ b) (hb : 0 ≤ b) : -b ≤ (nm s N E).e ∧ (nm s N E).e ≤ b + 64 * k := by
  unfold nm
  split
  · show -b ≤ (0 : Int) ∧ (0 : Int) ≤ _; omega
  · rename_i h0
    have := ntz_lt h0 (show N < 2 ^ (64 * k) by rw [← pow64]; exact hN)
    show -b ≤ E + ntz N ∧ E + ntz N ≤ _; omega
theorem ratio_eq {P k : Nat} {up : Bool} {a b : Q} (hP : 1 ≤ P) (ha : a.m ≠ 0) (hb : b.m ≠ 0) (hk : ratk P a b ≤ k) :
    (a.m * 2 ^ k % b.m = 0 → rnd P up (nm (a.s != b.s) (a.m * 2 ^ k / b.m) (a.e - b.e - (k : Int))) = ratq P up a b) ∧
    (a.m * 2 ^ k % b.m ≠ 0 → rnd P up (nm (a.s != b.s) (a.m * 2 ^ k / b.m * 2 + 1) (a.e - b.e - (k : Int) - 1)) = ratq P up a b) := by
  have h := ratq_more up hP ha hb hk
  constructor
  · intro h0
    have e1 := nm_shift (a.s != b.s) (a.m * 2 ^ k / b.m) (a.e - b.e - (k : Int)) 1
    rw [← e1, rnd_nm, ← h]
    unfold stk
    rw [if_neg (by simp [h0]), Nat.pow_one, Nat.mul_comm]
    rfl
  · intro h0
    rw [rnd_nm, ← h]
    unfold stk
    rw [if_pos h0, Nat.mul_comm]
set_option maxRecDepth 100000 in
set_option maxHeartbeats 8000000 in
theorem ratio_any (w : World) (a b : Q) (A B : Option Addr) (n c m d P : Nat) (up : Bool) (va : Canon a) (vb : Canon b) (ha : Dg w A n c a.m) (hb : Dg w B m d b.m) (hX : a.m < B64 ^ 64) (hY : b.m < B64 ^ 64) (hY0 : b.m ≠ 0) (hp : 8 ≤ P) (hp2 : P ≤ 256)
    (h1 : -65536 ≤ a.e) (h2 : a.e ≤ 65536) (h3 : -65536 ≤ b.e) (h4 : b.e ≤ 65536) :
    Calls Tryz.prog 166 #[.agg #[.bool a.s, .slice A n c, .int .i64 a.e], .agg #[.bool b.s, .slice B m d, .int .i64 b.e], .int .i64 (P : Int), .bool up] w (ValPost w 0 (ratq P up a b)) := by
  obtain ⟨k1, k2, k3, b3⟩ := vals3_bx w a.s b.s a.e b.e A B n c m d
  obtain ⟨r, hr⟩ : ∃ r, r = ratq P up a b := ⟨_, rfl⟩
  rw [← hr]
  have z1 := dg_zero ha
  by_cases ha0 : a.m = 0
  · have hr0 : r = q0 := by rw [hr]; unfold ratq; rw [if_pos ha0]
    have hn0 := z1.2 ha0
    subst hn0
    have HR := Lib.hid hr0; have B3 := Lib.hid b3
    obtain ⟨s, X, e⟩ := a
    obtain ⟨s', Y, e'⟩ := b
    simp only at *
    have y1 := k1.c1
    have K3 := Lib.hid k3
    have r0 := k3.c0; have r1 := k3.c1; have r2 := k3.c2
    have w0 := k3.fz 0; have w1 := k3.fz 1; have w2 := k3.fz 2
    clear k1 k2 k3 b3 ha hb hX hY hY0 va vb hr hr0 z1 ha0
    go_enter Tryz.func166, Tryz.ntmps166
    go_wp2
    refine bodyPost_ret (v := .agg #[.bool false, .slice none 0 0, .int .i64 0]) ?_ rfl (by rw [HR.out]; exact ⟨_, rfl, valv0 _ _ _, B3.out⟩)
    have q0 := K3.out.c0; have q1 := K3.out.c1; have q2 := K3.out.c2
    simp [results, Tryz.results166, go_sem, q0, q1, q2]
  have hn0 : n ≠ 0 := fun h => ha0 (z1.1 h)
  have f0 : ((n : Int) == 0) = false := by simp; omega
  obtain ⟨k0, hk0⟩ : ∃ k0 : Nat, k0 = 64 := ⟨_, rfl⟩
  have hX' : a.m < B64 ^ k0 := by rw [hk0]; exact hX
  have hY' : b.m < B64 ^ k0 := by rw [hk0]; exact hY
  have hna : nbits a.m ≤ 64 * k0 := nbits_le (by rw [← pow64]; exact hX')
  have hnb : nbits b.m ≤ 64 * k0 := nbits_le (by rw [← pow64]; exact hY')
  obtain ⟨k, hk⟩ : ∃ k, k = P + 2 + nbits b.m - nbits a.m := ⟨_, rfl⟩
  have hkb : k ≤ 4360 := by omega
  have hmx : max ((P : Int) + 2 + (nbits b.m : Int) - (nbits a.m : Int)) 0 = (k : Int) := by omega
  obtain ⟨E0, E1⟩ := ratio_eq (P := P) (k := k) (up := up) (a := a) (b := b) (by omega) ha0 hY0 (by unfold ratk; omega)
  rw [← hr] at E0 E1
  have hk1 : k0 ≤ 64 := by omega
  obtain ⟨X2, hX2⟩ : ∃ X2, X2 = a.m * 2 ^ k := ⟨_, rfl⟩
  obtain ⟨D, hD⟩ : ∃ D, D = X2 / b.m := ⟨_, rfl⟩
  obtain ⟨Rm, hRm⟩ : ∃ Rm, Rm = X2 % b.m := ⟨_, rfl⟩
  obtain ⟨D2, hD2⟩ : ∃ D2, D2 = D * 2 := ⟨_, rfl⟩
  obtain ⟨D3, hD3⟩ : ∃ D3, D3 = D2 + 1 := ⟨_, rfl⟩
  obtain ⟨k3', hk3⟩ : ∃ k3', k3' = k0 + 2048 := ⟨_, rfl⟩
  obtain ⟨k4, hk4⟩ : ∃ k4, k4 = k3' + 1 := ⟨_, rfl⟩
  obtain ⟨k5, hk5⟩ : ∃ k5, k5 = k4 + 1 := ⟨_, rfl⟩
  rw [← hX2, ← hRm, ← hD] at E0 E1
  rw [← hD2, ← hD3] at E1
  have lX2 : X2 < B64 ^ k3' := by rw [hX2, hk3]; exact up_lt2 hX' (by omega)
  have lD : D < B64 ^ k3' := by rw [hD]; exact Nat.lt_of_le_of_lt (Nat.div_le_self _ _) lX2
  have lD2 : D2 < B64 ^ k4 := by rw [hD2, hk4, Nat.mul_two]; exact lt_add2 lD lD
  have l1 : 1 < B64 ^ k4 := Nat.lt_of_lt_of_le (show 1 < B64 ^ 1 by unfold B64; omega) (Nat.pow_le_pow_right (by unfold B64; omega) (by omega))
  have lD3 : D3 < B64 ^ k5 := by rw [hD3, hk5]; exact lt_add2 lD2 l1
  have lD5 : D < B64 ^ k5 := Nat.lt_of_lt_of_le lD (Nat.pow_le_pow_right (by unfold B64; omega) (by omega))
  have hk6 : k5 ≤ 3000 := by omega
  have hk7 : k4 ≤ 3000 := by omega
  have hk8 : k3' ≤ 3000 := by omega
  have LX2 := Lib.hid lX2; have LD := Lib.hid lD; have LD2 := Lib.hid lD2; have LD3 := Lib.hid lD3; have LD5 := Lib.hid lD5
  have LX := Lib.hid hX'; have LY := Lib.hid hY'
  have HX2 := Lib.hid hX2; have HD := Lib.hid hD; have HRm := Lib.hid hRm; have HD2 := Lib.hid hD2; have HD3 := Lib.hid hD3
  have G1 := Lib.hid (ha.step b3); have G2 := Lib.hid (hb.step b3)
  have K1 := Lib.hid k1; have K2 := Lib.hid k2; have K3 := Lib.hid k3; have B3 := Lib.hid b3
  have EE0 := Lib.hid E0; have EE1 := Lib.hid E1; have HY0 := Lib.hid hY0
  clear k1 k2 k3 b3 ha hb hX hY hX' hY' hk hk0 hX2 hD hRm hD2 hD3 hk3 hk4 hk5 lX2 lD lD2 l1 lD3 lD5 E0 E1 hr z1 ha0 hY0 va vb hn0
  obtain ⟨s, X, e⟩ := a
  obtain ⟨s', Y, e'⟩ := b
  simp only at *
  have x0 := i64_add (P : Int) 2 (by omega) (by omega)
  have x1 := i64_add ((P : Int) + 2) (nbits Y : Int) (by omega) (by omega)
  have x2 := i64_sub ((P : Int) + 2 + (nbits Y : Int)) (nbits X : Int) (by omega) (by omega)
  have x3 := i64_sub e e' (by omega) (by omega)
  have x4 := i64_sub (e - e') (k : Int) (by omega) (by omega)
  have x5 := i64_sub (e - e' - (k : Int)) 1 (by omega) (by omega)
  have y1 := K1.out.c1
  go_enter Tryz.func166, Tryz.ntmps166
  go_wp2_with fail
  clear y1
  generalize (((w.alloc (.cells #[.bool s, .slice A n c, .int .i64 e] 68)).alloc (.cells #[.bool s', .slice B m d, .int .i64 e'] 68)).alloc (.cells #[.bool false, .slice none 0 0, .int .i64 0] 68)) = w2 at *
  have S0 : w2.cell? ⟨w.heap.size, 0, none⟩ = some (.bool s) ∧ w2.cell? ⟨w.heap.size, 1, none⟩ = some (.slice A n c) ∧ w2.cell? ⟨w.heap.size, 2, none⟩ = some (.int .i64 e) ∧ w2.cell? ⟨w.heap.size + 1, 0, none⟩ = some (.bool s') ∧ w2.cell? ⟨w.heap.size + 1, 1, none⟩ = some (.slice B m d) ∧ w2.cell? ⟨w.heap.size + 1, 2, none⟩ = some (.int .i64 e') := ⟨K1.out.c0, K1.out.c1, K1.out.c2, K2.out.c0, K2.out.c1, K2.out.c2⟩
  have d2 := bdr (Below.refl w2.heap.size w2)
  have C1 := Lib.hid (rbits_is (G2.out.step d2) LY.out (by omega))
  have C2 := Lib.hid (rbits_is (G1.out.step d2) LX.out (by omega))
  have K1d := Lib.hid (K1.out.step d2); have K2d := Lib.hid (K2.out.step d2); have K3d := Lib.hid (K3.out.step d2); have B2d := Lib.hid (below_step B3.out d2); have G1d := Lib.hid (G1.out.step d2); have G2d := Lib.hid (G2.out.step d2)
  clear d2 B3 K1 K2 K3 G1 G2
  go_region_held3 (fun w' => w'.cell? ⟨w.heap.size, 0, none⟩ = some (.bool s) ∧ w'.cell? ⟨w.heap.size, 1, none⟩ = some (.slice A n c) ∧ w'.cell? ⟨w.heap.size, 2, none⟩ = some (.int .i64 e) ∧ w'.cell? ⟨w.heap.size + 1, 0, none⟩ = some (.bool s') ∧ w'.cell? ⟨w.heap.size + 1, 1, none⟩ = some (.slice B m d) ∧ w'.cell? ⟨w.heap.size + 1, 2, none⟩ = some (.int .i64 e'))
    (first | exact S0 | assumption)
    (first
      | (go_at_call 138
         refine C1.out.mono ?_
         rintro _ w3 ⟨rfl, rfl⟩
         have C3 := C2
         clear C1)
      | (go_at_call 138
         refine C3.out.mono ?_
         rintro _ w3 ⟨rfl, rfl⟩
         clear C3 C2))
  clear S0
  rename_i SD
  generalize w2.drew = wd at *
  have d3 := bdr (Below.refl wd.heap.size wd)
  have C4 := Lib.hid (left_new (k : Int) (G1d.out.step d3) LX.out (by omega) (by omega) (by omega))
  rw [show ((k : Int)).toNat = k by simp, ← HX2.out] at C4
  have K1e := Lib.hid (K1d.out.step d3); have K2e := Lib.hid (K2d.out.step d3); have K3e := Lib.hid (K3d.out.step d3); have B3e := Lib.hid (below_step B2d.out d3); have G2e := Lib.hid (G2d.out.step d3)
  clear d3 K1d K2d K3d B2d G1d G2d hmx x0 x1 x2 hna hnb f0
  go_wp2_with fail
  go_region_held3 (fun w' => w'.cell? ⟨w.heap.size, 0, none⟩ = some (.bool s) ∧ w'.cell? ⟨w.heap.size, 1, none⟩ = some (.slice A n c) ∧ w'.cell? ⟨w.heap.size, 2, none⟩ = some (.int .i64 e) ∧ w'.cell? ⟨w.heap.size + 1, 0, none⟩ = some (.bool s') ∧ w'.cell? ⟨w.heap.size + 1, 1, none⟩ = some (.slice B m d) ∧ w'.cell? ⟨w.heap.size + 1, 2, none⟩ = some (.int .i64 e'))
    (first | exact SD | assumption)
    (first
      | (go_at_call 123
         refine C4.out.mono ?_
         rintro _ w3 ⟨A3, n3, c3, rfl, h3, b3⟩
         have K13 := Lib.hid (K1e.out.step b3); have K23 := Lib.hid (K2e.out.step b3); have K33 := Lib.hid (K3e.out.step b3); have B3 := Lib.hid (below_step B3e.out b3)
         have S3 : w3.cell? ⟨w.heap.size, 0, none⟩ = some (.bool s) ∧ w3.cell? ⟨w.heap.size, 1, none⟩ = some (.slice A n c) ∧ w3.cell? ⟨w.heap.size, 2, none⟩ = some (.int .i64 e) ∧ w3.cell? ⟨w.heap.size + 1, 0, none⟩ = some (.bool s') ∧ w3.cell? ⟨w.heap.size + 1, 1, none⟩ = some (.slice B m d) ∧ w3.cell? ⟨w.heap.size + 1, 2, none⟩ = some (.int .i64 e') := ⟨K13.out.c0, K13.out.c1, K13.out.c2, K23.out.c0, K23.out.c1, K23.out.c2⟩
         have C5 := Lib.hid (rdiv_is h3 (G2e.out.step b3) LX2.out LY.out (by omega) (by omega) HY0.out)
         rw [← HD.out, ← HRm.out] at C5
         clear h3 b3 C4)
      | (go_at_call 179
         refine C5.out.mono ?_
         rintro _ w4 ⟨Aq, Ar, nq, cq, nr, cr, rfl, hq, hr, b4⟩
         have K14 := Lib.hid (K13.out.step b4); have K24 := Lib.hid (K23.out.step b4); have K34 := Lib.hid (K33.out.step b4); have B4 := Lib.hid (below_step B3.out b4)
         have S4 : w4.cell? ⟨w.heap.size, 0, none⟩ = some (.bool s) ∧ w4.cell? ⟨w.heap.size, 1, none⟩ = some (.slice A n c) ∧ w4.cell? ⟨w.heap.size, 2, none⟩ = some (.int .i64 e) ∧ w4.cell? ⟨w.heap.size + 1, 0, none⟩ = some (.bool s') ∧ w4.cell? ⟨w.heap.size + 1, 1, none⟩ = some (.slice B m d) ∧ w4.cell? ⟨w.heap.size + 1, 2, none⟩ = some (.int .i64 e') := ⟨K14.out.c0, K14.out.c1, K14.out.c2, K24.out.c0, K24.out.c1, K24.out.c2⟩
         have HQ := Lib.hid hq; have HR := Lib.hid hr
         clear hq hr b4 C5))
  clear S3 S4 SD K13 K23 K33 K1e K2e K3e B3 B3e G2e
  have hR0 := dg_zero HR.out
  have y0 := K14.out.c0; have y2 := K14.out.c2
  have v0 := K24.out.c0; have v2 := K24.out.c2
  by_cases hr0 : Rm = 0
  · have f1 : ¬ ((0 : Int) < (nr : Int)) := by have := hR0.2 hr0; omega
    have EQ := Lib.hid (EE0.out hr0)
    clear hR0 hr0 EE0 EE1 HD HRm HX2 LX LY LX2
    have CO := Lib.hid (odd_any w4 (!s == s') (e - e' - (k : Int)) Aq nq cq D k5 HQ.out LD5.out (by omega) (by omega) (by omega))
    have NB := nm_e_bd (s := !s == s') (b := 1000000) LD5.out (show -1000000 ≤ (e - e' - (k : Int)) by omega) (by omega) (by omega)
    have NC := Lib.hid (nm_canon (!s == s') D (e - e' - (k : Int))); have NL := Lib.hid (nm_lt (s := !s == s') (e := (e - e' - (k : Int))) LD5.out)
    have HRQ := Lib.hid (show rnd P up (nm (!s == s') D (e - e' - (k : Int))) = r from EQ.out)
    generalize nm (!s == s') D (e - e' - (k : Int)) = z at *
    go_wp2_with fail
    refine CO.out.mono ?_
    rintro _ w7 ⟨_, rfl, ⟨A7, n7, c7, rfl, h7, p7⟩, b7⟩
    have K37 := Lib.hid (K34.out.step b7); have B7 := Lib.hid (below_step B4.out b7)
    have CR := Lib.hid (round_any w7 z A7 n7 c7 k5 P up NC.out h7 NL.out (by omega) hp hp2 (by omega) (by omega))
    rw [HRQ.out] at CR
    have P7 := Lib.hid p7; have hsz7 := Lib.hid b7.size
    clear h7 p7 b7 CO NB NC NL HRQ y0 y2 v0 v2
    go_wp2_with fail
    refine CR.out.mono ?_
    rintro _ w8 ⟨A8, n8, c8, rfl, h8, p8, b8⟩
    have K38 := Lib.hid (K37.out.step b8)
    have r0 := K38.out.c0; have r1 := K38.out.c1; have r2 := K38.out.c2
    have z0 := K38.out.fz 0; have z1 := K38.out.fz 1; have z2 := K38.out.fz 2
    have RN := Lib.hid (ret_val (H := 0) (L := w4.heap.size) (below_step B7.out b8) (Nat.le_add_right w.heap.size 2) K38.out (Nat.zero_le _) K34.out.lt h8 (fun ad h0 hA => .inr (by
      have hz7 := hsz7.out
      rcases p8 ad h0 hA with ⟨e1, e2⟩ | h
      · have := P7.out ad (by omega) (by rw [← e1]; exact hA)
        omega
      · omega)))
    clear h8 p8 b8 CR
    go_wp2
    obtain ⟨kr, nr', br⟩ := RN.out
    refine bodyPost_ret (v := .agg #[.bool r.s, .slice A8 n8 c8, .int .i64 r.e]) ?_ rfl ⟨_, rfl, nr', br⟩
    have q0 := kr.c0; have q1 := kr.c1; have q2 := kr.c2
    unfold put3 at q0 q1 q2
    simp [results, Tryz.results166, go_sem, q0, q1, q2]
  · have f1 : (0 : Int) < (nr : Int) := by have := (not_congr hR0).2 hr0; omega
    have EQ := Lib.hid (EE1.out hr0)
    have C6 := Lib.hid (left_new 1 HQ.out LD.out (by omega) (by omega) (by omega))
    rw [show (1 : Int).toNat = 1 from rfl, Nat.pow_one, ← HD2.out] at C6
    clear hR0 hr0 EE0 EE1 HD HRm HX2 LX LY LX2
    go_wp2_with fail
    refine C6.out.mono ?_
    rintro _ w5 ⟨A5, n5, c5, rfl, h5, b5⟩
    have ob := one_below w5 (.cells #[.int .u32 1] 116)
    have CA := Lib.hid (radd_is (Dg.step h5 ob) (one_dg w5) LD2.out (show 1 < B64 ^ 1 by unfold B64; omega) (by omega) (by omega))
    rw [← HD3.out] at CA
    have K15 := Lib.hid (K14.out.step (below_step b5 ob)); have K25 := Lib.hid (K24.out.step (below_step b5 ob)); have K35 := Lib.hid (K34.out.step (below_step b5 ob)); have B5 := Lib.hid (below_step B4.out (below_step b5 ob))
    clear h5 b5 ob C6 y0 y2 v0 v2 K14 K24 K34 B4 HQ
    go_wp2_with fail
    refine CA.out.mono ?_
    rintro _ w6 ⟨A6, n6, c6, rfl, h6, b6⟩
    have K16 := Lib.hid (K15.out.step b6); have K26 := Lib.hid (K25.out.step b6); have K36 := Lib.hid (K35.out.step b6); have B6 := Lib.hid (below_step B5.out b6)
    have HQ6 := Lib.hid h6
    clear h6 b6 CA
    have y0 := K16.out.c0; have y2 := K16.out.c2
    have v0 := K26.out.c0; have v2 := K26.out.c2
    have CO := Lib.hid (odd_any w6 (!s == s') (e - e' - (k : Int) - 1) A6 n6 c6 D3 k5 HQ6.out LD3.out (by omega) (by omega) (by omega))
    have NB := nm_e_bd (s := !s == s') (b := 1000000) LD3.out (show -1000000 ≤ (e - e' - (k : Int) - 1) by omega) (by omega) (by omega)
    have NC := Lib.hid (nm_canon (!s == s') D3 (e - e' - (k : Int) - 1)); have NL := Lib.hid (nm_lt (s := !s == s') (e := (e - e' - (k : Int) - 1)) LD3.out)
    have HRQ := Lib.hid (show rnd P up (nm (!s == s') D3 (e - e' - (k : Int) - 1)) = r from EQ.out)
    generalize nm (!s == s') D3 (e - e' - (k : Int) - 1) = z at *
    go_wp2_with fail
    refine CO.out.mono ?_
    rintro _ w7 ⟨_, rfl, ⟨A7, n7, c7, rfl, h7, p7⟩, b7⟩
    have K37 := Lib.hid (K36.out.step b7); have B7 := Lib.hid (below_step B6.out b7)
    have CR := Lib.hid (round_any w7 z A7 n7 c7 k5 P up NC.out h7 NL.out (by omega) hp hp2 (by omega) (by omega))
    rw [HRQ.out] at CR
    have P7 := Lib.hid p7; have hsz7 := Lib.hid b7.size
    clear h7 p7 b7 CO NB NC NL HRQ y0 y2 v0 v2
    go_wp2_with fail
    refine CR.out.mono ?_
    rintro _ w8 ⟨A8, n8, c8, rfl, h8, p8, b8⟩
    have K38 := Lib.hid (K37.out.step b8)
    have r0 := K38.out.c0; have r1 := K38.out.c1; have r2 := K38.out.c2
    have z0 := K38.out.fz 0; have z1 := K38.out.fz 1; have z2 := K38.out.fz 2
    have RN := Lib.hid (ret_val (H := 0) (L := w6.heap.size) (below_step B7.out b8) (Nat.le_add_right w.heap.size 2) K38.out (Nat.zero_le _) K36.out.lt h8 (fun ad h0 hA => .inr (by
      have hz7 := hsz7.out
      rcases p8 ad h0 hA with ⟨e1, e2⟩ | h
      · have := P7.out ad (by omega) (by rw [← e1]; exact hA)
        omega
      · omega)))
    clear h8 p8 b8 CR
    go_wp2
    obtain ⟨kr, nr', br⟩ := RN.out
    refine bodyPost_ret (v := .agg #[.bool r.s, .slice A8 n8 c8, .int .i64 r.e]) ?_ rfl ⟨_, rfl, nr', br⟩
    have q0 := kr.c0; have q1 := kr.c1; have q2 := kr.c2
    unfold put3 at q0 q1 q2
    simp [results, Tryz.results166, go_sem, q0, q1, q2]
end Go.Proofs.YtfggnoejcgehdaaGreatDoor
