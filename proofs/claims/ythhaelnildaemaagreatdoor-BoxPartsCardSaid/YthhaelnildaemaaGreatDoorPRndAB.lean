/- round.right, round.direction; fathomlineref1.bad; light. round.fit. -/
import Derived.Test.YthhaelnildaemaaGreatDoorPNumPR
import Derived.Test.YthhaelnildaemaaGreatDoorPMathX
import Derived.Test.YthhaelnildaemaaGreatDoorPRefZ
import Derived.Test.YthhaelnildaemaaGreatDoorPDiv
namespace Go.Proofs.YthhaelnildaemaaGreatDoor
open Go.RowKit Nx
def NumsAt (w : World) (g n : Nat) (oks : List Bool) : Prop := oks.length = n ∧ g < w.heap.size ∧ ∀ i, i < n → ∃ (s : Bool) (e : Int) (A : Option Addr) (m c : Nat) (xs : List Nat),
  w.cell? ⟨g, i * 3, none⟩ = some (.bool s) ∧ w.cell? ⟨g, i * 3 + 1, none⟩ = some (.int .i64 e) ∧ w.cell? ⟨g, i * 3 + 2, none⟩ = some (.slice A m c) ∧ Arg w A m c xs ∧ m ≤ 100000 ∧ oks[i]? = some (okb s e m xs)
def precb (p : Int) : Bool := decide (8 ≤ p ∧ p ≤ 256)
theorem all_of {oks : List Bool} {n : Nat} (hl : oks.length = n) (h : ∀ j, j < n → oks[j]? = some true) : oks.all id = true := by
  rw [List.all_eq_true]
  intro b hb
  obtain ⟨j, hj⟩ := List.getElem?_of_mem hb
  have : j < oks.length := by
    rcases Nat.lt_or_ge j oks.length with a | a
    · exact a
    · rw [List.getElem?_eq_none a] at hj; cases hj
  have := h j (by omega)
  rw [hj] at this; injection this
theorem all_not {oks : List Bool} {j : Nat} (h : oks[j]? = some false) : oks.all id = false := by
  rw [List.all_eq_false]
  exact ⟨false, List.mem_of_getElem? h, by simp⟩
theorem Below.sz {B : Nat} {a w : World} (h : Below B a w) : a.heap.size ≤ w.heap.size := h.size
set_option maxRecDepth 100000 in
set_option maxHeartbeats 2000000 in
theorem prec_any (w : World) (g n : Nat) (p : Int) (oks : List Bool) (h : NumsAt w g n oks) (hs : n ≤ 10) :
    Calls Tryz.prog 178 #[.int .i64 p, .slice (some ⟨g, 0, none⟩) n n] w (BoolPost w (oks.all id && precb p)) := by
  obtain ⟨hl, hg, hc⟩ := h
  have HL := Lib.hid hl; have HC := Lib.hid hc
  clear hl hc
  obtain ⟨b, hb⟩ : ∃ b, b = (oks.all id && precb p) := ⟨_, rfl⟩
  rw [← hb]
  have HB := Lib.hid hb
  clear hb
  go_enter Tryz.func178, Tryz.ntmps178
  go_wp2
  go_loopw [9] (fun u wr => ∃ k : Nat, k ≤ n ∧ u = .int .i64 (k : Int) ∧ Hid (∀ j, j < k → oks[j]? = some true) ∧ Hid (Below w.heap.size w wr)) (fun u _ => n - (intOf u).toNat)
  case atStart => exact ⟨0, Nat.zero_le _, rfl, Lib.hid (fun j hj => absurd hj (by omega)), Lib.hid (Below.refl _ _)⟩
  case round =>
    obtain ⟨k, hk, rfl, hz, hB⟩ := hrel
    by_cases hlt : k < n
    · obtain ⟨s, e, A, m, c, xs, c0, c1, c2, ha, hm, ho⟩ := HC.out k hlt
      have c0' : wr.cell? ⟨g, k * 3, none⟩ = some (.bool s) := (hB.out.cell hg).trans c0
      have c1' : wr.cell? ⟨g, k * 3 + 1, none⟩ = some (.int .i64 e) := (hB.out.cell hg).trans c1
      have c2' : wr.cell? ⟨g, k * 3 + 2, none⟩ = some (.slice A m c) := (hB.out.cell hg).trans c2
      have i1 : (0 : Int) ≤ (k : Int) := by omega
      have i2 : (k : Int) < (n : Int) := by omega
      have hsz := hB.out.size
      have ob := one_below wr (.cells #[.bool s, .int .i64 e, .slice A m c] 28)
      have D := Lib.hid (nright_any _ s e A m c xs (ha.step (below_step hB.out ob)) hm)
      have HO := Lib.hid ho
      have HB1 := Lib.hid (below_step hB.out ob)
      clear c0 c1 c2 ha ho
      cases hv : okb s e m xs
      · rw [hv] at D HO
        go_wp2_with fail
        refine D.out.mono ?_
        rintro _ w2 ⟨rfl, b2⟩
        have HB2 := Lib.hid (below_step HB1.out b2)
        clear D b2
        go_wp2
        go_ret
        exact ⟨by rw [HB.out, all_not HO.out]; rfl, HB2.out⟩
      · rw [hv] at D HO
        go_wp2_with fail
        refine D.out.mono ?_
        rintro _ w2 ⟨rfl, b2⟩
        have HB2 := Lib.hid (below_step HB1.out b2)
        clear D b2
        go_wp2
        go_roundw
        case rel => exact ⟨k + 1, by omega, by go_num, Lib.hid (fun j hj => by
          rcases Nat.lt_or_ge j k with h1 | h1
          · exact hz.out j h1
          · obtain rfl : j = k := by omega
            exact HO.out), HB2⟩
        case measure => simp [intOf]; omega
    · obtain rfl : k = n := by omega
      have HA := Lib.hid (all_of HL.out hz.out)
      have hbp : b = precb p := by rw [HB.out, HA.out]; rfl
      have HBp := Lib.hid hbp
      clear hbp
      by_cases h1 : 8 ≤ p
      · by_cases h2 : p ≤ 256
        · go_wp2
          go_ret
          exact ⟨by rw [HBp.out]; simp [precb, h1, h2], hB.out⟩
        · go_wp2
          go_ret
          exact ⟨by rw [HBp.out]; simp [precb, h1, h2], hB.out⟩
      · go_wp2
        go_ret
        exact ⟨by rw [HBp.out]; simp [precb]; omega, hB.out⟩
def Ux (w : World) (g : Nat) (up : Bool) : Prop := Blk w g 4 #[.bool up]
theorem Ux.c0 {w : World} {g : Nat} {up : Bool} (h : Ux w g up) : w.cell? ⟨g, 0, none⟩ = some (.bool up) := by have := Blk.cell h 0; simpa using this
theorem Ux.step {w w' : World} {g : Nat} {up : Bool} (h : Ux w g up) (hb : Below w.heap.size w w') : Ux w' g up := Blk.below h hb h.lt
def awayf (g : Nat) : Value := .func (.func 207) #[] #[.pointer (some ⟨g, 0, none⟩)]
theorem dir_any (w : World) (up : Bool) : Calls Tryz.prog 181 #[.bool up] w fun e w' => e = .returned (awayf w.heap.size) ∧ Ux w' w.heap.size up ∧ Below w.heap.size w w' := by
  have h := Blk.new w 4 #[.bool up]
  have hmf : ∀ (fn : Fn) (first cap : Array Value) (w : World), (Instr.makeFunc fn first cap).run Tryz.prog w = .ok (.func fn first cap) w := fun _ _ _ _ => rfl
  go_enter Tryz.func181, Tryz.ntmps181
  go_wp2
  go_ret
  exact ⟨rfl, h, one_below _ _⟩
theorem away_any (w : World) (g : Nat) (s up : Bool) (h : Ux w g up) : Calls Tryz.prog 207 #[.bool s, .pointer (some ⟨g, 0, none⟩)] w fun e w' => e = .returned (.bool (s != up)) ∧ w = w' := by
  have c0 := h.c0
  clear h
  go_enter Tryz.func207, Tryz.ntmps207
  go_wp2
  go_ret
  exact ⟨by simp [bne], rfl⟩
end Go.Proofs.YthhaelnildaemaaGreatDoor
namespace Go.Proofs.YthhaelnildaemaaGreatDoor
open Go.RowKit Nx
theorem lost_zeros {M low : Nat} (h0 : M ≠ 0) : decide ((ntz M : Int) < (low : Int)) = decide (M % 2 ^ low ≠ 0) := by
  apply decide_eq_decide.2
  obtain ⟨m, hm, ho⟩ := ntz_split h0
  constructor
  · intro h hd
    have h1 : 2 ^ (ntz M + 1) ∣ M := Nat.dvd_trans (Nat.pow_dvd_pow 2 (by omega)) (Nat.dvd_of_mod_eq_zero hd)
    obtain ⟨c, hc⟩ := h1
    rw [Nat.pow_succ, Nat.mul_assoc] at hc
    have h2 : 2 ^ ntz M * m = 2 ^ ntz M * (2 * c) := by rw [← hm]; exact hc
    have := Nat.eq_of_mul_eq_mul_left (Nat.two_pow_pos _) h2
    omega
  · intro h
    rcases Nat.lt_or_ge (ntz M) low with h1 | h1
    · omega
    · exfalso
      apply h
      rw [hm]
      obtain ⟨d, hd⟩ : ∃ d, ntz M = low + d := ⟨ntz M - low, by omega⟩
      apply Nat.mod_eq_zero_of_dvd
      rw [hd, Nat.pow_add, Nat.mul_assoc]
      exact Nat.dvd_mul_right _ _
theorem one_has (w : World) : Has (w.alloc (.cells #[.int .u64 1] 56)) (some ⟨w.heap.size, 0, none⟩) 1 1 1 1 := ⟨[1], one_rd w 1, small1 (by unfold B64; omega), nval1 1, Nat.le_refl _⟩
set_option maxRecDepth 100000 in
set_option maxHeartbeats 4000000 in
theorem fit_any (w : World) (q : Q) (A : Option Addr) (n c k g : Nat) (p : Int) (up : Bool) (ha : Is w A n c q.m) (hM : q.m < B64 ^ k) (hk : k ≤ 4090) (h1 : -100000000 ≤ q.e) (h2 : q.e ≤ 100000000) (hp : 8 ≤ p) (hp2 : p ≤ 256) (hu : Ux w g up) (ht : Tab w) :
    Calls Tryz.prog 179 #[.agg #[.bool q.s, .int .i64 q.e, .slice A n c], .int .i64 p, awayf g] w (NumPost2 w (res (rnd p.toNat up q))) := by
  unfold awayf
  obtain ⟨k1, k2, b3⟩ := one_bx w q.s q.e A n c
  have K1 := Lib.hid k1; have K2 := Lib.hid k2; have B3 := Lib.hid b3
  obtain ⟨M, hMM⟩ : ∃ M, M = q.m := ⟨_, rfl⟩
  have I1 := Lib.hid (ha.step b3); have T3 := Lib.hid (ht.below b3); have U3 := Lib.hid (hu.step b3)
  have LM := Lib.hid hM
  have C1 := Lib.hid (bits_has (I1.out.has hM) (by omega))
  have hnb : nbits q.m ≤ 64 * k := nbits_le (by rw [← pow64]; exact hM)
  obtain ⟨s, M', e⟩ := q
  simp only at *
  clear k1 k2 b3 ha ht hu hM
  subst hMM
  obtain ⟨P, hP⟩ : ∃ P : Nat, p = (P : Int) := ⟨p.toNat, by omega⟩
  subst hP
  rw [show ((P : Int)).toNat = P by simp]
  obtain ⟨r, hr⟩ : ∃ r, r = res (rnd P up ⟨s, M, e⟩) := ⟨_, rfl⟩
  rw [← hr]
  have g0 := i64_sub (nbits M : Int) (P : Int) (by omega) (by omega)
  by_cases hlow : nbits M ≤ P
  · have CM := Lib.hid (make_is s e I1.out LM.out (by omega) T3.out)
    rw [rnd_few hlow] at hr
    rw [← hr] at CM
    have f0 : (nbits M : Int) - (P : Int) ≤ 0 := by omega
    clear hr
    have y0 := K1.out.c0; have y1 := K1.out.c1; have y2 := K1.out.c2
    go_enter Tryz.func179, Tryz.ntmps179
    go_wp2_with fail
    refine C1.out.mono ?_
    rintro _ w4 ⟨rfl, rfl⟩
    clear C1
    go_wp2_with fail
    refine CM.out.mono ?_
    rintro _ w6 ⟨_, rfl, ⟨A6, n6, c6, rfl, h6⟩, b6⟩
    have K26 := Lib.hid (K2.out.step b6)
    have r0 := K26.out.c0; have r1 := K26.out.c1; have r2 := K26.out.c2
    have z0 := K26.out.fz 0; have z1 := K26.out.fz 1; have z2 := K26.out.fz 2
    have RN := Lib.hid (ret_num B3.out (Nat.le_add_right w.heap.size 1) K26.out K2.out.lt b6 h6)
    clear h6 b6 CM
    go_wp2
    obtain ⟨kr, nr, br⟩ := RN.out
    refine bodyPost_ret (v := .tuple #[.agg #[.bool r.1.s, .int .i64 r.1.e, .slice A6 n6 c6], .int .i64 r.2]) ?_ rfl ⟨_, rfl, nr, br⟩
    have q0 := kr.c0; have q1 := kr.c1; have q2 := kr.c2
    unfold put3 at q0 q1 q2
    simp [results, Tryz.results179, go_sem, q0, q1, q2]
  · obtain ⟨low, hl⟩ : ∃ low : Nat, low = nbits M - P := ⟨_, rfl⟩
    have hl' : (nbits M : Int) - (P : Int) = (low : Int) := by omega
    have h0 : M ≠ 0 := fun h => by rw [h, nbits_zero] at hlow; omega
    have hlp : 0 < low := by omega
    have f0 : ¬ ((low : Int) ≤ 0) := by omega
    have g1 : IntKind.i64.wrap (-(low : Int)) = -(low : Int) := by rw [IntKind.wrap_i64]; omega
    have g2 := i64_add e (low : Int) (by omega) (by omega)
    have CS := Lib.hid (shift_is (-(low : Int)) (I1.out.has LM.out) (by omega))
    rw [shv_down (b := low) (by omega) hlp] at CS
    have hr2 : r = res (nm s (M / 2 ^ low + (if M % 2 ^ low ≠ 0 ∧ (s != up) = true then 1 else 0)) (e + low)) := by
      rw [hr]; unfold rnd rndm; simp only; rw [← hl]
    have HZ := Lib.hid (lost_zeros (low := low) h0)
    have LH := Lib.hid (show M / 2 ^ low < B64 ^ k from Nat.lt_of_le_of_lt (Nat.div_le_self _ _) LM.out)
    have HR := Lib.hid hr2
    replace g0 := g0.trans hl'
    clear hl'
    clear hr hr2 hl h0 hlow
    have y0 := K1.out.c0; have y1 := K1.out.c1; have y2 := K1.out.c2
    go_enter Tryz.func179, Tryz.ntmps179
    go_wp2_with fail
    refine C1.out.mono ?_
    rintro _ w4 ⟨rfl, rfl⟩
    clear C1
    go_wp2_with fail
    refine CS.out.mono ?_
    rintro _ w5 ⟨A5, n5, c5, rfl, h5, b5⟩
    have K15 := Lib.hid (K1.out.step b5); have K25 := Lib.hid (K2.out.step b5); have B5 := Lib.hid (below_step B3.out b5); have T5 := Lib.hid (T3.out.below b5); have U5 := Lib.hid (U3.out.step b5)
    have I5 := Lib.hid (I1.out.step b5); have H5 := Lib.hid h5
    have CZ := Lib.hid (zeros_has (I5.out.has LM.out) (by omega) T5.out)
    clear y0 y1 y2 b5 h5 CS K1 K2 B3 T3 U3 I1
    have y0 := K15.out.c0; have y1 := K15.out.c1; have y2 := K15.out.c2
    go_wp2_with fail
    refine CZ.out.mono ?_
    rintro _ w6 ⟨rfl, rfl⟩
    clear CZ
    by_cases hz : M % 2 ^ low = 0
    · have fz : ¬ ((ntz M : Int) < (low : Int)) := by
        have := HZ.out
        rw [decide_eq_false (by simp [hz] : ¬ M % 2 ^ low ≠ 0)] at this
        simpa using this
      have CM := Lib.hid (make_is s (e + low) H5.out LH.out (by omega) T5.out)
      have hr : r = res (nm s (M / 2 ^ low) (e + low)) := by rw [HR.out, if_neg (by simp [hz])]; rfl
      rw [← hr] at CM
      clear HR hr hz HZ
      go_wp2_with fail
      refine CM.out.mono ?_
      rintro _ w8 ⟨_, rfl, ⟨A8, n8, c8, rfl, h8⟩, b8⟩
      have K28 := Lib.hid (K25.out.step b8)
      have r0 := K28.out.c0; have r1 := K28.out.c1; have r2 := K28.out.c2
      have z0 := K28.out.fz 0; have z1 := K28.out.fz 1; have z2 := K28.out.fz 2
      have RN := Lib.hid (ret_num B5.out (Nat.le_add_right w.heap.size 1) K28.out K25.out.lt b8 h8)
      clear h8 b8 CM
      go_wp2
      obtain ⟨kr, nr, br⟩ := RN.out
      refine bodyPost_ret (v := .tuple #[.agg #[.bool r.1.s, .int .i64 r.1.e, .slice A8 n8 c8], .int .i64 r.2]) ?_ rfl ⟨_, rfl, nr, br⟩
      have q0 := kr.c0; have q1 := kr.c1; have q2 := kr.c2
      unfold put3 at q0 q1 q2
      simp [results, Tryz.results179, go_sem, q0, q1, q2]
    · have fz : (ntz M : Int) < (low : Int) := by
        have := HZ.out
        rw [decide_eq_true hz] at this
        simpa using this
      have CD := Lib.hid (away_any w5 g s up U5.out)
      cases hd : (s != up)
      · rw [hd] at CD
        have CM := Lib.hid (make_is s (e + low) H5.out LH.out (by omega) T5.out)
        have hr : r = res (nm s (M / 2 ^ low) (e + low)) := by rw [HR.out, if_neg (by simp [hd])]; rfl
        rw [← hr] at CM
        clear HR hr hz HZ
        go_wp2_with fail
        refine CD.out.mono ?_
        rintro _ w6 ⟨rfl, rfl⟩
        clear CD
        go_wp2_with fail
        refine CM.out.mono ?_
        rintro _ w8 ⟨_, rfl, ⟨A8, n8, c8, rfl, h8⟩, b8⟩
        have K28 := Lib.hid (K25.out.step b8)
        have r0 := K28.out.c0; have r1 := K28.out.c1; have r2 := K28.out.c2
        have z0 := K28.out.fz 0; have z1 := K28.out.fz 1; have z2 := K28.out.fz 2
        have RN := Lib.hid (ret_num B5.out (Nat.le_add_right w.heap.size 1) K28.out K25.out.lt b8 h8)
        clear h8 b8 CM
        go_wp2
        obtain ⟨kr, nr, br⟩ := RN.out
        refine bodyPost_ret (v := .tuple #[.agg #[.bool r.1.s, .int .i64 r.1.e, .slice A8 n8 c8], .int .i64 r.2]) ?_ rfl ⟨_, rfl, nr, br⟩
        have q0 := kr.c0; have q1 := kr.c1; have q2 := kr.c2
        unfold put3 at q0 q1 q2
        simp [results, Tryz.results179, go_sem, q0, q1, q2]
      · rw [hd] at CD
        have hr : r = res (nm s (M / 2 ^ low + 1) (e + low)) := by rw [HR.out, if_pos ⟨hz, hd⟩]
        have HR2 := Lib.hid hr
        have ob := one_below w5 (.cells #[.int .u64 1] 56)
        have CA := Lib.hid (add_is ((H5.out.has LH.out).step ob) (one_has w5) (by omega) (by omega))
        have K25o := Lib.hid (K25.out.step ob); have K15o := Lib.hid (K15.out.step ob); have B5o := Lib.hid (below_step B5.out ob); have T5o := Lib.hid (T5.out.below ob)
        have LH2 := Lib.hid (lt_add LH.out (show 1 < B64 ^ 1 by unfold B64; omega))
        clear HR hr hz HZ ob
        go_wp2_with fail
        refine CD.out.mono ?_
        rintro _ w6 ⟨rfl, rfl⟩
        clear CD
        go_wp2_with fail
        refine CA.out.mono ?_
        rintro _ w7 ⟨A7, n7, c7, rfl, h7, b7⟩
        have K17 := Lib.hid (K15o.out.step b7); have K27 := Lib.hid (K25o.out.step b7); have B7 := Lib.hid (below_step B5o.out b7); have T7 := Lib.hid (T5o.out.below b7)
        have CM := Lib.hid (make_is s (e + low) h7 LH2.out (by omega) T7.out)
        rw [← HR2.out] at CM
        clear y0 y1 y2 h7 b7 CA
        have y0 := K17.out.c0; have y1 := K17.out.c1; have y2 := K17.out.c2
        go_wp2_with fail
        refine CM.out.mono ?_
        rintro _ w8 ⟨_, rfl, ⟨A8, n8, c8, rfl, h8⟩, b8⟩
        have K28 := Lib.hid (K27.out.step b8)
        have r0 := K28.out.c0; have r1 := K28.out.c1; have r2 := K28.out.c2
        have z0 := K28.out.fz 0; have z1 := K28.out.fz 1; have z2 := K28.out.fz 2
        have RN := Lib.hid (ret_num B7.out (Nat.le_add_right w.heap.size 1) K28.out K27.out.lt b8 h8)
        clear h8 b8 CM
        go_wp2
        obtain ⟨kr, nr, br⟩ := RN.out
        refine bodyPost_ret (v := .tuple #[.agg #[.bool r.1.s, .int .i64 r.1.e, .slice A8 n8 c8], .int .i64 r.2]) ?_ rfl ⟨_, rfl, nr, br⟩
        have q0 := kr.c0; have q1 := kr.c1; have q2 := kr.c2
        unfold put3 at q0 q1 q2
        simp [results, Tryz.results179, go_sem, q0, q1, q2]
end Go.Proofs.YthhaelnildaemaaGreatDoor
