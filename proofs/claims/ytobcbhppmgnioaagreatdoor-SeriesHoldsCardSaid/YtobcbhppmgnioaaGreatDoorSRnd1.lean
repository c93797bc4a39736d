/- round.right, round.direction; fathomlineref1.bad; light. round.fit. -/
import Derived.Test.YtobcbhppmgnioaaGreatDoorSNumPR
import Derived.Test.YtobcbhppmgnioaaGreatDoorSMathX
import Derived.Test.YtobcbhppmgnioaaGreatDoorSRefZ
import Derived.Test.YtobcbhppmgnioaaGreatDoorSDiv
namespace Go.Proofs.YtobcbhppmgnioaaGreatDoor
set_option maxHeartbeats 4000000
set_option maxRecDepth 100000
open Go.RowKit Nx
section
def NumsAt (w : World) (g n : Nat) (oks : List Bool) : Prop := oks.length = n ∧ g < w.heap.size ∧ ∀ i, i < n → ∃ (s : Bool) (e : Int) (A : Option Addr) (m c : Nat) (xs : List Nat),
 w.cell? ⟨g, i * 3, none⟩ = some (.bool s) ∧ w.cell? ⟨g, i * 3 + 1, none⟩ = some (.int .i64 e) ∧ w.cell? ⟨g, i * 3 + 2, none⟩ = some (.slice A m c) ∧ Arg w A m c xs ∧ m ≤ 100000 ∧ oks[i]? = some (okb s e m xs)
def precb (p : Int) : Bool := decide (8 ≤ p ∧ p ≤ 256)
theorem all_of {oks : List Bool} {n : Nat} (hl : oks.length = n) (h : ∀ j, j < n → oks[j]? = some true) : oks.all id = true := by
 rw [List.all_eq_true]
 intro b hb
 obtain ⟨j, hj⟩ := List.getElem?_of_mem hb
 have : j < oks.length := by
  rcases Nat.lt_or_ge j oks.length with a | a
  ·exact a
  ·rw [List.getElem?_eq_none a] at hj; cases hj
 have := h j (by omega)
 rw [hj] at this; injection this
theorem all_not {oks : List Bool} {j : Nat} (h : oks[j]? = some false) : oks.all id = false := by
 rw [List.all_eq_false]
 exact ⟨false, List.mem_of_getElem? h, by simp⟩
theorem Below.sz {B : Nat} {a w : World} (h : Below B a w) : a.heap.size ≤ w.heap.size := h.size
theorem prec_any (w : World) (g n : Nat) (p : Int) (oks : List Bool) (h : NumsAt w g n oks) (hs : n ≤ 10) :
  Calls Tryz.prog 120 #[.int .i64 p, .slice (some ⟨g, 0, none⟩) n n] w (BoolPost w (oks.all id && precb p)) := by
 obtain ⟨hl, hg, hc⟩ := h
 have HL := Lib.hid hl; have HC := Lib.hid hc
 clear hl hc
 obtain ⟨b, hb⟩ : ∃ b, b = (oks.all id && precb p) := ⟨_, rfl⟩
 rw [← hb]
 have HB := Lib.hid hb
 clear hb
 go_enter Tryz.func120, Tryz.ntmps120
 go_wp2
 go_loopw [9] (fun u wr => ∃ k : Nat, k ≤ n ∧ u = .int .i64 (k : Int) ∧ Hid (∀ j, j < k → oks[j]? = some true) ∧ Hid (Below w.heap.size w wr)) (fun u _ => n - (intOf u).toNat)
 case atStart => exact ⟨0, Nat.zero_le _, rfl, Lib.hid (fun j hj => absurd hj (by omega)), Lib.hid (Below.refl _ _)⟩
 case round =>
  obtain ⟨k, hk, rfl, hz, hB⟩ := hrel
  by_cases hlt : k < n
  ·obtain ⟨s, e, A, m, c, xs, c0, c1, c2, ha, hm, ho⟩ := HC.out k hlt
   have c0' : wr.cell? ⟨g, k * 3, none⟩ = some (.bool s) := (hB.out.cell hg).trans c0
   have c1' : wr.cell? ⟨g, k * 3 + 1, none⟩ = some (.int .i64 e) := (hB.out.cell hg).trans c1
   have c2' : wr.cell? ⟨g, k * 3 + 2, none⟩ = some (.slice A m c) := (hB.out.cell hg).trans c2
   have i1 : (0 : Int) ≤ (k : Int) := by omega
   have i2 : (k : Int) < (n : Int) := by omega
   have hsz := hB.out.size
   have ob := one_below wr (.cells #[.bool s, .int .i64 e, .slice A m c] 26)
   have D := Lib.hid (nright_any _ s e A m c xs (ha.step (below_step hB.out ob)) hm)
   have HO := Lib.hid ho
   have HB1 := Lib.hid (below_step hB.out ob)
   clear c0 c1 c2 ha ho
   cases hv : okb s e m xs
   ·rw [hv] at D HO
    go_wp2_with fail
    refine D.out.mono ?_
    rintro _ w2 ⟨rfl, b2⟩
    have HB2 := Lib.hid (below_step HB1.out b2)
    clear D b2
    go_wp2
    go_ret
    exact ⟨by rw [HB.out, all_not HO.out]; rfl, HB2.out⟩
   ·rw [hv] at D HO
    go_wp2_with fail
    refine D.out.mono ?_
    rintro _ w2 ⟨rfl, b2⟩
    have HB2 := Lib.hid (below_step HB1.out b2)
    clear D b2
    go_wp2
    go_roundw
    case rel => exact ⟨k + 1, by omega, by go_num, Lib.hid (fun j hj => by
     rcases Nat.lt_or_ge j k with h1 | h1
     ·exact hz.out j h1
     ·obtain rfl : j = k := by omega
      exact HO.out), HB2⟩
    case measure => simp [intOf]; omega
  ·obtain rfl : k = n := by omega
   have HA := Lib.hid (all_of HL.out hz.out)
   have hbp : b = precb p := by rw [HB.out, HA.out]; rfl
   have HBp := Lib.hid hbp
   clear hbp
   by_cases h1 : 8 ≤ p
   ·by_cases h2 : p ≤ 256
    ·go_wp2
     go_ret
     exact ⟨by rw [HBp.out]; simp [precb, h1, h2], hB.out⟩
    ·go_wp2
     go_ret
     exact ⟨by rw [HBp.out]; simp [precb, h1, h2], hB.out⟩
   ·go_wp2
    go_ret
    exact ⟨by rw [HBp.out]; simp [precb]; omega, hB.out⟩
def Ux (w : World) (g : Nat) (up : Bool) : Prop := Blk w g 4 #[.bool up]
theorem Ux.c0 {w : World} {g : Nat} {up : Bool} (h : Ux w g up) : w.cell? ⟨g, 0, none⟩ = some (.bool up) := by have := Blk.cell h 0; simpa using this
theorem Ux.step {w w' : World} {g : Nat} {up : Bool} (h : Ux w g up) (hb : Below w.heap.size w w') : Ux w' g up := Blk.below h hb h.lt
def awayf (g : Nat) : Value := .func (.func 142) #[] #[.pointer (some ⟨g, 0, none⟩)]
theorem dir_any (w : World) (up : Bool) : Calls Tryz.prog 123 #[.bool up] w fun e w' => e = .returned (awayf w.heap.size) ∧ Ux w' w.heap.size up ∧ Below w.heap.size w w' := by
 have h := Blk.new w 4 #[.bool up]
 have hmf : ∀ (fn : Fn) (first cap : Array Value) (w : World), (Instr.makeFunc fn first cap).run Tryz.prog w = .ok (.func fn first cap) w := fun _ _ _ _ => rfl
 go_enter Tryz.func123, Tryz.ntmps123
 go_wp2
 go_ret
 exact ⟨rfl, h, one_below _ _⟩
theorem away_any (w : World) (g : Nat) (s up : Bool) (h : Ux w g up) : Calls Tryz.prog 142 #[.bool s, .pointer (some ⟨g, 0, none⟩)] w fun e w' => e = .returned (.bool (s != up)) ∧ w = w' := by
 have c0 := h.c0
 clear h
 go_enter Tryz.func142, Tryz.ntmps142
 go_wp2
 go_ret
 exact ⟨by simp [bne], rfl⟩
end
section
theorem lost_zeros {M low : Nat} (h0 : M ≠ 0) : decide ((ntz M : Int) < (low : Int)) = decide (M % 2 ^ low ≠ 0) := by
 apply decide_eq_decide.2
 obtain ⟨m, hm, ho⟩ := ntz_split h0
 constructor
 ·intro h hd
  have h1 : 2 ^ (ntz M + 1) ∣ M := Nat.dvd_trans (Nat.pow_dvd_pow 2 (by omega)) (Nat.dvd_of_mod_eq_zero hd)
  obtain ⟨c, hc⟩ := h1
  rw [Nat.pow_succ, Nat.mul_assoc] at hc
  have h2 : 2 ^ ntz M * m = 2 ^ ntz M * (2 * c) := by rw [← hm]; exact hc
  have := Nat.eq_of_mul_eq_mul_left (Nat.two_pow_pos _) h2
  omega
 ·intro h
  rcases Nat.lt_or_ge (ntz M) low with h1 | h1
  ·omega
  ·exfalso
   apply h
   rw [hm]
   obtain ⟨d, hd⟩ : ∃ d, ntz M = low + d := ⟨ntz M - low, by omega⟩
   apply Nat.mod_eq_zero_of_dvd
   rw [hd, Nat.pow_add, Nat.mul_assoc]
   exact Nat.dvd_mul_right _ _
theorem one_has (w : World) : Has (w.alloc (.cells #[.int .u64 1] 66)) (some ⟨w.heap.size, 0, none⟩) 1 1 1 1 := ⟨[1], one_rd w 1, small1 (by unfold B64; omega), nval1 1, Nat.le_refl _⟩
theorem fit_any (w : World) (q : Q) (A : Option Addr) (n c k g : Nat) (p : Int) (up : Bool) (ha : Is w A n c q.m) (hM : q.m < B64 ^ k) (hk : k ≤ 4090) (h1 : -100000000 ≤ q.e) (h2 : q.e ≤ 100000000) (hp : 8 ≤ p) (hp2 : p ≤ 256) (hu : Ux w g up) (ht : Tab w) :
  Calls Tryz.prog 121 #[.agg #[.bool q.s, .int .i64 q.e, .slice A n c], .int .i64 p, awayf g] w (NumPost2 w (res (rnd p.toNat up q))) := by
 unfold awayf
 obtain ⟨k1, k2, b3⟩ := one_bx w q.s q.e A n c
 have K1 := Lib.hid k1; have K2 := Lib.hid k2; have B3 := Lib.hid b3
 obtain ⟨M, hMM⟩ : ∃ M, M = q.m := ⟨_, rfl⟩
 have I1 := Lib.hid (ha.step b3); have T3 := Lib.hid (ht.below b3); have U3 := Lib.hid (hu.step b3)
 have LM := Lib.hid hM
 have C1 := Lib.hid (bits_has (I1.out.has hM) (by omega))
 have hnb : nbits q.m ≤ 64 * k := nbits_le (by rw [← pow64]; exact hM)
 obtain ⟨s, M', e⟩ := q
 simp only at *
 clear k1 k2 b3 ha ht hu hM
 subst hMM
 obtain ⟨P, hP⟩ : ∃ P : Nat, p = (P : Int) := ⟨p.toNat, by omega⟩
 subst hP
 rw [show ((P : Int)).toNat = P by simp]
 obtain ⟨r, hr⟩ : ∃ r, r = res (rnd P up ⟨s, M, e⟩) := ⟨_, rfl⟩
 rw [← hr]
 have g0 := i64_sub (nbits M : Int) (P : Int) (by omega) (by omega)
 by_cases hlow : nbits M ≤ P
 ·have CM := Lib.hid (make_is s e I1.out LM.out (by omega) T3.out)
  rw [rnd_few hlow] at hr
  rw [← hr] at CM
  have f0 : (nbits M : Int) - (P : Int) ≤ 0 := by omega
  clear hr
  have y0 := K1.out.c0; have y1 := K1.out.c1; have y2 := K1.out.c2
  go_enter Tryz.func121, Tryz.ntmps121
  go_wp2_with fail
  refine C1.out.mono ?_
  rintro _ w4 ⟨rfl, rfl⟩
  clear C1
  go_wp2_with fail
  refine CM.out.mono ?_
  rintro _ w6 ⟨_, rfl, ⟨A6, n6, c6, rfl, h6⟩, b6⟩
  have K26 := Lib.hid (K2.out.step b6)
  have r0 := K26.out.c0; have r1 := K26.out.c1; have r2 := K26.out.c2
  have z0 := K26.out.fz 0; have z1 := K26.out.fz 1; have z2 := K26.out.fz 2
  have RN := Lib.hid (ret_num B3.out (Nat.le_add_right w.heap.size 1) K26.out K2.out.lt b6 h6)
  clear h6 b6 CM
  go_wp2
  obtain ⟨kr, nr, br⟩ := RN.out
  refine bodyPost_ret (v := .tuple #[.agg #[.bool r.1.s, .int .i64 r.1.e, .slice A6 n6 c6], .int .i64 r.2]) ?_ rfl ⟨_, rfl, nr, br⟩
  have q0 := kr.c0; have q1 := kr.c1; have q2 := kr.c2
  unfold put3 at q0 q1 q2
  simp [results, Tryz.results121, go_sem, q0, q1, q2]
 ·obtain ⟨low, hl⟩ : ∃ low : Nat, low = nbits M - P := ⟨_, rfl⟩
  have hl' : (nbits M : Int) - (P : Int) = (low : Int) := by omega
  have h0 : M ≠ 0 := fun h => by rw [h, nbits_zero] at hlow; omega
  have hlp : 0 < low := by omega
  have f0 : ¬ ((low : Int) ≤ 0) := by omega
  have g1 : IntKind.i64.wrap (-(low : Int)) = -(low : Int) := by rw [IntKind.wrap_i64]; omega
  have g2 := i64_add e (low : Int) (by omega) (by omega)
  have CS := Lib.hid (shift_is (-(low : Int)) (I1.out.has LM.out) (by omega))
  rw [shv_down (b := low) (by omega) hlp] at CS
  have hr2 : r = res (nm s (M / 2 ^ low + (if M % 2 ^ low ≠ 0 ∧ (s != up) = true then 1 else 0)) (e + low)) := by
   rw [hr]; unfold rnd rndm; simp only; rw [← hl]
  have HZ := Lib.hid (lost_zeros (low := low) h0)
  have LH := Lib.hid (show M / 2 ^ low < B64 ^ k from Nat.lt_of_le_of_lt (Nat.div_le_self _ _) LM.out)
  have HR := Lib.hid hr2
  replace g0 := g0.trans hl'
  clear hl'
  clear hr hr2 hl h0 hlow
  have y0 := K1.out.c0; have y1 := K1.out.c1; have y2 := K1.out.c2
  go_enter Tryz.func121, Tryz.ntmps121
  go_wp2_with fail
  refine C1.out.mono ?_
  rintro _ w4 ⟨rfl, rfl⟩
  clear C1
  go_wp2_with fail
  refine CS.out.mono ?_
  rintro _ w5 ⟨A5, n5, c5, rfl, h5, b5⟩
  have K15 := Lib.hid (K1.out.step b5); have K25 := Lib.hid (K2.out.step b5); have B5 := Lib.hid (below_step B3.out b5); have T5 := Lib.hid (T3.out.below b5); have U5 := Lib.hid (U3.out.step b5)
  have I5 := Lib.hid (I1.out.step b5); have H5 := Lib.hid h5
  have CZ := Lib.hid (zeros_has (I5.out.has LM.out) (by omega) T5.out)
  clear y0 y1 y2 b5 h5 CS K1 K2 B3 T3 U3 I1
  have y0 := K15.out.c0; have y1 := K15.out.c1; have y2 := K15.out.c2
  go_wp2_with fail
  refine CZ.out.mono ?_
  rintro _ w6 ⟨rfl, rfl⟩
  clear CZ
  by_cases hz : M % 2 ^ low = 0
  ·have fz : ¬ ((ntz M : Int) < (low : Int)) := by
    have := HZ.out
    rw [decide_eq_false (by simp [hz] : ¬ M % 2 ^ low ≠ 0)] at this
    simpa using this
   have CM := Lib.hid (make_is s (e + low) H5.out LH.out (by omega) T5.out)
   have hr : r = res (nm s (M / 2 ^ low) (e + low)) := by rw [HR.out, if_neg (by simp [hz])]; rfl
   rw [← hr] at CM
   clear HR hr hz HZ
   go_wp2_with fail
   refine CM.out.mono ?_
   rintro _ w8 ⟨_, rfl, ⟨A8, n8, c8, rfl, h8⟩, b8⟩
   have K28 := Lib.hid (K25.out.step b8)
   have r0 := K28.out.c0; have r1 := K28.out.c1; have r2 := K28.out.c2
   have z0 := K28.out.fz 0; have z1 := K28.out.fz 1; have z2 := K28.out.fz 2
   have RN := Lib.hid (ret_num B5.out (Nat.le_add_right w.heap.size 1) K28.out K25.out.lt b8 h8)
   clear h8 b8 CM
   go_wp2
   obtain ⟨kr, nr, br⟩ := RN.out
   refine bodyPost_ret (v := .tuple #[.agg #[.bool r.1.s, .int .i64 r.1.e, .slice A8 n8 c8], .int .i64 r.2]) ?_ rfl ⟨_, rfl, nr, br⟩
   have q0 := kr.c0; have q1 := kr.c1; have q2 := kr.c2
   unfold put3 at q0 q1 q2
   simp [results, Tryz.results121, go_sem, q0, q1, q2]
  ·have fz : (ntz M : Int) < (low : Int) := by
    have := HZ.out
    rw [decide_eq_true hz] at this
    simpa using this
   have CD := Lib.hid (away_any w5 g s up U5.out)
   cases hd : (s != up)
   ·rw [hd] at CD
    have CM := Lib.hid (make_is s (e + low) H5.out LH.out (by omega) T5.out)
    have hr : r = res (nm s (M / 2 ^ low) (e + low)) := by rw [HR.out, if_neg (by simp [hd])]; rfl
    rw [← hr] at CM
    clear HR hr hz HZ
    go_wp2_with fail
    refine CD.out.mono ?_
    rintro _ w6 ⟨rfl, rfl⟩
    clear CD
    go_wp2_with fail
    refine CM.out.mono ?_
    rintro _ w8 ⟨_, rfl, ⟨A8, n8, c8, rfl, h8⟩, b8⟩
    have K28 := Lib.hid (K25.out.step b8)
    have r0 := K28.out.c0; have r1 := K28.out.c1; have r2 := K28.out.c2
    have z0 := K28.out.fz 0; have z1 := K28.out.fz 1; have z2 := K28.out.fz 2
    have RN := Lib.hid (ret_num B5.out (Nat.le_add_right w.heap.size 1) K28.out K25.out.lt b8 h8)
    clear h8 b8 CM
    go_wp2
    obtain ⟨kr, nr, br⟩ := RN.out
    refine bodyPost_ret (v := .tuple #[.agg #[.bool r.1.s, .int .i64 r.1.e, .slice A8 n8 c8], .int .i64 r.2]) ?_ rfl ⟨_, rfl, nr, br⟩
    have q0 := kr.c0; have q1 := kr.c1; have q2 := kr.c2
    unfold put3 at q0 q1 q2
    simp [results, Tryz.results121, go_sem, q0, q1, q2]
   ·rw [hd] at CD
    have hr : r = res (nm s (M / 2 ^ low + 1) (e + low)) := by rw [HR.out, if_pos ⟨hz, hd⟩]
    have HR2 := Lib.hid hr
    have ob := one_below w5 (.cells #[.int .u64 1] 66)
    have CA := Lib.hid (add_is ((H5.out.has LH.out).step ob) (one_has w5) (by omega) (by omega))
    have K25o := Lib.hid (K25.out.step ob); have K15o := Lib.hid (K15.out.step ob); have B5o := Lib.hid (below_step B5.out ob); have T5o := Lib.hid (T5.out.below ob)
    have LH2 := Lib.hid (lt_add LH.out (show 1 < B64 ^ 1 by unfold B64; omega))
    clear HR hr hz HZ ob
    go_wp2_with fail
    refine CD.out.mono ?_
    rintro _ w6 ⟨rfl, rfl⟩
    clear CD
    go_wp2_with fail
    refine CA.out.mono ?_
    rintro _ w7 ⟨A7, n7, c7, rfl, h7, b7⟩
    have K17 := Lib.hid (K15o.out.step b7); have K27 := Lib.hid (K25o.out.step b7); have B7 := Lib.hid (below_step B5o.out b7); have T7 := Lib.hid (T5o.out.below b7)
    have CM := Lib.hid (make_is s (e + low) h7 LH2.out (by omega) T7.out)
    rw [← HR2.out] at CM
    clear y0 y1 y2 h7 b7 CA
    have y0 := K17.out.c0; have y1 := K17.out.c1; have y2 := K17.out.c2
    go_wp2_with fail
    refine CM.out.mono ?_
    rintro _ w8 ⟨_, rfl, ⟨A8, n8, c8, rfl, h8⟩, b8⟩
    have K28 := Lib.hid (K27.out.step b8)
    have r0 := K28.out.c0; have r1 := K28.out.c1; have r2 := K28.out.c2
    have z0 := K28.out.fz 0; have z1 := K28.out.fz 1; have z2 := K28.out.fz 2
    have RN := Lib.hid (ret_num B7.out (Nat.le_add_right w.heap.size 1) K28.out K27.out.lt b8 h8)
    clear h8 b8 CM
    go_wp2
    obtain ⟨kr, nr, br⟩ := RN.out
    refine bodyPost_ret (v := .tuple #[.agg #[.bool r.1.s, .int .i64 r.1.e, .slice A8 n8 c8], .int .i64 r.2]) ?_ rfl ⟨_, rfl, nr, br⟩
    have q0 := kr.c0; have q1 := kr.c1; have q2 := kr.c2
    unfold put3 at q0 q1 q2
    simp [results, Tryz.results121, go_sem, q0, q1, q2]
end
section
def NewRd (W : World) (N : Nat) (e : Ending) (w' : World) : Prop := ∃ (A : Option Addr) (n c : Nat), e = .returned (.slice A n c) ∧ Rd .u64 w' W.heap.size w'.heap.size A n c (digs B64 N) ∧ Below W.heap.size W w'
section
variable {W : World} {A B : Option Addr} {n c m d X Y k l : Nat}
theorem add_nw (ha : Has W A n c X k) (hb : Has W B m d Y l) (hk : k ≤ 100000) (hl : l ≤ 100000) : Calls Tryz.prog 140 #[.slice A n c, .slice B m d] W (NewRd W (X + Y)) := by
 obtain ⟨xs, a1, a2, rfl, a4⟩ := ha
 obtain ⟨ys, b1, b2, rfl, b4⟩ := hb
 exact (add_any W 0 _ A B n c m d xs ys a1 b1 a2 b2 (by omega) (by omega) (Nat.le_refl _)).mono fun e w' ⟨A, n, c, he, h1, h2, _⟩ => ⟨A, n, c, he, h1, h2⟩
theorem mul_nw (ha : Has W A n c X k) (hb : Has W B m d Y l) (hk : k ≤ 100000) (hl : l ≤ 100000) : Calls Tryz.prog 141 #[.slice A n c, .slice B m d] W (NewRd W (X * Y)) := by
 obtain ⟨xs, a1, a2, rfl, a4⟩ := ha
 obtain ⟨ys, b1, b2, rfl, b4⟩ := hb
 exact (mul_any W 0 _ A B n c m d xs ys a1 b1 a2 b2 (by omega) (by omega) (Nat.le_refl _)).mono fun e w' ⟨A, n, c, he, h1, h2, _⟩ => ⟨A, n, c, he, h1, h2⟩
theorem sub_nw (ha : Has W A n c X k) (hb : Has W B m d Y l) (hk : k ≤ 100000) (hl : l ≤ 100000) : Calls Tryz.prog 144 #[.slice A n c, .slice B m d] W
  fun e w' => ∃ (A' : Option Addr) (n' c' : Nat), e = .returned (.tuple #[.slice A' n' c', .bool (decide (Y ≤ X))]) ∧ Rd .u64 w' W.heap.size w'.heap.size A' n' c' (digs B64 (X - Y)) ∧ Below W.heap.size W w' := by
 obtain ⟨xs, a1, a2, rfl, a4⟩ := ha
 obtain ⟨ys, b1, b2, rfl, b4⟩ := hb
 refine (sub_any W 0 _ A B n c m d xs ys a1 b1 a2 b2 (by omega) (by omega) (Nat.le_refl _)).mono ?_
 rintro e w' ⟨A', n', c', rfl, h1, h2, _⟩
 exact ⟨A', n', c', rfl, h1, h2⟩
end
def RawPost (w : World) (r : Q) (K : Nat) (e : Ending) (w' : World) : Prop := ∃ q : Q, NumPost1 w q e w' ∧ nm q.s q.m q.e = r ∧ q.m < B64 ^ K ∧ -1000000 ≤ q.e ∧ q.e ≤ 1000000
theorem up_lt2 {X k : Nat} {t : Nat} (h : X < B64 ^ k) (ht : t ≤ 131072) : X * 2 ^ t < B64 ^ (k + 2048) := by
 obtain ⟨E, hE⟩ : ∃ E : Nat, E = 2048 := ⟨_, rfl⟩
 rw [← hE]
 have h1 : 2 ^ t ≤ B64 ^ E := by rw [pow64]; exact Nat.pow_le_pow_right (by omega) (by omega)
 rw [Nat.pow_add]
 exact Nat.lt_of_lt_of_le (Nat.mul_lt_mul_of_pos_right h (Nat.pow_pos (by omega))) (Nat.mul_le_mul_left _ h1)
theorem lt_add2 {k x y : Nat} (hx : x < B64 ^ k) (hy : y < B64 ^ k) : x + y < B64 ^ (k + 1) := by
 rw [Nat.pow_succ]
 have : B64 ^ k * 2 ≤ B64 ^ k * B64 := Nat.mul_le_mul_left _ (by unfold B64; omega)
 omega
theorem rsum_any (w : World) (a b : Q) (A B : Option Addr) (n c m d : Nat) (ha : Is w A n c a.m) (hb : Is w B m d b.m) (hX : a.m < B64 ^ 64) (hY : b.m < B64 ^ 64)
  (h1 : -65536 ≤ a.e) (h2 : a.e ≤ 65536) (h3 : -65536 ≤ b.e) (h4 : b.e ≤ 65536) :
  Calls Tryz.prog 126 #[.agg #[.bool a.s, .int .i64 a.e, .slice A n c], .agg #[.bool b.s, .int .i64 b.e, .slice B m d]] w (RawPost w (plus a b) 2120) := by
 obtain ⟨k1, k2, k3, b3⟩ := three_bx w a.s b.s a.e b.e A B n c m d
 obtain ⟨X, hXv⟩ : ∃ X, X = a.m * 2 ^ (a.e - lowe a b).toNat := ⟨_, rfl⟩
 obtain ⟨Y, hYv⟩ : ∃ Y, Y = b.m * 2 ^ (b.e - lowe a b).toNat := ⟨_, rfl⟩
 have PS := Lib.hid (plus_same hXv hYv); have PL := Lib.hid (plus_left hXv hYv); have PR := Lib.hid (plus_right hXv hYv)
 have hl1 : (a.e - lowe a b).toNat ≤ 131072 := by unfold lowe; omega
 have hl2 : (b.e - lowe a b).toNat ≤ 131072 := by unfold lowe; omega
 obtain ⟨k0, hk0⟩ : ∃ k0 : Nat, k0 = 64 := ⟨_, rfl⟩
 obtain ⟨K, hK⟩ : ∃ K : Nat, K = 2120 := ⟨_, rfl⟩
 rw [← hK]
 have hX' : a.m < B64 ^ k0 := by rw [hk0]; exact hX
 have hY' : b.m < B64 ^ k0 := by rw [hk0]; exact hY
 have LX := Lib.hid (show X < B64 ^ (k0 + 2048) by rw [hXv]; exact up_lt2 hX' hl1)
 have LY := Lib.hid (show Y < B64 ^ (k0 + 2048) by rw [hYv]; exact up_lt2 hY' hl2)
 have LXY := Lib.hid (lt_up (lt_add2 LX.out LY.out) (show k0 + 2048 + 1 ≤ K by omega))
 have LXK := Lib.hid (lt_up LX.out (show k0 + 2048 ≤ K by omega)); have LYK := Lib.hid (lt_up LY.out (show k0 + 2048 ≤ K by omega))
 have ha2 := Lib.hid ((ha.step b3).has hX'); have hb2 := Lib.hid ((hb.step b3).has hY')
 have q1 := Lib.hid (shv_num (M := a.m) (e := a.e) (t := lowe a b) (by unfold lowe; omega) (by unfold lowe; omega)); have q2 := Lib.hid (shv_num (M := b.m) (e := b.e) (t := lowe a b) (by unfold lowe; omega) (by unfold lowe; omega))
 rw [← hXv] at q1
 rw [← hYv] at q2
 clear hX' hY' hl1 hl2
 have K1 := Lib.hid k1; have K2 := Lib.hid k2; have K3 := Lib.hid k3; have B3 := Lib.hid b3
 clear k1 k2 k3 b3 hXv hYv ha hb hX hY
 have t1 : -65536 ≤ lowe a b := by unfold lowe; omega
 have t2 : lowe a b ≤ a.e := by unfold lowe; omega
 have t3 : lowe a b ≤ b.e := by unfold lowe; omega
 have f1 : min a.e b.e = lowe a b := rfl
 generalize plus a b = r at *
 generalize lowe a b = t at *
 obtain ⟨s, am, e⟩ := a
 obtain ⟨s', bm, e'⟩ := b
 simp only at *
 go_enter Tryz.func126, Tryz.ntmps126
 go_wp2_with fail
 generalize (((w.alloc (.cells #[.bool s, .int .i64 e, .slice A n c] 26)).alloc (.cells #[.bool s', .int .i64 e', .slice B m d] 26)).alloc (.cells #[.bool false, .int .i64 0, .slice none 0 0] 26)) = w2 at *
 have S0 : w2.cell? ⟨w.heap.size, 0, none⟩ = some (.bool s) ∧ w2.cell? ⟨w.heap.size, 1, none⟩ = some (.int .i64 e) ∧ w2.cell? ⟨w.heap.size, 2, none⟩ = some (.slice A n c) ∧ w2.cell? ⟨w.heap.size + 1, 0, none⟩ = some (.bool s') ∧ w2.cell? ⟨w.heap.size + 1, 1, none⟩ = some (.int .i64 e') ∧ w2.cell? ⟨w.heap.size + 1, 2, none⟩ = some (.slice B m d) := ⟨K1.out.c0, K1.out.c1, K1.out.c2, K2.out.c0, K2.out.c1, K2.out.c2⟩
 try rw [f1]
 have x1 := i64_sub e t (by omega) (by omega)
 have x2 := i64_sub e' t (by omega) (by omega)
 have d2 := bdr (Below.refl w2.heap.size w2)
 have C1 := Lib.hid (shift_is (e - t) (ha2.out.step d2) (by omega))
 have K1d := Lib.hid (K1.out.step d2); have K2d := Lib.hid (K2.out.step d2); have K3d := Lib.hid (K3.out.step d2); have B2d := Lib.hid (below_step B3.out d2); have hb2d := Lib.hid (hb2.out.step d2)
 rw [q1.out] at C1
 clear f1 d2 B3 K1 K2 K3 ha2 hb2
 go_region_held3 (fun w' => w'.cell? ⟨w.heap.size, 0, none⟩ = some (.bool s) ∧ w'.cell? ⟨w.heap.size, 1, none⟩ = some (.int .i64 e) ∧ w'.cell? ⟨w.heap.size, 2, none⟩ = some (.slice A n c) ∧ w'.cell? ⟨w.heap.size + 1, 0, none⟩ = some (.bool s') ∧ w'.cell? ⟨w.heap.size + 1, 1, none⟩ = some (.int .i64 e') ∧ w'.cell? ⟨w.heap.size + 1, 2, none⟩ = some (.slice B m d))
  (first | exact S0 | assumption)
  (first
   | (go_at_call 138
      refine C1.out.mono ?_
      rintro _ w3 ⟨A3, n3, c3, rfl, h3, b3⟩
      have K13 := Lib.hid (K1d.out.step b3); have K23 := Lib.hid (K2d.out.step b3); have K33 := Lib.hid (K3d.out.step b3)
      have S3 : w3.cell? ⟨w.heap.size, 0, none⟩ = some (.bool s) ∧ w3.cell? ⟨w.heap.size, 1, none⟩ = some (.int .i64 e) ∧ w3.cell? ⟨w.heap.size, 2, none⟩ = some (.slice A n c) ∧ w3.cell? ⟨w.heap.size + 1, 0, none⟩ = some (.bool s') ∧ w3.cell? ⟨w.heap.size + 1, 1, none⟩ = some (.int .i64 e') ∧ w3.cell? ⟨w.heap.size + 1, 2, none⟩ = some (.slice B m d) := ⟨K13.out.c0, K13.out.c1, K13.out.c2, K23.out.c0, K23.out.c1, K23.out.c2⟩
      have C3 := Lib.hid (shift_is (e' - t) (hb2d.out.step b3) (by omega))
      have B3 := Lib.hid (below_step B2d.out b3); have H3 := Lib.hid h3
      rw [q2.out] at C3
      clear h3 b3 C1)
   | (go_at_call 138
      refine C3.out.mono ?_
      rintro _ w4 ⟨A4, n4, c4, rfl, h4, b4⟩
      have K14 := Lib.hid (K13.out.step b4); have K24 := Lib.hid (K23.out.step b4); have K34 := Lib.hid (K33.out.step b4)
      have S4 : w4.cell? ⟨w.heap.size, 0, none⟩ = some (.bool s) ∧ w4.cell? ⟨w.heap.size, 1, none⟩ = some (.int .i64 e) ∧ w4.cell? ⟨w.heap.size, 2, none⟩ = some (.slice A n c) ∧ w4.cell? ⟨w.heap.size + 1, 0, none⟩ = some (.bool s') ∧ w4.cell? ⟨w.heap.size + 1, 1, none⟩ = some (.int .i64 e') ∧ w4.cell? ⟨w.heap.size + 1, 2, none⟩ = some (.slice B m d) := ⟨K14.out.c0, K14.out.c1, K14.out.c2, K24.out.c0, K24.out.c1, K24.out.c2⟩
      have B4 := Lib.hid (below_step B3.out b4); have G1 := Lib.hid (H3.out.step b4); have G2 := Lib.hid h4
      clear h4 b4 C3))
 clear S3 S4 S0 x1 x2 K13 K23 K33 K1d K2d K3d B3 B2d hb2d H3 q1 q2
 have c0 := K14.out.c0; have c0' := K24.out.c0
 by_cases hs : s = s'
 ·subst hs
  have P := Lib.hid (PS.out rfl)
  clear PS PL PR
  have CA := Lib.hid (add_nw (G1.out.has LX.out |>.step (bdr (Below.refl _ w4))) (G2.out.has LY.out |>.step (bdr (Below.refl _ w4))) (by omega) (by omega))
  have K14d := Lib.hid (K14.out.step (bdr (Below.refl _ w4))); have K34d := Lib.hid (K34.out.step (bdr (Below.refl _ w4))); have B4d := Lib.hid (bdr B4.out)
  clear K24 K34 K14 G1 G2 B4
  have f0 : (s == s) = true := by simp
  focus
   go_wp2_with fail
   go_region_held3 (fun w' => w'.cell? ⟨w.heap.size, 0, none⟩ = some (.bool s))
    (first | exact c0 | assumption | go_keep)
    (first
     | (go_at_call 140
        refine CA.out.mono ?_
        rintro _ w5 ⟨A5, n5, c5, rfl, h5, b5⟩
        have K15 := Lib.hid (K14d.out.step b5); have K35 := Lib.hid (K34d.out.step b5)
        have s5 := K15.out.c0
        have r0 := K35.out.c0; have r1 := K35.out.c1; have r2 := K35.out.c2
        have z0 := K35.out.fz 0; have z1 := K35.out.fz 1; have z2 := K35.out.fz 2
        have s7 := (put3_far w5 (w.heap.size + 1 + 1) w.heap.size 0 (.bool s) (.int .i64 t) (.slice A5 n5 c5) (by omega)).trans s5
        have RN := Lib.hid (ret_num (q := ⟨s, X + Y, t⟩) B4d.out (Nat.le_add_right w.heap.size 2) K35.out K34d.out.lt b5 h5)
        clear h5 b5))
   go_wp2
   obtain ⟨kr, nr, br⟩ := RN.out
   refine bodyPost_ret (v := .agg #[.bool s, .int .i64 t, .slice A5 n5 c5]) ?_ rfl ⟨⟨s, X + Y, t⟩, ⟨_, rfl, nr, br⟩, P.out, LXY.out, by show -1000000 ≤ t; omega, by show t ≤ 1000000; omega⟩
   have q0 := kr.c0; have q1 := kr.c1; have q2 := kr.c2
   unfold put3 at q0 q1 q2
   simp [results, Tryz.results126, go_sem, q0, q1, q2]
 ·have hs' : s' = !s := by revert hs; cases s <;> cases s' <;> simp
  subst hs'
  have f0 : (s == !s) = false := by cases s <;> rfl
  have CS := Lib.hid (sub_nw (G1.out.has LX.out) (G2.out.has LY.out) (by omega) (by omega))
  by_cases hle : Y ≤ X
  ·have P := Lib.hid (PL.out hs hle)
   have hd : decide (Y ≤ X) = true := decide_eq_true hle
   rw [hd] at CS
   clear PS PL PR hs K24
   go_wp2_with fail
   refine CS.out.mono ?_
   rintro _ w5 ⟨A5, n5, c5, rfl, h5, b5⟩
   have K15 := Lib.hid (K14.out.step b5); have K35 := Lib.hid (K34.out.step b5)
   have s5 := K15.out.c0
   have r0 := K35.out.c0; have r1 := K35.out.c1; have r2 := K35.out.c2
   have z0 := K35.out.fz 0; have z1 := K35.out.fz 1; have z2 := K35.out.fz 2
   have RN := Lib.hid (ret_num (q := ⟨s, X - Y, t⟩) B4.out (Nat.le_add_right w.heap.size 2) K35.out K34.out.lt b5 h5)
   have LR := Lib.hid (Nat.lt_of_le_of_lt (Nat.sub_le X Y) LXK.out)
   clear h5 b5 CS
   go_wp2
   obtain ⟨kr, nr, br⟩ := RN.out
   refine bodyPost_ret (v := .agg #[.bool s, .int .i64 t, .slice A5 n5 c5]) ?_ rfl ⟨⟨s, X - Y, t⟩, ⟨_, rfl, nr, br⟩, P.out, LR.out, by show -1000000 ≤ t; omega, by show t ≤ 1000000; omega⟩
   have q0 := kr.c0; have q1 := kr.c1; have q2 := kr.c2
   unfold put3 at q0 q1 q2
   simp [results, Tryz.results126, go_sem, q0, q1, q2]
  ·have P := Lib.hid (PR.out hs hle)
   have hd : decide (Y ≤ X) = false := decide_eq_false hle
   rw [hd] at CS
   clear PS PL PR hs
   go_wp2_with fail
   refine CS.out.mono ?_
   rintro _ w5 ⟨A5, n5, c5, rfl, _, b5⟩
   have K25 := Lib.hid (K24.out.step b5); have K35 := Lib.hid (K34.out.step b5); have B5 := Lib.hid (below_step B4.out b5)
   have CT := Lib.hid (sub_nw ((G2.out.has LY.out).step b5) ((G1.out.has LX.out).step b5) (by omega) (by omega))
   clear b5 K14 K24 K34 B4 CS
   go_wp2_with fail
   refine CT.out.mono ?_
   rintro _ w6 ⟨A6, n6, c6, rfl, h6, b6⟩
   have K26 := Lib.hid (K25.out.step b6); have K36 := Lib.hid (K35.out.step b6)
   have s5 := K26.out.c0
   have r0 := K36.out.c0; have r1 := K36.out.c1; have r2 := K36.out.c2
   have z0 := K36.out.fz 0; have z1 := K36.out.fz 1; have z2 := K36.out.fz 2
   have RN := Lib.hid (ret_num (q := ⟨!s, Y - X, t⟩) B5.out (Nat.le_add_right w.heap.size 2) K36.out K35.out.lt b6 h6)
   have LR := Lib.hid (Nat.lt_of_le_of_lt (Nat.sub_le Y X) LYK.out)
   clear h6 b6 CT
   go_wp2
   obtain ⟨kr, nr, br⟩ := RN.out
   refine bodyPost_ret (v := .agg #[.bool (!s), .int .i64 t, .slice A6 n6 c6]) ?_ rfl ⟨⟨!s, Y - X, t⟩, ⟨_, rfl, nr, br⟩, P.out, LR.out, by show -1000000 ≤ t; omega, by show t ≤ 1000000; omega⟩
   have q0 := kr.c0; have q1 := kr.c1; have q2 := kr.c2
   unfold put3 at q0 q1 q2
   simp [results, Tryz.results126, go_sem, q0, q1, q2]
end
section
theorem rprod_any (w : World) (a b : Q) (A B : Option Addr) (n c m d : Nat) (ha : Is w A n c a.m) (hb : Is w B m d b.m) (hX : a.m < B64 ^ 64) (hY : b.m < B64 ^ 64)
  (h1 : -65536 ≤ a.e) (h2 : a.e ≤ 65536) (h3 : -65536 ≤ b.e) (h4 : b.e ≤ 65536) :
  Calls Tryz.prog 122 #[.agg #[.bool a.s, .int .i64 a.e, .slice A n c], .agg #[.bool b.s, .int .i64 b.e, .slice B m d]] w (RawPost w (times a b) 2120) := by
 obtain ⟨k1, k2, k3, b3⟩ := three_bx w a.s b.s a.e b.e A B n c m d
 obtain ⟨k0, hk0⟩ : ∃ k0 : Nat, k0 = 64 := ⟨_, rfl⟩
 obtain ⟨K, hK⟩ : ∃ K : Nat, K = 2120 := ⟨_, rfl⟩
 rw [← hK]
 have hX' : a.m < B64 ^ k0 := by rw [hk0]; exact hX
 have hY' : b.m < B64 ^ k0 := by rw [hk0]; exact hY
 have LM := Lib.hid (lt_up (lt_mul hX' hY') (show k0 + k0 ≤ K by omega))
 have ha2 := Lib.hid ((ha.step b3).has hX'); have hb2 := Lib.hid ((hb.step b3).has hY')
 have K1 := Lib.hid k1; have K2 := Lib.hid k2; have K3 := Lib.hid k3; have B3 := Lib.hid b3
 clear k1 k2 k3 b3 ha hb hX hY hX' hY'
 obtain ⟨s, X, e⟩ := a
 obtain ⟨s', Y, e'⟩ := b
 have PT := Lib.hid (nm_times (s := s) (s' := s') (M := X) (M' := Y) (e := e) (e' := e'))
 simp only at *
 generalize times ⟨s, X, e⟩ ⟨s', Y, e'⟩ = r at *
 go_enter Tryz.func122, Tryz.ntmps122
 go_wp2_with fail
 generalize (((w.alloc (.cells #[.bool s, .int .i64 e, .slice A n c] 26)).alloc (.cells #[.bool s', .int .i64 e', .slice B m d] 26)).alloc (.cells #[.bool false, .int .i64 0, .slice none 0 0] 26)) = w2 at *
 have S0 : w2.cell? ⟨w.heap.size, 0, none⟩ = some (.bool s) ∧ w2.cell? ⟨w.heap.size, 1, none⟩ = some (.int .i64 e) ∧ w2.cell? ⟨w.heap.size, 2, none⟩ = some (.slice A n c) ∧ w2.cell? ⟨w.heap.size + 1, 0, none⟩ = some (.bool s') ∧ w2.cell? ⟨w.heap.size + 1, 1, none⟩ = some (.int .i64 e') ∧ w2.cell? ⟨w.heap.size + 1, 2, none⟩ = some (.slice B m d) := ⟨K1.out.c0, K1.out.c1, K1.out.c2, K2.out.c0, K2.out.c1, K2.out.c2⟩
 have x1 := i64_add e e' (by omega) (by omega)
 have d2 := bdr (Below.refl w2.heap.size w2)
 have C1 := Lib.hid (mul_nw (ha2.out.step d2) (hb2.out.step d2) (by omega) (by omega))
 have K1d := Lib.hid (K1.out.step d2); have K2d := Lib.hid (K2.out.step d2); have K3d := Lib.hid (K3.out.step d2); have B2d := Lib.hid (below_step B3.out d2)
 clear d2 B3 K1 K2 K3 ha2 hb2
 go_region_held3 (fun w' => w'.cell? ⟨w.heap.size, 0, none⟩ = some (.bool s) ∧ w'.cell? ⟨w.heap.size, 1, none⟩ = some (.int .i64 e) ∧ w'.cell? ⟨w.heap.size, 2, none⟩ = some (.slice A n c) ∧ w'.cell? ⟨w.heap.size + 1, 0, none⟩ = some (.bool s') ∧ w'.cell? ⟨w.heap.size + 1, 1, none⟩ = some (.int .i64 e') ∧ w'.cell? ⟨w.heap.size + 1, 2, none⟩ = some (.slice B m d))
  (first | exact S0 | assumption)
  (first
   | (go_at_call 141
      refine C1.out.mono ?_
      rintro _ w3 ⟨A3, n3, c3, rfl, h3, b3⟩
      have K13 := Lib.hid (K1d.out.step b3); have K23 := Lib.hid (K2d.out.step b3); have K33 := Lib.hid (K3d.out.step b3)
      have S3 : w3.cell? ⟨w.heap.size, 0, none⟩ = some (.bool s) ∧ w3.cell? ⟨w.heap.size, 1, none⟩ = some (.int .i64 e) ∧ w3.cell? ⟨w.heap.size, 2, none⟩ = some (.slice A n c) ∧ w3.cell? ⟨w.heap.size + 1, 0, none⟩ = some (.bool s') ∧ w3.cell? ⟨w.heap.size + 1, 1, none⟩ = some (.int .i64 e') ∧ w3.cell? ⟨w.heap.size + 1, 2, none⟩ = some (.slice B m d) := ⟨K13.out.c0, K13.out.c1, K13.out.c2, K23.out.c0, K23.out.c1, K23.out.c2⟩
      have r0 := K33.out.c0; have r1 := K33.out.c1; have r2 := K33.out.c2
      have z0 := K33.out.fz 0; have z1 := K33.out.fz 1; have z2 := K33.out.fz 2
      have F := fun (h i : Nat) (hn : h ≠ w.heap.size + 1 + 1) => put3_far w3 (w.heap.size + 1 + 1) h i (.bool (!s == s')) (.int .i64 (e + e')) (.slice A3 n3 c3) hn
      have S8 := And.intro ((F w.heap.size 0 (by omega)).trans K13.out.c0) (And.intro ((F w.heap.size 1 (by omega)).trans K13.out.c1) (And.intro ((F w.heap.size 2 (by omega)).trans K13.out.c2) (And.intro ((F (w.heap.size + 1) 0 (by omega)).trans K23.out.c0) (And.intro ((F (w.heap.size + 1) 1 (by omega)).trans K23.out.c1) ((F (w.heap.size + 1) 2 (by omega)).trans K23.out.c2)))))
      clear F
      have RN := Lib.hid (ret_num (q := ⟨!s == s', X * Y, e + e'⟩) B2d.out (Nat.le_add_right w.heap.size 2) K33.out K3d.out.lt b3 h3)
      clear h3 b3))
 go_wp2
 obtain ⟨kr, nr, br⟩ := RN.out
 refine bodyPost_ret (v := .agg #[.bool (!s == s'), .int .i64 (e + e'), .slice A3 n3 c3]) ?_ rfl ⟨⟨!s == s', X * Y, e + e'⟩, ⟨_, rfl, nr, br⟩, PT.out, LM.out, by show -1000000 ≤ e + e'; omega, by show e + e' ≤ 1000000; omega⟩
 have q0 := kr.c0; have q1 := kr.c1; have q2 := kr.c2
 unfold put3 at q0 q1 q2
 simp [results, Tryz.results122, go_sem, q0, q1, q2]
end
section
def RndPost (w : World) (A : Option Addr) (n : Nat) (q : Q) (e : Ending) (w' : World) : Prop :=
 ∃ (A' : Option Addr) (n' c' : Nat), e = .returned (.agg #[.bool q.s, .slice A' n' c', .int .i64 q.e]) ∧ Dg w' A' n' c' q.m ∧ (∀ ad, 0 < n' → A' = some ad → (A' = A ∧ n' = n) ∨ w.heap.size ≤ ad.block) ∧ Below w.heap.size w w'
theorem RndPost.of {w w' : World} {A A' : Option Addr} {n n' c' : Nat} {q : Q} (h : ValV 0 w.heap.size w' (.agg #[.bool q.s, .slice A' n' c', .int .i64 q.e]) q) (hb : Below w.heap.size w w') : RndPost w A n q (.returned (.agg #[.bool q.s, .slice A' n' c', .int .i64 q.e])) w' := by
 obtain ⟨A2, n2, c2, he, h1, h2⟩ := h
 simp at he
 obtain ⟨rfl, rfl, rfl⟩ := he
 exact ⟨_, _, _, rfl, h1, fun ad h0 hA => .inr (by have := h2 ad h0 hA; omega), hb⟩
end
section
theorem nm_e_bd {s : Bool} {N k : Nat} {E : Int} {b : Int} (hN : N < B64 ^ k) (h1 : -b ≤ E) (h2 : E ≤ b) (hb : 0 ≤ b) : -b ≤ (nm s N E).e ∧ (nm s N E).e ≤ b + 64 * k := by
 unfold nm
 split
 ·show -b ≤ (0 : Int) ∧ (0 : Int) ≤ _; omega
 ·rename_i h0
  have := ntz_lt h0 (show N < 2 ^ (64 * k) by rw [← pow64]; exact hN)
  show -b ≤ E + ntz N ∧ E + ntz N ≤ _; omega
end
section
theorem nums2 (w : World) (s s' : Bool) (e e' : Int) (A B : Option Addr) (n c m d : Nat) (xs ys : List Nat) (ha : Arg w A n c xs) (hn : n ≤ 100000) (hb : Arg w B m d ys) (hm : m ≤ 100000) :
  NumsAt (w.alloc (.cells #[.bool s, .int .i64 e, .slice A n c, .bool s', .int .i64 e', .slice B m d] 26)) w.heap.size 2 [okb s e n xs, okb s' e' m ys] := by
 have h := Blk.new w 26 #[.bool s, .int .i64 e, .slice A n c, .bool s', .int .i64 e', .slice B m d]
 refine ⟨rfl, h.lt, fun i hi => ?_⟩
 have c0 := h.cell 0; have c1 := h.cell 1; have c2 := h.cell 2; have c3 := h.cell 3; have c4 := h.cell 4; have c5 := h.cell 5
 rcases (by omega : i = 0 ∨ i = 1) with rfl | rfl
 ·exact ⟨s, e, A, n, c, xs, c0, c1, c2, ha.step (one_below _ _), hn, rfl⟩
 ·exact ⟨s', e', B, m, d, ys, c3, c4, c5, hb.step (one_below _ _), hm, rfl⟩
noncomputable def ansr (g : Q → Q → Q × Int) (p : Int) (s : Bool) (e : Int) (n : Nat) (xs : List Nat) (s' : Bool) (e' : Int) (m : Nat) (ys : List Nat) : Q × Int :=
 if okb s e n xs && okb s' e' m ys && precb p then g ⟨s, nval B64 xs, e⟩ ⟨s', nval B64 ys, e'⟩ else (q0, 1)
noncomputable def gadd (p : Int) (up : Bool) (a b : Q) : Q × Int := res (rnd p.toNat up (plus a b))
noncomputable def gmul (p : Int) (up : Bool) (a b : Q) : Q × Int := res (rnd p.toNat up (times a b))
theorem prec_true {p : Int} (h : precb p = true) : 8 ≤ p ∧ p ≤ 256 := by simpa [precb] using h
theorem xadd_any (w : World) (s s' up : Bool) (e e' p : Int) (A B : Option Addr) (n c m d : Nat) (xs ys : List Nat) (ha : Arg w A n c xs) (hb : Arg w B m d ys) (hn : n ≤ 100000) (hm : m ≤ 100000) (ht : Tab w) :
  Calls Tryz.prog 94 #[.agg #[.bool s, .int .i64 e, .slice A n c], .agg #[.bool s', .int .i64 e', .slice B m d], .int .i64 p, .bool up] w (NumPost2 w (ansr (gadd p up) p s e n xs s' e' m ys)) := by
 obtain ⟨k1, k2, k3, b3⟩ := three_bx w s s' e e' A B n c m d
 obtain ⟨W, hW⟩ : ∃ W, W = (((w.alloc (.cells #[.bool s, .int .i64 e, .slice A n c] 26)).alloc (.cells #[.bool s', .int .i64 e', .slice B m d] 26)).alloc (.cells #[.bool false, .int .i64 0, .slice none 0 0] 26)) := ⟨_, rfl⟩
 have hsz : W.heap.size = w.heap.size + 1 + 1 + 1 := by rw [hW]; simp
 rw [← hW] at k1 k2 k3 b3
 have ob := one_below W (.cells #[.bool s, .int .i64 e, .slice A n c, .bool s', .int .i64 e', .slice B m d] 26)
 have C1 := Lib.hid (prec_any _ _ 2 p _ (nums2 W s s' e e' A B n c m d xs ys (ha.step b3) hn (hb.step b3) hm) (by omega))
 rw [hsz] at C1
 have K1 := Lib.hid (k1.step ob); have K2 := Lib.hid (k2.step ob); have K3 := Lib.hid (k3.step ob); have B3 := Lib.hid (below_step b3 ob)
 have HA := Lib.hid ha; have HB := Lib.hid hb; have HT := Lib.hid ht
 have y0 := k1.c0; have y1 := k1.c1; have y2 := k1.c2
 have x0 := k2.c0; have x1 := k2.c1; have x2 := k2.c2
 subst hW
 clear k1 k2 k3 b3 ha hb ht ob hsz
 obtain ⟨r, hr⟩ : ∃ r, r = ansr (gadd p up) p s e n xs s' e' m ys := ⟨_, rfl⟩
 rw [← hr]
 have HR := Lib.hid hr
 clear hr
 go_enter Tryz.func94, Tryz.ntmps94
 go_wp2_with fail
 refine C1.out.mono ?_
 rintro _ w4 ⟨rfl, b4⟩
 have K14 := Lib.hid (K1.out.step b4); have K24 := Lib.hid (K2.out.step b4); have K34 := Lib.hid (K3.out.step b4); have B4 := Lib.hid (below_step B3.out b4)
 clear b4 C1 K1 K2 K3 B3 y0 y1 y2 x0 x1 x2
 have hall : ([okb s e n xs, okb s' e' m ys].all id && precb p) = (okb s e n xs && okb s' e' m ys && precb p) := by simp
 rw [hall]
 clear hall
 cases hok : (okb s e n xs && okb s' e' m ys && precb p)
 ·have hr : r = (q0, 1) := by rw [HR.out]; unfold ansr; rw [hok]; rfl
  have r0 := K34.out.c0; have r1 := K34.out.c1; have r2 := K34.out.c2
  have z0 := K34.out.fz 0; have z1 := K34.out.fz 1; have z2 := K34.out.fz 2
  go_wp2
  obtain ⟨kr, nr, br⟩ := ret_zero B4.out (Nat.le_add_right w.heap.size 2) K34.out
  refine bodyPost_ret (v := .tuple #[.agg #[.bool false, .int .i64 0, .slice none 0 0], .int .i64 1]) ?_ rfl (by rw [hr]; exact ⟨_, rfl, nr, br⟩)
  have q0 := kr.c0; have q1 := kr.c1; have q2 := kr.c2
  unfold put3 at q0 q1 q2
  simp [results, Tryz.results94, go_sem, q0, q1, q2]
 ·have hr : r = gadd p up ⟨s, nval B64 xs, e⟩ ⟨s', nval B64 ys, e'⟩ := by rw [HR.out]; unfold ansr; rw [hok]; rfl
  obtain ⟨ho12, ho3⟩ := (Bool.and_eq_true _ _).mp hok
  obtain ⟨ho1, ho2⟩ := (Bool.and_eq_true _ _).mp ho12
  obtain ⟨p1, p2⟩ := prec_true ho3
  obtain ⟨i1, v1, f1, f2, f3⟩ := okb_true (HA.out.step B4.out) ho1
  obtain ⟨i2, v2, f4, f5, f6⟩ := okb_true (HB.out.step B4.out) ho2
  simp only at f1 f2 f3 f4 f5 f6
  have I1 := Lib.hid i1; have I2 := Lib.hid i2; have F1 := Lib.hid f1; have F4 := Lib.hid f4; have V2 := Lib.hid v2
  have HR2 := Lib.hid hr
  have T4 := Lib.hid (HT.out.below B4.out)
  generalize nval B64 xs = X at *
  generalize nval B64 ys = Y at *
  clear hr hok ho1 ho2 ho3 ho12 i1 i2 f1 f4 v1 v2 HR HA HB HT
  have C5 := Lib.hid (rsum_any w4 ⟨s, X, e⟩ ⟨s', Y, e'⟩ A B n c m d I1.out I2.out F1.out F4.out f2 f3 f5 f6)
  simp only at C5
  have y0 := K14.out.c0; have y1 := K14.out.c1; have y2 := K14.out.c2
  have x0 := K24.out.c0; have x1 := K24.out.c1; have x2 := K24.out.c2
  have PR := Lib.hid (show ∀ q : Q, nm q.s q.m q.e = plus ⟨s, X, e⟩ ⟨s', Y, e'⟩ → res (rnd p.toNat up q) = r from fun q h => by
   rw [HR2.out]; unfold gadd
   congr 1
   have e1 : rnd p.toNat up q = rnd p.toNat up (nm q.s q.m q.e) := (rnd_nm _ _ _ _ _).symm
   rw [e1, h])
  clear HR2
  generalize plus ⟨s, X, e⟩ ⟨s', Y, e'⟩ = z at *
  obtain ⟨KK, hKK⟩ : ∃ KK : Nat, KK = 2120 := ⟨_, rfl⟩
  rw [← hKK] at C5
  have hK2 : KK ≤ 2120 := by omega
  clear hKK
  go_wp2_with fail
  refine C5.out.mono ?_
  rintro _ w6 ⟨q, ⟨_, rfl, ⟨A6, n6, c6, rfl, h6⟩, b6⟩, hq, lq, e1, e2⟩
  have HZ := Lib.hid (PR.out q hq)
  have K36 := Lib.hid (K34.out.step b6); have B6 := Lib.hid (below_step B4.out b6); have T6 := Lib.hid (T4.out.below b6)
  have IQ := Lib.hid (num_is h6); have LQ := Lib.hid lq
  have CD := Lib.hid (dir_any w6 up)
  unfold awayf at CD
  clear hq lq h6 b6 C5 PR z y0 y1 y2 x0 x1 x2
  go_wp2_with fail
  refine CD.out.mono ?_
  rintro _ w7 ⟨rfl, u7, b7⟩
  have K37 := Lib.hid (K36.out.step b7); have B7 := Lib.hid (below_step B6.out b7)
  have CF := Lib.hid (fit_any w7 q A6 n6 c6 KK _ p up (IQ.out.step b7) LQ.out (by omega) (by omega) (by omega) p1 p2 u7 (T6.out.below b7))
  rw [HZ.out] at CF
  unfold awayf at CF
  clear u7 b7 CD IQ LQ HZ T6
  go_wp2_with fail
  refine CF.out.mono ?_
  rintro _ w8 ⟨_, rfl, ⟨A8, n8, c8, rfl, h8⟩, b8⟩
  have K38 := Lib.hid (K37.out.step b8)
  have r0 := K38.out.c0; have r1 := K38.out.c1; have r2 := K38.out.c2
  have z0 := K38.out.fz 0; have z1 := K38.out.fz 1; have z2 := K38.out.fz 2
  have RN := Lib.hid (ret_num B7.out (Nat.le_add_right w.heap.size 2) K38.out K37.out.lt b8 h8)
  clear h8 b8 CF
  go_wp2
  obtain ⟨kr, nr, br⟩ := RN.out
  refine bodyPost_ret (v := .tuple #[.agg #[.bool r.1.s, .int .i64 r.1.e, .slice A8 n8 c8], .int .i64 r.2]) ?_ rfl ⟨_, rfl, nr, br⟩
  have q0 := kr.c0; have q1 := kr.c1; have q2 := kr.c2
  unfold put3 at q0 q1 q2
  simp [results, Tryz.results94, go_sem, q0, q1, q2]
end
section
theorem xmul_any (w : World) (s s' up : Bool) (e e' p : Int) (A B : Option Addr) (n c m d : Nat) (xs ys : List Nat) (ha : Arg w A n c xs) (hb : Arg w B m d ys) (hn : n ≤ 100000) (hm : m ≤ 100000) (ht : Tab w) :
  Calls Tryz.prog 89 #[.agg #[.bool s, .int .i64 e, .slice A n c], .agg #[.bool s', .int .i64 e', .slice B m d], .int .i64 p, .bool up] w (NumPost2 w (ansr (gmul p up) p s e n xs s' e' m ys)) := by
 obtain ⟨k1, k2, k3, b3⟩ := three_bx w s s' e e' A B n c m d
 obtain ⟨W, hW⟩ : ∃ W, W = (((w.alloc (.cells #[.bool s, .int .i64 e, .slice A n c] 26)).alloc (.cells #[.bool s', .int .i64 e', .slice B m d] 26)).alloc (.cells #[.bool false, .int .i64 0, .slice none 0 0] 26)) := ⟨_, rfl⟩
 have hsz : W.heap.size = w.heap.size + 1 + 1 + 1 := by rw [hW]; simp
 rw [← hW] at k1 k2 k3 b3
 have ob := one_below W (.cells #[.bool s, .int .i64 e, .slice A n c, .bool s', .int .i64 e', .slice B m d] 26)
 have C1 := Lib.hid (prec_any _ _ 2 p _ (nums2 W s s' e e' A B n c m d xs ys (ha.step b3) hn (hb.step b3) hm) (by omega))
 rw [hsz] at C1
 have K1 := Lib.hid (k1.step ob); have K2 := Lib.hid (k2.step ob); have K3 := Lib.hid (k3.step ob); have B3 := Lib.hid (below_step b3 ob)
 have HA := Lib.hid ha; have HB := Lib.hid hb; have HT := Lib.hid ht
 have y0 := k1.c0; have y1 := k1.c1; have y2 := k1.c2
 have x0 := k2.c0; have x1 := k2.c1; have x2 := k2.c2
 subst hW
 clear k1 k2 k3 b3 ha hb ht ob hsz
 obtain ⟨r, hr⟩ : ∃ r, r = ansr (gmul p up) p s e n xs s' e' m ys := ⟨_, rfl⟩
 rw [← hr]
 have HR := Lib.hid hr
 clear hr
 go_enter Tryz.func89, Tryz.ntmps89
 go_wp2_with fail
 refine C1.out.mono ?_
 rintro _ w4 ⟨rfl, b4⟩
 have K14 := Lib.hid (K1.out.step b4); have K24 := Lib.hid (K2.out.step b4); have K34 := Lib.hid (K3.out.step b4); have B4 := Lib.hid (below_step B3.out b4)
 clear b4 C1 K1 K2 K3 B3 y0 y1 y2 x0 x1 x2
 have hall : ([okb s e n xs, okb s' e' m ys].all id && precb p) = (okb s e n xs && okb s' e' m ys && precb p) := by simp
 rw [hall]
 clear hall
 cases hok : (okb s e n xs && okb s' e' m ys && precb p)
 ·have hr : r = (q0, 1) := by rw [HR.out]; unfold ansr; rw [hok]; rfl
  have r0 := K34.out.c0; have r1 := K34.out.c1; have r2 := K34.out.c2
  have z0 := K34.out.fz 0; have z1 := K34.out.fz 1; have z2 := K34.out.fz 2
  go_wp2
  obtain ⟨kr, nr, br⟩ := ret_zero B4.out (Nat.le_add_right w.heap.size 2) K34.out
  refine bodyPost_ret (v := .tuple #[.agg #[.bool false, .int .i64 0, .slice none 0 0], .int .i64 1]) ?_ rfl (by rw [hr]; exact ⟨_, rfl, nr, br⟩)
  have q0 := kr.c0; have q1 := kr.c1; have q2 := kr.c2
  unfold put3 at q0 q1 q2
  simp [results, Tryz.results89, go_sem, q0, q1, q2]
 ·have hr : r = gmul p up ⟨s, nval B64 xs, e⟩ ⟨s', nval B64 ys, e'⟩ := by rw [HR.out]; unfold ansr; rw [hok]; rfl
  obtain ⟨ho12, ho3⟩ := (Bool.and_eq_true _ _).mp hok
  obtain ⟨ho1, ho2⟩ := (Bool.and_eq_true _ _).mp ho12
  obtain ⟨p1, p2⟩ := prec_true ho3
  obtain ⟨i1, v1, f1, f2, f3⟩ := okb_true (HA.out.step B4.out) ho1
  obtain ⟨i2, v2, f4, f5, f6⟩ := okb_true (HB.out.step B4.out) ho2
  simp only at f1 f2 f3 f4 f5 f6
  have I1 := Lib.hid i1; have I2 := Lib.hid i2; have F1 := Lib.hid f1; have F4 := Lib.hid f4; have V2 := Lib.hid v2
  have HR2 := Lib.hid hr
  have T4 := Lib.hid (HT.out.below B4.out)
  generalize nval B64 xs = X at *
  generalize nval B64 ys = Y at *
  clear hr hok ho1 ho2 ho3 ho12 i1 i2 f1 f4 v1 v2 HR HA HB HT
  have C5 := Lib.hid (rprod_any w4 ⟨s, X, e⟩ ⟨s', Y, e'⟩ A B n c m d I1.out I2.out F1.out F4.out f2 f3 f5 f6)
  simp only at C5
  have y0 := K14.out.c0; have y1 := K14.out.c1; have y2 := K14.out.c2
  have x0 := K24.out.c0; have x1 := K24.out.c1; have x2 := K24.out.c2
  have PR := Lib.hid (show ∀ q : Q, nm q.s q.m q.e = times ⟨s, X, e⟩ ⟨s', Y, e'⟩ → res (rnd p.toNat up q) = r from fun q h => by
   rw [HR2.out]; unfold gmul
   congr 1
   have e1 : rnd p.toNat up q = rnd p.toNat up (nm q.s q.m q.e) := (rnd_nm _ _ _ _ _).symm
   rw [e1, h])
  clear HR2
  generalize times ⟨s, X, e⟩ ⟨s', Y, e'⟩ = z at *
  obtain ⟨KK, hKK⟩ : ∃ KK : Nat, KK = 2120 := ⟨_, rfl⟩
  rw [← hKK] at C5
  have hK2 : KK ≤ 2120 := by omega
  clear hKK
  go_wp2_with fail
  refine C5.out.mono ?_
  rintro _ w6 ⟨q, ⟨_, rfl, ⟨A6, n6, c6, rfl, h6⟩, b6⟩, hq, lq, e1, e2⟩
  have HZ := Lib.hid (PR.out q hq)
  have K36 := Lib.hid (K34.out.step b6); have B6 := Lib.hid (below_step B4.out b6); have T6 := Lib.hid (T4.out.below b6)
  have IQ := Lib.hid (num_is h6); have LQ := Lib.hid lq
  have CD := Lib.hid (dir_any w6 up)
  unfold awayf at CD
  clear hq lq h6 b6 C5 PR z y0 y1 y2 x0 x1 x2
  go_wp2_with fail
  refine CD.out.mono ?_
  rintro _ w7 ⟨rfl, u7, b7⟩
  have K37 := Lib.hid (K36.out.step b7); have B7 := Lib.hid (below_step B6.out b7)
  have CF := Lib.hid (fit_any w7 q A6 n6 c6 KK _ p up (IQ.out.step b7) LQ.out (by omega) (by omega) (by omega) p1 p2 u7 (T6.out.below b7))
  rw [HZ.out] at CF
  unfold awayf at CF
  clear u7 b7 CD IQ LQ HZ T6
  go_wp2_with fail
  refine CF.out.mono ?_
  rintro _ w8 ⟨_, rfl, ⟨A8, n8, c8, rfl, h8⟩, b8⟩
  have K38 := Lib.hid (K37.out.step b8)
  have r0 := K38.out.c0; have r1 := K38.out.c1; have r2 := K38.out.c2
  have z0 := K38.out.fz 0; have z1 := K38.out.fz 1; have z2 := K38.out.fz 2
  have RN := Lib.hid (ret_num B7.out (Nat.le_add_right w.heap.size 2) K38.out K37.out.lt b8 h8)
  clear h8 b8 CF
  go_wp2
  obtain ⟨kr, nr, br⟩ := RN.out
  refine bodyPost_ret (v := .tuple #[.agg #[.bool r.1.s, .int .i64 r.1.e, .slice A8 n8 c8], .int .i64 r.2]) ?_ rfl ⟨_, rfl, nr, br⟩
  have q0 := kr.c0; have q1 := kr.c1; have q2 := kr.c2
  unfold put3 at q0 q1 q2
  simp [results, Tryz.results89, go_sem, q0, q1, q2]
end
end Go.Proofs.YtobcbhppmgnioaaGreatDoor
