/- num.Mul, num.Scale, num.Int. num.Sign, num.top, num.cmpSizes, num.Cmp; cmp.Compare. num.Cmp, num.Neg, num.Abs. -/
import Derived.Test.YtobcbhppmgnioaaGreatDoorSNum1
import Derived.Test.YtobcbhppmgnioaaGreatDoorSRefX
namespace Go.Proofs.YtobcbhppmgnioaaGreatDoor
set_option maxHeartbeats 2000000
set_option maxRecDepth 100000
open Go.RowKit Nx
theorem nm_times {s s' : Bool} {M M' : Nat} {e e' : Int} : nm (s != s') (M * M') (e + e') = times ⟨s, M, e⟩ ⟨s', M', e'⟩ := by
 unfold times Q.z
 rw [nm_ofz]
 congr 1
 cases s <;> cases s' <;> simp [Int.natCast_mul, Int.mul_neg, Int.neg_mul]
noncomputable def ans1 (s : Bool) (e : Int) (n : Nat) (xs : List Nat) (k : Int) : Q × Int := if okb s e n xs then res (nm s (nval B64 xs) (e + k)) else (q0, 1)
theorem one_bx (w : World) (s : Bool) (e : Int) (A : Option Addr) (n c : Nat) :
  Bx ((w.alloc (.cells #[.bool s, .int .i64 e, .slice A n c] 26)).alloc (.cells #[.bool false, .int .i64 0, .slice none 0 0] 26)) w.heap.size s e A n c ∧
  Bx ((w.alloc (.cells #[.bool s, .int .i64 e, .slice A n c] 26)).alloc (.cells #[.bool false, .int .i64 0, .slice none 0 0] 26)) (w.heap.size + 1) false 0 none 0 0 ∧
  Below w.heap.size w ((w.alloc (.cells #[.bool s, .int .i64 e, .slice A n c] 26)).alloc (.cells #[.bool false, .int .i64 0, .slice none 0 0] 26)) := two_bx w s false e 0 A none n c 0 0
theorem res_far {s : Bool} {M : Nat} {e k : Int} (h : Canon ⟨s, M, e⟩) (h1 : -65536 ≤ e) (h2 : e ≤ 65536) : res (nm s M (e + min (max k (-131073)) 131073)) = res (nm s M (e + k)) := by
 by_cases h0 : M = 0
 ·subst h0; rw [nm_zero, nm_zero]
 ·by_cases hk : -131073 ≤ k ∧ k ≤ 131073
  ·rw [show min (max k (-131073)) 131073 = k by omega]
  ·have hz : ntz M = 0 := ntz_odd (h.2 h0)
   have e1 : ∀ t : Int, nm s M t = ⟨s, M / 2 ^ ntz M, t + ntz M⟩ := fun t => by unfold nm; rw [if_neg h0]
   rw [e1, e1, hz]
   rw [res_over, res_over]
   ·rintro ⟨_, h3, h4⟩
    simp only at h3 h4
    omega
   ·rintro ⟨_, h3, h4⟩
    simp only at h3 h4
    omega
theorem nscale_any (w : World) (s : Bool) (e k : Int) (A : Option Addr) (n c : Nat) (xs : List Nat) (ha : Arg w A n c xs) (hn : n ≤ 100000) (ht : Tab w) :
  Calls Tryz.prog 124 #[.agg #[.bool s, .int .i64 e, .slice A n c], .int .i64 k] w (NumPost2 w (ans1 s e n xs k)) := by
 obtain ⟨k1, k2, b3⟩ := one_bx w s e A n c
 have C1 := Lib.hid (nright_any _ s e A n c xs (ha.step b3) hn)
 have K1 := Lib.hid k1; have K2 := Lib.hid k2; have B3 := Lib.hid b3
 have HA := Lib.hid ha; have HT := Lib.hid ht
 clear k1 k2 b3 ha ht
 obtain ⟨r, hr⟩ : ∃ r, r = ans1 s e n xs k := ⟨_, rfl⟩
 rw [← hr]
 have HR := Lib.hid hr
 clear hr
 go_enter Tryz.func124, Tryz.ntmps124
 go_wp2_with fail
 refine C1.out.mono ?_
 rintro _ w4 ⟨rfl, b4⟩
 have K14 := Lib.hid (K1.out.step b4); have K24 := Lib.hid (K2.out.step b4); have B4 := Lib.hid (below_step B3.out b4)
 clear b4 C1 K1 K2 B3
 have y0 := K14.out.c0; have y1 := K14.out.c1; have y2 := K14.out.c2
 have r0 := K24.out.c0; have r1 := K24.out.c1; have r2 := K24.out.c2
 have z0 := K24.out.fz 0; have z1 := K24.out.fz 1; have z2 := K24.out.fz 2
 by_cases hok : okb s e n xs = true
 ·obtain ⟨i1, cn, f1, f2, f3⟩ := okb_true (HA.out.step B4.out) hok
  simp only at f1 f2 f3
  have hr : r = res (nm s (nval B64 xs) (e + min (max k (-131073)) 131073)) := by rw [HR.out, res_far cn f2 f3]; unfold ans1; rw [if_pos hok]
  have g1 := i64_add e (min (max k (-131073)) 131073) (by omega) (by omega)
  have CM := Lib.hid (make_is s (e + min (max k (-131073)) 131073) i1 f1 (by omega) (HT.out.below B4.out))
  rw [← hr] at CM
  rw [hok]
  clear i1 cn hr
  go_wp2_with fail
  refine CM.out.mono ?_
  rintro _ w6 ⟨_, rfl, ⟨A6, n6, c6, rfl, h6⟩, b6⟩
  have K26 := Lib.hid (K24.out.step b6)
  clear r0 r1 r2 z0 z1 z2
  have r0 := K26.out.c0; have r1 := K26.out.c1; have r2 := K26.out.c2
  have z0 := K26.out.fz 0; have z1 := K26.out.fz 1; have z2 := K26.out.fz 2
  have RN := Lib.hid (ret_num B4.out (Nat.le_add_right w.heap.size 1) K26.out K24.out.lt b6 h6)
  clear h6 b6
  go_wp2
  obtain ⟨kr, nr, br⟩ := RN.out
  refine bodyPost_ret (v := .tuple #[.agg #[.bool r.1.s, .int .i64 r.1.e, .slice A6 n6 c6], .int .i64 r.2]) ?_ rfl ⟨_, rfl, nr, br⟩
  have q0 := kr.c0; have q1 := kr.c1; have q2 := kr.c2
  unfold put3 at q0 q1 q2
  simp [results, Tryz.results124, go_sem, q0, q1, q2]
 ·have hr : r = (q0, 1) := by rw [HR.out]; unfold ans1; rw [if_neg hok]
  have hf : okb s e n xs = false := by simpa using hok
  rw [hf]
  go_wp2
  obtain ⟨kr, nr, br⟩ := ret_zero B4.out (Nat.le_add_right w.heap.size 1) K24.out
  refine bodyPost_ret (v := .tuple #[.agg #[.bool false, .int .i64 0, .slice none 0 0], .int .i64 1]) ?_ rfl (by rw [hr]; exact ⟨_, rfl, nr, br⟩)
  have q0 := kr.c0; have q1 := kr.c1; have q2 := kr.c2
  unfold put3 at q0 q1 q2
  simp [results, Tryz.results124, go_sem, q0, q1, q2]
theorem b64_le : B64 ≤ B64 ^ 64 := by
 have := Nat.pow_le_pow_right (n := B64) (by unfold B64; omega) (show 1 ≤ 64 by omega)
 rwa [Nat.pow_one] at this
def cmpi (x y : Int) : Int := if x < y then -1 else if y < x then 1 else 0
theorem cmpi_nat (x y : Nat) : cmpi (x : Int) (y : Int) = cmpv x y := by
 unfold cmpi cmpv
 by_cases h1 : x < y
 ·rw [if_pos (by omega), if_pos h1]
 ·rw [if_neg (by omega), if_neg h1]
  by_cases h2 : y < x
  ·rw [if_pos (by omega), if_pos h2]
  ·rw [if_neg (by omega), if_neg h2]
theorem cmpi_neg (x y : Int) : cmpi (-x) (-y) = cmpi y x := by
 unfold cmpi
 by_cases h1 : y < x
 ·rw [if_pos (by omega), if_pos h1]
 ·rw [if_neg (by omega), if_neg h1]
  by_cases h2 : x < y
  ·rw [if_pos (by omega), if_pos h2]
  ·rw [if_neg (by omega), if_neg h2]
theorem cmpq_eq (a b : Q) : cmpq a b = cmpi (a.up (lowe a b)) (b.up (lowe a b)) := rfl
theorem up_pos {a : Q} {t : Int} (h : a.m ≠ 0) : 0 < a.m * 2 ^ (a.e - t).toNat := Nat.mul_pos (by omega) (Nat.pow_pos (by omega))
theorem signq_up {a : Q} {t : Int} : (a.up t < 0 ↔ signq a = -1) ∧ (0 < a.up t ↔ signq a = 1) ∧ (a.up t = 0 ↔ signq a = 0) := by
 rw [up_eq]
 unfold signq
 by_cases h : a.m = 0
 ·rw [h]; simp
 ·have := up_pos (t := t) h
  rw [if_neg h]
  generalize a.m * 2 ^ (a.e - t).toNat = P at *
  cases a.s <;> simp <;> omega
theorem signq_range (a : Q) : signq a = -1 ∨ signq a = 0 ∨ signq a = 1 := by
 unfold signq; split <;> (try split) <;> simp
theorem cmpq_signs {a b : Q} (h : cmpi (signq a) (signq b) ≠ 0) : cmpq a b = cmpi (signq a) (signq b) := by
 obtain ⟨a1, a2, a3⟩ := signq_up (a := a) (t := lowe a b)
 obtain ⟨b1, b2, b3⟩ := signq_up (a := b) (t := lowe a b)
 rw [cmpq_eq]
 generalize a.up (lowe a b) = x at *
 generalize b.up (lowe a b) = y at *
 unfold cmpi at *
 rcases signq_range a with ha | ha | ha <;> rcases signq_range b with hb | hb | hb <;> rw [ha, hb] at h ⊢ <;> simp at h ⊢
 ·have := a1.2 ha; have := b3.2 hb; omega
 ·have := a1.2 ha; have := b2.2 hb; omega
 ·have := a3.2 ha; have := b1.2 hb; omega
 ·have := a3.2 ha; have := b2.2 hb; omega
 ·have := a2.2 ha; have := b1.2 hb; omega
 ·have := a2.2 ha; have := b3.2 hb; omega
theorem cmpq_pos {a b : Q} (h1 : a.s = false) (h2 : b.s = false) : cmpq a b = cmpv (a.m * 2 ^ (a.e - lowe a b).toNat) (b.m * 2 ^ (b.e - lowe a b).toNat) := by
 rw [cmpq_eq, up_eq, up_eq, h1, h2]; exact cmpi_nat _ _
theorem cmpq_neg {a b : Q} (h1 : a.s = true) (h2 : b.s = true) : cmpq a b = cmpv (b.m * 2 ^ (b.e - lowe b a).toNat) (a.m * 2 ^ (a.e - lowe b a).toNat) := by
 have : lowe b a = lowe a b := by unfold lowe; omega
 rw [this, cmpq_eq, up_eq, up_eq, h1, h2]
 simp only [if_true]
 rw [cmpi_neg]; exact cmpi_nat _ _
theorem top_lt_lt {a b : Q} {t : Int} (ha : t ≤ a.e) (hb : t ≤ b.e) (hn : b.m ≠ 0) (h : (nbits a.m : Int) + a.e < nbits b.m + b.e) : a.m * 2 ^ (a.e - t).toNat < b.m * 2 ^ (b.e - t).toNat := by
 have h1 := nbits_lt a.m
 have h2 := nbits_ge hn
 have h3 := nbits_pos hn
 have h4 : a.m * 2 ^ (a.e - t).toNat < 2 ^ (nbits a.m + (a.e - t).toNat) := by rw [Nat.pow_add]; exact Nat.mul_lt_mul_of_pos_right h1 (Nat.pow_pos (by omega))
 have h5 : 2 ^ (nbits b.m - 1 + (b.e - t).toNat) ≤ b.m * 2 ^ (b.e - t).toNat := by rw [Nat.pow_add]; exact Nat.mul_le_mul_right _ h2
 have h6 : 2 ^ (nbits a.m + (a.e - t).toNat) ≤ 2 ^ (nbits b.m - 1 + (b.e - t).toNat) := Nat.pow_le_pow_right (by omega) (by omega)
 omega
theorem top_tells {a b : Q} (hz : a.m = 0 ↔ b.m = 0) (ha : Canon a) (hb : Canon b) (h : cmpi ((nbits a.m : Int) + a.e) (nbits b.m + b.e) ≠ 0) :
  cmpi ((nbits a.m : Int) + a.e) (nbits b.m + b.e) = cmpv (a.m * 2 ^ (a.e - lowe a b).toNat) (b.m * 2 ^ (b.e - lowe a b).toNat) := by
 have l1 : lowe a b ≤ a.e := by unfold lowe; omega
 have l2 : lowe a b ≤ b.e := by unfold lowe; omega
 by_cases h0 : a.m = 0
 ·have h1 := ha.1 h0
  have h2 := hb.1 (hz.1 h0)
  rw [h1, h2] at h
  exact absurd rfl h
 ·have h0' : b.m ≠ 0 := fun h => h0 (hz.2 h)
  unfold cmpi at *
  by_cases c1 : (nbits a.m : Int) + a.e < nbits b.m + b.e
  ·rw [if_pos c1, cmpv_lt (top_lt_lt l1 l2 h0' c1)]
  ·rw [if_neg c1] at h ⊢
   by_cases c2 : (nbits b.m : Int) + b.e < nbits a.m + a.e
   ·rw [if_pos c2, cmpv_gt (top_lt_lt l2 l1 h0 c2)]
   ·rw [if_neg c2] at h; exact absurd rfl h
theorem compi_any_nan (w : World) (x : Int) : Calls Tryz.prog 127 #[.int .i64 x] w fun e w' => e = .returned (.bool false) ∧ w = w' := by
 have f : (x != x) = false := by simp
 go_enter Tryz.func127, Tryz.ntmps127
 go_wp2
 go_ret
 exact ⟨rfl, rfl⟩
theorem compi_any (w : World) (x y : Int) : Calls Tryz.prog 97 #[.int .i64 x, .int .i64 y] w fun e w' => e = .returned (.int .i64 (cmpi x y)) ∧ w = w' := by
 have C := fun (x : Int) => Lib.hid (compi_any_nan w x)
 go_enter Tryz.func97, Tryz.ntmps97
 go_wp2_with fail
 refine (C x).out.mono ?_
 rintro _ w1 ⟨rfl, rfl⟩
 go_wp2_with fail
 refine (C y).out.mono ?_
 rintro _ w1 ⟨rfl, rfl⟩
 clear C
 by_cases h1 : x < y
 ·go_wp2
  go_ret
  exact ⟨by unfold cmpi; rw [if_pos h1]; rfl, rfl⟩
 ·by_cases h2 : y < x
  ·go_wp2
   go_ret
   exact ⟨by unfold cmpi; rw [if_neg (by omega), if_pos h2]; rfl, rfl⟩
  ·go_wp2
   go_ret
   exact ⟨by unfold cmpi; rw [if_neg (by omega), if_neg (by omega)]; rfl, rfl⟩
theorem compj_any_nan (w : World) (x : Int) : Calls Tryz.prog 145 #[.int .i64 x] w fun e w' => e = .returned (.bool false) ∧ w = w' := by
 have f : (x != x) = false := by simp
 go_enter Tryz.func145, Tryz.ntmps145
 go_wp2
 go_ret
 exact ⟨rfl, rfl⟩
theorem compj_any (w : World) (x y : Int) : Calls Tryz.prog 128 #[.int .i64 x, .int .i64 y] w fun e w' => e = .returned (.int .i64 (cmpi x y)) ∧ w = w' := by
 have C := fun (x : Int) => Lib.hid (compj_any_nan w x)
 go_enter Tryz.func128, Tryz.ntmps128
 go_wp2_with fail
 refine (C x).out.mono ?_
 rintro _ w1 ⟨rfl, rfl⟩
 go_wp2_with fail
 refine (C y).out.mono ?_
 rintro _ w1 ⟨rfl, rfl⟩
 clear C
 by_cases h1 : x < y
 ·go_wp2
  go_ret
  exact ⟨by unfold cmpi; rw [if_pos h1]; rfl, rfl⟩
 ·by_cases h2 : y < x
  ·go_wp2
   go_ret
   exact ⟨by unfold cmpi; rw [if_neg (by omega), if_pos h2]; rfl, rfl⟩
  ·go_wp2
   go_ret
   exact ⟨by unfold cmpi; rw [if_neg (by omega), if_neg (by omega)]; rfl, rfl⟩
def IPost (w : World) (x : Int) (e : Ending) (w' : World) : Prop := e = .returned (.int .i64 x) ∧ Below w.heap.size w w'
theorem box_one (w : World) (s : Bool) (e : Int) (A : Option Addr) (n c : Nat) : Bx (w.alloc (.cells #[.bool s, .int .i64 e, .slice A n c] 26)) w.heap.size s e A n c ∧ Below w.heap.size w (w.alloc (.cells #[.bool s, .int .i64 e, .slice A n c] 26)) := ⟨Bx.new _ _ _ _ _ _, one_below _ _⟩
theorem nsign_any (w : World) (s : Bool) (e : Int) (A : Option Addr) (n c : Nat) (xs : List Nat) (ha : Arg w A n c xs) (hn : n ≤ 100000) :
  Calls Tryz.prog 98 #[.agg #[.bool s, .int .i64 e, .slice A n c]] w (IPost w (if okb s e n xs then signq ⟨s, nval B64 xs, e⟩ else 0)) := by
 obtain ⟨k1, b1⟩ := box_one w s e A n c
 have C1 := Lib.hid (nright_any _ s e A n c xs (ha.step b1) hn)
 have K1 := Lib.hid k1; have B1 := Lib.hid b1; have HA := Lib.hid ha
 clear k1 b1 ha
 obtain ⟨r, hr⟩ : ∃ r : Int, r = if okb s e n xs then signq ⟨s, nval B64 xs, e⟩ else 0 := ⟨_, rfl⟩
 rw [← hr]
 have HR := Lib.hid hr
 clear hr
 go_enter Tryz.func98, Tryz.ntmps98
 go_wp2_with fail
 refine C1.out.mono ?_
 rintro _ w2 ⟨rfl, b2⟩
 have K2 := Lib.hid (K1.out.step b2); have B2 := Lib.hid (below_step B1.out b2)
 clear b2 K1 B1 C1
 have x0 := K2.out.c0; have x1 := K2.out.c1; have x2 := K2.out.c2
 by_cases hok : okb s e n xs = true
 ·obtain ⟨i1, cn, -⟩ := okb_true HA.out hok
  have hv : r = signq ⟨s, nval B64 xs, e⟩ := by rw [HR.out, if_pos hok]
  have hn0 : n = 0 ↔ nval B64 xs = 0 := by
   constructor
   ·intro h; subst h
    have := HA.out.1.1
    rw [List.eq_nil_of_length_eq_zero this]; rfl
   ·intro h; rw [h] at i1; have := i1.1; rw [digs_zero] at this; exact this.symm
  rw [hok]
  have HV := Lib.hid hv; have HN := Lib.hid hn0
  clear i1 cn hv hn0
  by_cases h0 : n = 0
  ·have hm0 := Lib.hid (HN.out.1 h0)
   subst h0
   go_wp2
   go_ret
   exact ⟨by rw [HV.out]; unfold signq; rw [if_pos hm0.out]; rfl, B2.out⟩
  ·have f0 : ((n : Int) == 0) = false := by simp; omega
   have hne := Lib.hid (show nval B64 xs ≠ 0 from fun h => h0 (HN.out.2 h))
   cases s
   ·go_wp2
    go_ret
    exact ⟨by rw [HV.out]; unfold signq; rw [if_neg hne.out]; rfl, B2.out⟩
   ·go_wp2
    go_ret
    exact ⟨by rw [HV.out]; unfold signq; rw [if_neg hne.out]; rfl, B2.out⟩
 ·have hv : r = 0 := by rw [HR.out, if_neg hok]
  have hf : okb s e n xs = false := by simpa using hok
  rw [hf, hv]
  go_wp2
  go_ret
  exact ⟨by rw [hv]; rfl, B2.out⟩
theorem top_any (w : World) (s : Bool) (e : Int) (A : Option Addr) (n c X : Nat) (ha : Is w A n c X) (hX : X < B64 ^ 64) (h1 : -65536 ≤ e) (h2 : e ≤ 65536) :
  Calls Tryz.prog 129 #[.agg #[.bool s, .int .i64 e, .slice A n c]] w (IPost w ((nbits X : Int) + e)) := by
 obtain ⟨k1, b1⟩ := box_one w s e A n c
 have d1 := bdr b1
 obtain ⟨k0, hk0⟩ : ∃ k0 : Nat, k0 = 64 := ⟨_, rfl⟩
 have hX' : X < B64 ^ k0 := by rw [hk0]; exact hX
 have hb : nbits X ≤ 64 * k0 := nbits_le (by rw [← pow64]; exact hX')
 have C1 := Lib.hid (bits_has ((ha.step d1).has hX) (by omega))
 have S0 : (w.alloc (.cells #[.bool s, .int .i64 e, .slice A n c] 26)).cell? ⟨w.heap.size, 1, none⟩ = some (.int .i64 e) ∧ (w.alloc (.cells #[.bool s, .int .i64 e, .slice A n c] 26)).cell? ⟨w.heap.size, 2, none⟩ = some (.slice A n c) := ⟨k1.c1, k1.c2⟩
 have g1 := i64_add (nbits X : Int) e (by omega) (by omega)
 have D1 := Lib.hid d1
 clear k1 b1 d1 ha hX hX'
 generalize nbits X = bt at *
 go_enter Tryz.func129, Tryz.ntmps129
 go_wp2_with fail
 go_region_held3 (fun w' => w'.cell? ⟨w.heap.size, 1, none⟩ = some (.int .i64 e) ∧ w'.cell? ⟨w.heap.size, 2, none⟩ = some (.slice A n c))
  (first | exact S0 | assumption | go_keep)
  (first | (go_at_call 136; refine C1.out.mono ?_; rintro _ w2 ⟨rfl, rfl⟩))
 all_goals
  go_wp2
  go_ret
  exact ⟨rfl, D1.out⟩
theorem sizes_any (w : World) (a b : Q) (A B : Option Addr) (n c m d : Nat) (ha : Is w A n c a.m) (hb : Is w B m d b.m) (va : Valid a) (vb : Valid b) (hz : a.m = 0 ↔ b.m = 0) :
  Calls Tryz.prog 99 #[.agg #[.bool a.s, .int .i64 a.e, .slice A n c], .agg #[.bool b.s, .int .i64 b.e, .slice B m d]] w (IPost w (cmpv (a.m * 2 ^ (a.e - lowe a b).toNat) (b.m * 2 ^ (b.e - lowe a b).toNat))) := by
 obtain ⟨k1, k2, b2⟩ := two_bx w a.s b.s a.e b.e A B n c m d
 have TT := Lib.hid (top_tells hz va.1 vb.1)
 obtain ⟨-, hX, h1, h2⟩ := va
 obtain ⟨-, hY, h3, h4⟩ := vb
 have hl1 : (a.e - lowe a b).toNat ≤ 262144 := by unfold lowe; omega
 have hl2 : (b.e - lowe a b).toNat ≤ 262144 := by unfold lowe; omega
 obtain ⟨k0, hk0⟩ : ∃ k0 : Nat, k0 = 64 := ⟨_, rfl⟩
 have hX' : a.m < B64 ^ k0 := by rw [hk0]; exact hX
 have hY' : b.m < B64 ^ k0 := by rw [hk0]; exact hY
 have lx := up_lt hX' hl1
 have ly := up_lt hY' hl2
 have d2 := bdr b2
 have d0 := bdr (Below.refl ((w.alloc (.cells #[.bool a.s, .int .i64 a.e, .slice A n c] 26)).alloc (.cells #[.bool b.s, .int .i64 b.e, .slice B m d] 26)).heap.size ((w.alloc (.cells #[.bool a.s, .int .i64 a.e, .slice A n c] 26)).alloc (.cells #[.bool b.s, .int .i64 b.e, .slice B m d] 26)))
 have C1 := Lib.hid (top_any _ a.s a.e A n c a.m (ha.step d2) hX h1 h2)
 have K1d := Lib.hid (k1.step d0); have K2d := Lib.hid (k2.step d0); have B2d := Lib.hid d2
 have HA := Lib.hid ha; have HB := Lib.hid hb
 obtain ⟨X, hXv⟩ : ∃ X, X = a.m * 2 ^ (a.e - lowe a b).toNat := ⟨_, rfl⟩
 obtain ⟨Y, hYv⟩ : ∃ Y, Y = b.m * 2 ^ (b.e - lowe a b).toNat := ⟨_, rfl⟩
 rw [← hXv, ← hYv] at TT ⊢
 rw [← hXv] at lx
 rw [← hYv] at ly
 have AL := fun w4 (h : Below w.heap.size w w4) => Lib.hid (align_any w4 a.s b.s a.e b.e A B n c m d a.m b.m 64 (HA.out.step h) (HB.out.step h) hX hY (by omega) h1 h2 h3 h4)
 have TB := fun w4 (h : Below w.heap.size w w4) => Lib.hid (top_any w4 b.s b.e B m d b.m (HB.out.step h) hY h3 h4)
 have hll : min a.e b.e = lowe a b := rfl
 rw [hll, ← hXv, ← hYv] at AL
 have LX := Lib.hid lx; have LY := Lib.hid ly
 have S0 : ((w.alloc (.cells #[.bool a.s, .int .i64 a.e, .slice A n c] 26)).alloc (.cells #[.bool b.s, .int .i64 b.e, .slice B m d] 26)).cell? ⟨w.heap.size, 0, none⟩ = some (.bool a.s) ∧ ((w.alloc (.cells #[.bool a.s, .int .i64 a.e, .slice A n c] 26)).alloc (.cells #[.bool b.s, .int .i64 b.e, .slice B m d] 26)).cell? ⟨w.heap.size, 1, none⟩ = some (.int .i64 a.e) ∧ ((w.alloc (.cells #[.bool a.s, .int .i64 a.e, .slice A n c] 26)).alloc (.cells #[.bool b.s, .int .i64 b.e, .slice B m d] 26)).cell? ⟨w.heap.size, 2, none⟩ = some (.slice A n c) ∧ ((w.alloc (.cells #[.bool a.s, .int .i64 a.e, .slice A n c] 26)).alloc (.cells #[.bool b.s, .int .i64 b.e, .slice B m d] 26)).cell? ⟨w.heap.size + 1, 0, none⟩ = some (.bool b.s) ∧ ((w.alloc (.cells #[.bool a.s, .int .i64 a.e, .slice A n c] 26)).alloc (.cells #[.bool b.s, .int .i64 b.e, .slice B m d] 26)).cell? ⟨w.heap.size + 1, 1, none⟩ = some (.int .i64 b.e) ∧ ((w.alloc (.cells #[.bool a.s, .int .i64 a.e, .slice A n c] 26)).alloc (.cells #[.bool b.s, .int .i64 b.e, .slice B m d] 26)).cell? ⟨w.heap.size + 1, 2, none⟩ = some (.slice B m d) := ⟨k1.c0, k1.c1, k1.c2, k2.c0, k2.c1, k2.c2⟩
 clear k1 k2 b2 d2 d0 ha hb hX hY hX' hY' h1 h2 h3 h4 hl1 hl2 lx ly hXv hYv hll hz HA HB
 go_enter Tryz.func99, Tryz.ntmps99
 go_wp2_with fail
 generalize (w.alloc (.cells #[.bool a.s, .int .i64 a.e, .slice A n c] 26)).alloc (.cells #[.bool b.s, .int .i64 b.e, .slice B m d] 26) = w2 at *
 go_region_held3 (fun w' => w'.cell? ⟨w.heap.size, 0, none⟩ = some (.bool a.s) ∧ w'.cell? ⟨w.heap.size, 1, none⟩ = some (.int .i64 a.e) ∧ w'.cell? ⟨w.heap.size, 2, none⟩ = some (.slice A n c) ∧ w'.cell? ⟨w.heap.size + 1, 0, none⟩ = some (.bool b.s) ∧ w'.cell? ⟨w.heap.size + 1, 1, none⟩ = some (.int .i64 b.e) ∧ w'.cell? ⟨w.heap.size + 1, 2, none⟩ = some (.slice B m d))
  (first | exact S0 | assumption | go_keep)
  (first
   | (go_at_call 129
      refine C1.out.mono ?_
      rintro _ w3 ⟨rfl, b3⟩
      have K13 := Lib.hid (K1d.out.step b3); have K23 := Lib.hid (K2d.out.step b3); have B3 := Lib.hid (below_step B2d.out b3)
      have S3 : w3.cell? ⟨w.heap.size, 0, none⟩ = some (.bool a.s) ∧ w3.cell? ⟨w.heap.size, 1, none⟩ = some (.int .i64 a.e) ∧ w3.cell? ⟨w.heap.size, 2, none⟩ = some (.slice A n c) ∧ w3.cell? ⟨w.heap.size + 1, 0, none⟩ = some (.bool b.s) ∧ w3.cell? ⟨w.heap.size + 1, 1, none⟩ = some (.int .i64 b.e) ∧ w3.cell? ⟨w.heap.size + 1, 2, none⟩ = some (.slice B m d) := ⟨K13.out.c0, K13.out.c1, K13.out.c2, K23.out.c0, K23.out.c1, K23.out.c2⟩
      have C3 := TB w3 B3.out
      clear b3 C1)
   | (go_at_call 129
      refine C3.out.mono ?_
      rintro _ w4 ⟨rfl, b4⟩
      have K14 := Lib.hid (K13.out.step b4); have K24 := Lib.hid (K23.out.step b4); have B4 := Lib.hid (below_step B3.out b4)
      have S4 : w4.cell? ⟨w.heap.size, 0, none⟩ = some (.bool a.s) ∧ w4.cell? ⟨w.heap.size, 1, none⟩ = some (.int .i64 a.e) ∧ w4.cell? ⟨w.heap.size, 2, none⟩ = some (.slice A n c) ∧ w4.cell? ⟨w.heap.size + 1, 0, none⟩ = some (.bool b.s) ∧ w4.cell? ⟨w.heap.size + 1, 1, none⟩ = some (.int .i64 b.e) ∧ w4.cell? ⟨w.heap.size + 1, 2, none⟩ = some (.slice B m d) := ⟨K14.out.c0, K14.out.c1, K14.out.c2, K24.out.c0, K24.out.c1, K24.out.c2⟩
      have C4 := Lib.hid (compj_any w4 ((nbits a.m : Int) + a.e) ((nbits b.m : Int) + b.e))
      clear b4 C3)
   | (go_at_call 128
      refine C4.out.mono ?_
      rintro _ w5 ⟨rfl, rfl⟩
      clear C4))
 obtain ⟨cc, hcc⟩ : ∃ cc, cc = cmpi ((nbits a.m : Int) + a.e) ((nbits b.m : Int) + b.e) := ⟨_, rfl⟩
 rw [← hcc] at TT ⊢
 clear hcc
 by_cases hc : cc = 0
 ·have f0 : (cc != 0) = false := by simp [hc]
  have CA := AL w4 B4.out
  clear AL TB TT
  go_wp2_with fail
  refine CA.out.mono ?_
  rintro _ w5 ⟨A5, B5, n5, c5, m5, d5, rfl, i5, j5, b5⟩
  have CC := Lib.hid (cmp_is (i5.has LX.out) (j5.has LY.out) (by omega) (by omega))
  have B5' := Lib.hid (below_step B4.out b5)
  clear i5 j5 b5 CA
  go_wp2_with fail
  refine CC.out.mono ?_
  rintro _ w6 ⟨rfl, b6⟩
  have B6 := Lib.hid (below_step B5'.out b6)
  clear b6 CC
  go_wp2
  go_ret
  exact ⟨rfl, B6.out⟩
 ·have f0 : (cc != 0) = true := by simp [hc]
  have hv := Lib.hid (TT.out hc)
  clear AL TB TT
  go_wp2
  go_ret
  exact ⟨by rw [← hv.out]; rfl, B4.out⟩
theorem zero_sign (a : Q) : signq a = 0 ↔ a.m = 0 := by
 unfold signq
 by_cases h : a.m = 0
 ·simp [h]
 ·simp [h]; cases a.s <;> simp
theorem cmpi_zero {x y : Int} (h : cmpi x y = 0) : x = y := by
 unfold cmpi at h
 split at h
 ·omega
 ·split at h <;> omega
theorem sign_s {a b : Q} (ha : Canon a) (hb : Canon b) (h : signq a = signq b) : a.s = b.s := by
 by_cases h0 : a.m = 0
 ·have h1 := (zero_sign b).1 (h ▸ (zero_sign a).2 h0)
  rw [ha.1 h0, hb.1 h1]
 ·have h1 : b.m ≠ 0 := fun h1 => h0 ((zero_sign a).1 (h.trans ((zero_sign b).2 h1)))
  unfold signq at h
  rw [if_neg h0, if_neg h1] at h
  revert h
  cases a.s <;> cases b.s <;> simp
def anscmp (s : Bool) (e : Int) (n : Nat) (xs : List Nat) (s' : Bool) (e' : Int) (m : Nat) (ys : List Nat) : Int :=
 if okb s e n xs && okb s' e' m ys then cmpq ⟨s, nval B64 xs, e⟩ ⟨s', nval B64 ys, e'⟩ else 0
theorem ncmp_any (w : World) (s s' : Bool) (e e' : Int) (A B : Option Addr) (n c m d : Nat) (xs ys : List Nat) (ha : Arg w A n c xs) (hb : Arg w B m d ys) (hn : n ≤ 100000) (hm : m ≤ 100000) :
  Calls Tryz.prog 56 #[.agg #[.bool s, .int .i64 e, .slice A n c], .agg #[.bool s', .int .i64 e', .slice B m d]] w (IPost w (anscmp s e n xs s' e' m ys)) := by
 obtain ⟨k1, k2, b3⟩ := two_bx w s s' e e' A B n c m d
 have C1 := Lib.hid (nright_any _ s e A n c xs (ha.step b3) hn)
 have K1 := Lib.hid k1; have K2 := Lib.hid k2; have B3 := Lib.hid b3
 have HA := Lib.hid ha; have HB := Lib.hid hb
 clear k1 k2 b3 ha hb
 obtain ⟨r, hr⟩ : ∃ r, r = anscmp s e n xs s' e' m ys := ⟨_, rfl⟩
 rw [← hr]
 have HR := Lib.hid hr
 clear hr
 go_enter Tryz.func56, Tryz.ntmps56
 go_wp2_with fail
 refine C1.out.mono ?_
 rintro _ w4 ⟨rfl, b4⟩
 have K14 := Lib.hid (K1.out.step b4); have K24 := Lib.hid (K2.out.step b4); have B4 := Lib.hid (below_step B3.out b4)
 clear b4 C1 K1 K2 B3
 have x0 := K24.out.c0; have x1 := K24.out.c1; have x2 := K24.out.c2
 by_cases hok : okb s e n xs = true
 ·have C2 := Lib.hid (nright_any w4 s' e' B m d ys (HB.out.step B4.out) hm)
  rw [hok]
  go_wp2_with fail
  refine C2.out.mono ?_
  rintro _ w5 ⟨rfl, b5⟩
  have K15 := Lib.hid (K14.out.step b5); have K25 := Lib.hid (K24.out.step b5); have B5 := Lib.hid (below_step B4.out b5)
  clear b5 C2 K14 K24 B4 x0 x1 x2
  by_cases hok' : okb s' e' m ys = true
  ·have hr : r = cmpq ⟨s, nval B64 xs, e⟩ ⟨s', nval B64 ys, e'⟩ := by rw [HR.out]; unfold anscmp; rw [hok, hok']; rfl
   rw [hok']
   obtain ⟨i1, va⟩ := okb_true HA.out hok
   obtain ⟨i2, vb⟩ := okb_true HB.out hok'
   have d5 := bdr (Below.refl w5.heap.size w5)
   have C5 := Lib.hid (nsign_any w5.drew s e A n c xs (HA.out.step (below_step B5.out d5)) hn)
   have N5 := fun w6 (h : Below w.heap.size w w6) => Lib.hid (nsign_any w6 s' e' B m d ys (HB.out.step h) hm)
   rw [if_pos hok] at C5
   rw [if_pos hok'] at N5
   have K1d := Lib.hid (K15.out.step d5); have K2d := Lib.hid (K25.out.step d5); have B5d := Lib.hid (below_step B5.out d5)
   have S0 : w5.cell? ⟨w.heap.size, 0, none⟩ = some (.bool s) ∧ w5.cell? ⟨w.heap.size, 1, none⟩ = some (.int .i64 e) ∧ w5.cell? ⟨w.heap.size, 2, none⟩ = some (.slice A n c) ∧ w5.cell? ⟨w.heap.size + 1, 0, none⟩ = some (.bool s') ∧ w5.cell? ⟨w.heap.size + 1, 1, none⟩ = some (.int .i64 e') ∧ w5.cell? ⟨w.heap.size + 1, 2, none⟩ = some (.slice B m d) := ⟨K15.out.c0, K15.out.c1, K15.out.c2, K25.out.c0, K25.out.c1, K25.out.c2⟩
   obtain ⟨a, ha⟩ : ∃ a : Q, a = ⟨s, nval B64 xs, e⟩ := ⟨_, rfl⟩
   obtain ⟨b, hb⟩ : ∃ b : Q, b = ⟨s', nval B64 ys, e'⟩ := ⟨_, rfl⟩
   have I1 := Lib.hid (show Is w A n c a.m by rw [ha]; exact i1); have I2 := Lib.hid (show Is w B m d b.m by rw [hb]; exact i2)
   rw [← ha] at C5 va hr
   rw [← hb] at N5 vb hr
   have VA := Lib.hid va; have VB := Lib.hid vb; have HR2 := Lib.hid hr
   have sa : s = a.s := by rw [ha]
   have ea : e = a.e := by rw [ha]
   have sb : s' = b.s := by rw [hb]
   have eb : e' = b.e := by rw [hb]
   have SAB := Lib.hid (And.intro sa (And.intro ea (And.intro sb eb)))
   have CSZ := fun w6 (h : Below w.heap.size w w6) (hz : a.m = 0 ↔ b.m = 0) => Lib.hid (sizes_any w6 a b A B n c m d (I1.out.step h) (I2.out.step h) VA.out VB.out hz)
   have CSZ' := fun w6 (h : Below w.heap.size w w6) (hz : b.m = 0 ↔ a.m = 0) => Lib.hid (sizes_any w6 b a B A m d n c (I2.out.step h) (I1.out.step h) VB.out VA.out hz)
   rw [← sa, ← ea, ← sb, ← eb] at CSZ CSZ'
   clear i1 i2 va vb ha hb hr d5 HR K15 K25 B5 sa ea sb eb
   go_wp2_with fail
   go_region_held3 (fun w' => w'.cell? ⟨w.heap.size, 0, none⟩ = some (.bool s) ∧ w'.cell? ⟨w.heap.size, 1, none⟩ = some (.int .i64 e) ∧ w'.cell? ⟨w.heap.size, 2, none⟩ = some (.slice A n c) ∧ w'.cell? ⟨w.heap.size + 1, 0, none⟩ = some (.bool s') ∧ w'.cell? ⟨w.heap.size + 1, 1, none⟩ = some (.int .i64 e') ∧ w'.cell? ⟨w.heap.size + 1, 2, none⟩ = some (.slice B m d))
    (first | exact S0 | assumption | go_keep)
    (first
     | (go_at_call 98
        refine C5.out.mono ?_
        rintro _ w6 ⟨rfl, b6⟩
        have K16 := Lib.hid (K1d.out.step b6); have K26 := Lib.hid (K2d.out.step b6); have B6 := Lib.hid (below_step B5d.out b6)
        have S6' : w6.cell? ⟨w.heap.size, 0, none⟩ = some (.bool s) ∧ w6.cell? ⟨w.heap.size, 1, none⟩ = some (.int .i64 e) ∧ w6.cell? ⟨w.heap.size, 2, none⟩ = some (.slice A n c) ∧ w6.cell? ⟨w.heap.size + 1, 0, none⟩ = some (.bool s') ∧ w6.cell? ⟨w.heap.size + 1, 1, none⟩ = some (.int .i64 e') ∧ w6.cell? ⟨w.heap.size + 1, 2, none⟩ = some (.slice B m d) := ⟨K16.out.c0, K16.out.c1, K16.out.c2, K26.out.c0, K26.out.c1, K26.out.c2⟩
        have C6 := N5 w6 B6.out
        clear b6 C5)
     | (go_at_call 98
        refine C6.out.mono ?_
        rintro _ w7 ⟨rfl, b7⟩
        have K17 := Lib.hid (K16.out.step b7); have K27 := Lib.hid (K26.out.step b7); have B7 := Lib.hid (below_step B6.out b7)
        have S7 : w7.cell? ⟨w.heap.size, 0, none⟩ = some (.bool s) ∧ w7.cell? ⟨w.heap.size, 1, none⟩ = some (.int .i64 e) ∧ w7.cell? ⟨w.heap.size, 2, none⟩ = some (.slice A n c) ∧ w7.cell? ⟨w.heap.size + 1, 0, none⟩ = some (.bool s') ∧ w7.cell? ⟨w.heap.size + 1, 1, none⟩ = some (.int .i64 e') ∧ w7.cell? ⟨w.heap.size + 1, 2, none⟩ = some (.slice B m d) := ⟨K17.out.c0, K17.out.c1, K17.out.c2, K27.out.c0, K27.out.c1, K27.out.c2⟩
        have C7 := Lib.hid (compi_any w7 (signq a) (signq b))
        clear b7 C6)
     | (go_at_call 97
        refine C7.out.mono ?_
        rintro _ w8 ⟨rfl, rfl⟩
        clear C7))
   have y0 := K17.out.c0; have y1 := K17.out.c1; have y2 := K17.out.c2
   have x0 := K27.out.c0; have x1 := K27.out.c1; have x2 := K27.out.c2
   have TT := Lib.hid (cmpq_signs (a := a) (b := b)); have TZ := Lib.hid (cmpi_zero (x := signq a) (y := signq b))
   clear S0 S6' S7 K16 K26 K1d K2d B5d B6
   obtain ⟨cc, hcc⟩ : ∃ cc, cc = cmpi (signq a) (signq b) := ⟨_, rfl⟩
   rw [← hcc] at TT TZ ⊢
   clear hcc
   by_cases hc : cc = 0
   ·have f0 : (cc != 0) = false := by simp [hc]
    have hsg := TZ.out hc
    have hz : a.m = 0 ↔ b.m = 0 := by rw [← zero_sign, ← zero_sign, hsg]
    have hss := sign_s VA.out.1 VB.out.1 hsg
    obtain ⟨sa, ea, sb, eb⟩ := SAB.out
    have e1 : s = s' := by rw [sa, sb, hss]
    cases s
    ·have hv := Lib.hid (HR2.out.trans (cmpq_pos (a := a) (b := b) sa.symm (by rw [← hss]; exact sa.symm)))
     have CA := CSZ w7 B7.out hz
     rw [← ea, ← eb] at hv
     rw [← hv.out] at CA
     clear CSZ CSZ' TT TZ N5 hz hss hsg sa ea sb eb e1
     go_wp2_with fail
     refine CA.out.mono ?_
     rintro _ w8 ⟨rfl, b8⟩
     have B8 := Lib.hid (below_step B7.out b8)
     clear b8 CA
     go_wp2
     go_ret
     exact ⟨rfl, B8.out⟩
    ·have hv := Lib.hid (HR2.out.trans (cmpq_neg (a := a) (b := b) sa.symm (by rw [← hss]; exact sa.symm)))
     have CA := CSZ' w7 B7.out hz.symm
     rw [← ea, ← eb] at hv
     rw [← hv.out] at CA
     clear CSZ CSZ' TT TZ N5 hz hss hsg sa ea sb eb e1
     go_wp2_with fail
     refine CA.out.mono ?_
     rintro _ w8 ⟨rfl, b8⟩
     have B8 := Lib.hid (below_step B7.out b8)
     clear b8 CA
     go_wp2
     go_ret
     exact ⟨rfl, B8.out⟩
   ·have f0 : (cc != 0) = true := by simp [hc]
    have hv := Lib.hid (HR2.out.trans (TT.out hc))
    clear CSZ CSZ' TT TZ N5
    go_wp2
    go_ret
    exact ⟨by rw [hv.out]; rfl, B7.out⟩
  ·have hr : r = 0 := by rw [HR.out]; unfold anscmp; rw [if_neg (by simp [hok'])]
   have hf : okb s' e' m ys = false := by simpa using hok'
   have HR2 := Lib.hid hr
   clear hr
   rw [hf]
   go_wp2
   go_ret
   exact ⟨by rw [HR2.out]; rfl, B5.out⟩
 ·have hr : r = 0 := by rw [HR.out]; unfold anscmp; rw [if_neg (by simp [hok])]
  have hf : okb s e n xs = false := by simpa using hok
  have HR2 := Lib.hid hr
  clear hr
  rw [hf]
  go_wp2
  go_ret
  exact ⟨by rw [HR2.out]; rfl, B4.out⟩
def anssign (s : Bool) (e : Int) (n : Nat) (xs : List Nat) (t : Bool) : Q := if okb s e n xs then (if nval B64 xs = 0 then q0 else ⟨t, nval B64 xs, e⟩) else q0
theorem withsign_any (w : World) (s t : Bool) (e : Int) (A : Option Addr) (n c : Nat) (xs : List Nat) (ha : Arg w A n c xs) (hn : n ≤ 100000) :
  Calls Tryz.prog 143 #[.agg #[.bool s, .int .i64 e, .slice A n c], .bool t] w (NumPost1 w (anssign s e n xs t)) := by
 obtain ⟨k1, k2, b3⟩ := one_bx w s e A n c
 have C1 := Lib.hid (nsign_any _ s e A n c xs (ha.step b3) hn)
 have K1 := Lib.hid k1; have K2 := Lib.hid k2; have B3 := Lib.hid b3
 have HA := Lib.hid ha
 clear k1 k2 b3 ha
 obtain ⟨r, hr⟩ : ∃ r, r = anssign s e n xs t := ⟨_, rfl⟩
 rw [← hr]
 have HR := Lib.hid hr
 clear hr
 by_cases hz : (if okb s e n xs = true then signq ⟨s, nval B64 xs, e⟩ else 0) = 0
 ·have hr : r = q0 := by
   rw [HR.out]; unfold anssign
   by_cases hok : okb s e n xs = true
   ·rw [if_pos hok] at hz ⊢
    rw [if_pos ((zero_sign _).1 hz)]
   ·rw [if_neg hok]
  rw [hz] at C1
  have HR2 := Lib.hid hr
  clear hr hz
  go_enter Tryz.func143, Tryz.ntmps143
  go_wp2_with fail
  refine C1.out.mono ?_
  rintro _ w4 ⟨rfl, b4⟩
  have K24 := Lib.hid (K2.out.step b4); have B4 := Lib.hid (below_step B3.out b4)
  clear b4 C1 K1 K2 B3
  have r0 := K24.out.c0; have r1 := K24.out.c1; have r2 := K24.out.c2
  have z0 := K24.out.fz 0; have z1 := K24.out.fz 1; have z2 := K24.out.fz 2
  go_wp2
  obtain ⟨kr, nr, br⟩ := ret_zero B4.out (Nat.le_add_right w.heap.size 1) K24.out
  refine bodyPost_ret (v := .agg #[.bool false, .int .i64 0, .slice none 0 0]) ?_ rfl (by rw [HR2.out]; exact ⟨_, rfl, nr, br⟩)
  have q0 := kr.c0; have q1 := kr.c1; have q2 := kr.c2
  unfold put3 at q0 q1 q2
  simp [results, Tryz.results143, go_sem, q0, q1, q2]
 ·have hok : okb s e n xs = true := by
   by_cases h : okb s e n xs = true
   ·exact h
   ·rw [if_neg h] at hz; exact absurd rfl hz
  rw [if_pos hok] at hz C1
  have hm : nval B64 xs ≠ 0 := fun h => hz ((zero_sign _).2 h)
  have hr : r = ⟨t, nval B64 xs, e⟩ := by rw [HR.out]; unfold anssign; rw [if_pos hok, if_neg hm]
  obtain ⟨i1, -, f1, f2, f3⟩ := okb_true HA.out hok
  have I1 := Lib.hid i1; have HR2 := Lib.hid hr
  generalize signq ⟨s, nval B64 xs, e⟩ = sg at *
  have f0 : (sg == 0) = false := by simpa using hz
  clear i1 hr hm f1 f2 f3 hz HR
  go_enter Tryz.func143, Tryz.ntmps143
  go_wp2_with fail
  refine C1.out.mono ?_
  rintro _ w4 ⟨rfl, b4⟩
  have K14 := Lib.hid (K1.out.step b4); have K24 := Lib.hid (K2.out.step b4); have B4 := Lib.hid (below_step B3.out b4)
  clear b4 C1 K1 K2 B3
  have d4 := bdr (Below.refl w4.heap.size w4)
  have K1d := Lib.hid (K14.out.step d4); have K2d := Lib.hid (K24.out.step d4); have B4d := Lib.hid (below_step B4.out d4)
  have C4 := Lib.hid (trim_any w4.drew 0 _ A n c _ (I1.out.step B4d.out) (small_digs B64_two _) (by omega) (Nat.le_refl _))
  rw [nval_digs B64_two] at C4
  have S0 : w4.cell? ⟨w.heap.size, 1, none⟩ = some (.int .i64 e) ∧ w4.cell? ⟨w.heap.size, 2, none⟩ = some (.slice A n c) := ⟨K14.out.c1, K14.out.c2⟩
  clear d4 K14 K24 B4
  go_wp2_with fail
  go_region_held3 (fun w' => w'.cell? ⟨w.heap.size, 1, none⟩ = some (.int .i64 e) ∧ w'.cell? ⟨w.heap.size, 2, none⟩ = some (.slice A n c))
   (first | exact S0 | assumption | go_keep)
   (first
    | (go_at_call 156
       refine C4.out.mono ?_
       rintro _ w6 ⟨A6, n6, c6, rfl, h6, b6, _⟩
       have K16 := Lib.hid (K1d.out.step b6); have K26 := Lib.hid (K2d.out.step b6)
       have S6 : w6.cell? ⟨w.heap.size, 1, none⟩ = some (.int .i64 e) ∧ w6.cell? ⟨w.heap.size, 2, none⟩ = some (.slice A n c) := ⟨K16.out.c1, K16.out.c2⟩
       have r0 := K26.out.c0; have r1 := K26.out.c1; have r2 := K26.out.c2
       have z0 := K26.out.fz 0; have z1 := K26.out.fz 1; have z2 := K26.out.fz 2
       have F := fun (h i : Nat) (hn : h ≠ w.heap.size + 1) => put3_far w6 (w.heap.size + 1) h i (.bool t) (.int .i64 e) (.slice A6 n6 c6) hn
       have S8 := And.intro ((F w.heap.size 1 (by omega)).trans K16.out.c1) ((F w.heap.size 2 (by omega)).trans K16.out.c2)
       clear F
       have RN := Lib.hid (ret_num (q := ⟨t, nval B64 xs, e⟩) B4d.out (Nat.le_add_right w.heap.size 1) K26.out K2d.out.lt b6 h6)
       clear h6 b6))
  go_wp2
  obtain ⟨kr, nr, br⟩ := RN.out
  refine bodyPost_ret (v := .agg #[.bool t, .int .i64 e, .slice A6 n6 c6]) ?_ rfl (by rw [HR2.out]; exact ⟨_, rfl, nr, br⟩)
  have q0 := kr.c0; have q1 := kr.c1; have q2 := kr.c2
  unfold put3 at q0 q1 q2
  simp [results, Tryz.results143, go_sem, q0, q1, q2]
theorem nabs_any (w : World) (s : Bool) (e : Int) (A : Option Addr) (n c : Nat) (xs : List Nat) (ha : Arg w A n c xs) (hn : n ≤ 100000) :
  Calls Tryz.prog 125 #[.agg #[.bool s, .int .i64 e, .slice A n c]] w (NumPost1 w (anssign s e n xs false)) := by
 obtain ⟨k1, k2, b3⟩ := one_bx w s e A n c
 have C1 := Lib.hid (withsign_any _ s false e A n c xs (ha.step b3) hn)
 have K1 := Lib.hid k1; have K2 := Lib.hid k2; have B3 := Lib.hid b3
 clear k1 k2 b3 ha
 generalize anssign s e n xs false = r at *
 go_enter Tryz.func125, Tryz.ntmps125
 go_wp2_with fail
 refine C1.out.mono ?_
 rintro _ w6 ⟨_, rfl, ⟨A6, n6, c6, rfl, h6⟩, b6⟩
 have K26 := Lib.hid (K2.out.step b6)
 have r0 := K26.out.c0; have r1 := K26.out.c1; have r2 := K26.out.c2
 have z0 := K26.out.fz 0; have z1 := K26.out.fz 1; have z2 := K26.out.fz 2
 have RN := Lib.hid (ret_num B3.out (Nat.le_add_right w.heap.size 1) K26.out K2.out.lt b6 h6)
 clear h6 b6
 go_wp2
 obtain ⟨kr, nr, br⟩ := RN.out
 refine bodyPost_ret (v := .agg #[.bool r.s, .int .i64 r.e, .slice A6 n6 c6]) ?_ rfl ⟨_, rfl, nr, br⟩
 have q0 := kr.c0; have q1 := kr.c1; have q2 := kr.c2
 unfold put3 at q0 q1 q2
 simp [results, Tryz.results125, go_sem, q0, q1, q2]
end Go.Proofs.YtobcbhppmgnioaaGreatDoor
