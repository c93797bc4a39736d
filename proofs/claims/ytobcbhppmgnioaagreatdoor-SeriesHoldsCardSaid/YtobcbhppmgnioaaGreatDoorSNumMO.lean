/- fathomlineref1: Scale, Turned, Sign, By. fathomlineref1: By, Plus. fathomlineref1.Plus. -/
import Derived.Test.YtobcbhppmgnioaaGreatDoorSNumJL
namespace Go.Proofs.YtobcbhppmgnioaaGreatDoor
set_option maxHeartbeats 4000000
set_option maxRecDepth 100000
open Go.RowKit Nx
theorem vals_bx (w : World) (s s' : Bool) (e e' : Int) (A B : Option Addr) (n c m d : Nat) :
  Vx ((w.alloc (.cells #[.bool s, .slice A n c, .int .i64 e] 56)).alloc (.cells #[.bool s', .slice B m d, .int .i64 e'] 56)) w.heap.size s A n c e ∧
  Vx ((w.alloc (.cells #[.bool s, .slice A n c, .int .i64 e] 56)).alloc (.cells #[.bool s', .slice B m d, .int .i64 e'] 56)) (w.heap.size + 1) s' B m d e' ∧
  Below w.heap.size w ((w.alloc (.cells #[.bool s, .slice A n c, .int .i64 e] 56)).alloc (.cells #[.bool s', .slice B m d, .int .i64 e'] 56)) := by
 refine ⟨(Vx.new w s A n c e).step (one_below _ _), ?_, below_step (one_below w _) (one_below _ _)⟩
 have := Vx.new (w.alloc (.cells #[.bool s, .slice A n c, .int .i64 e] 56)) s' B m d e'
 rwa [show (w.alloc (.cells #[.bool s, .slice A n c, .int .i64 e] 56)).heap.size = w.heap.size + 1 by simp] at this
theorem vals3_bx (w : World) (s s' : Bool) (e e' : Int) (A B : Option Addr) (n c m d : Nat) :
  Vx (((w.alloc (.cells #[.bool s, .slice A n c, .int .i64 e] 56)).alloc (.cells #[.bool s', .slice B m d, .int .i64 e'] 56)).alloc (.cells #[.bool false, .slice none 0 0, .int .i64 0] 56)) w.heap.size s A n c e ∧
  Vx (((w.alloc (.cells #[.bool s, .slice A n c, .int .i64 e] 56)).alloc (.cells #[.bool s', .slice B m d, .int .i64 e'] 56)).alloc (.cells #[.bool false, .slice none 0 0, .int .i64 0] 56)) (w.heap.size + 1) s' B m d e' ∧
  Vx (((w.alloc (.cells #[.bool s, .slice A n c, .int .i64 e] 56)).alloc (.cells #[.bool s', .slice B m d, .int .i64 e'] 56)).alloc (.cells #[.bool false, .slice none 0 0, .int .i64 0] 56)) (w.heap.size + 1 + 1) false none 0 0 0 ∧
  Below w.heap.size w (((w.alloc (.cells #[.bool s, .slice A n c, .int .i64 e] 56)).alloc (.cells #[.bool s', .slice B m d, .int .i64 e'] 56)).alloc (.cells #[.bool false, .slice none 0 0, .int .i64 0] 56)) := by
 obtain ⟨k1, k2, b2⟩ := vals_bx w s s' e e' A B n c m d
 refine ⟨k1.step (one_below _ _), k2.step (one_below _ _), ?_, below_step b2 (one_below _ _)⟩
 have := Vx.new ((w.alloc (.cells #[.bool s, .slice A n c, .int .i64 e] 56)).alloc (.cells #[.bool s', .slice B m d, .int .i64 e'] 56)) false none 0 0 0
 rwa [show ((w.alloc (.cells #[.bool s, .slice A n c, .int .i64 e] 56)).alloc (.cells #[.bool s', .slice B m d, .int .i64 e'] 56)).heap.size = w.heap.size + 1 + 1 by simp] at this
theorem vsign_any (w : World) (q : Q) (A : Option Addr) (n c : Nat) (ha : Dg w A n c q.m) :
  Calls Tryz.prog 45 #[.agg #[.bool q.s, .slice A n c, .int .i64 q.e]] w (IPost w (signq q)) := by
 have hz := dg_zero ha
 obtain ⟨s, M, e⟩ := q
 simp only at *
 have hv : signq ⟨s, M, e⟩ = if n = 0 then 0 else if s then -1 else 1 := by
  unfold signq
  by_cases h : n = 0
  ·rw [if_pos h, if_pos (hz.1 h)]
  ·rw [if_neg h, if_neg (fun h' => h (hz.2 h'))]
 rw [hv]
 clear hv hz ha
 by_cases h : n = 0
 ·subst h
  go_enter Tryz.func45, Tryz.ntmps45
  go_wp2
  go_ret
  exact ⟨rfl, one_below _ _⟩
 ·have f0 : ((n : Int) == 0) = false := by simp; omega
  rw [if_neg h]
  go_enter Tryz.func45, Tryz.ntmps45
  cases s
  ·go_wp2
   go_ret
   exact ⟨rfl, one_below _ _⟩
  ·go_wp2
   go_ret
   exact ⟨rfl, one_below _ _⟩
theorem turned_any (w : World) (q : Q) (A : Option Addr) (n c : Nat) (hq : Canon q) (ha : Dg w A n c q.m) :
  Calls Tryz.prog 132 #[.agg #[.bool q.s, .slice A n c, .int .i64 q.e]] w (fun e w' => e = .returned (.agg #[.bool q.neg.s, .slice A n c, .int .i64 q.neg.e]) ∧ Below w.heap.size w w') := by
 have hz := dg_zero ha
 have hneg : q.neg = if n = 0 then q else ⟨!q.s, q.m, q.e⟩ := by
  unfold Q.neg
  by_cases h : n = 0
  ·rw [if_pos h, if_pos (hz.1 h)]; exact (hq.1 (hz.1 h)).symm
  ·rw [if_neg h, if_neg (fun h' => h (hz.2 h'))]
 rw [hneg]
 obtain ⟨s, M, e⟩ := q
 simp only at *
 clear hneg hz ha hq
 have b0 := one_below w (.cells #[.bool s, .slice A n c, .int .i64 e] 56)
 by_cases h : n = 0
 ·subst h
  go_enter Tryz.func132, Tryz.ntmps132
  go_wp2
  exact bodyPost_ret (v := .agg #[.bool s, .slice A 0 c, .int .i64 e]) (by simp [results, Tryz.results132, go_sem]) rfl ⟨rfl, below_step (one_below _ _) (one_below _ _)⟩
 ·rw [if_neg h]
  have f0 : (0 : Int) < (n : Int) := by omega
  go_enter Tryz.func132, Tryz.ntmps132
  go_wp2
  exact bodyPost_ret (v := .agg #[.bool !s, .slice A n c, .int .i64 e]) (by simp [results, Tryz.results132, go_sem]) rfl ⟨rfl, below_step (one_below _ _) (one_below _ _)⟩
theorem ret_vzero {w W : World} {g H : Nat} {s : Bool} {e : Int} {A : Option Addr} {n c : Nat} (hB : Below w.heap.size w W) (hg : w.heap.size ≤ g) (hk : Vx W g s A n c e) :
  Vx (put3 W g (.bool false) (.slice none 0 0) (.int .i64 0)) g false none 0 0 0 ∧ ValV H w.heap.size (put3 W g (.bool false) (.slice none 0 0) (.int .i64 0)) (.agg #[.bool false, .slice none 0 0, .int .i64 0]) q0 ∧
   Below w.heap.size w (put3 W g (.bool false) (.slice none 0 0) (.int .i64 0)) := ⟨Blk.putted hk _ _ _, valv0 _ _ _, below_put3 hB hg _ _ _⟩
theorem times_zero {a b : Q} (ha : Canon a) (hb : Canon b) (h : a.m = 0 ∨ b.m = 0) : times a b = q0 := by
 unfold times
 rcases h with h | h
 ·rw [ha.1 h, show q0.z = 0 from rfl, Int.zero_mul]; exact ofz_zero _
 ·rw [hb.1 h, show q0.z = 0 from rfl, Int.mul_zero]; exact ofz_zero _
theorem times_odd {s s' : Bool} {M M' : Nat} {e e' : Int} (ha : Canon ⟨s, M, e⟩) (hb : Canon ⟨s', M', e'⟩) (h1 : M ≠ 0) (h2 : M' ≠ 0) : times ⟨s, M, e⟩ ⟨s', M', e'⟩ = ⟨s != s', M * M', e + e'⟩ := by
 rw [← nm_times]
 have ho : M * M' % 2 = 1 := by
  have a1 : M % 2 = 1 := ha.2 h1
  have a2 : M' % 2 = 1 := hb.2 h2
  rw [Nat.mul_mod, a1, a2]
 have h3 : M * M' ≠ 0 := fun h => by rw [h] at ho; omega
 unfold nm
 rw [if_neg h3, ntz_odd ho]
 apply Q.ext' <;> simp
theorem by_any (w : World) (a b : Q) (A B : Option Addr) (n c m d k l : Nat) (va : Canon a) (vb : Canon b) (ha : Dg w A n c a.m) (hb : Dg w B m d b.m) (hX : a.m < B64 ^ k) (hY : b.m < B64 ^ l) (hk : k ≤ 10000) (hl : l ≤ 10000)
  (h1 : -100000000 ≤ a.e) (h2 : a.e ≤ 100000000) (h3 : -100000000 ≤ b.e) (h4 : b.e ≤ 100000000) :
  Calls Tryz.prog 24 #[.agg #[.bool a.s, .slice A n c, .int .i64 a.e], .agg #[.bool b.s, .slice B m d, .int .i64 b.e]] w (ValPost w 0 (times a b)) := by
 have z1 := dg_zero ha
 have z2 := dg_zero hb
 obtain ⟨s, M, e⟩ := a
 obtain ⟨s', M', e'⟩ := b
 simp only at *
 obtain ⟨k1, k2, k3, b3⟩ := vals3_bx w s s' e e' A B n c m d
 have d0 := bdr (Below.refl (((w.alloc (.cells #[.bool s, .slice A n c, .int .i64 e] 56)).alloc (.cells #[.bool s', .slice B m d, .int .i64 e'] 56)).alloc (.cells #[.bool false, .slice none 0 0, .int .i64 0] 56)).heap.size (((w.alloc (.cells #[.bool s, .slice A n c, .int .i64 e] 56)).alloc (.cells #[.bool s', .slice B m d, .int .i64 e'] 56)).alloc (.cells #[.bool false, .slice none 0 0, .int .i64 0] 56)))
 have d3 := below_step b3 d0
 have CM := Lib.hid (mul32_any _ 0 _ 0 _ A B n c m d _ _ (ha.step d3) (hb.step d3) (small_digs B32_two _) (small_digs B32_two _) (by have := ha.len hX; omega) (by have := hb.len hY; omega) (Nat.le_refl _) (Nat.le_refl _))
 rw [nval_digs B32_two, nval_digs B32_two] at CM
 have K1d := Lib.hid (k1.step d0); have K2d := Lib.hid (k2.step d0); have K3d := Lib.hid (k3.step d0); have B3d := Lib.hid d3; have B3 := Lib.hid b3
 have S0 := And.intro k1.c0 (And.intro k1.c1 (And.intro k1.c2 (And.intro k2.c0 (And.intro k2.c1 k2.c2))))
 have g1 := i64_add e e' (by omega) (by omega)
 clear k1 k2 k3 b3 d0 d3 ha hb hX hY
 by_cases hz : M = 0 ∨ M' = 0
 ·have hr := Lib.hid (times_zero va vb hz)
  have hz' : n = 0 ∨ m = 0 := hz.elim (fun h => .inl (z1.2 h)) (fun h => .inr (z2.2 h))
  clear S0 K1d K2d K3d B3d CM z1 z2 va vb hz
  go_enter Tryz.func24, Tryz.ntmps24
  by_cases hn : n = 0
  ·subst hn
   go_wp2
   refine bodyPost_ret (v := .agg #[.bool false, .slice none 0 0, .int .i64 0]) (by simp [results, Tryz.results24, go_sem]) rfl (by rw [hr.out]; exact ⟨_, rfl, valv0 _ _ _, B3.out⟩)
  ·have hm : m = 0 := by omega
   have f0 : ((n : Int) == 0) = false := by simp; omega
   subst hm
   go_wp2
   refine bodyPost_ret (v := .agg #[.bool false, .slice none 0 0, .int .i64 0]) (by simp [results, Tryz.results24, go_sem]) rfl (by rw [hr.out]; exact ⟨_, rfl, valv0 _ _ _, B3.out⟩)
 ·have hM : M ≠ 0 := fun h => hz (.inl h)
  have hM' : M' ≠ 0 := fun h => hz (.inr h)
  have hn : n ≠ 0 := fun h => hM (z1.1 h)
  have hm : m ≠ 0 := fun h => hM' (z2.1 h)
  have f0 : ((n : Int) == 0) = false := by simp; omega
  have f1 : ((m : Int) == 0) = false := by simp; omega
  have hr := Lib.hid (times_odd va vb hM hM')
  clear z1 z2 va vb hz hM hM'
  go_enter Tryz.func24, Tryz.ntmps24
  go_wp2_with fail
  generalize (((w.alloc (.cells #[.bool s, .slice A n c, .int .i64 e] 56)).alloc (.cells #[.bool s', .slice B m d, .int .i64 e'] 56)).alloc (.cells #[.bool false, .slice none 0 0, .int .i64 0] 56)) = w2 at *
  go_region_held3 (fun w' => w'.cell? ⟨w.heap.size, 0, none⟩ = some (.bool s) ∧ w'.cell? ⟨w.heap.size, 1, none⟩ = some (.slice A n c) ∧ w'.cell? ⟨w.heap.size, 2, none⟩ = some (.int .i64 e) ∧ w'.cell? ⟨w.heap.size + 1, 0, none⟩ = some (.bool s') ∧ w'.cell? ⟨w.heap.size + 1, 1, none⟩ = some (.slice B m d) ∧ w'.cell? ⟨w.heap.size + 1, 2, none⟩ = some (.int .i64 e'))
    (first | exact S0 | assumption)
    (first
     | (go_at_call 62
        refine CM.out.mono ?_
        rintro _ w6 ⟨A6, n6, c6, rfl, h6, b6⟩
        have K16 := Lib.hid (K1d.out.step b6); have K26 := Lib.hid (K2d.out.step b6); have K36 := Lib.hid (K3d.out.step b6); have B6 := Lib.hid (below_step B3d.out b6)
        have S6 : w6.cell? ⟨w.heap.size, 0, none⟩ = some (.bool s) ∧ w6.cell? ⟨w.heap.size, 1, none⟩ = some (.slice A n c) ∧ w6.cell? ⟨w.heap.size, 2, none⟩ = some (.int .i64 e) ∧ w6.cell? ⟨w.heap.size + 1, 0, none⟩ = some (.bool s') ∧ w6.cell? ⟨w.heap.size + 1, 1, none⟩ = some (.slice B m d) ∧ w6.cell? ⟨w.heap.size + 1, 2, none⟩ = some (.int .i64 e') := ⟨K16.out.c0, K16.out.c1, K16.out.c2, K26.out.c0, K26.out.c1, K26.out.c2⟩
        have r0 := K36.out.c0; have r1 := K36.out.c1; have r2 := K36.out.c2
        have z0 := K36.out.fz 0; have z1 := K36.out.fz 1; have z2 := K36.out.fz 2
        have F := fun (h i : Nat) (hn : h ≠ w.heap.size + 1 + 1) => put3_far w6 (w.heap.size + 1 + 1) h i (.bool (!(s == s'))) (.slice A6 n6 c6) (.int .i64 (e + e')) hn
        have S9 := And.intro ((F w.heap.size 0 (by omega)).trans K16.out.c0) (And.intro ((F w.heap.size 1 (by omega)).trans K16.out.c1) (And.intro ((F w.heap.size 2 (by omega)).trans K16.out.c2) (And.intro ((F (w.heap.size + 1) 0 (by omega)).trans K26.out.c0) (And.intro ((F (w.heap.size + 1) 1 (by omega)).trans K26.out.c1) ((F (w.heap.size + 1) 2 (by omega)).trans K26.out.c2)))))
        clear F
        have RN := Lib.hid (ret_val (g := w.heap.size + 1 + 1) (q := ⟨!(s == s'), M * M', e + e'⟩) B6.out (by omega) K36.out (Nat.zero_le _) K3d.out.lt (h6.less (Nat.zero_le _)) (rd_new h6))
        clear h6 b6))
  all_goals
   go_wp2
   obtain ⟨kr, nr, br⟩ := RN.out
   refine bodyPost_ret (v := .agg #[.bool (!(s == s')), .slice A6 n6 c6, .int .i64 (e + e')]) ?_ rfl (by rw [hr.out]; exact ⟨_, rfl, nr, br⟩)
   have u0 := kr.c0; have u1 := kr.c1; have u2 := kr.c2
   unfold put3 at u0 u1 u2
   clear S9 RN hr kr nr br
   generalize (!(s == s')) = sx at *
   simp [results, Tryz.results24, go_sem, u0, u1, u2]
theorem ValV.place {H L : Nat} {w : World} {v : Value} {q : Q} (h : ValV H L w v q) {A : Option Addr} {n c : Nat} (hv : v = .agg #[.bool q.s, .slice A n c, .int .i64 q.e]) : ∀ ad, 0 < n → A = some ad → ad.block < H ∨ L ≤ ad.block := by
 obtain ⟨A', n', c', e, _, h2⟩ := h
 rw [hv] at e
 injection e with e
 have e : [Value.bool q.s, .slice A n c, .int .i64 q.e] = [.bool q.s, .slice A' n' c', .int .i64 q.e] := congrArg Array.toList e
 injection e with _ e
 injection e with e _
 injection e with e1 e2 e3
 subst e1; subst e2; exact h2
theorem left_is {w : World} {A : Option Addr} {n c X k : Nat} (t : Int) (ha : Dg w A n c X) (hX : X < B64 ^ k) (hk : k ≤ 100000) (h0 : 0 ≤ t) (h1 : t ≤ 1200000) :
  Calls Tryz.prog 57 #[.slice A n c, .int .i64 t] w (DigPost w (X * 2 ^ t.toNat)) := by
 obtain ⟨b, rfl⟩ : ∃ b : Nat, t = (b : Int) := ⟨t.toNat, by omega⟩
 have := left32_any w 0 _ A n c _ _ b _ ha (small_digs B32_two _) (by have := ha.len hX; omega) (Nat.le_refl _) (by omega) rfl rfl
 rw [nval_digs B32_two] at this
 exact this
theorem lowe_zero {a b : Q} (hb : Canon b) (ha : a = q0) : plus a b = b := by
 subst ha
 have hl : lowe q0 b ≤ b.e := by unfold lowe; omega
 unfold plus
 rw [up_zero (q := q0) rfl, Int.zero_add]
 have e1 : lowe q0 b = b.e - ((b.e - lowe q0 b).toNat : Nat) := by omega
 unfold Q.up
 conv => lhs; rhs; rw [e1]
 rw [ofz_shift, ofz_z hb]
theorem plus_comm (a b : Q) : plus a b = plus b a := by
 have : lowe a b = lowe b a := by unfold lowe; omega
 unfold plus
 rw [this, Int.add_comm]
theorem plus_none {a b : Q} {X Y : Nat} (hX : X = a.m * 2 ^ (a.e - lowe a b).toNat) (hY : Y = b.m * 2 ^ (b.e - lowe a b).toNat) (h : a.s ≠ b.s) (he : X = Y) : plus a b = q0 := by
 rw [← plus_left hX hY h (by omega), show X - Y = 0 by omega, nm_zero]
theorem up_lt3 {X k : Nat} {t : Nat} (h : X < B64 ^ k) (ht : t ≤ 1100000) : X * 2 ^ t < B64 ^ (k + 17200) := by
 obtain ⟨E, hE⟩ : ∃ E : Nat, E = 17200 := ⟨_, rfl⟩
 rw [← hE]
 have h1 : 2 ^ t ≤ B64 ^ E := by rw [pow64]; exact Nat.pow_le_pow_right (by omega) (by omega)
 rw [Nat.pow_add]
 exact Nat.lt_of_lt_of_le (Nat.mul_lt_mul_of_pos_right h (Nat.pow_pos (by omega))) (Nat.mul_le_mul_left _ h1)
theorem plus_any (w : World) (H : Nat) (a b : Q) (A B : Option Addr) (n c m d k : Nat) (va : Canon a) (vb : Canon b) (ha : Dg w A n c a.m) (hb : Dg w B m d b.m)
  (pa : ∀ ad, 0 < n → A = some ad → ad.block < H ∨ w.heap.size ≤ ad.block) (pb : ∀ ad, 0 < m → B = some ad → ad.block < H ∨ w.heap.size ≤ ad.block) (hH : H ≤ w.heap.size)
  (hX : a.m < B64 ^ k) (hY : b.m < B64 ^ k) (hk : k ≤ 3000) (h1 : -550000 ≤ a.e) (h2 : a.e ≤ 550000) (h3 : -550000 ≤ b.e) (h4 : b.e ≤ 550000) :
  Calls Tryz.prog 23 #[.agg #[.bool a.s, .slice A n c, .int .i64 a.e], .agg #[.bool b.s, .slice B m d, .int .i64 b.e]] w (ValPost w H (plus a b)) := by
 have z1 := dg_zero ha
 have z2 := dg_zero hb
 obtain ⟨r, hr⟩ : ∃ r, r = plus a b := ⟨_, rfl⟩
 rw [← hr]
 obtain ⟨k1, k2, k3, b3⟩ := vals3_bx w a.s b.s a.e b.e A B n c m d
 have K1 := Lib.hid k1; have K2 := Lib.hid k2; have K3 := Lib.hid k3; have B3 := Lib.hid b3
 clear k1 k2 k3 b3
 have HA := Lib.hid ha; have HB := Lib.hid hb; have PA := Lib.hid pa; have PB := Lib.hid pb
 clear pa pb
 by_cases ha0 : a.m = 0
 ·have hrb : r = b := by rw [hr]; exact lowe_zero vb (va.1 ha0)
  have hn0 := z1.2 ha0
  have HR := Lib.hid hrb
  clear hr hrb z1 z2 va vb ha hb ha0 hX hY K1 K2 K3 B3
  subst hn0
  obtain ⟨s, M, e⟩ := a
  obtain ⟨s', M', e'⟩ := b
  simp only at *
  go_enter Tryz.func23, Tryz.ntmps23
  go_wp2
  have bb := fun (o1 o2 o3 : Obj) => below_step (below_step (one_below w o1) (one_below _ o2)) (one_below _ o3)
  exact bodyPost_ret (v := .agg #[.bool s', .slice B m d, .int .i64 e']) (by simp [results, Tryz.results23, go_sem]) rfl (by rw [HR.out]; exact ⟨_, rfl, ⟨B, m, d, rfl, rd_step HB.out (bb _ _ _), PB.out⟩, bb _ _ _⟩)
 ·have hn0 : n ≠ 0 := fun h => ha0 (z1.1 h)
  have f0 : ((n : Int) == 0) = false := by simp; omega
  by_cases hb0 : b.m = 0
  ·have hra : r = a := by rw [hr, plus_comm]; exact lowe_zero va (vb.1 hb0)
   have hm0 := z2.2 hb0
   have HR := Lib.hid hra
   clear hr hra z1 z2 va vb ha hb ha0 hb0 hX hY K1 K2 K3 B3
   subst hm0
   obtain ⟨s, M, e⟩ := a
   obtain ⟨s', M', e'⟩ := b
   simp only at *
   go_enter Tryz.func23, Tryz.ntmps23
   go_wp2
   have bb := fun (o1 o2 o3 : Obj) => below_step (below_step (one_below w o1) (one_below _ o2)) (one_below _ o3)
   exact bodyPost_ret (v := .agg #[.bool s, .slice A n c, .int .i64 e]) (by simp [results, Tryz.results23, go_sem]) rfl (by rw [HR.out]; exact ⟨_, rfl, ⟨A, n, c, rfl, rd_step HA.out (bb _ _ _), PA.out⟩, bb _ _ _⟩)
  ·have hm0 : m ≠ 0 := fun h => hb0 (z2.1 h)
   have f1 : ((m : Int) == 0) = false := by simp; omega
   obtain ⟨X, hXv⟩ : ∃ X, X = a.m * 2 ^ (a.e - lowe a b).toNat := ⟨_, rfl⟩
   obtain ⟨Y, hYv⟩ : ∃ Y, Y = b.m * 2 ^ (b.e - lowe a b).toNat := ⟨_, rfl⟩
   have PS := Lib.hid (fun h => (plus_same hXv hYv h).trans hr.symm); have PL' := Lib.hid (fun h h' => (plus_left hXv hYv h h').trans hr.symm); have PR := Lib.hid (fun h h' => (plus_right hXv hYv h h').trans hr.symm); have PN := Lib.hid (fun h h' => hr.trans (plus_none hXv hYv h h'))
   obtain ⟨t, ht⟩ : ∃ t, t = lowe a b := ⟨_, rfl⟩
   have tm : t = min a.e b.e := ht
   rw [← ht] at hXv hYv PS PL' PR
   have t1 : t ≤ a.e := by omega
   have t2 : t ≤ b.e := by omega
   have t3 : -550000 ≤ t := by omega
   have x1 := i64_sub a.e t (by omega) (by omega)
   have x2 := i64_sub b.e t (by omega) (by omega)
   have LX := Lib.hid (show X < B64 ^ (k + 17200) by rw [hXv]; exact up_lt3 hX (by omega))
   have LY := Lib.hid (show Y < B64 ^ (k + 17200) by rw [hYv]; exact up_lt3 hY (by omega))
   have CLa := fun w4 (h : Below w.heap.size w w4) => Lib.hid (left_is (a.e - t) (HA.out.step h) hX (by omega) (by omega) (by omega))
   have CLb := fun w4 (h : Below w.heap.size w w4) => Lib.hid (left_is (b.e - t) (HB.out.step h) hY (by omega) (by omega) (by omega))
   rw [← hXv] at CLa
   rw [← hYv] at CLb
   have TM := Lib.hid tm
   clear hr z1 z2 va vb ha hb ha0 hb0 hX hY hXv hYv ht tm PA PB HA HB
   obtain ⟨s, M, e⟩ := a
   obtain ⟨s', M', e'⟩ := b
   simp only at *
   have d0 := bdr (Below.refl (((w.alloc (.cells #[.bool s, .slice A n c, .int .i64 e] 56)).alloc (.cells #[.bool s', .slice B m d, .int .i64 e'] 56)).alloc (.cells #[.bool false, .slice none 0 0, .int .i64 0] 56)).heap.size (((w.alloc (.cells #[.bool s, .slice A n c, .int .i64 e] 56)).alloc (.cells #[.bool s', .slice B m d, .int .i64 e'] 56)).alloc (.cells #[.bool false, .slice none 0 0, .int .i64 0] 56)))
   have K1d := Lib.hid (K1.out.step d0); have K2d := Lib.hid (K2.out.step d0); have K3d := Lib.hid (K3.out.step d0); have B3d := Lib.hid (below_step B3.out d0)
   have S0 := And.intro K1.out.c0 (And.intro K1.out.c1 (And.intro K1.out.c2 (And.intro K2.out.c0 (And.intro K2.out.c1 K2.out.c2))))
   have CA := CLa _ B3d.out
   clear CLa d0 K1 K2 K3 B3
   go_enter Tryz.func23, Tryz.ntmps23
   go_wp2_with fail
   generalize (((w.alloc (.cells #[.bool s, .slice A n c, .int .i64 e] 56)).alloc (.cells #[.bool s', .slice B m d, .int .i64 e'] 56)).alloc (.cells #[.bool false, .slice none 0 0, .int .i64 0] 56)) = w2 at *
   rw [← TM.out]
   clear TM
   go_region_held3 (fun w' => w'.cell? ⟨w.heap.size, 0, none⟩ = some (.bool s) ∧ w'.cell? ⟨w.heap.size, 1, none⟩ = some (.slice A n c) ∧ w'.cell? ⟨w.heap.size, 2, none⟩ = some (.int .i64 e) ∧ w'.cell? ⟨w.heap.size + 1, 0, none⟩ = some (.bool s') ∧ w'.cell? ⟨w.heap.size + 1, 1, none⟩ = some (.slice B m d) ∧ w'.cell? ⟨w.heap.size + 1, 2, none⟩ = some (.int .i64 e'))
    (first | exact S0 | assumption)
    (first
     | (go_at_call 57
        refine CA.out.mono ?_
        rintro _ w3 ⟨A3, n3, c3, rfl, h3, b3⟩
        have K13 := Lib.hid (K1d.out.step b3); have K23 := Lib.hid (K2d.out.step b3); have K33 := Lib.hid (K3d.out.step b3); have B3 := Lib.hid (below_step B3d.out b3)
        have S3 : w3.cell? ⟨w.heap.size, 0, none⟩ = some (.bool s) ∧ w3.cell? ⟨w.heap.size, 1, none⟩ = some (.slice A n c) ∧ w3.cell? ⟨w.heap.size, 2, none⟩ = some (.int .i64 e) ∧ w3.cell? ⟨w.heap.size + 1, 0, none⟩ = some (.bool s') ∧ w3.cell? ⟨w.heap.size + 1, 1, none⟩ = some (.slice B m d) ∧ w3.cell? ⟨w.heap.size + 1, 2, none⟩ = some (.int .i64 e') := ⟨K13.out.c0, K13.out.c1, K13.out.c2, K23.out.c0, K23.out.c1, K23.out.c2⟩
        have H3 := Lib.hid (show Dg w3 A3 n3 c3 X from h3.less (Nat.zero_le _))
        have CB := CLb w3 B3.out
        clear h3 b3 CA)
     | (go_at_call 57
        refine CB.out.mono ?_
        rintro _ w4 ⟨A4, n4, c4, rfl, h4', b4⟩
        have K14 := Lib.hid (K13.out.step b4); have K24 := Lib.hid (K23.out.step b4); have K34 := Lib.hid (K33.out.step b4); have B4 := Lib.hid (below_step B3.out b4)
        have S4 : w4.cell? ⟨w.heap.size, 0, none⟩ = some (.bool s) ∧ w4.cell? ⟨w.heap.size, 1, none⟩ = some (.slice A n c) ∧ w4.cell? ⟨w.heap.size, 2, none⟩ = some (.int .i64 e) ∧ w4.cell? ⟨w.heap.size + 1, 0, none⟩ = some (.bool s') ∧ w4.cell? ⟨w.heap.size + 1, 1, none⟩ = some (.slice B m d) ∧ w4.cell? ⟨w.heap.size + 1, 2, none⟩ = some (.int .i64 e') := ⟨K14.out.c0, K14.out.c1, K14.out.c2, K24.out.c0, K24.out.c1, K24.out.c2⟩
        have H34 := Lib.hid (H3.out.step b4); have H4 := Lib.hid (show Dg w4 A4 n4 c4 Y from h4'.less (Nat.zero_le _))
        clear h4' b4 CB))
   clear S0 S3 S4 CLb H3 K13 K23 K33 B3 K1d K2d K3d B3d
   have y0 := K14.out.c0; have y0' := K24.out.c0
   have DW := Lib.hid (bdr (Below.refl w4.heap.size w4))
   have K1f := Lib.hid (K14.out.step DW.out); have K2f := Lib.hid (K24.out.step DW.out); have K3f := Lib.hid (K34.out.step DW.out); have B5f := Lib.hid (below_step B4.out DW.out)
   by_cases hs : s = s'
   ·subst hs
    have e0 : (s == s) = true := by simp
    have P := Lib.hid (PS.out rfl)
    have sg0 := y0
    have COP := Lib.hid (add32_any w4.drew 0 _ 0 _ A3 A4 n3 c3 n4 c4 _ _ (H34.out.step DW.out) (H4.out.step DW.out) (small_digs B32_two _) (small_digs B32_two _) (by have := H34.out.len LX.out; omega) (by have := H4.out.len LY.out; omega) (Nat.le_refl _) (Nat.le_refl _))
    rw [nval_digs B32_two, nval_digs B32_two] at COP
    have COP' := Lib.hid (COP.out.mono fun e w' h => NewDg.of h rfl)
    have LB := Lib.hid (lt_add LX.out LY.out)
    clear PS PL' PR PN COP
    go_wp2_with fail
    go_region_held3 (fun w' => w'.cell? ⟨w.heap.size, 0, none⟩ = some (.bool s))
     (first | exact sg0 | assumption)
     (first
      | (go_at_call 59
         refine COP'.out.mono ?_
         rintro _ w6 ⟨A6, n6, c6, rfl, h6, b6⟩
         have K16 := Lib.hid (K1f.out.step b6); have K36 := Lib.hid (K3f.out.step b6); have B6 := Lib.hid (below_step B5f.out b6)
         have s6 := K16.out.c0
         have CO := Lib.hid (odd_any w6 s t A6 n6 c6 _ (k + 17200 + (k + 17200) + 1) h6 LB.out (by omega) (by omega) (by omega))
         rw [P.out] at CO
         clear h6 b6)
      | (go_at_call 58
         refine CO.out.mono ?_
         rintro _ w7 ⟨_, rfl, ⟨A7, n7, c7, rfl, h7, p7⟩, b7⟩
         have K17 := Lib.hid (K16.out.step b7); have K37 := Lib.hid (K36.out.step b7)
         have s7 := K17.out.c0
         have r0 := K37.out.c0; have r1 := K37.out.c1; have r2 := K37.out.c2
         have z0 := K37.out.fz 0; have z1 := K37.out.fz 1; have z2 := K37.out.fz 2
         have s8 := (put3_far w7 (w.heap.size + 1 + 1) (w.heap.size) 0 (.bool r.s) (.slice A7 n7 c7) (.int .i64 r.e) (by omega)).trans s7
         have RN := Lib.hid (ret_val (g := w.heap.size + 1 + 1) (H := H) (below_step B6.out b7) (by omega) K37.out hH K36.out.lt h7 (fun ad hn hA => by have := p7 ad hn hA; omega))
         clear h7 b7 p7))
    go_wp2
    obtain ⟨kr, nr, br⟩ := RN.out
    refine bodyPost_ret (v := .agg #[.bool r.s, .slice A7 n7 c7, .int .i64 r.e]) ?_ rfl ⟨_, rfl, nr, br⟩
    have u0 := kr.c0; have u1 := kr.c1; have u2 := kr.c2
    unfold put3 at u0 u1 u2
    simp [results, Tryz.results23, go_sem, u0, u1, u2]
   ·have hs' : s' = !s := by revert hs; cases s <;> cases s' <;> simp
    subst hs'
    have e0 : (s == !s) = false := by cases s <;> rfl
    have CC := Lib.hid (rcmp_is H34.out H4.out LX.out LY.out (by omega) (by omega))
    clear DW K1f K2f K3f B5f
    rcases Nat.lt_trichotomy X Y with hlt | heq | hgt
    ·have P := Lib.hid (PR.out hs (by omega))
     rw [cmpv_lt hlt] at CC
     clear PS PL' PR PN hs
     go_wp2_with fail
     refine CC.out.mono ?_
     rintro _ w5 ⟨rfl, b5⟩
     have DW := Lib.hid (bdr (Below.refl w5.heap.size w5)); have D45 := Lib.hid (below_step b5 DW.out)
     have K25 := Lib.hid (K24.out.step b5); have K2f := Lib.hid (K24.out.step D45.out); have K3f := Lib.hid (K34.out.step D45.out); have B5f := Lib.hid (below_step B4.out D45.out)
     have sg0 := K25.out.c0
     have COP' := Lib.hid (rsub_is (H4.out.step D45.out) (H34.out.step D45.out) LY.out (by omega) (by omega))
     have LB := Lib.hid (Nat.lt_of_le_of_lt (Nat.sub_le Y X) (lt_up LY.out (show k + 17200 ≤ k + 17200 + (k + 17200) + 1 by omega)))
     clear b5 CC y0 y0' K14 K24 K34 B4 H34 H4 D45
     go_wp2_with fail
     go_region_held3 (fun w' => w'.cell? ⟨w.heap.size + 1, 0, none⟩ = some (.bool (!s)))
      (first | exact sg0 | assumption)
      (first
       | (go_at_call 61
          refine COP'.out.mono ?_
          rintro _ w6 ⟨A6, n6, c6, rfl, h6, b6⟩
          have K16 := Lib.hid (K2f.out.step b6); have K36 := Lib.hid (K3f.out.step b6); have B6 := Lib.hid (below_step B5f.out b6)
          have s6 := K16.out.c0
          have CO := Lib.hid (odd_any w6 (!s) t A6 n6 c6 _ (k + 17200 + (k + 17200) + 1) h6 LB.out (by omega) (by omega) (by omega))
          rw [P.out] at CO
          clear h6 b6)
       | (go_at_call 58
          refine CO.out.mono ?_
          rintro _ w7 ⟨_, rfl, ⟨A7, n7, c7, rfl, h7, p7⟩, b7⟩
          have K17 := Lib.hid (K16.out.step b7); have K37 := Lib.hid (K36.out.step b7)
          have s7 := K17.out.c0
          have r0 := K37.out.c0; have r1 := K37.out.c1; have r2 := K37.out.c2
          have z0 := K37.out.fz 0; have z1 := K37.out.fz 1; have z2 := K37.out.fz 2
          have s8 := (put3_far w7 (w.heap.size + 1 + 1) (w.heap.size + 1) 0 (.bool r.s) (.slice A7 n7 c7) (.int .i64 r.e) (by omega)).trans s7
          have RN := Lib.hid (ret_val (g := w.heap.size + 1 + 1) (H := H) (below_step B6.out b7) (by omega) K37.out hH K36.out.lt h7 (fun ad hn hA => by have := p7 ad hn hA; omega))
          clear h7 b7 p7))
     go_wp2
     obtain ⟨kr, nr, br⟩ := RN.out
     refine bodyPost_ret (v := .agg #[.bool r.s, .slice A7 n7 c7, .int .i64 r.e]) ?_ rfl ⟨_, rfl, nr, br⟩
     have u0 := kr.c0; have u1 := kr.c1; have u2 := kr.c2
     unfold put3 at u0 u1 u2
     simp [results, Tryz.results23, go_sem, u0, u1, u2]
    ·have P := Lib.hid (PN.out hs heq)
     rw [cmpv_eq heq] at CC
     clear PS PL' PR PN hs
     go_wp2_with fail
     refine CC.out.mono ?_
     rintro _ w5 ⟨rfl, b5⟩
     have K35 := Lib.hid (K34.out.step b5); have B5 := Lib.hid (below_step B4.out b5)
     have r0 := K35.out.c0; have r1 := K35.out.c1; have r2 := K35.out.c2
     have v0 := K35.out.fz 0; have v1 := K35.out.fz 1; have v2 := K35.out.fz 2
     have RN := Lib.hid (ret_vzero (g := w.heap.size + 1 + 1) (H := H) B5.out (by omega) K35.out)
     clear b5 CC
     go_wp2
     obtain ⟨kr, nr, br⟩ := RN.out
     refine bodyPost_ret (v := .agg #[.bool false, .slice none 0 0, .int .i64 0]) ?_ rfl (by rw [P.out]; exact ⟨_, rfl, nr, br⟩)
     have u0 := kr.c0; have u1 := kr.c1; have u2 := kr.c2
     unfold put3 at u0 u1 u2
     simp [results, Tryz.results23, go_sem, u0, u1, u2]
    ·have P := Lib.hid (PL'.out hs (by omega))
     rw [cmpv_gt hgt] at CC
     clear PS PL' PR PN hs
     go_wp2_with fail
     refine CC.out.mono ?_
     rintro _ w5 ⟨rfl, b5⟩
     have DW := Lib.hid (bdr (Below.refl w5.heap.size w5)); have D45 := Lib.hid (below_step b5 DW.out)
     have K15 := Lib.hid (K14.out.step b5); have K1f := Lib.hid (K14.out.step D45.out); have K3f := Lib.hid (K34.out.step D45.out); have B5f := Lib.hid (below_step B4.out D45.out)
     have sg0 := K15.out.c0
     have COP' := Lib.hid (rsub_is (H34.out.step D45.out) (H4.out.step D45.out) LX.out (by omega) (by omega))
     have LB := Lib.hid (Nat.lt_of_le_of_lt (Nat.sub_le X Y) (lt_up LX.out (show k + 17200 ≤ k + 17200 + (k + 17200) + 1 by omega)))
     clear b5 CC y0 y0' K14 K24 K34 B4 H34 H4 D45
     go_wp2_with fail
     go_region_held3 (fun w' => w'.cell? ⟨w.heap.size, 0, none⟩ = some (.bool s))
      (first | exact sg0 | assumption)
      (first
       | (go_at_call 61
          refine COP'.out.mono ?_
          rintro _ w6 ⟨A6, n6, c6, rfl, h6, b6⟩
          have K16 := Lib.hid (K1f.out.step b6); have K36 := Lib.hid (K3f.out.step b6); have B6 := Lib.hid (below_step B5f.out b6)
          have s6 := K16.out.c0
          have CO := Lib.hid (odd_any w6 s t A6 n6 c6 _ (k + 17200 + (k + 17200) + 1) h6 LB.out (by omega) (by omega) (by omega))
          rw [P.out] at CO
          clear h6 b6)
       | (go_at_call 58
          refine CO.out.mono ?_
          rintro _ w7 ⟨_, rfl, ⟨A7, n7, c7, rfl, h7, p7⟩, b7⟩
          have K17 := Lib.hid (K16.out.step b7); have K37 := Lib.hid (K36.out.step b7)
          have s7 := K17.out.c0
          have r0 := K37.out.c0; have r1 := K37.out.c1; have r2 := K37.out.c2
          have z0 := K37.out.fz 0; have z1 := K37.out.fz 1; have z2 := K37.out.fz 2
          have s8 := (put3_far w7 (w.heap.size + 1 + 1) (w.heap.size) 0 (.bool r.s) (.slice A7 n7 c7) (.int .i64 r.e) (by omega)).trans s7
          have RN := Lib.hid (ret_val (g := w.heap.size + 1 + 1) (H := H) (below_step B6.out b7) (by omega) K37.out hH K36.out.lt h7 (fun ad hn hA => by have := p7 ad hn hA; omega))
          clear h7 b7 p7))
     go_wp2
     obtain ⟨kr, nr, br⟩ := RN.out
     refine bodyPost_ret (v := .agg #[.bool r.s, .slice A7 n7 c7, .int .i64 r.e]) ?_ rfl ⟨_, rfl, nr, br⟩
     have u0 := kr.c0; have u1 := kr.c1; have u2 := kr.c2
     unfold put3 at u0 u1 u2
     simp [results, Tryz.results23, go_sem, u0, u1, u2]
end Go.Proofs.YtobcbhppmgnioaaGreatDoor
