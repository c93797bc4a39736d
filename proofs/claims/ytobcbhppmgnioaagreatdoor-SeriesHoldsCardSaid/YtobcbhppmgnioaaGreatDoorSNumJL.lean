/- fathomlineref1: Odd, Num, Make, Of, Whole. fathomlineref1: Make, Of, Whole, Scale, Minus, Abs. fathomlineref1: Whole, Scale, Minus, Abs. -/
import Derived.Test.YtobcbhppmgnioaaGreatDoorSNumGI
import Derived.Test.YtobcbhppmgnioaaGreatDoorSRefY
namespace Go.Proofs.YtobcbhppmgnioaaGreatDoor
set_option maxHeartbeats 2000000
set_option maxRecDepth 100000
open Go.RowKit Nx
def ValV (H L : Nat) (w : World) (v : Value) (q : Q) : Prop :=
 ∃ (A : Option Addr) (n c : Nat), v = .agg #[.bool q.s, .slice A n c, .int .i64 q.e] ∧ Rd .u32 w 0 w.heap.size A n c (digs B32 q.m) ∧ ∀ ad, 0 < n → A = some ad → ad.block < H ∨ L ≤ ad.block
def Vx (w : World) (g : Nat) (s : Bool) (A : Option Addr) (n c : Nat) (e : Int) : Prop := Blk w g 56 #[.bool s, .slice A n c, .int .i64 e]
section
variable {w w' : World} {g : Nat} {s : Bool} {e : Int} {A : Option Addr} {n c : Nat}
theorem Vx.new (w : World) (s : Bool) (A : Option Addr) (n c : Nat) (e : Int) : Vx (w.alloc (.cells #[.bool s, .slice A n c, .int .i64 e] 56)) w.heap.size s A n c e := Blk.new w _ _
theorem Vx.step (h : Vx w g s A n c e) (hb : Below w.heap.size w w') : Vx w' g s A n c e := Blk.below h hb h.lt
theorem Vx.c0 (h : Vx w g s A n c e) : w.cell? ⟨g, 0, none⟩ = some (.bool s) := by have := Blk.cell h 0; simpa using this
theorem Vx.c1 (h : Vx w g s A n c e) : w.cell? ⟨g, 1, none⟩ = some (.slice A n c) := by have := Blk.cell h 1; simpa using this
theorem Vx.c2 (h : Vx w g s A n c e) : w.cell? ⟨g, 2, none⟩ = some (.int .i64 e) := by have := Blk.cell h 2; simpa using this
theorem Vx.fz (h : Vx w g s A n c e) (i : Nat) : w.frozen? ⟨g, i, none⟩ = false := Blk.frozen h i
end
theorem ValV.step {H L : Nat} {w w' : World} {v : Value} {q : Q} (h : ValV H L w v q) (hb : Below w.heap.size w w') : ValV H L w' v q := by
 obtain ⟨A, n, c, e, h1, h2⟩ := h; exact ⟨A, n, c, e, rd_step h1 hb, h2⟩
theorem ValV.wide {H L H' L' : Nat} {w : World} {v : Value} {q : Q} (h : ValV H L w v q) (h1 : H ≤ H') (h2 : L' ≤ L) : ValV H' L' w v q := by
 obtain ⟨A, n, c, e, h3, h4⟩ := h; exact ⟨A, n, c, e, h3, fun ad hn hA => by have := h4 ad hn hA; omega⟩
theorem ValV.all {H L : Nat} {w : World} {v : Value} {q : Q} (h : ValV H L w v q) : ValV w.heap.size w.heap.size w v q := by
 obtain ⟨A, n, c, e, h3, h4⟩ := h; exact ⟨A, n, c, e, h3, fun ad hn hA => by omega⟩
theorem ValV.arg {H : Nat} {w w' : World} {v : Value} {q : Q} (h : ValV H w.heap.size w v q) (hb : Below w.heap.size w w') : ValV H w'.heap.size w' v q := by
 obtain ⟨A, n, c, e, h1, h2⟩ := h
 refine ⟨A, n, c, e, rd_step h1 hb, fun ad hn hA => ?_⟩
 obtain ⟨ad', hA', _, hlt, _⟩ := h1.2.2 hn
 have : ad = ad' := by rw [hA] at hA'; injection hA'
 subst this
 have := h2 ad hn hA
 omega
def ValPost (w : World) (H : Nat) (q : Q) (e : Ending) (w' : World) : Prop := ∃ v, e = .returned v ∧ ValV H w.heap.size w' v q ∧ Below w.heap.size w w'
theorem valv0 (H L : Nat) (w : World) : ValV H L w (.agg #[.bool false, .slice none 0 0, .int .i64 0]) q0 := ⟨none, 0, 0, rfl, by show Rd .u32 w 0 _ none 0 0 (digs B32 0); rw [digs_zero]; exact Rd.none_, fun _ h => absurd h (by omega)⟩
theorem ret_val {w W1 : World} {g H L : Nat} {A : Option Addr} {n c : Nat} {q : Q} {a b z : Value} (hB : Below w.heap.size w W1) (hg : w.heap.size ≤ g) (hk : Blk W1 g 56 #[a, b, z]) (hH : H ≤ w.heap.size) (hgL : g < L)
  (h : Rd .u32 W1 0 W1.heap.size A n c (digs B32 q.m)) (hp : ∀ ad, 0 < n → A = some ad → ad.block < H ∨ L ≤ ad.block) :
  Vx (put3 W1 g (.bool q.s) (.slice A n c) (.int .i64 q.e)) g q.s A n c q.e ∧ ValV H w.heap.size (put3 W1 g (.bool q.s) (.slice A n c) (.int .i64 q.e)) (.agg #[.bool q.s, .slice A n c, .int .i64 q.e]) q ∧
   Below w.heap.size w (put3 W1 g (.bool q.s) (.slice A n c) (.int .i64 q.e)) := by
 refine ⟨Blk.putted hk _ _ _, ⟨A, n, c, rfl, ?_, fun ad hn hA => by have := hp ad hn hA; omega⟩, below_put3 hB hg _ _ _⟩
 rw [size_put3]
 refine ⟨h.1, h.2.1, fun hn => ?_⟩
 obtain ⟨ad, e, hl, hb, hc⟩ := h.2.2 hn
 refine ⟨ad, e, hl, hb, fun j u hu => ?_⟩
 rw [← hc j u hu]
 have hx := hp ad hn e
 have hne : ∀ i, (⟨g, i, none⟩ : Addr) ≠ (ad.add j) := fun i e => by have := congrArg Addr.block e; rw [block_of_add] at this; simp at this; omega
 unfold put3
 rw [World.cell?_setCell_other _ _ _ _ (hne 2), World.cell?_setCell_other _ _ _ _ (hne 1), World.cell?_setCell_other _ _ _ _ (hne 0)]
theorem rd_new {k : IntKind} {w : World} {lo n c : Nat} {A : Option Addr} {xs : List Nat} (h : Rd k w lo w.heap.size A n c xs) : ∀ ad, 0 < n → A = some ad → ad.block < 0 ∨ lo ≤ ad.block := fun ad hn hA => by
 obtain ⟨ad', hA', hl, _, _⟩ := h.2.2 hn
 have : ad = ad' := by rw [hA] at hA'; injection hA'
 subst this; exact .inr hl
theorem dg_zero {w : World} {A : Option Addr} {n c N : Nat} (h : Dg w A n c N) : n = 0 ↔ N = 0 := by
 constructor
 ·intro e; subst e; exact (digs_eq_nil B32_two).1 (List.eq_nil_of_length_eq_zero h.1)
 ·intro e; subst e; have := h.1; rw [digs_zero] at this; exact this.symm
theorem odd_any (w : World) (s : Bool) (e : Int) (A : Option Addr) (n c N k : Nat) (ha : Dg w A n c N) (hN : N < B64 ^ k) (hk : k ≤ 45000) (h1 : -100000000 ≤ e) (h2 : e ≤ 100000000) :
  Calls Tryz.prog 58 #[.bool s, .slice A n c, .int .i64 e] w (ValPost w 0 (nm s N e)) := by
 have B1 := Lib.hid (one_below w (.cells #[.bool false, .slice none 0 0, .int .i64 0] 56)); have K1 := Lib.hid (Vx.new w false none 0 0 0)
 have A1 := Lib.hid (ha.step B1.out)
 have hz0 := dg_zero ha
 have C1 := Lib.hid (rzeros_is A1.out hN (by omega))
 obtain ⟨r, hr⟩ : ∃ r, r = nm s N e := ⟨_, rfl⟩
 rw [← hr]
 by_cases h0 : N = 0
 ·have hr0 : r = q0 := by rw [hr, h0, nm_zero]
  have hn0 : n = 0 := hz0.2 h0
  subst hn0
  have HR := Lib.hid hr0
  clear hr hr0 h0 hz0 ha C1
  go_enter Tryz.func58, Tryz.ntmps58
  go_wp2
  refine bodyPost_ret (v := .agg #[.bool false, .slice none 0 0, .int .i64 0]) (by simp [results, Tryz.results58, go_sem]) rfl (by rw [HR.out]; exact ⟨_, rfl, valv0 _ _ _, B1.out⟩)
 ·have hn0 : n ≠ 0 := fun h => h0 (hz0.1 h)
  have f0 : ((n : Int) == 0) = false := by simp; omega
  have hzz : ntz N < 64 * k := ntz_lt h0 (by rw [← pow64]; exact hN)
  have hr1 : r = ⟨s, N / 2 ^ ntz N, e + ntz N⟩ := by rw [hr]; unfold nm; rw [if_neg h0]
  have g1 := i64_add e (ntz N : Int) (by omega) (by omega)
  have C2 := Lib.hid (down32_any _ 0 _ A n c _ _ (ntz N) _ A1.out (small_digs B32_two _) (by have := A1.out.len hN; omega) (Nat.le_refl _) (by omega) rfl rfl)
  rw [nval_digs B32_two] at C2
  have HR := Lib.hid hr1
  clear hr hr1 hz0 ha hN h0
  generalize ntz N = z at *
  generalize N / 2 ^ z = M at *
  go_enter Tryz.func58, Tryz.ntmps58
  go_wp2_with fail
  refine C1.out.mono ?_
  rintro _ w1 ⟨rfl, rfl⟩
  go_wp2_with fail
  refine C2.out.mono ?_
  rintro _ w2 ⟨A2, n2, c2, lost, rfl, h3, b3⟩
  have K2 := Lib.hid (K1.out.step b3)
  have r0 := K2.out.c0; have r1 := K2.out.c1; have r2 := K2.out.c2
  have z0 := K2.out.fz 0; have z1 := K2.out.fz 1; have z2 := K2.out.fz 2
  have RN := Lib.hid (ret_val (q := ⟨s, M, e + z⟩) (below_step B1.out b3) (Nat.le_refl w.heap.size) K2.out (Nat.zero_le _) K1.out.lt (h3.less (Nat.zero_le _)) (rd_new h3))
  clear h3 b3 C1 C2
  go_wp2
  obtain ⟨kr, nr, br⟩ := RN.out
  refine bodyPost_ret (v := .agg #[.bool s, .slice A2 n2 c2, .int .i64 (e + z)]) ?_ rfl (by rw [HR.out]; exact ⟨_, rfl, nr, br⟩)
  have q0 := kr.c0; have q1 := kr.c1; have q2 := kr.c2
  unfold put3 at q0 q1 q2
  simp [results, Tryz.results58, go_sem, q0, q1, q2]
theorem val_num_bx (w : World) (s : Bool) (A : Option Addr) (n c : Nat) (e : Int) :
  Vx ((w.alloc (.cells #[.bool s, .slice A n c, .int .i64 e] 56)).alloc (.cells #[.bool false, .int .i64 0, .slice none 0 0] 26)) w.heap.size s A n c e ∧
  Bx ((w.alloc (.cells #[.bool s, .slice A n c, .int .i64 e] 56)).alloc (.cells #[.bool false, .int .i64 0, .slice none 0 0] 26)) (w.heap.size + 1) false 0 none 0 0 ∧
  Below w.heap.size w ((w.alloc (.cells #[.bool s, .slice A n c, .int .i64 e] 56)).alloc (.cells #[.bool false, .int .i64 0, .slice none 0 0] 26)) := by
 refine ⟨(Vx.new w s A n c e).step (one_below _ _), ?_, below_step (one_below w _) (one_below _ _)⟩
 have := Bx.new (w.alloc (.cells #[.bool s, .slice A n c, .int .i64 e] 56)) false 0 none 0 0
 rwa [show (w.alloc (.cells #[.bool s, .slice A n c, .int .i64 e] 56)).heap.size = w.heap.size + 1 by simp] at this
theorem vnum_any (w : World) (q : Q) (A : Option Addr) (n c k : Nat) (ha : Dg w A n c q.m) (hq : Canon q) (hN : q.m < B64 ^ k) (hk : k ≤ 100000) :
  Calls Tryz.prog 46 #[.agg #[.bool q.s, .slice A n c, .int .i64 q.e]] w (NumPost2 w (res q)) := by
 obtain ⟨k1, k2, b2⟩ := val_num_bx w q.s A n c q.e
 have K1 := Lib.hid k1; have K2 := Lib.hid k2; have B2 := Lib.hid b2
 have hz0 := dg_zero ha
 have C1 := Lib.hid (words32_any _ 0 _ A n c q.m (ha.step b2) (by have := ha.len hN; omega) (Nat.le_refl _))
 clear k1 k2 b2
 obtain ⟨r, hr⟩ : ∃ r, r = res q := ⟨_, rfl⟩
 rw [← hr]
 by_cases h0 : q.m = 0
 ·have hr0 : r = (q0, 0) := by rw [hr, hq.1 h0, res_ok fits0]
  have hn0 : n = 0 := hz0.2 h0
  subst hn0
  have HR := Lib.hid hr0
  clear hr hr0 h0 hz0 ha C1 hq
  go_enter Tryz.func46, Tryz.ntmps46
  go_wp2
  refine bodyPost_ret (v := .tuple #[.agg #[.bool false, .int .i64 0, .slice none 0 0], .int .i64 0]) (by simp [results, Tryz.results46, go_sem]) rfl (by rw [HR.out]; exact ⟨_, rfl, numv0 _ _, B2.out⟩)
 ·have hn0 : n ≠ 0 := fun h => h0 (hz0.1 h)
  have f0 : ((n : Int) == 0) = false := by simp; omega
  obtain ⟨s, M, e⟩ := q
  simp only at *
  have HR := Lib.hid hr
  clear hr hz0 ha hq h0
  go_enter Tryz.func46, Tryz.ntmps46
  go_wp2_with fail
  refine C1.out.mono ?_
  rintro _ w2 ⟨A2, n2, c2, rfl, h3, b3, _⟩
  have K12 := Lib.hid (K1.out.step b3); have K22 := Lib.hid (K2.out.step b3); have B3 := Lib.hid (below_step B2.out b3)
  have hlen : n2 ≤ 64 ↔ M < B64 ^ 64 := by
   rw [← h3.1]
   constructor
   ·intro h; have := nval_lt (small_digs B64_two M); rw [nval_digs B64_two] at this; exact lt_up this h
   ·exact digs_len_le B64_two
  have v0 := K12.out.c0; have v1 := K12.out.c1; have v2 := K12.out.c2
  have r0 := K22.out.c0; have r1 := K22.out.c1; have r2 := K22.out.c2
  have z0 := K22.out.fz 0; have z1 := K22.out.fz 1; have z2 := K22.out.fz 2
  by_cases hF : Fits ⟨s, M, e⟩
  ·have hl := hlen.2 hF.1
   have e1 : -65536 ≤ e := hF.2.1
   have e2 : e ≤ 65536 := hF.2.2
   have RN := Lib.hid (ret_num (q := ⟨s, M, e⟩) B2.out (Nat.le_add_right w.heap.size 1) K22.out K2.out.lt b3 h3)
   have HF := Lib.hid hF
   clear h3 b3 C1 hlen hF K1 K2
   go_wp2
   obtain ⟨kr, nr, br⟩ := RN.out
   refine bodyPost_ret (v := .tuple #[.agg #[.bool s, .int .i64 e, .slice A2 n2 c2], .int .i64 0]) ?_ rfl (by rw [HR.out, res_ok HF.out]; exact ⟨_, rfl, nr, br⟩)
   have q0 := kr.c0; have q1 := kr.c1; have q2 := kr.c2
   unfold put3 at q0 q1 q2
   simp [results, Tryz.results46, go_sem, q0, q1, q2]
  ·have hbad : ¬ (n2 ≤ 64 ∧ -65536 ≤ e ∧ e ≤ 65536) := fun ⟨x, y, z⟩ => hF ⟨hlen.1 x, y, z⟩
   have HF := Lib.hid hF
   have RZ := Lib.hid (ret_zero B3.out (Nat.le_add_right w.heap.size 1) K22.out)
   clear h3 b3 C1 hlen hF K1 K2
   go_wp2
   all_goals
    obtain ⟨kr, nr, br⟩ := RZ.out
    refine bodyPost_ret (v := .tuple #[.agg #[.bool false, .int .i64 0, .slice none 0 0], .int .i64 2]) ?_ rfl (by rw [HR.out, res_over HF.out]; exact ⟨_, rfl, nr, br⟩)
    have q0 := kr.c0; have q1 := kr.c1; have q2 := kr.c2
    unfold put3 at q0 q1 q2
    simp [results, Tryz.results46, go_sem, q0, q1, q2]
theorem res_low {s : Bool} {N : Nat} {e : Int} (h0 : N ≠ 0) (h : e > 65536 ∨ e < -65536 - (ntz N : Int)) : res (nm s N e) = (q0, 2) := by
 have e1 : nm s N e = ⟨s, N / 2 ^ ntz N, e + ntz N⟩ := by unfold nm; rw [if_neg h0]
 rw [e1]
 refine res_over ?_
 rintro ⟨_, h3, h4⟩
 simp only at h3 h4
 omega
theorem nm_lt {s : Bool} {N k : Nat} {e : Int} (h : N < B64 ^ k) : (nm s N e).m < B64 ^ k := by
 unfold nm
 split
 ·show 0 < B64 ^ k; exact Nat.pow_pos (by unfold B64; omega)
 ·exact Nat.lt_of_le_of_lt (Nat.div_le_self _ _) h
theorem arg_lt {w : World} {A : Option Addr} {n c : Nat} {xs : List Nat} (h : Arg w A n c xs) : nval B64 xs < B64 ^ n := by rw [← h.1.1]; exact nval_lt h.2
theorem rmake_any (w : World) (s : Bool) (e : Int) (A : Option Addr) (n c : Nat) (xs : List Nat) (ha : Arg w A n c xs) (hk : n ≤ 15000) :
  Calls Tryz.prog 118 #[.bool s, .slice A n c, .int .i64 e] w (NumPost2 w (res (nm s (nval B64 xs) e))) := by
 have B1 := Lib.hid (one_below w (.cells #[.bool false, .int .i64 0, .slice none 0 0] 26)); have K1 := Lib.hid (Bx.new w false 0 none 0 0)
 have C1 := Lib.hid (part_any _ 0 _ A n c xs (ha.step B1.out).1 ha.2 (by omega) (Nat.le_refl _))
 have hN := arg_lt ha
 obtain ⟨r, hr⟩ : ∃ r, r = res (nm s (nval B64 xs) e) := ⟨_, rfl⟩
 rw [← hr]
 have HR := Lib.hid hr
 clear ha hr
 generalize nval B64 xs = N at *
 go_enter Tryz.func118, Tryz.ntmps118
 go_wp2_with fail
 refine C1.out.mono ?_
 rintro _ w2 ⟨A2, n2, c2, rfl, h2, b2⟩
 have D2 : Dg w2 A2 n2 c2 N := h2.less (Nat.zero_le _)
 have K2 := Lib.hid (K1.out.step b2); have B2 := Lib.hid (below_step B1.out b2)
 have hz0 := dg_zero D2
 have DD := Lib.hid D2
 clear h2 b2 C1 K1 B1 D2
 have r0 := K2.out.c0; have r1 := K2.out.c1; have r2 := K2.out.c2
 have z0 := K2.out.fz 0; have z1 := K2.out.fz 1; have z2 := K2.out.fz 2
 by_cases h0 : N = 0
 ·have hr0 : r = (q0, 0) := by rw [HR.out, h0, nm_zero, res_ok fits0]
  have hn0 : n2 = 0 := hz0.2 h0
  subst hn0
  have HR2 := Lib.hid hr0
  have RZ := Lib.hid (ret_zero B2.out (Nat.le_refl w.heap.size) K2.out)
  clear hr0 hz0
  go_wp2
  obtain ⟨kr, nr, br⟩ := RZ.out
  refine bodyPost_ret (v := .tuple #[.agg #[.bool false, .int .i64 0, .slice none 0 0], .int .i64 0]) ?_ rfl (by rw [HR2.out]; exact ⟨_, rfl, nr, br⟩)
  have q0 := kr.c0; have q1 := kr.c1; have q2 := kr.c2
  unfold put3 at q0 q1 q2
  simp [results, Tryz.results118, go_sem, q0, q1, q2]
 ·have hn0 : n2 ≠ 0 := fun h => h0 (hz0.1 h)
  have f0 : ((n2 : Int) == 0) = false := by simp; omega
  have hzz : ntz N < 64 * n := ntz_lt h0 (by rw [← pow64]; exact hN)
  have RL := Lib.hid (fun h => HR.out.trans (res_low (s := s) (e := e) h0 h))
  have CZ := Lib.hid (rzeros_is DD.out hN (by omega))
  have g1 := i64_sub (-65536) (ntz N : Int) (by omega) (by omega)
  have CO := fun (h1 : -100000000 ≤ e) (h2 : e ≤ 100000000) => Lib.hid (odd_any w2 s e A2 n2 c2 N n DD.out hN (by omega) h1 h2)
  have hcan := Lib.hid (nm_canon s N e); have hlt := Lib.hid (nm_lt (s := s) (e := e) hN)
  generalize nm s N e = q at *
  generalize ntz N = z at *
  clear hz0 h0
  by_cases hbig : e > 65536
  ·have hr2 := Lib.hid (RL.out (.inl hbig))
   have RZ := Lib.hid (ret_zero B2.out (Nat.le_refl w.heap.size) K2.out)
   clear CO RL
   go_wp2
   obtain ⟨kr, nr, br⟩ := RZ.out
   refine bodyPost_ret (v := .tuple #[.agg #[.bool false, .int .i64 0, .slice none 0 0], .int .i64 2]) ?_ rfl (by rw [hr2.out]; exact ⟨_, rfl, nr, br⟩)
   have q0 := kr.c0; have q1 := kr.c1; have q2 := kr.c2
   unfold put3 at q0 q1 q2
   simp [results, Tryz.results118, go_sem, q0, q1, q2]
  ·by_cases hlow : e < -65536 - (z : Int)
   ·have hr2 := Lib.hid (RL.out (.inr hlow))
    have RZ := Lib.hid (ret_zero B2.out (Nat.le_refl w.heap.size) K2.out)
    clear CO RL
    go_wp2_with fail
    refine CZ.out.mono ?_
    rintro _ w3 ⟨rfl, rfl⟩
    go_wp2
    obtain ⟨kr, nr, br⟩ := RZ.out
    refine bodyPost_ret (v := .tuple #[.agg #[.bool false, .int .i64 0, .slice none 0 0], .int .i64 2]) ?_ rfl (by rw [hr2.out]; exact ⟨_, rfl, nr, br⟩)
    have q0 := kr.c0; have q1 := kr.c1; have q2 := kr.c2
    unfold put3 at q0 q1 q2
    simp [results, Tryz.results118, go_sem, q0, q1, q2]
   ·have C2 := CO (by omega) (by omega)
    clear CO RL
    go_wp2_with fail
    refine CZ.out.mono ?_
    rintro _ w3 ⟨rfl, rfl⟩
    go_wp2_with fail
    refine C2.out.mono ?_
    rintro _ w3 ⟨_, rfl, ⟨A3, n3, c3, rfl, h3, _⟩, b3⟩
    have K3 := Lib.hid (K2.out.step b3); have B3 := Lib.hid (below_step B2.out b3)
    have CN := Lib.hid (vnum_any w3 q A3 n3 c3 n h3 hcan.out hlt.out (by omega))
    rw [← HR.out] at CN
    clear h3 b3 CZ C2 r0 r1 r2 z0 z1 z2
    go_wp2_with fail
    refine CN.out.mono ?_
    rintro _ w6 ⟨_, rfl, ⟨A6, n6, c6, rfl, h6⟩, b6⟩
    have K6 := Lib.hid (K3.out.step b6)
    have r0 := K6.out.c0; have r1 := K6.out.c1; have r2 := K6.out.c2
    have z0 := K6.out.fz 0; have z1 := K6.out.fz 1; have z2 := K6.out.fz 2
    have RN := Lib.hid (ret_num B3.out (Nat.le_refl w.heap.size) K6.out K3.out.lt b6 h6)
    clear h6 b6
    go_wp2
    obtain ⟨kr, nr, br⟩ := RN.out
    refine bodyPost_ret (v := .tuple #[.agg #[.bool r.1.s, .int .i64 r.1.e, .slice A6 n6 c6], .int .i64 r.2]) ?_ rfl ⟨_, rfl, nr, br⟩
    have q0 := kr.c0; have q1 := kr.c1; have q2 := kr.c2
    unfold put3 at q0 q1 q2
    simp [results, Tryz.results118, go_sem, q0, q1, q2]
theorem num_val_bx (w : World) (s : Bool) (e : Int) (A : Option Addr) (n c : Nat) :
  Bx ((w.alloc (.cells #[.bool s, .int .i64 e, .slice A n c] 26)).alloc (.cells #[.bool false, .slice none 0 0, .int .i64 0] 56)) w.heap.size s e A n c ∧
  Vx ((w.alloc (.cells #[.bool s, .int .i64 e, .slice A n c] 26)).alloc (.cells #[.bool false, .slice none 0 0, .int .i64 0] 56)) (w.heap.size + 1) false none 0 0 0 ∧
  Below w.heap.size w ((w.alloc (.cells #[.bool s, .int .i64 e, .slice A n c] 26)).alloc (.cells #[.bool false, .slice none 0 0, .int .i64 0] 56)) := by
 refine ⟨(Bx.new w s e A n c).step (one_below _ _), ?_, below_step (one_below w _) (one_below _ _)⟩
 have := Vx.new (w.alloc (.cells #[.bool s, .int .i64 e, .slice A n c] 26)) false none 0 0 0
 rwa [show (w.alloc (.cells #[.bool s, .int .i64 e, .slice A n c] 26)).heap.size = w.heap.size + 1 by simp] at this
theorem of_any (w : World) (q : Q) (A : Option Addr) (n c : Nat) (ha : Is w A n c q.m) (hn : n ≤ 100000) :
  Calls Tryz.prog 25 #[.agg #[.bool q.s, .int .i64 q.e, .slice A n c]] w (ValPost w 0 q) := by
 obtain ⟨s, M, e⟩ := q
 simp only at *
 obtain ⟨k1, k2, b2⟩ := num_val_bx w s e A n c
 have d2 := bdr b2
 have d0 := bdr (Below.refl ((w.alloc (.cells #[.bool s, .int .i64 e, .slice A n c] 26)).alloc (.cells #[.bool false, .slice none 0 0, .int .i64 0] 56)).heap.size ((w.alloc (.cells #[.bool s, .int .i64 e, .slice A n c] 26)).alloc (.cells #[.bool false, .slice none 0 0, .int .i64 0] 56)))
 have C1 := Lib.hid (part_any _ 0 _ A n c _ (ha.step d2) (small_digs B64_two _) (by omega) (Nat.le_refl _))
 rw [nval_digs B64_two] at C1
 have K1d := Lib.hid (k1.step d0); have K2d := Lib.hid (k2.step d0); have B2d := Lib.hid d2
 have S0 := And.intro k1.c0 (And.intro k1.c1 k1.c2)
 clear k1 k2 b2 d2 d0 ha
 go_enter Tryz.func25, Tryz.ntmps25
 go_wp2_with fail
 generalize (w.alloc (.cells #[.bool s, .int .i64 e, .slice A n c] 26)).alloc (.cells #[.bool false, .slice none 0 0, .int .i64 0] 56) = w2 at *
 go_region_held3 (fun w' => w'.cell? ⟨w.heap.size, 0, none⟩ = some (.bool s) ∧ w'.cell? ⟨w.heap.size, 1, none⟩ = some (.int .i64 e) ∧ w'.cell? ⟨w.heap.size, 2, none⟩ = some (.slice A n c))
  (first | exact S0 | assumption | go_keep)
  (first
   | (go_at_call 63
      refine C1.out.mono ?_
      rintro _ w3 ⟨A3, n3, c3, rfl, h3, b3⟩
      have K13 := Lib.hid (K1d.out.step b3); have K23 := Lib.hid (K2d.out.step b3); have B3 := Lib.hid (below_step B2d.out b3)
      have S3 := And.intro K13.out.c0 (And.intro K13.out.c1 K13.out.c2)
      have r0 := K23.out.c0; have r1 := K23.out.c1; have r2 := K23.out.c2
      have z0 := K23.out.fz 0; have z1 := K23.out.fz 1; have z2 := K23.out.fz 2
      have F := fun (i : Nat) => put3_far w3 (w.heap.size + 1) w.heap.size i (.bool s) (.slice A3 n3 c3) (.int .i64 e) (by omega)
      have S8 := And.intro ((F 0).trans K13.out.c0) (And.intro ((F 1).trans K13.out.c1) ((F 2).trans K13.out.c2))
      clear F
      have RN := Lib.hid (ret_val (q := ⟨s, M, e⟩) B3.out (Nat.le_add_right w.heap.size 1) K23.out (Nat.zero_le _) K2d.out.lt (h3.less (Nat.zero_le _)) (rd_new h3))
      clear h3 b3))
 go_wp2
 obtain ⟨kr, nr, br⟩ := RN.out
 refine bodyPost_ret (v := .agg #[.bool s, .slice A3 n3 c3, .int .i64 e]) ?_ rfl ⟨_, rfl, nr, br⟩
 have q0 := kr.c0; have q1 := kr.c1; have q2 := kr.c2
 unfold put3 at q0 q1 q2
 simp [results, Tryz.results25, go_sem, q0, q1, q2]
theorem whole_any (w : World) (n : Int) (h1 : -9223372036854775808 ≤ n) (h2 : n < 9223372036854775808) :
  Calls Tryz.prog 28 #[.int .i64 n] w (ValPost w 0 (ofz n 0)) := by
 obtain ⟨M, hM⟩ : ∃ M : Nat, M = n.natAbs := ⟨_, rfl⟩
 have hlt : M < B64 := by unfold B64; omega
 have K1 := Lib.hid (Vx.new w false none 0 0 0); have B1 := Lib.hid (one_below w (.cells #[.bool false, .slice none 0 0, .int .i64 0] 56))
 obtain ⟨r, hr⟩ : ∃ r, r = ofz n 0 := ⟨_, rfl⟩
 rw [← hr]
 have hr' : r = nm (decide (n < 0)) M 0 := by rw [hr, hM]; rfl
 have C := Lib.hid (part_any ((w.alloc (.cells #[.bool false, .slice none 0 0, .int .i64 0] 56)).alloc (.cells #[.int .u64 (M : Int)] 66)) 0 _ (some ⟨w.heap.size + 1, 0, none⟩) 1 1 [M] (by have := one_rd (w.alloc (.cells #[.bool false, .slice none 0 0, .int .i64 0] 56)) M; rw [show (w.alloc (.cells #[.bool false, .slice none 0 0, .int .i64 0] 56)).heap.size = w.heap.size + 1 by simp] at this; exact this) (small1 hlt) (by omega) (Nat.le_refl _))
 rw [nval1] at C
 have B2 := Lib.hid (below_step B1.out (one_below (w.alloc (.cells #[.bool false, .slice none 0 0, .int .i64 0] 56)) (.cells #[.int .u64 (M : Int)] 66)))
 have K2 := Lib.hid (K1.out.step (one_below (w.alloc (.cells #[.bool false, .slice none 0 0, .int .i64 0] 56)) (.cells #[.int .u64 (M : Int)] 66)))
 have HM := Lib.hid hM; have HL := Lib.hid (show M < B64 ^ 1 by rw [Nat.pow_one]; exact hlt); have HR := Lib.hid hr'
 clear hr hr' hlt hM B1 K1
 go_enter Tryz.func28, Tryz.ntmps28
 by_cases hn : n < 0
 ·have f1 : IntKind.u64.wrap n = n + 18446744073709551616 := by rw [IntKind.wrap_u64]; omega
  have f2 : IntKind.u64.wrap (-(n + 18446744073709551616)) = (M : Int) := by rw [IntKind.wrap_u64, HM.out]; omega
  have f3 : decide (n < 0) = true := decide_eq_true hn
  rw [f3] at HR
  go_wp2_with fail
  refine C.out.mono ?_
  clear C
  rintro _ w3 ⟨A3, n3, c3, rfl, h3, b3⟩
  have K3 := Lib.hid (K2.out.step b3); have B3 := Lib.hid (below_step B2.out b3)
  have CO := Lib.hid (odd_any w3 true 0 A3 n3 c3 M 1 (h3.less (Nat.zero_le _)) HL.out (by omega) (by omega) (by omega))
  rw [← HR.out] at CO
  clear h3 b3
  go_wp2_with fail
  refine CO.out.mono ?_
  rintro _ w6 ⟨_, rfl, ⟨A6, n6, c6, rfl, h6, p6⟩, b6⟩
  have K6 := Lib.hid (K3.out.step b6)
  have r0 := K6.out.c0; have r1 := K6.out.c1; have r2 := K6.out.c2
  have z0 := K6.out.fz 0; have z1 := K6.out.fz 1; have z2 := K6.out.fz 2
  have RN := Lib.hid (ret_val (below_step B3.out b6) (Nat.le_refl w.heap.size) K6.out (Nat.zero_le _) K3.out.lt h6 p6)
  clear b6 h6 p6
  go_wp2
  obtain ⟨kr, nr, br⟩ := RN.out
  refine bodyPost_ret (v := .agg #[.bool r.s, .slice A6 n6 c6, .int .i64 r.e]) ?_ rfl ⟨_, rfl, nr, br⟩
  have q0 := kr.c0; have q1 := kr.c1; have q2 := kr.c2
  unfold put3 at q0 q1 q2
  simp [results, Tryz.results28, go_sem, q0, q1, q2]
 ·have f1 : IntKind.u64.wrap n = (M : Int) := by rw [IntKind.wrap_u64, HM.out]; omega
  have f3 : decide (n < 0) = false := decide_eq_false hn
  rw [f3] at HR
  go_wp2_with fail
  refine C.out.mono ?_
  clear C
  rintro _ w3 ⟨A3, n3, c3, rfl, h3, b3⟩
  have K3 := Lib.hid (K2.out.step b3); have B3 := Lib.hid (below_step B2.out b3)
  have CO := Lib.hid (odd_any w3 false 0 A3 n3 c3 M 1 (h3.less (Nat.zero_le _)) HL.out (by omega) (by omega) (by omega))
  rw [← HR.out] at CO
  clear h3 b3
  go_wp2_with fail
  refine CO.out.mono ?_
  rintro _ w6 ⟨_, rfl, ⟨A6, n6, c6, rfl, h6, p6⟩, b6⟩
  have K6 := Lib.hid (K3.out.step b6)
  have r0 := K6.out.c0; have r1 := K6.out.c1; have r2 := K6.out.c2
  have z0 := K6.out.fz 0; have z1 := K6.out.fz 1; have z2 := K6.out.fz 2
  have RN := Lib.hid (ret_val (below_step B3.out b6) (Nat.le_refl w.heap.size) K6.out (Nat.zero_le _) K3.out.lt h6 p6)
  clear b6 h6 p6
  go_wp2
  obtain ⟨kr, nr, br⟩ := RN.out
  refine bodyPost_ret (v := .agg #[.bool r.s, .slice A6 n6 c6, .int .i64 r.e]) ?_ rfl ⟨_, rfl, nr, br⟩
  have q0 := kr.c0; have q1 := kr.c1; have q2 := kr.c2
  unfold put3 at q0 q1 q2
  simp [results, Tryz.results28, go_sem, q0, q1, q2]
end Go.Proofs.YtobcbhppmgnioaaGreatDoor
