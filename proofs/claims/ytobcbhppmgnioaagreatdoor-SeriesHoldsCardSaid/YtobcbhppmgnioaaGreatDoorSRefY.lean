/- fathomlineref1: Cmp, Add, Sub. fathomlineref1: Sub. The digits of the document's answers: Cmp, Add, Sub. fathomlineref1: Left. fathomlineref1: Down. fathomlineref1: Mul. The digits of the document's answers: Mul. -/
import Derived.Test.YtobcbhppmgnioaaGreatDoorSRefX
namespace Go.Proofs.YtobcbhppmgnioaaGreatDoor
set_option maxHeartbeats 4000000
set_option maxRecDepth 100000
open Go.RowKit Nx
section
def CmpRel32 (w : World) (n : Nat) (p q : List Nat) (u : Value) (wr : World) : Prop :=
 ∃ k m : Nat, k ≤ n ∧ u = .int .i64 ((k : Int) - 1) ∧ wr = w.drewN m ∧ Hid (p.drop k = q.drop k)
theorem CmpRel32.of {w wr : World} {n : Nat} {p q : List Nat} {u : Value} (k : Nat) (hk : k ≤ n) (hu : u = .int .i64 ((k : Int) - 1)) (h : ∃ m, wr = w.drewN m) (hI : Hid (p.drop k = q.drop k)) : CmpRel32 w n p q u wr := by
 obtain ⟨m, hm⟩ := h; exact ⟨k, m, hk, hu, hm, hI⟩
theorem cmp32_any (w : World) (lo hi lo' hi' : Nat) (A B : Option Addr) (n c m cb X Y : Nat) (H1' : Rd .u32 w lo hi A n c (digs B32 X)) (H2' : Rd .u32 w lo' hi' B m cb (digs B32 Y)) (hn : n ≤ 100000000) (hm : m ≤ 100000000) :
  Calls Tryz.prog 60 #[.slice A n c, .slice B m cb] w (IntPost w (cmpv X Y)) := by
 have H1 := Lib.hid H1'; have H2 := Lib.hid H2'
 clear H1' H2'
 rcases Nat.lt_or_ge n m with hlt | hge
 ·have hv := Lib.hid (nval_le_of_len B32_two (m := X) (n := Y) (by rw [H1.out.1, H2.out.1]; exact hlt))
  have f1 : ((n : Int) != (m : Int)) = true := by simp; omega
  go_enter Tryz.func60, Tryz.ntmps60
  go_wp2
  go_ret
  rw [cmpv_lt hv.out]
  exact ⟨0, rfl, rfl⟩
 ·rcases Nat.lt_or_ge m n with hlt | hge2
  ·have hv := Lib.hid (nval_le_of_len B32_two (m := Y) (n := X) (by rw [H1.out.1, H2.out.1]; exact hlt))
   have f1 : ((n : Int) != (m : Int)) = true := by simp; omega
   go_enter Tryz.func60, Tryz.ntmps60
   go_wp2
   go_ret
   rw [cmpv_gt hv.out]
   exact ⟨0, rfl, rfl⟩
  ·obtain rfl : n = m := by omega
   have f1 : ((n : Int) != (n : Int)) = false := by simp
   go_enter Tryz.func60, Tryz.ntmps60
   go_wp2
   go_loopw [5] (fun u wr => CmpRel32 w n (digs B32 X) (digs B32 Y) u wr) (fun u _ => (intOf u + 1).toNat)
   case atStart => exact ⟨n, 0, Nat.le_refl _, rfl, rfl, Lib.hid (by
    rw [List.drop_of_length_le (by have := H1.out.1; omega), List.drop_of_length_le (by have := H2.out.1; omega)])⟩
   case round =>
    obtain ⟨k, dn, hk, rfl, rfl, hI⟩ := hrel
    by_cases hlt : 0 < k
    ·obtain ⟨j, hj⟩ : ∃ j, k = j + 1 := ⟨k - 1, by omega⟩
     obtain ⟨ad, x, hA, _, _, hx, hcx⟩ := H1.out.get_ (j := j) (by omega)
     subst hA
     obtain ⟨bd, y, hA, _, _, hy, hcy⟩ := H2.out.get_ (j := j) (by omega)
     subst hA
     have ej : (k : Int) - 1 = (j : Int) := by omega
     rw [ej]
     have hjn : j < n := by omega
     have hI' := hI.out
     rw [hj] at hI'
     have HI := Lib.hid (show (digs B32 X).drop (n - (n - 1 - j)) = (digs B32 Y).drop (n - (n - 1 - j)) by rw [show n - (n - 1 - j) = j + 1 by omega]; exact hI')
     have HX := Lib.hid (show (digs B32 X)[n - 1 - (n - 1 - j)]? = some x by rw [show n - 1 - (n - 1 - j) = j by omega]; exact hx.out)
     have HY := Lib.hid (show (digs B32 Y)[n - 1 - (n - 1 - j)]? = some y by rw [show n - 1 - (n - 1 - j) = j by omega]; exact hy.out)
     have hkk : n - 1 - j < n := by omega
     clear hI' hI hx hy hj ej
     have i1 : (0 : Int) ≤ (j : Int) := by omega
     have i2 : (j : Int) < (n : Int) := by omega
     go_wp2
     go_quiet (fail)
     rcases Nat.lt_or_ge x y with hxy | hxy
     ·go_wp2
      go_ret
      rw [cmpv_lt (top_lt B32_two H1.out.1 H2.out.1 hkk HI.out HX.out HY.out hxy)]
      exact IntPost.of rfl (by first | exact ⟨_, rfl⟩ | exact dr1 _ _ _ | exact dr2 _ _ _ _)
     ·have f2 : decide (x < y) = false := by simp; omega
      go_wp2
      go_quiet (fail)
      rcases Nat.lt_or_ge y x with hyx | hyx
      ·go_wp2
       go_ret
       rw [cmpv_gt (top_lt B32_two H2.out.1 H1.out.1 hkk HI.out.symm HY.out HX.out hyx)]
       exact IntPost.of rfl (by first | exact ⟨_, rfl⟩ | exact dr1 _ _ _ | exact dr2 _ _ _ _)
      ·have f3 : decide (y < x) = false := by simp; omega
       obtain rfl : x = y := by omega
       have HN := top_next H1.out.1 H2.out.1 hkk HI.out HX.out HY.out
       rw [show n - (n - 1 - j + 1) = j by omega] at HN
       have HN2 := Lib.hid HN
       clear HN
       go_wp2
       go_roundw
       case rel => exact CmpRel32.of j (by omega) (by go_num) (by first | exact ⟨_, rfl⟩ | exact dr1 _ _ _ | exact dr2 _ _ _ _) HN2
       case measure => first | (simp [intOf]; done) | (simp [intOf]; omega)
    ·obtain rfl : k = 0 := by omega
     have he := hI.out
     rw [List.drop_zero, List.drop_zero] at he
     have hXY : X = Y := by
      have h1 := nval_digs B32_two X
      rw [he, nval_digs B32_two] at h1
      exact h1.symm
     have HXY := Lib.hid hXY
     clear hXY he
     go_wp2
     go_ret
     rw [cmpv_eq HXY.out]
     exact ⟨dn, rfl, rfl⟩
def SumI (B k c : Nat) (out xs ys : List Nat) : Prop := out.length = k ∧ Small B out ∧ nval B out + B ^ k * c = nval B (xs.take k) + nval B (ys.take k)
theorem SumI.start {B : Nat} {xs ys : List Nat} : SumI B 0 0 [] xs ys := ⟨rfl, Small.nil, by simp [nval]⟩
theorem SumI.step {B k c T : Nat} {out xs ys : List Nat} (hB : 2 ≤ B) (h : SumI B k c out xs ys) (hT : T = c + (xs.getD k 0 + ys.getD k 0)) : SumI B (k + 1) (T / B) (out ++ [T % B]) xs ys := by
 obtain ⟨h1, h2, h3⟩ := h
 refine ⟨by simp [h1], h2.append (Small.cons (Nat.mod_lt _ (by omega)) Small.nil), ?_⟩
 rw [nval_snoc, h1, nval_take_succ, nval_take_succ, Nat.pow_succ]
 have hm := Nat.mod_add_div T B
 generalize T % B = v at *
 generalize T / B = d at *
 generalize nval B out = a at *
 generalize nval B (xs.take k) = b at *
 generalize nval B (ys.take k) = e at *
 generalize xs.getD k 0 = x at *
 generalize ys.getD k 0 = y at *
 generalize B ^ k = P at *
 have : P * v + P * B * d = P * c + (P * x + P * y) := by
  rw [← Nat.mul_add, ← Nat.mul_add, ← hT, ← hm]; grind
 omega
theorem SumI.done {B k : Nat} {out xs ys : List Nat} (h : SumI B k 0 out xs ys) (h1 : xs.length ≤ k) (h2 : ys.length ≤ k) : nval B out = nval B xs + nval B ys := by
 obtain ⟨_, _, h3⟩ := h
 rw [List.take_of_length_le h1, List.take_of_length_le h2] at h3
 simpa using h3
def SumRel (w : World) (xs ys : List Nat) (n m : Nat) (u c v : Value) (wr : World) : Prop :=
 ∃ (k cy : Nat) (out : List Nat), k ≤ n + m + 1 ∧ u = .int .i64 (k : Int) ∧ c = .int .u64 (cy : Int) ∧ cy ≤ 1 ∧ Hid (SumI B32 k cy out xs ys) ∧ Hid (n < k → m < k → cy = 0) ∧ Hid (OutL .u32 122 wr w.heap.size v out) ∧ Hid (Below w.heap.size w wr)
theorem wrap_sum (a b : Nat) (h : a + b < 18446744073709551616) : IntKind.u64.wrap ((a : Int) + (b : Int)) = ((a + b : Nat) : Int) := by rw [cast_add, u64_fits _ h]
theorem add32_any (w : World) (lo hi lo' hi' : Nat) (A B : Option Addr) (n c m cb : Nat) (xs ys : List Nat) (ha : Rd .u32 w lo hi A n c xs) (hb : Rd .u32 w lo' hi' B m cb ys) (hxs : Small B32 xs) (hys : Small B32 ys)
  (hn : n ≤ 100000000) (hm : m ≤ 100000000) (hhi : hi ≤ w.heap.size) (hhi' : hi' ≤ w.heap.size) :
  Calls Tryz.prog 59 #[.slice A n c, .slice B m cb] w (DigPost w (nval B32 xs + nval B32 ys)) := by
 have HA := Lib.hid ha; have HB := Lib.hid hb; have HX := Lib.hid hxs; have HY := Lib.hid hys; have HLx := Lib.hid ha.1; have HLy := Lib.hid hb.1
 clear ha hb hxs hys
 go_enter Tryz.func59, Tryz.ntmps59
 go_wp2
 go_loopw [7, 6, 5] (fun u c v wr => SumRel w xs ys n m u c v wr) (fun u _ _ _ => n + m + 2 - (intOf u).toNat)
 case atStart => exact ⟨0, 0, [], by omega, rfl, rfl, Nat.zero_le _, Lib.hid SumI.start, Lib.hid (fun _ _ => rfl), Lib.hid (OutL.nil _ _ _ _), Lib.hid (Below.refl _ _)⟩
 case round =>
  obtain ⟨k, cy, out, hk, rfl, rfl, hcy, hI, hZ, hO, hBw⟩ := hrel
  obtain ⟨A0, n0, c0, rfl, hn0, hrd0⟩ := hO.out.rdn
  by_cases hcont : k < n ∨ (¬ k < n ∧ k < m) ∨ (¬ k < n ∧ ¬ k < m ∧ 0 < cy)
  ·have hkb : k ≤ n + m := by
    rcases hcont with h | h | h
    ·omega
    ·omega
    ·have := hZ.out
     rcases Nat.lt_or_ge (n + m) k with h1 | h1
     ·have := this (by omega) (by omega); omega
     ·exact h1
   have ha1 := Lib.hid (HA.out.below (hBw.out.mono hhi))
   have hb1 := Lib.hid (HB.out.below (hBw.out.mono hhi'))
   have hxB := getD_lt HX.out (by unfold B32; omega) k
   have hyB := getD_lt HY.out (by unfold B32; omega) k
   have hca := Lib.hid (digit_any wr lo hi A n c k xs ha1.out HX.out)
   have hcb := Lib.hid (digit_any wr lo' hi' B m cb k ys hb1.out HY.out)
   have hI2 := hI.out.step B32_two (T := cy + (xs.getD k 0 + ys.getD k 0)) rfl
   have hlen := hI.out.1
   obtain ⟨v', w', hrun, hO', hB'⟩ := out32 wr w.heap.size _ _ [(cy + (xs.getD k 0 + ys.getD k 0)) % B32] hO.out hBw.out.size (by rw [hlen]; simp; omega)
   have hnext : n < k + 1 → m < k + 1 → (cy + (xs.getD k 0 + ys.getD k 0)) / B32 = 0 := by
    intro h1 h2
    rw [getD_out (xs := xs) (by have := HLx.out; omega), getD_out (xs := ys) (by have := HLy.out; omega)]
    exact Nat.div_eq_of_lt (by unfold B32; omega)
   generalize xs.getD k 0 = x at *
   generalize ys.getD k 0 = y at *
   unfold B32 at hxB hyB
   have e1 := wrap_sum x y (by omega)
   have e2 := wrap_sum cy (x + y) (by omega)
   have hTb : cy + (x + y) < 18446744073709551616 := by omega
   have e3 := mask32 (cy + (x + y)) hTb
   have hd1 : (cy + (x + y)) / B32 ≤ 1 := by unfold B32; omega
   have e4 : ((cy + (x + y) : Nat) : Int) / 4294967296 = (((cy + (x + y)) / B32 : Nat) : Int) := by unfold B32; omega
   have hvB : (cy + (x + y)) % B32 < 4294967296 := by unfold B32; omega
   rw [show (cy + (x + y)) % 4294967296 = (cy + (x + y)) % B32 from rfl] at e3
   obtain ⟨s1, hs1⟩ : ∃ s1, s1 = x + y := ⟨_, rfl⟩
   rw [← hs1] at e1 e2 e3 e4 hI2 hrun hO' hTb hd1 hvB hnext
   obtain ⟨T, hT⟩ : ∃ T, T = cy + s1 := ⟨_, rfl⟩
   rw [← hT] at e2 e3 e4 hI2 hrun hO' hTb hd1 hvB hnext
   obtain ⟨v, hv⟩ : ∃ v, v = T % B32 := ⟨_, rfl⟩
   obtain ⟨d, hd⟩ : ∃ d, d = T / B32 := ⟨_, rfl⟩
   rw [← hv] at e3 hI2 hrun hO' hvB
   rw [← hd] at e4 hI2 hd1 hnext
   have e5 : IntKind.u32.wrap (v : Int) = (v : Int) := by rw [IntKind.wrap_u32]; omega
   have HR := Lib.hid (show (Builtin.append_ #[54, 54] 54 #[.slice A0 n0 c0, .slice (some ⟨wr.heap.size, 0, none⟩) 1 1]).run Tryz.prog (wr.alloc (.cells #[.int .u32 (v : Int)] 122)) = .ok v' w' from hrun)
   have HI2 := Lib.hid hI2; have HO2 := Lib.hid hO'; have HB2 := Lib.hid (hBw.out.trans hB'); have HNx := Lib.hid hnext
   clear hxB hyB hI2 hlen hrun hO' hB' hTb hvB hs1 hT hv hd hnext ha1 hb1
   rcases hcont with h | ⟨h, h'⟩ | ⟨h, h', h''⟩
   rotate_left 2
   ·have f1 : decide ((0 : Int) < (cy : Int)) = true := by simp; omega
    go_wp2_with fail
    refine hca.out.mono ?_
    rintro _ w3 ⟨rfl, rfl⟩
    go_wp2_with fail
    refine hcb.out.mono ?_
    rintro _ w3 ⟨rfl, rfl⟩
    go_wp2_with (at_builtin; refine wpList_append_run rfl (.tmp 33) (.tmp 37) _ rfl _ _ _ _ rfl rfl HR.out ?_)
    go_roundw
    case rel => exact ⟨k + 1, d, _, by omega, by go_num, rfl, hd1, HI2, HNx, HO2, HB2⟩
    case measure => simp [intOf]; omega
   all_goals
    go_wp2_with fail
    refine hca.out.mono ?_
    rintro _ w3 ⟨rfl, rfl⟩
    go_wp2_with fail
    refine hcb.out.mono ?_
    rintro _ w3 ⟨rfl, rfl⟩
    go_wp2_with (at_builtin; refine wpList_append_run rfl (.tmp 33) (.tmp 37) _ rfl _ _ _ _ rfl rfl HR.out ?_)
    go_roundw
    case rel => exact ⟨k + 1, d, _, by omega, by go_num, rfl, hd1, HI2, HNx, HO2, HB2⟩
    case measure => simp [intOf]; omega
  ·have h1 : ¬ k < n := by omega
   have h2 : ¬ k < m := by omega
   have h3 : cy = 0 := by omega
   subst h3
   have hN := hI.out.done (by have := HLx.out; omega) (by have := HLy.out; omega)
   have HN := Lib.hid hN
   have hlen : n0 ≤ n + m + 1 := by rw [← hn0.out, hI.out.1]; exact hk
   clear hN hcont
   go_wp2_with fail
   refine (trim32_any wr w.heap.size wr.heap.size A0 n0 c0 out hrd0.out hI.out.2.1 (by omega)).mono ?_
   rintro e w' ⟨A3, c3, rfl, rfl, hA3, hc3⟩
   have hfin := hrd0.out.trim hI.out.2.1 hA3 hc3
   rw [HN.out] at hfin
   have HF := Lib.hid hfin
   clear hfin hA3 hc3
   go_wp2
   go_ret
   exact ⟨_, _, _, rfl, HF.out, hBw.out⟩
end
section
def LesI (B k c : Nat) (out xs ys : List Nat) : Prop := out.length = k ∧ Small B out ∧ nval B out + nval B (ys.take k) = nval B (xs.take k) + B ^ k * c
theorem LesI.start {B : Nat} {xs ys : List Nat} : LesI B 0 0 [] xs ys := ⟨rfl, Small.nil, by simp [nval]⟩
theorem LesI.step {B k c v d : Nat} {out xs ys : List Nat} (h : LesI B k c out xs ys) (hv : v < B) (he : v + (ys.getD k 0 + c) = xs.getD k 0 + B * d) : LesI B (k + 1) d (out ++ [v]) xs ys := by
 obtain ⟨h1, h2, h3⟩ := h
 refine ⟨by simp [h1], h2.append (Small.cons hv Small.nil), ?_⟩
 rw [nval_snoc, h1, nval_take_succ, nval_take_succ, Nat.pow_succ]
 generalize nval B out = a at *
 generalize nval B (xs.take k) = b at *
 generalize nval B (ys.take k) = e at *
 generalize xs.getD k 0 = x at *
 generalize ys.getD k 0 = y at *
 generalize B ^ k = P at *
 have : P * v + (P * y + P * c) = P * x + P * B * d := by
  rw [← Nat.mul_add, ← Nat.mul_add, he]; grind
 omega
theorem LesI.done {B n c : Nat} {out xs ys : List Nat} (h : LesI B n c out xs ys) (h1 : xs.length = n) (h2 : ys.length ≤ n) (hle : nval B ys ≤ nval B xs) : nval B out = nval B xs - nval B ys := by
 obtain ⟨g1, g2, g3⟩ := h
 rw [List.take_of_length_le (l := xs) (by omega), List.take_of_length_le h2] at g3
 have := nval_lt g2
 rw [g1] at this
 rcases Nat.eq_zero_or_pos c with e | e
 ·subst e; omega
 ·have h8 : B ^ n * 1 ≤ B ^ n * c := Nat.mul_le_mul_left _ e
  omega
def LesRel (w : World) (xs ys : List Nat) (n : Nat) (u c v : Value) (wr : World) : Prop :=
 ∃ (k cy : Nat) (out : List Nat), k ≤ n ∧ u = .int .i64 (k : Int) ∧ c = .int .u64 (cy : Int) ∧ cy ≤ 1 ∧ Hid (LesI B32 k cy out xs ys) ∧ Hid (OutL .u32 122 wr w.heap.size v out) ∧ Hid (Below w.heap.size w wr)
theorem sub32_any (w : World) (lo hi lo' hi' : Nat) (A B : Option Addr) (n c m cb : Nat) (xs ys : List Nat) (ha : Rd .u32 w lo hi A n c xs) (hb : Rd .u32 w lo' hi' B m cb ys) (hxs : Small B32 xs) (hys : Small B32 ys)
  (hn : n ≤ 100000000) (hhi : hi ≤ w.heap.size) (hhi' : hi' ≤ w.heap.size) (hmn : m ≤ n) (hle : nval B32 ys ≤ nval B32 xs) :
  Calls Tryz.prog 61 #[.slice A n c, .slice B m cb] w (DigPost w (nval B32 xs - nval B32 ys)) := by
 have HA := Lib.hid ha; have HB := Lib.hid hb; have HX := Lib.hid hxs; have HY := Lib.hid hys; have HLx := Lib.hid ha.1; have HLy := Lib.hid hb.1; have HLe := Lib.hid hle
 clear ha hb hxs hys hle
 go_enter Tryz.func61, Tryz.ntmps61
 go_wp2
 go_loopw [7, 6, 5] (fun u c v wr => LesRel w xs ys n u c v wr) (fun u _ _ _ => n - (intOf u).toNat)
 case atStart => exact ⟨0, 0, [], Nat.zero_le _, rfl, rfl, Nat.zero_le _, Lib.hid LesI.start, Lib.hid (OutL.nil _ _ _ _), Lib.hid (Below.refl _ _)⟩
 case round =>
  obtain ⟨k, cy, out, hk, rfl, rfl, hcy, hI, hO, hBw⟩ := hrel
  obtain ⟨A0, n0, c0, rfl, hn0, hrd0⟩ := hO.out.rdn
  by_cases hlt : k < n
  ·obtain ⟨ad, x, hA, _, hbl, hx, hcx0⟩ := HA.out.get_ (j := k) hlt
   subst hA
   have hcx : wr.cell? (ad.add k) = some (.int .u32 (x : Int)) := by rw [← hcx0]; exact hBw.out.cell (by rw [block_of_add]; omega)
   have hxB := HX.out.get hx.out
   have hyB := getD_lt HY.out (by unfold B32; omega) k
   have hcb := fun (W : World) (h : Rd .u32 W lo' hi' B m cb ys) => Lib.hid (digit_any W lo' hi' B m cb k ys h HY.out)
   have hb1 := Lib.hid (HB.out.below (hBw.out.mono hhi'))
   have hgx := getD_of hx.out
   have hst := fun v d (hv : v < B32) (he : v + (ys.getD k 0 + cy) = xs.getD k 0 + B32 * d) => hI.out.step hv he
   have hlen := hI.out.1
   rw [hgx] at hst
   have e0 := u64_of32 x hxB
   generalize ys.getD k 0 = y at *
   unfold B32 at hxB hyB
   have e1 := wrap_sum y cy (by omega)
   obtain ⟨yy, hyy⟩ : ∃ yy, yy = y + cy := ⟨_, rfl⟩
   rw [← hyy] at e1
   have hyyB : yy ≤ 4294967296 := by omega
   have HC := Lib.hid hcb
   have i1 : (0 : Int) ≤ (k : Int) := by omega
   have i2 : (k : Int) < (n : Int) := by omega
   clear hcx0 hgx hcb
   rcases Nat.lt_or_ge x yy with hxy | hxy
   ·have e2 : IntKind.u64.wrap ((x : Int) + 4294967296) = ((x + 4294967296 : Nat) : Int) := by rw [show (x : Int) + 4294967296 = ((x + 4294967296 : Nat) : Int) by omega, u64_fits _ (by omega)]
    obtain ⟨x2, hx2⟩ : ∃ x2, x2 = x + 4294967296 := ⟨_, rfl⟩
    rw [← hx2] at e2
    obtain ⟨v, hv⟩ : ∃ v, v = x2 - yy := ⟨_, rfl⟩
    have e3 : IntKind.u64.wrap ((x2 : Int) - (yy : Int)) = (v : Int) := by rw [show (x2 : Int) - (yy : Int) = (v : Int) by omega, u64_fits _ (by omega)]
    have e4 : IntKind.u32.wrap (v : Int) = (v : Int) := by rw [IntKind.wrap_u32]; omega
    have hI2 := Lib.hid (hst v 1 (by unfold B32; omega) (by unfold B32; omega))
    obtain ⟨v', w', hrun, hO', hB'⟩ := out32 wr.drew w.heap.size _ _ [v] hO.out.drew_ hBw.out.size (by rw [hlen]; simp; omega)
    have HR := Lib.hid (show (Builtin.append_ #[54, 54] 54 #[.slice A0 n0 c0, .slice (some ⟨wr.heap.size, 0, none⟩) 1 1]).run Tryz.prog ((wr.alloc (.cells #[.int .u32 (v : Int)] 122)).drew) = .ok v' w' from hrun)
    have HO2 := Lib.hid hO'; have HB2 := Lib.hid (hBw.out.trans (show Below w.heap.size wr w' from ⟨hB'.os, hB'.tape, hB'.output, hB'.size, hB'.block⟩))
    have f1 : decide (x < yy) = true := by simp; omega
    clear hst hlen hrun hO' hB' hx2 hv hyy hxB hyB hyyB
    go_wp2
    go_region_with (go_at_call 103; refine (HC.out _ ?_).out.mono ?_; (exact hb1.out); rintro _ w3 ⟨rfl, rfl⟩)
    all_goals
     go_wp2_with (at_builtin; refine wpList_append_run rfl (.tmp 31) (.tmp 36) _ rfl _ _ _ _ rfl rfl HR.out ?_)
     go_roundw
     case rel => exact ⟨k + 1, 1, _, by omega, by go_num, rfl, Nat.le_refl _, hI2, HO2, HB2⟩
     case measure => simp [intOf]; omega
   ·obtain ⟨v, hv⟩ : ∃ v, v = x - yy := ⟨_, rfl⟩
    have e3 : IntKind.u64.wrap ((x : Int) - (yy : Int)) = (v : Int) := by rw [show (x : Int) - (yy : Int) = (v : Int) by omega, u64_fits _ (by omega)]
    have e4 : IntKind.u32.wrap (v : Int) = (v : Int) := by rw [IntKind.wrap_u32]; omega
    have hI2 := Lib.hid (hst v 0 (by unfold B32; omega) (by omega))
    obtain ⟨v', w', hrun, hO', hB'⟩ := out32 wr.drew w.heap.size _ _ [v] hO.out.drew_ hBw.out.size (by rw [hlen]; simp; omega)
    have HR := Lib.hid (show (Builtin.append_ #[54, 54] 54 #[.slice A0 n0 c0, .slice (some ⟨wr.heap.size, 0, none⟩) 1 1]).run Tryz.prog ((wr.alloc (.cells #[.int .u32 (v : Int)] 122)).drew) = .ok v' w' from hrun)
    have HO2 := Lib.hid hO'; have HB2 := Lib.hid (hBw.out.trans (show Below w.heap.size wr w' from ⟨hB'.os, hB'.tape, hB'.output, hB'.size, hB'.block⟩))
    have f1 : decide (x < yy) = false := by simp; omega
    clear hst hlen hrun hO' hB' hv hyy hxB hyB hyyB
    go_wp2
    go_region_with (go_at_call 103; refine (HC.out _ ?_).out.mono ?_; (exact hb1.out); rintro _ w3 ⟨rfl, rfl⟩)
    all_goals
     go_wp2_with (at_builtin; refine wpList_append_run rfl (.tmp 31) (.tmp 36) _ rfl _ _ _ _ rfl rfl HR.out ?_)
     go_roundw
     case rel => exact ⟨k + 1, 0, _, by omega, by go_num, rfl, Nat.zero_le _, hI2, HO2, HB2⟩
     case measure => simp [intOf]; omega
  ·have hkn : k = n := by omega
   subst hkn
   have hN := hI.out.done HLx.out (by have := HLy.out; omega) HLe.out
   have HN := Lib.hid hN
   have hlen : n0 ≤ k := by rw [← hn0.out, hI.out.1]; exact Nat.le_refl _
   clear hN
   go_wp2_with fail
   refine (trim32_any wr w.heap.size wr.heap.size A0 n0 c0 out hrd0.out hI.out.2.1 (by omega)).mono ?_
   rintro e w' ⟨A3, c3, rfl, rfl, hA3, hc3⟩
   have hfin := hrd0.out.trim hI.out.2.1 hA3 hc3
   rw [HN.out] at hfin
   have HF := Lib.hid hfin
   clear hfin hA3 hc3
   go_wp2
   go_ret
   exact ⟨_, _, _, rfl, HF.out, hBw.out⟩
end
section
section
variable {W : World} {A B : Option Addr} {n c m d X Y k l : Nat}
theorem rcmp_is (ha : Dg W A n c X) (hb : Dg W B m d Y) (hX : X < B64 ^ k) (hY : Y < B64 ^ l) (hk : k ≤ 100000) (hl : l ≤ 100000) : Calls Tryz.prog 60 #[.slice A n c, .slice B m d] W fun e w' => e = .returned (.int .i64 (cmpv X Y)) ∧ Below W.heap.size W w' := by
 refine (cmp32_any W 0 _ 0 _ A B n c m d X Y ha hb (by have := ha.len hX; omega) (by have := hb.len hY; omega)).mono ?_
 rintro e w' ⟨t, rfl, rfl⟩
 exact ⟨rfl, below_drewN (Below.refl _ _) t⟩
theorem rsub_is (ha : Dg W A n c X) (hb : Dg W B m d Y) (hX : X < B64 ^ k) (hk : k ≤ 100000) (hYX : Y ≤ X) : Calls Tryz.prog 61 #[.slice A n c, .slice B m d] W (NewDg W (X - Y)) := by
 have hmn : m ≤ n := by
  rcases Nat.lt_or_ge n m with h | h
  ·have := nval_le_of_len B32_two (m := X) (n := Y) (by rw [ha.1, hb.1]; exact h)
   omega
  ·exact h
 exact (sub32_any W 0 _ 0 _ A B n c m d _ _ ha hb (small_digs B32_two _) (small_digs B32_two _) (by have := ha.len hX; omega) (Nat.le_refl _) (Nat.le_refl _) hmn (by rw [nval_digs B32_two, nval_digs B32_two]; exact hYX)).mono fun e w' h => NewDg.of h (by rw [nval_digs B32_two, nval_digs B32_two])
end
end
section
def UpJ (n s q k : Nat) (cur p : List Nat) : Prop :=
 cur.length = s + n + 1 ∧ Small B32 cur ∧ nval B32 cur = B32 ^ s * (2 ^ q * nval B32 (p.take k)) ∧ cur.getD (s + k) 0 < 2 ^ q ∧ cur.drop (s + k + 1) = List.replicate (n - k) 0
theorem UpJ.start {n s q : Nat} {p : List Nat} : UpJ n s q 0 (List.replicate (s + n + 1) 0) p := by
 refine ⟨by simp, small_replicate (by unfold B32; omega), by rw [nval_zeros]; simp [nval], ?_, ?_⟩
 ·have : (List.replicate (s + n + 1) 0).getD (s + 0) 0 = 0 := by
   rw [List.getD_eq_getElem?_getD, List.getElem?_replicate]; split <;> rfl
  rw [this]; exact Nat.two_pow_pos q
 ·rw [List.drop_replicate]; congr 1; omega
theorem up_digits {q x h lx hx : Nat} (hq : q < 32) (hxB : x < B32) (hh : h < 2 ^ q) (h1 : lx = x * 2 ^ q % B32) (h2 : hx = x * 2 ^ q / B32) :
  h ||| lx = h + lx ∧ h + lx < B32 ∧ lx < B32 ∧ hx < 2 ^ q ∧ lx + B32 * hx = x * 2 ^ q ∧ x * 2 ^ q < 18446744073709551616 := by
 have hp : 2 ^ (32 - q) * 2 ^ q = B32 := by rw [← Nat.pow_add, Nat.sub_add_cancel (by omega)]; rfl
 have hqp := Nat.two_pow_pos q
 have hm := Nat.mod_add_div (x * 2 ^ q) B32
 rw [← h1, ← h2] at hm
 have hl : lx = 2 ^ q * (x % 2 ^ (32 - q)) := by
  rw [h1, ← hp, Nat.mul_mod_mul_right, Nat.mul_comm]
 have hlt : x % 2 ^ (32 - q) < 2 ^ (32 - q) := Nat.mod_lt _ (Nat.two_pow_pos _)
 have hle : 2 ^ q * (x % 2 ^ (32 - q) + 1) ≤ 2 ^ q * 2 ^ (32 - q) := Nat.mul_le_mul_left _ hlt
 rw [Nat.mul_add, ← hl, Nat.mul_comm (2 ^ q) (2 ^ (32 - q)), hp] at hle
 have hxq : x * 2 ^ q < B32 * 2 ^ q := Nat.mul_lt_mul_of_pos_right hxB hqp
 have hq32 : 2 ^ q ≤ 2 ^ 32 := Nat.pow_le_pow_right (by omega) (by omega)
 refine ⟨?_, by omega, by omega, ?_, hm, ?_⟩
 ·rw [Nat.or_comm, hl, ← Nat.two_pow_add_eq_or_of_lt hh, Nat.add_comm]
 ·rw [h2, Nat.div_lt_iff_lt_mul (by unfold B32; omega), Nat.mul_comm (2 ^ q)]; exact hxq
 ·unfold B32 at hxq; omega
theorem UpJ.step {n s q k x h lx hx : Nat} {cur p : List Nat} (hI : UpJ n s q k cur p) (hk : k < n) (hq : q < 32) (hp : p[k]? = some x) (hxB : x < B32) (hh : cur[s + k]? = some h) (h1 : lx = x * 2 ^ q % B32) (h2 : hx = x * 2 ^ q / B32) :
  UpJ n s q (k + 1) ((cur.set (s + k) (h + lx)).set (s + k + 1) hx) p := by
 obtain ⟨g1, g2, g3, g4, g5⟩ := hI
 have hg := getD_of hh
 rw [hg] at g4
 obtain ⟨_, w2, w3, w4, w5, _⟩ := up_digits hq hxB g4 h1 h2
 have hz : cur.drop (s + k + 1) = 0 :: List.replicate (n - k - 1) 0 := by
  rw [g5, show n - k = (n - k - 1) + 1 by omega, List.replicate_succ]; rfl
 have h0 : cur.getD (s + k + 1) 0 = 0 := by
  have : cur[s + k + 1]? = some 0 := by
   have e : (cur.drop (s + k + 1))[0]? = cur[s + k + 1]? := by simp
   rw [← e, hz]; rfl
  exact getD_of this
 have hqB : 2 ^ q ≤ B32 := by rw [show B32 = 2 ^ 32 from rfl]; exact Nat.pow_le_pow_right (by omega) (by omega)
 have n1 := nval_set B32 cur (s + k) (h + lx) (by omega)
 have n2 := nval_set B32 (cur.set (s + k) (h + lx)) (s + k + 1) hx (by simp; omega)
 have h0' : (cur.set (s + k) (h + lx)).getD (s + k + 1) 0 = 0 := by
  rw [List.getD_eq_getElem?_getD, List.getElem?_set_ne (by omega), ← List.getD_eq_getElem?_getD]; exact h0
 rw [h0', Nat.mul_zero, Nat.add_zero] at n2
 rw [hg] at n1
 refine ⟨by simpa using g1, (g2.set _ w2).set _ (by omega), ?_, ?_, ?_⟩
 ·rw [n2, nval_take_succ, getD_of hp]
  have e1 : B32 ^ (s + k + 1) * hx = B32 ^ (s + k) * (B32 * hx) := by rw [Nat.pow_succ]; grind
  have e2 : B32 ^ s * (2 ^ q * (nval B32 (p.take k) + B32 ^ k * x)) = B32 ^ s * (2 ^ q * nval B32 (p.take k)) + B32 ^ (s + k) * (x * 2 ^ q) := by rw [Nat.pow_add]; grind
  rw [e2, ← g3, ← w5, e1, Nat.mul_add]
  rw [Nat.mul_add] at n1
  omega
 ·rw [show s + (k + 1) = s + k + 1 by omega, getD_set _ _ _ (by simp; omega)]; exact w4
 ·rw [show s + (k + 1) + 1 = s + k + 1 + 1 by omega, drop_set_succ]
  have e := congrArg (List.drop 1) hz
  rw [List.drop_drop] at e
  rw [List.drop_set, if_pos (by omega)]
  rw [show n - (k + 1) = n - k - 1 by omega]
  simpa using e
def UpRel32 (w : World) (g n s q : Nat) (p : List Nat) (u : Value) (wr : World) : Prop :=
 ∃ (k : Nat) (cur : List Nat), k ≤ n ∧ u = .int .i64 (k : Int) ∧ Hid (UpJ n s q k cur p) ∧ Hid (Row .u32 wr g 122 cur) ∧ Hid (w.grownBy wr (some g))
theorem left32_any (w : World) (lo hi : Nat) (A : Option Addr) (n c s q b : Nat) (xs : List Nat) (ha : Rd .u32 w lo hi A n c xs) (hxs : Small B32 xs) (hn : n ≤ 100000000) (hhi : hi ≤ w.heap.size)
  (hb : b ≤ 1200000) (hs : s = b / 32) (hq : q = b % 32) :
  Calls Tryz.prog 57 #[.slice A n c, .int .i64 (b : Int)] w (DigPost w (nval B32 xs * 2 ^ b)) := by
 have HA := Lib.hid ha; have HX := Lib.hid hxs
 have HL := Lib.hid ha.1
 have e1 : (b : Int) / 32 = (s : Int) := by omega
 have e2 : (b : Int) % 32 = (q : Int) := by omega
 have hq32 : q < 32 := by omega
 have hs32 : s ≤ 1000000 := by omega
 have HB := Lib.hid (show B32 ^ s * 2 ^ q = 2 ^ b by rw [pow32, ← Nat.pow_add]; congr 1; omega)
 clear ha hxs hs hq
 rcases Nat.eq_zero_or_pos n with e | e
 ·have hz : nval B32 xs * 2 ^ b = 0 := by
   rw [List.eq_nil_of_length_eq_zero (HL.out.trans e)]; simp [nval]
  have HZ := Lib.hid hz
  clear hz
  subst e
  go_enter Tryz.func57, Tryz.ntmps57
  go_wp2
  go_ret
  exact ⟨none, 0, 0, rfl, by rw [HZ.out, digs_zero]; exact Rd.none_, Below.refl _ _⟩
 ·have f1 : ((n : Int) == 0) = false := by simp; omega
  have hmk := fun W => make32 ((s : Int) + (n : Int) + 1) (s + n + 1) (by omega) (by omega) W
  have HRow := Lib.hid (zrow_row .u32 122 (s + n + 1) w)
  have HB0 := Lib.hid ((Below.refl w.heap.size w).alloc (Nat.le_refl _) (zrow .u32 122 (s + n + 1)))
  have HSz := Lib.hid (show w.heap.size < (w.alloc (zrow .u32 122 (s + n + 1))).heap.size by simp)
  go_enter Tryz.func57, Tryz.ntmps57
  go_wp2
  generalize hw0 : w.alloc (zrow .u32 122 (s + n + 1)) = w0 at *
  clear hw0
  go_loopw [6] (fun u wr => UpRel32 w0 w.heap.size n s q xs u wr) (fun u _ => n - (intOf u).toNat)
  case atStart => exact ⟨0, _, Nat.zero_le _, rfl, Lib.hid UpJ.start, HRow, Lib.hid (only_refl _ _)⟩
  case round =>
   obtain ⟨k, cur, hk, rfl, hI, hR, hG⟩ := hrel
   have hbw : Below w.heap.size w wr := HB0.out.trans (only_below hG.out (by have := HSz.out; omega) (Nat.le_refl _))
   by_cases hlt : k < n
   ·obtain ⟨ad, x, hA, _, hbl, hx, hcx0⟩ := HA.out.get_ (j := k) hlt
    subst hA
    have hcx : wr.cell? (ad.add k) = some (.int .u32 (x : Int)) := by rw [← hcx0]; exact hbw.cell (by rw [block_of_add]; omega)
    have hlen := hI.out.1
    obtain ⟨h, hh⟩ : ∃ h, cur[s + k]? = some h := ⟨cur[s + k]'(by omega), List.getElem?_eq_getElem _⟩
    obtain ⟨h', hh'⟩ : ∃ h', cur[s + k + 1]? = some h' := ⟨cur[s + k + 1]'(by omega), List.getElem?_eq_getElem _⟩
    have hch := hR.out.cell (i := s + k) (by omega)
    have hch' := hR.out.cell (i := s + k + 1) (by omega)
    rw [getD_of hh] at hch
    rw [getD_of hh'] at hch'
    have hf1 := hR.out.frozen (s + k)
    have hf2 := hR.out.frozen (s + k + 1)
    have HBW := Lib.hid hbw
    have hxB := HX.out.get hx.out
    obtain ⟨P, hP⟩ : ∃ P, P = x * 2 ^ q := ⟨_, rfl⟩
    obtain ⟨lx, hlx⟩ : ∃ lx, lx = P % B32 := ⟨_, rfl⟩
    obtain ⟨hx2, hhx⟩ : ∃ hx2, hx2 = P / B32 := ⟨_, rfl⟩
    have hh2 : h < 2 ^ q := by have := hI.out.2.2.2.1; rwa [getD_of hh] at this
    obtain ⟨y1, y2, y3, y4, y5, y6⟩ := up_digits (lx := lx) (hx := hx2) hq32 hxB hh2 (by rw [hlx, hP]) (by rw [hhx, hP])
    have hI2 := Lib.hid (hI.out.step (lx := lx) (hx := hx2) hlt hq32 hx.out hxB hh (by rw [hlx, hP]) (by rw [hhx, hP]))
    obtain ⟨v, hv⟩ : ∃ v, v = h + lx := ⟨_, rfl⟩
    rw [← hv] at y1 y2 hI2
    rw [← hP] at y6
    have k0 := u64_of32 x hxB
    have k1 : IntKind.u64.wrap ((x : Int) * 2 ^ q) = (P : Int) := by rw [show (x : Int) * 2 ^ q = ((x * 2 ^ q : Nat) : Int) by simp, ← hP, u64_fits _ y6]
    have k2 : bits .and .u64 (P : Int) 4294967295 = (lx : Int) := by rw [mask32 P y6, hlx]; rfl
    have hxs32 : hx2 < 4294967296 := by
     have h1 : 2 ^ q ≤ 2 ^ 32 := Nat.pow_le_pow_right (by omega) (by omega)
     omega
    have k3 : IntKind.u32.wrap (lx : Int) = (lx : Int) := by unfold B32 at y3; rw [IntKind.wrap_u32]; omega
    have k4 : bits .or .u32 (h : Int) (lx : Int) = (v : Int) := by rw [u32_or_nat h lx (by unfold B32 at y2; omega) y3, y1]
    have k5 : (P : Int) / 4294967296 = (hx2 : Int) := by rw [hhx]; unfold B32; omega
    have k6 : IntKind.u32.wrap (hx2 : Int) = (hx2 : Int) := by rw [IntKind.wrap_u32]; omega
    have hrow1 := hR.out.set_ (s + k) v
    have hrow2 := hrow1.set_ (s + k + 1) hx2
    have m2 : (wr.setCell ⟨w.heap.size, s + k, none⟩ (.int .u32 (v : Int))).cell? ⟨w.heap.size, s + k + 1, none⟩ = some (.int .u32 (h' : Int)) := by
     rw [← hch']; exact World.cell?_setCell_other _ _ _ _ (fun e => by have := congrArg Addr.off e; simp at this)
    have m3 := hrow1.frozen (s + k + 1)
    have G1 := Lib.hid (only_set (p := ⟨w.heap.size, s + k + 1, none⟩) (only_set (p := ⟨w.heap.size, s + k, none⟩) hG.out (.inl rfl) (.int .u32 (v : Int))) (.inl rfl) (.int .u32 (hx2 : Int)))
    have HR2 := Lib.hid hrow2
    clear hbw hh hh' hlen hcx0 hxB hlx hhx hh2 y1 y2 y3 y4 y5 y6 hv hrow1 hrow2 hP hxs32
    have i1 : (0 : Int) ≤ (k : Int) := by omega
    have i2 : (k : Int) < (n : Int) := by omega
    have i5 : ((s : Int) + (k : Int)).toNat = s + k := by omega
    go_wp2
    go_roundw
    case rel => exact ⟨k + 1, _, by omega, by go_num, hI2, Lib.hid HR2.out, Lib.hid G1.out⟩
    case measure => simp [intOf]; omega
   ·have hkn : k = n := by omega
    subst hkn
    have hl := hI.out.1
    have hval : nval B32 cur = nval B32 xs * 2 ^ b := by
     have := hI.out.2.2.1
     rw [List.take_of_length_le (by rw [HL.out]; omega), ← Nat.mul_assoc, HB.out, Nat.mul_comm] at this
     exact this
    have hrd : Rd .u32 wr w.heap.size wr.heap.size (some ⟨w.heap.size, 0, none⟩) (s + k + 1) (s + k + 1) cur := by
     have := hR.out.rd0 (lo := w.heap.size) (hi := wr.heap.size) (c := s + k + 1) (Nat.le_refl _) hR.out.lt (by rw [hl]; omega)
     rw [hl] at this; exact this
    have HRD := Lib.hid hrd
    have HV := Lib.hid hval
    have HBW := Lib.hid hbw
    clear hl hval hrd hbw
    go_wp2_with fail
    refine (trim32_any wr w.heap.size wr.heap.size (some ⟨w.heap.size, 0, none⟩) (s + k + 1) (s + k + 1) cur HRD.out hI.out.2.1 (by omega)).mono ?_
    rintro e w' ⟨A3, c3, rfl, rfl, hA3, hc3⟩
    have hfin := HRD.out.trim hI.out.2.1 hA3 hc3
    rw [HV.out] at hfin
    have HF := Lib.hid hfin
    clear hfin
    go_wp2
    go_ret
    exact ⟨_, _, _, rfl, HF.out, HBW.out⟩
end
section
theorem down_digit {q x y z T d : Nat} (hq : q < 32) (hxB : x < B32) (hz : z = x + B32 * y) (hT : T = z / 2 ^ q) (hd : d = T % B32) :
  d < B32 ∧ 2 ^ q * d + x % 2 ^ q = x + B32 * (y % 2 ^ q) := by
 have hp : 2 ^ q * 2 ^ (32 - q) = B32 := by rw [← Nat.pow_add, Nat.add_sub_cancel' (by omega)]; rfl
 have hqp := Nat.two_pow_pos q
 have hPp := Nat.two_pow_pos (32 - q)
 generalize 2 ^ (32 - q) = P at *
 generalize 2 ^ q = Q at *
 have h1 : T = x / Q + P * y := by
  rw [hT, hz, ← hp, Nat.mul_assoc, Nat.add_mul_div_left _ _ hqp]
 have hy := Nat.mod_add_div y Q
 have hx := Nat.mod_add_div x Q
 have hxq : x / Q < P := by
  rw [Nat.div_lt_iff_lt_mul hqp, Nat.mul_comm, hp]; exact hxB
 have hyq : y % Q < Q := Nat.mod_lt _ hqp
 have h2 : T = (x / Q + P * (y % Q)) + B32 * (y / Q) := by
  rw [h1, ← hp]
  conv => lhs; rw [← hy]
  grind
 have h3 : x / Q + P * (y % Q) < B32 := by
  have : P * (y % Q + 1) ≤ P * Q := Nat.mul_le_mul_left _ hyq
  rw [Nat.mul_add, Nat.mul_comm P Q, hp] at this
  omega
 have h4 : d = x / Q + P * (y % Q) := by
  rw [hd, h2, Nat.add_mul_mod_self_left, Nat.mod_eq_of_lt h3]
 refine ⟨by omega, ?_⟩
 rw [h4, Nat.mul_add, ← Nat.mul_assoc, hp]
 omega
def DownI (q k : Nat) (out ys : List Nat) : Prop :=
 out.length = k ∧ Small B32 out ∧ 2 ^ q * nval B32 out + ys.getD 0 0 % 2 ^ q = nval B32 (ys.take k) + B32 ^ k * (ys.getD k 0 % 2 ^ q)
theorem DownI.start {q : Nat} {ys : List Nat} : DownI q 0 [] ys := ⟨rfl, Small.nil, by simp [nval]⟩
theorem DownI.step {q k z T d : Nat} {out ys : List Nat} (h : DownI q k out ys) (hq : q < 32) (hxB : ys.getD k 0 < B32) (hz : z = ys.getD k 0 + B32 * ys.getD (k + 1) 0) (hT : T = z / 2 ^ q) (hd : d = T % B32) :
  DownI q (k + 1) (out ++ [d]) ys := by
 obtain ⟨h1, h2, h3⟩ := h
 obtain ⟨g1, g2⟩ := down_digit hq hxB hz hT hd
 refine ⟨by simp [h1], h2.append (Small.cons g1 Small.nil), ?_⟩
 rw [nval_snoc, h1, nval_take_succ, Nat.pow_succ]
 generalize ys.getD (k + 1) 0 % 2 ^ q = l2 at *
 generalize ys.getD k 0 = x at *
 generalize hl1 : x % 2 ^ q = l1 at *
 generalize ys.getD 0 0 % 2 ^ q = l0 at *
 generalize 2 ^ q = Q at *
 generalize nval B32 out = a at *
 generalize nval B32 (ys.take k) = b at *
 generalize B32 ^ k = P at *
 have e1 : P * (Q * d) + P * l1 = P * x + P * (B32 * l2) := by rw [← Nat.mul_add, g2, Nat.mul_add]
 have e2 : Q * (a + P * d) = Q * a + P * (Q * d) := by grind
 have e3 : P * B32 * l2 = P * (B32 * l2) := by rw [Nat.mul_assoc]
 rw [e2, e3]
 omega
theorem DownI.done {q n : Nat} {out ys : List Nat} (h : DownI q n out ys) (hl : ys.length ≤ n) : nval B32 out = nval B32 ys / 2 ^ q := by
 obtain ⟨_, _, h3⟩ := h
 rw [List.take_of_length_le hl, getD_out (xs := ys) (k := n) (by omega)] at h3
 have hqp := Nat.two_pow_pos q
 have : ys.getD 0 0 % 2 ^ q < 2 ^ q := Nat.mod_lt _ hqp
 rw [Nat.zero_mod, Nat.mul_zero, Nat.add_zero] at h3
 rw [← h3, Nat.mul_add_div hqp, Nat.div_eq_of_lt this, Nat.add_zero]
theorem nval_drop {B : Nat} {xs : List Nat} (hB : 2 ≤ B) (hs : Small B xs) (s : Nat) (h : s ≤ xs.length) : nval B (xs.drop s) = nval B xs / B ^ s := by
 rw [nval_split B xs s h]
 have h1 := nval_lt (hs.take s)
 rw [List.length_take, Nat.min_eq_left h] at h1
 have hp : 0 < B ^ s := Nat.pow_pos (by omega)
 rw [Nat.add_mul_div_left _ _ hp, Nat.div_eq_of_lt h1, Nat.zero_add]
def DownPost (w : World) (N : Nat) (e : Ending) (w' : World) : Prop :=
 ∃ (A : Option Addr) (n c : Nat) (b : Bool), e = .returned (.tuple #[.slice A n c, .bool b]) ∧ Rd .u32 w' w.heap.size w'.heap.size A n c (digs B32 N) ∧ Below w.heap.size w w'
def DownRel (w : World) (n s q : Nat) (xs : List Nat) (u v : Value) (wr : World) : Prop :=
 ∃ (k : Nat) (out : List Nat), s ≤ k ∧ k ≤ n ∧ u = .int .i64 (k : Int) ∧ Hid (DownI q (k - s) out (xs.drop s)) ∧ Hid (OutL .u32 122 wr w.heap.size v out) ∧ Hid (Below w.heap.size w wr)
theorem getD_drop (xs : List Nat) (s j : Nat) : (xs.drop s).getD j 0 = xs.getD (s + j) 0 := by
 rw [List.getD_eq_getElem?_getD, List.getElem?_drop, ← List.getD_eq_getElem?_getD]
theorem down32_any (w : World) (lo hi : Nat) (A : Option Addr) (n c s q b : Nat) (xs : List Nat) (ha : Rd .u32 w lo hi A n c xs) (hxs : Small B32 xs) (hn : n ≤ 100000000) (hhi : hi ≤ w.heap.size)
  (hb : b ≤ 4000000) (hs : s = b / 32) (hq : q = b % 32) :
  Calls Tryz.prog 102 #[.slice A n c, .int .i64 (b : Int)] w (DownPost w (nval B32 xs / 2 ^ b)) := by
 have HA := Lib.hid ha; have HX := Lib.hid hxs
 have HL := Lib.hid ha.1
 have e1 : (b : Int) / 32 = (s : Int) := by omega
 have e2 : (b : Int) % 32 = (q : Int) := by omega
 have hq32 : q < 32 := by omega
 have hs32 : s ≤ 1000000 := by omega
 have HB := Lib.hid (show B32 ^ s * 2 ^ q = 2 ^ b by rw [pow32, ← Nat.pow_add]; congr 1; omega)
 clear ha hxs hs hq
 rcases Nat.lt_or_ge s n with hsn | hsn
 rotate_left
 ·have hz : nval B32 xs / 2 ^ b = 0 := by
   apply Nat.div_eq_of_lt
   have h1 := nval_lt HX.out
   rw [HL.out] at h1
   have h2 : B32 ^ n ≤ B32 ^ s := Nat.pow_le_pow_right (by unfold B32; omega) hsn
   have h3 : B32 ^ s * 1 ≤ B32 ^ s * 2 ^ q := Nat.mul_le_mul_left _ (Nat.two_pow_pos q)
   have := HB.out
   omega
  have HZ := Lib.hid hz
  clear hz
  go_enter Tryz.func102, Tryz.ntmps102
  go_wp2
  go_ret2
  exact ⟨none, 0, 0, _, rfl, by rw [HZ.out, digs_zero]; exact Rd.none_, Below.refl _ _⟩
 ·go_enter Tryz.func102, Tryz.ntmps102
  go_wp2
  go_loop [7, 6] (fun u v => ∃ (k : Nat) (l : Bool), k ≤ s ∧ u = .int .i64 (k : Int) ∧ v = .bool l) (fun u _ => s - (intOf u).toNat)
  case atStart => exact ⟨0, false, Nat.zero_le _, rfl, rfl⟩
  case round =>
   obtain ⟨k, l, hk, rfl, rfl⟩ := hrel
   by_cases hlt : k < s
   ·obtain ⟨ad, x, hA, _, hbl, hx, hcx⟩ := HA.out.get_ (j := k) (by omega)
    subst hA
    have i1 : (0 : Int) ≤ (k : Int) := by omega
    have i2 : (k : Int) < (n : Int) := by omega
    cases l
    ·go_wp2
     go_round
     case rel => exact ⟨k + 1, _, by omega, by go_num, rfl⟩
     case measure => simp [intOf]; omega
    ·go_wp2
     go_round
     case rel => exact ⟨k + 1, _, by omega, by go_num, rfl⟩
     case measure => simp [intOf]; omega
   ·obtain ⟨ad, x, hA, _, hbl, hx, hcx⟩ := HA.out.get_ (j := s) (by omega)
    subst hA
    have i1 : (0 : Int) ≤ (s : Int) := by omega
    have i2 : (s : Int) < (n : Int) := by omega
    have HX0 := hx
    clear hx
    have HSN := Lib.hid hsn
    obtain ⟨M, hM⟩ : ∃ M : Int, M = ((2 : Int) ^ q - 1) % 4294967296 := ⟨_, rfl⟩
    have m1 : ((2 : Int) ^ q - 1) % 4294967296 = M := hM.symm
    have m2 : IntKind.u32.wrap ((2 : Int) ^ q - 1) = M := by rw [IntKind.wrap_u32, hM]
    obtain ⟨V, hV⟩ : ∃ V : Int, V = bits .and .u32 (x : Int) M := ⟨_, rfl⟩
    have m3 : bits .and .u32 (x : Int) M = V := hV.symm
    obtain ⟨l2, hl2⟩ : ∃ l2 : Bool, l2 = (V != 0) := ⟨_, rfl⟩
    have m4 : (V != 0) = l2 := hl2.symm
    clear i1 hM hV hl2
    cases l
    all_goals
     go_wp2
     go_quiet (fail)
     go_wp2
     try rw [e2]
     try generalize Value.int IntKind.u32 ((2 : Int) ^ q % 4294967296) = va
     try generalize Value.int IntKind.u32 (((2 : Int) ^ q % 4294967296 - 1) % 4294967296) = vb
     go_loopw [9, 8] (fun u v wr => DownRel w n s q xs u v wr) (fun u _ _ => n - (intOf u).toNat)
     case atStart => exact ⟨s, [], Nat.le_refl _, by omega, rfl, Lib.hid (by rw [Nat.sub_self]; exact DownI.start), Lib.hid (OutL.nil _ _ _ _), Lib.hid (below_drewN (Below.refl _ _) _)⟩
     case round =>
      obtain ⟨k2, out, hks, hkn, rfl, hI, hO, hBw⟩ := hrel
      obtain ⟨A0, n0, c0, rfl, hn0, hrd0⟩ := hO.out.rdn
      clear hcx HX0
      by_cases hlt : k2 < n
      ·obtain ⟨ad2, x2, hA, _, hbl2, hx2, hcx0⟩ := HA.out.get_ (j := k2) hlt
       obtain rfl : ad = ad2 := by injection hA
       have hcx : wr.cell? (ad.add k2) = some (.int .u32 (x2 : Int)) := by rw [← hcx0]; exact hBw.out.cell (by rw [block_of_add]; omega)
       have hxB := HX.out.get hx2.out
       have hyB := getD_lt HX.out (by unfold B32; omega) (k2 + 1)
       have hdig : ∀ (W : World) (t : Int), Rd .u32 W lo hi (some ad) n c xs → t = (k2 : Int) + 1 → Calls Tryz.prog 103 #[.slice (some ad) n c, .int .i64 t] W fun e w' => e = .returned (.int .u64 ((xs.getD (k2 + 1) 0 : Nat) : Int)) ∧ W = w' := by
        rintro W t h rfl
        exact digit_any W lo hi (some ad) n c (k2 + 1) xs h HX.out
       have hb1 := Lib.hid (HA.out.below (hBw.out.mono hhi))
       have hstep := fun z T d => hI.out.step (z := z) (T := T) (d := d) hq32
       rw [getD_drop, getD_drop, show s + (k2 - s) = k2 by omega, show s + (k2 - s + 1) = k2 + 1 by omega, getD_of hx2.out, show k2 - s + 1 = k2 + 1 - s by omega] at hstep
       have hlen := hI.out.1
       generalize xs.getD (k2 + 1) 0 = y at *
       have z0 := u64_of32 x2 hxB
       obtain ⟨z1, z2⟩ := pair_word x2 y hxB hyB
       unfold B32 at hxB hyB
       obtain ⟨yy, hyy⟩ : ∃ yy, yy = y * 4294967296 := ⟨_, rfl⟩
       obtain ⟨z, hz⟩ : ∃ z, z = x2 + 4294967296 * y := ⟨_, rfl⟩
       have hzB : z < 18446744073709551616 := by omega
       rw [← hyy] at z1 z2
       rw [← hz] at z2
       obtain ⟨T, hT⟩ : ∃ T, T = z / 2 ^ q := ⟨_, rfl⟩
       have z3 : (z : Int) / 2 ^ q = (T : Int) := by rw [hT]; simp
       have hTB : T < 18446744073709551616 := by
        have := Nat.div_le_self z (2 ^ q)
        omega
       have z4 := mask32 T hTB
       obtain ⟨d, hd⟩ : ∃ d, d = T % 4294967296 := ⟨_, rfl⟩
       rw [← hd] at z4
       have z5 : IntKind.u32.wrap (d : Int) = (d : Int) := by rw [IntKind.wrap_u32]; omega
       have hI2 := Lib.hid (hstep z T d hxB hz hT hd)
       obtain ⟨v', w', hrun, hO', hB'⟩ := out32 wr.drew w.heap.size _ _ [d] hO.out.drew_ hBw.out.size (by rw [hlen]; simp; omega)
       have HR := Lib.hid (show (Builtin.append_ #[54, 54] 54 #[.slice A0 n0 c0, .slice (some ⟨wr.heap.size, 0, none⟩) 1 1]).run Tryz.prog ((wr.alloc (.cells #[.int .u32 (d : Int)] 122)).drew) = .ok v' w' from hrun)
       have HO2 := Lib.hid hO'; have HB2 := Lib.hid (hBw.out.trans (show Below w.heap.size wr w' from ⟨hB'.os, hB'.tape, hB'.output, hB'.size, hB'.block⟩))
       have HC := Lib.hid hdig
       have i1 : (0 : Int) ≤ (k2 : Int) := by omega
       have i3 : (k2 : Int) < (n : Int) := by omega
       have j1 : IntKind.i64.wrap ((k2 : Int) + 1) = (k2 : Int) + 1 := IntWalk.i64_in _ (by omega)
       clear hcx0 hdig hstep hlen hrun hO' hB' hyy hz hT hd hxB hyB hzB hTB hA
       go_wp2
       go_region_with (go_at_call 103; refine (HC.out _ _ ?_ ?_).mono ?_; (exact hb1.out); (first | rfl | omega); rintro _ w3 ⟨rfl, rfl⟩)
       all_goals
        go_wp2_with (at_builtin; refine wpList_append_run rfl (.tmp 66) (.tmp 73) _ rfl _ _ _ _ rfl rfl HR.out ?_)
        go_roundw
        case rel => exact ⟨k2 + 1, _, by omega, by omega, by go_num, hI2, HO2, HB2⟩
        case measure => simp [intOf]; omega
      ·obtain rfl : k2 = n := by omega
       have hN := hI.out.done (by rw [List.length_drop]; have := HL.out; omega)
       rw [nval_drop B32_two HX.out s (by have := HL.out; omega), Nat.div_div_eq_div_mul, HB.out] at hN
       have HN := Lib.hid hN
       have hlen : n0 ≤ k2 := by rw [← hn0.out, hI.out.1]; omega
       clear hN
       go_wp2_with fail
       refine (trim32_any wr w.heap.size wr.heap.size A0 n0 c0 out hrd0.out hI.out.2.1 (by omega)).mono ?_
       rintro e w' ⟨A3, c3, rfl, rfl, hA3, hc3⟩
       have hfin := hrd0.out.trim hI.out.2.1 hA3 hc3
       rw [HN.out] at hfin
       have HF := Lib.hid hfin
       clear hfin hA3 hc3
       go_wp2
       go_ret2
       exact ⟨_, _, _, _, rfl, HF.out, hBw.out⟩
end
section
def RowRel32 (w : World) (g : Nat) (pre seg post ys : List Nat) (f n m : Nat) (u c : Value) (wr : World) : Prop :=
 ∃ (k cy : Nat) (cur : List Nat), k ≤ m ∧ u = .int .i64 (k : Int) ∧ c = .int .u64 (cy : Int) ∧
  Hid (MulI B32 n k cy f cur seg ys ∧ cy < B32) ∧ Hid (Seg .u32 wr g 122 pre cur post) ∧ Hid (w.grownBy wr (some g))
def MulRel32 (w : World) (g n m : Nat) (xs ys : List Nat) (u : Value) (wr : World) : Prop :=
 ∃ (k : Nat) (out : List Nat), k ≤ n ∧ u = .int .i64 (k : Int) ∧ Hid (MulJ B32 n m k out xs ys) ∧ Hid (Row .u32 wr g 122 out) ∧ Hid (w.grownBy wr (some g))
theorem row_done {m cy f : Nat} {cur seg ys : List Nat} (hI : MulI B32 (m + 1) m cy f cur seg ys) (hc : cy < B32) (hL : ys.length = m) :
  (cur.set m cy).length = m + 1 ∧ Small B32 (cur.set m cy) ∧ nval B32 (cur.set m cy) = nval B32 (seg.take m) + f * nval B32 ys := by
 have hd := hI.done hL
 have hl := hI.1
 refine ⟨by simpa using hl, hI.2.1.set m hc, ?_⟩
 rw [← hd, ← List.take_of_length_le (l := cur.set m cy) (i := m + 1) (by simp; omega), nval_take_succ, take_set_same, getD_set _ _ _ (by omega)]
theorem mul32_any (w : World) (lo hi lo' hi' : Nat) (A B : Option Addr) (n c m cb : Nat) (xs ys : List Nat) (ha : Rd .u32 w lo hi A n c xs) (hb : Rd .u32 w lo' hi' B m cb ys) (hxs : Small B32 xs) (hys : Small B32 ys)
  (hn : n ≤ 100000000) (hm : m ≤ 100000000) (hhi : hi ≤ w.heap.size) (hhi' : hi' ≤ w.heap.size) :
  Calls Tryz.prog 62 #[.slice A n c, .slice B m cb] w (DigPost w (nval B32 xs * nval B32 ys)) := by
 have HA := Lib.hid ha; have HB := Lib.hid hb; have HX := Lib.hid hxs; have HY := Lib.hid hys; have HLx := Lib.hid ha.1; have HLy := Lib.hid hb.1
 clear ha hb hxs hys
 have hmk := fun W => make32 ((n : Int) + (m : Int)) (n + m) (by omega) (by omega) W
 have HRow := Lib.hid (zrow_row .u32 122 (n + m) w)
 have HB0 := Lib.hid ((Below.refl w.heap.size w).alloc (Nat.le_refl _) (zrow .u32 122 (n + m)))
 have HSz := Lib.hid (show w.heap.size < (w.alloc (zrow .u32 122 (n + m))).heap.size by simp)
 go_enter Tryz.func62, Tryz.ntmps62
 go_wp2
 generalize hw0 : w.alloc (zrow .u32 122 (n + m)) = w0 at *
 clear hw0
 go_loopw [6] (fun u wr => MulRel32 w0 w.heap.size n m xs ys u wr) (fun u _ => n - (intOf u).toNat)
 case atStart => exact ⟨0, _, Nat.zero_le _, rfl, Lib.hid (MulJ.start B32_two), HRow, Lib.hid (only_refl _ _)⟩
 case round =>
  obtain ⟨k, out, hk, rfl, hI, hR, hG⟩ := hrel
  have hbw : Below w.heap.size w wr := HB0.out.trans (only_below hG.out (by have := HSz.out; omega) (Nat.le_refl _))
  by_cases hlt : k < n
  ·obtain ⟨ad, f, hA, _, hbl, hx, hcf0⟩ := HA.out.get_ (j := k) hlt
   subst hA
   have hfB := HX.out.get hx.out
   obtain ⟨pre, seg, post, q1, q2, q3, q4, q5⟩ := hI.out.parts hlt hx.out
   have HQ := Lib.hid (And.intro (hR.out.toSeg q1) q5)
   have HP := Lib.hid q2; have HN := Lib.hid q3; have HM := Lib.hid q4; have HF := Lib.hid hfB; have HBW := Lib.hid hbw; have HCf := Lib.hid hcf0
   clear q1 q2 q3 q4 q5 hfB hbw hcf0
   generalize wr = w1 at *
   go_wp2
   go_loopw [8, 7] (fun u c wr2 => RowRel32 w1 w.heap.size pre seg post ys f (m + 1) m u c wr2) (fun u _ _ => m - (intOf u).toNat)
   case atStart => exact ⟨0, 0, seg, Nat.zero_le _, rfl, rfl, Lib.hid ⟨MulI.start HN.out HM.out, by unfold B32; omega⟩, Lib.hid HQ.out.1, Lib.hid (only_refl _ _)⟩
   case round =>
    obtain ⟨j, cy, cur, hj, rfl, rfl, hI2, hS, hG2⟩ := hrel
    have hbw2 : Below w.heap.size w wr := HBW.out.trans (only_below hG2.out (Nat.le_of_lt hR.out.lt) (Nat.le_refl _))
    by_cases hjm : j < m
    ·obtain ⟨bd, y, hB, _, hbl', hy, hcy0⟩ := HB.out.get_ (j := j) hjm
     subst hB
     have hcy : wr.cell? (bd.add j) = some (.int .u32 (y : Int)) := by rw [← hcy0]; exact hbw2.cell (by rw [block_of_add]; omega)
     have hcf : wr.cell? (ad.add k) = some (.int .u32 (f : Int)) := by rw [← HCf.out]; exact hbw2.cell (by rw [block_of_add]; omega)
     obtain ⟨x, hx2⟩ : ∃ x, cur[j]? = some x := ⟨cur[j]'(by have := hI2.out.1.1; omega), List.getElem?_eq_getElem _⟩
     have hcx := hS.out.cell HP.out hx2
     have hfx := hS.out.frozen (k + j)
     have hI3 := hI2.out.1.step B32_two hx2 (getD_of hy.out)
     have hcar := mul_carry (hI2.out.1.2.1.get hx2) (HY.out.get hy.out) HF.out hI2.out.2
     have hxB := hI2.out.1.2.1.get hx2
     have hyB := HY.out.get hy.out
     have hfB := HF.out
     have hcB := hI2.out.2
     have hjl : j < cur.length := by have := hI2.out.1.1; omega
     have hPB : y * f ≤ 4294967295 * 4294967295 := Nat.mul_le_mul (by unfold B32 at hyB; omega) (by unfold B32 at hfB; omega)
     have z1 := u64_of32 x hxB
     have z2 := u64_of32 y hyB
     have z3 := u64_of32 f hfB
     obtain ⟨P, hP⟩ : ∃ P, P = y * f := ⟨_, rfl⟩
     rw [← hP] at hI3 hcar hPB
     obtain ⟨S, hS1⟩ : ∃ S, S = P + x := ⟨_, rfl⟩
     obtain ⟨T, hT⟩ : ∃ T, T = x + P + cy := ⟨_, rfl⟩
     rw [← hT] at hI3 hcar
     unfold B32 at hxB hcB
     have z4 : IntKind.u64.wrap ((f : Int) * (y : Int)) = (P : Int) := by
      rw [show (f : Int) * (y : Int) = ((y * f : Nat) : Int) by rw [Int.natCast_mul, Int.mul_comm], ← hP, u64_fits _ (by omega)]
     have z5 : IntKind.u64.wrap ((P : Int) + (x : Int)) = (S : Int) := by rw [cast_add, ← hS1, u64_fits _ (by omega)]
     have z6 : IntKind.u64.wrap ((cy : Int) + (S : Int)) = (T : Int) := by rw [cast_add, show cy + S = T by omega, u64_fits _ (by omega)]
     have z7 := mask32 T (by omega)
     obtain ⟨v, hv⟩ : ∃ v, v = T % B32 := ⟨_, rfl⟩
     obtain ⟨d, hd⟩ : ∃ d, d = T / B32 := ⟨_, rfl⟩
     rw [show T % 4294967296 = v from hv.symm] at z7
     rw [← hv, ← hd] at hI3
     rw [← hd] at hcar
     have z8 : IntKind.u32.wrap (v : Int) = (v : Int) := by unfold B32 at hv; rw [IntKind.wrap_u32]; omega
     have z9 : (T : Int) / 4294967296 = (d : Int) := by unfold B32 at hd; omega
     have HI3 := Lib.hid (And.intro hI3 hcar)
     have hS3 := Lib.hid (hS.out.set_ HP.out (i := j) hjl v)
     have i1 : (0 : Int) ≤ (k : Int) := by omega
     have i2 : (k : Int) < (n : Int) := by omega
     have i3 : (0 : Int) ≤ (j : Int) := by omega
     have i4 : (j : Int) < (m : Int) := by omega
     have i5 : ((k : Int) + (j : Int)).toNat = k + j := by omega
     have i6 : IntKind.i64.wrap ((k : Int) + (j : Int)) = (k : Int) + (j : Int) := IntWalk.i64_in _ (by omega)
     clear hcy0 hx2 hI3 hcar hxB hyB hfB hcB hPB hP hS1 hT hv hd hbw2 hjl
     go_wp2
     go_quiet (fail)
     go_wp2
     go_roundw
     case rel => exact ⟨j + 1, d, _, by omega, by go_num, rfl, HI3, Lib.hid hS3.out, Lib.hid (only_set (only_drewN hG2.out _) (.inl rfl) _)⟩
     case measure => simp [intOf]; omega
    ·have hjm2 : j = m := by omega
     subst hjm2
     have hjl : j < cur.length := by have := hI2.out.1.1; omega
     obtain ⟨x, hx2⟩ : ∃ x, cur[j]? = some x := ⟨cur[j]'hjl, List.getElem?_eq_getElem _⟩
     have hcx := hS.out.cell HP.out hx2
     have hfx := hS.out.frozen (k + j)
     have hcB := hI2.out.2
     have z1 : IntKind.u32.wrap (cy : Int) = (cy : Int) := by unfold B32 at hcB; rw [IntKind.wrap_u32]; omega
     have hS3 := Lib.hid (hS.out.set_ HP.out (i := j) hjl cy)
     obtain ⟨y1, y2, y3⟩ := row_done hI2.out.1 hI2.out.2 HLy.out
     have hJ := Lib.hid (HQ.out.2 _ y1 y2 y3)
     have i5 : ((k : Int) + (j : Int)).toNat = k + j := by omega
     clear hx2 hjl hcB y1 y2 y3 hbw2
     go_wp2
     go_roundw
     case rel => exact ⟨k + 1, _, by omega, by go_num, hJ, Lib.hid hS3.out, Lib.hid (only_set (only_trans hG.out hG2.out) (.inl rfl) _)⟩
     case measure => simp [intOf]; omega
  ·have hkn : k = n := by omega
   subst hkn
   have hl := hI.out.1
   have hval : nval B32 out = nval B32 xs * nval B32 ys := by
    have := hI.out.2.2.1
    rw [List.take_of_length_le (by rw [HLx.out]; omega)] at this
    exact this
   have hrd : Rd .u32 wr w.heap.size wr.heap.size (some ⟨w.heap.size, 0, none⟩) (k + m) (k + m) out := by
    have := hR.out.rd0 (lo := w.heap.size) (hi := wr.heap.size) (c := k + m) (Nat.le_refl _) hR.out.lt (by rw [hl]; omega)
    rw [hl] at this; exact this
   have HRD := Lib.hid hrd
   have HV := Lib.hid hval
   have HBW := Lib.hid hbw
   clear hl hval hrd hbw
   go_wp2_with fail
   refine (trim32_any wr w.heap.size wr.heap.size (some ⟨w.heap.size, 0, none⟩) (k + m) (k + m) out HRD.out hI.out.2.1 (by omega)).mono ?_
   rintro e w' ⟨A3, c3, rfl, rfl, hA3, hc3⟩
   have hfin := HRD.out.trim hI.out.2.1 hA3 hc3
   rw [HV.out] at hfin
   have HF := Lib.hid hfin
   clear hfin
   go_wp2
   go_ret
   exact ⟨_, _, _, rfl, HF.out, HBW.out⟩
end
section
section
variable {W : World} {A B : Option Addr} {n c m d X Y k l : Nat}
end
end
end Go.Proofs.YtobcbhppmgnioaaGreatDoor
