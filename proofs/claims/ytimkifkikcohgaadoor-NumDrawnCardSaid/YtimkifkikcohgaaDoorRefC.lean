/- fathomlineref1: Cmp, Add, Sub. -/
import Derived.Test.YtimkifkikcohgaaDoorIs
namespace Go.Proofs.YtimkifkikcohgaaDoor
open Go.RowKit Nx

/-- The loop of Cmp: the digits above place i are the same. -/
def CmpRel32 (w : World) (n : Nat) (p q : List Nat) (u : Value) (wr : World) : Prop :=
  ∃ k m : Nat, k ≤ n ∧ u = .int .i64 ((k : Int) - 1) ∧ wr = w.drewN m ∧ Hid (p.drop k = q.drop k)
theorem CmpRel32.of {w wr : World} {n : Nat} {p q : List Nat} {u : Value} (k : Nat) (hk : k ≤ n) (hu : u = .int .i64 ((k : Int) - 1)) (h : ∃ m, wr = w.drewN m) (hI : Hid (p.drop k = q.drop k)) : CmpRel32 w n p q u wr := by
  obtain ⟨m, hm⟩ := h; exact ⟨k, m, hk, hu, hm, hI⟩

set_option maxRecDepth 100000 in
set_option maxHeartbeats 1000000 in
theorem cmp32_any (w : World) (lo hi lo' hi' : Nat) (A B : Option Addr) (n c m cb X Y : Nat) (H1' : Rd .u32 w lo hi A n c (digs B32 X)) (H2' : Rd .u32 w lo' hi' B m cb (digs B32 Y)) (hn : n ≤ 100000000) (hm : m ≤ 100000000) :
    Calls Tryd.prog 88 #[.slice A n c, .slice B m cb] w (IntPost w (cmpv X Y)) := by
  have H1 := Lib.hid H1'; have H2 := Lib.hid H2'
  clear H1' H2'
  rcases Nat.lt_or_ge n m with hlt | hge
  · have hv := Lib.hid (nval_le_of_len B32_two (m := X) (n := Y) (by rw [H1.out.1, H2.out.1]; exact hlt))
    have f1 : ((n : Int) != (m : Int)) = true := by simp; omega
    go_enter Tryd.func88, Tryd.ntmps88
    go_wp2
    go_ret
    rw [cmpv_lt hv.out]
    exact ⟨0, rfl, rfl⟩
  · rcases Nat.lt_or_ge m n with hlt | hge2
    · have hv := Lib.hid (nval_le_of_len B32_two (m := Y) (n := X) (by rw [H1.out.1, H2.out.1]; exact hlt))
      have f1 : ((n : Int) != (m : Int)) = true := by simp; omega
      go_enter Tryd.func88, Tryd.ntmps88
      go_wp2
      go_ret
      rw [cmpv_gt hv.out]
      exact ⟨0, rfl, rfl⟩
    · obtain rfl : n = m := by omega
      have f1 : ((n : Int) != (n : Int)) = false := by simp
      go_enter Tryd.func88, Tryd.ntmps88
      go_wp2
      go_loopw [5] (fun u wr => CmpRel32 w n (digs B32 X) (digs B32 Y) u wr) (fun u _ => (intOf u + 1).toNat)
      case atStart => exact ⟨n, 0, Nat.le_refl _, rfl, rfl, Lib.hid (by
        rw [List.drop_of_length_le (by have := H1.out.1; omega), List.drop_of_length_le (by have := H2.out.1; omega)])⟩
      case round =>
        obtain ⟨k, dn, hk, rfl, rfl, hI⟩ := hrel
        by_cases hlt : 0 < k
        · obtain ⟨j, hj⟩ : ∃ j, k = j + 1 := ⟨k - 1, by omega⟩
          obtain ⟨ad, x, hA, _, _, hx, hcx⟩ := H1.out.get_ (j := j) (by omega)
          subst hA
          obtain ⟨bd, y, hA, _, _, hy, hcy⟩ := H2.out.get_ (j := j) (by omega)
          subst hA
          have ej : (k : Int) - 1 = (j : Int) := by omega
          rw [ej]
          have hjn : j < n := by omega
          have hI' := hI.out
          rw [hj] at hI'
          have HI := Lib.hid (show (digs B32 X).drop (n - (n - 1 - j)) = (digs B32 Y).drop (n - (n - 1 - j)) by rw [show n - (n - 1 - j) = j + 1 by omega]; exact hI')
          have HX := Lib.hid (show (digs B32 X)[n - 1 - (n - 1 - j)]? = some x by rw [show n - 1 - (n - 1 - j) = j by omega]; exact hx.out)
          have HY := Lib.hid (show (digs B32 Y)[n - 1 - (n - 1 - j)]? = some y by rw [show n - 1 - (n - 1 - j) = j by omega]; exact hy.out)
          have hkk : n - 1 - j < n := by omega
          clear hI' hI hx hy hj ej
          have i1 : (0 : Int) ≤ (j : Int) := by omega
          have i2 : (j : Int) < (n : Int) := by omega
          go_wp2
          go_quiet (fail)
          rcases Nat.lt_or_ge x y with hxy | hxy
          · go_wp2
            go_ret
            rw [cmpv_lt (top_lt B32_two H1.out.1 H2.out.1 hkk HI.out HX.out HY.out hxy)]
            exact IntPost.of rfl (by first | exact ⟨_, rfl⟩ | exact dr1 _ _ _ | exact dr2 _ _ _ _)
          · have f2 : decide (x < y) = false := by simp; omega
            go_wp2
            go_quiet (fail)
            rcases Nat.lt_or_ge y x with hyx | hyx
            · go_wp2
              go_ret
              rw [cmpv_gt (top_lt B32_two H2.out.1 H1.out.1 hkk HI.out.symm HY.out HX.out hyx)]
              exact IntPost.of rfl (by first | exact ⟨_, rfl⟩ | exact dr1 _ _ _ | exact dr2 _ _ _ _)
            · have f3 : decide (y < x) = false := by simp; omega
              obtain rfl : x = y := by omega
              have HN := top_next H1.out.1 H2.out.1 hkk HI.out HX.out HY.out
              rw [show n - (n - 1 - j + 1) = j by omega] at HN
              have HN2 := Lib.hid HN
              clear HN
              go_wp2
              go_roundw
              case rel => exact CmpRel32.of j (by omega) (by go_num) (by first | exact ⟨_, rfl⟩ | exact dr1 _ _ _ | exact dr2 _ _ _ _) HN2
              case measure => first | (simp [intOf]; done) | (simp [intOf]; omega)
        · obtain rfl : k = 0 := by omega
          have he := hI.out
          rw [List.drop_zero, List.drop_zero] at he
          have hXY : X = Y := by
            have h1 := nval_digs B32_two X
            rw [he, nval_digs B32_two] at h1
            exact h1.symm
          have HXY := Lib.hid hXY
          clear hXY he
          go_wp2
          go_ret
          rw [cmpv_eq HXY.out]
          exact ⟨dn, rfl, rfl⟩

/-- After k rounds of Add: the digits so far and the carry. -/
def SumI (B k c : Nat) (out xs ys : List Nat) : Prop := out.length = k ∧ Small B out ∧ nval B out + B ^ k * c = nval B (xs.take k) + nval B (ys.take k)
theorem SumI.start {B : Nat} {xs ys : List Nat} : SumI B 0 0 [] xs ys := ⟨rfl, Small.nil, by simp [nval]⟩
theorem SumI.step {B k c T : Nat} {out xs ys : List Nat} (hB : 2 ≤ B) (h : SumI B k c out xs ys) (hT : T = c + (xs.getD k 0 + ys.getD k 0)) : SumI B (k + 1) (T / B) (out ++ [T % B]) xs ys := by
  obtain ⟨h1, h2, h3⟩ := h
  refine ⟨by simp [h1], h2.append (Small.cons (Nat.mod_lt _ (by omega)) Small.nil), ?_⟩
  rw [nval_snoc, h1, nval_take_succ, nval_take_succ, Nat.pow_succ]
  have hm := Nat.mod_add_div T B
  generalize T % B = v at *
  generalize T / B = d at *
  generalize nval B out = a at *
  generalize nval B (xs.take k) = b at *
  generalize nval B (ys.take k) = e at *
  generalize xs.getD k 0 = x at *
  generalize ys.getD k 0 = y at *
  generalize B ^ k = P at *
  have : P * v + P * B * d = P * c + (P * x + P * y) := by
    rw [← Nat.mul_add, ← Nat.mul_add, ← hT, ← hm]; grind
  omega
theorem SumI.done {B k : Nat} {out xs ys : List Nat} (h : SumI B k 0 out xs ys) (h1 : xs.length ≤ k) (h2 : ys.length ≤ k) : nval B out = nval B xs + nval B ys := by
  obtain ⟨_, _, h3⟩ := h
  rw [List.take_of_length_le h1, List.take_of_length_le h2] at h3
  simpa using h3

/-- The relation of Add's loop. -/
def SumRel (w : World) (xs ys : List Nat) (n m : Nat) (u c v : Value) (wr : World) : Prop :=
  ∃ (k cy : Nat) (out : List Nat), k ≤ n + m + 1 ∧ u = .int .i64 (k : Int) ∧ c = .int .u64 (cy : Int) ∧ cy ≤ 1 ∧ Hid (SumI B32 k cy out xs ys) ∧ Hid (n < k → m < k → cy = 0) ∧ Hid (OutL .u32 75 wr w.heap.size v out) ∧ Hid (Below w.heap.size w wr)

theorem wrap_sum (a b : Nat) (h : a + b < 18446744073709551616) : IntKind.u64.wrap ((a : Int) + (b : Int)) = ((a + b : Nat) : Int) := by rw [cast_add, u64_fits _ h]

set_option maxRecDepth 100000 in
set_option maxHeartbeats 2000000 in
theorem add32_any (w : World) (lo hi lo' hi' : Nat) (A B : Option Addr) (n c m cb : Nat) (xs ys : List Nat) (ha : Rd .u32 w lo hi A n c xs) (hb : Rd .u32 w lo' hi' B m cb ys) (hxs : Small B32 xs) (hys : Small B32 ys)
    (hn : n ≤ 100000000) (hm : m ≤ 100000000) (hhi : hi ≤ w.heap.size) (hhi' : hi' ≤ w.heap.size) :
    Calls Tryd.prog 87 #[.slice A n c, .slice B m cb] w (DigPost w (nval B32 xs + nval B32 ys)) := by
  have HA := Lib.hid ha; have HB := Lib.hid hb; have HX := Lib.hid hxs; have HY := Lib.hid hys; have HLx := Lib.hid ha.1; have HLy := Lib.hid hb.1
  clear ha hb hxs hys
  go_enter Tryd.func87, Tryd.ntmps87
  go_wp2
  go_loopw [7, 6, 5] (fun u c v wr => SumRel w xs ys n m u c v wr) (fun u _ _ _ => n + m + 2 - (intOf u).toNat)
  case atStart => exact ⟨0, 0, [], by omega, rfl, rfl, Nat.zero_le _, Lib.hid SumI.start, Lib.hid (fun _ _ => rfl), Lib.hid (OutL.nil _ _ _ _), Lib.hid (Below.refl _ _)⟩
  case round =>
    obtain ⟨k, cy, out, hk, rfl, rfl, hcy, hI, hZ, hO, hBw⟩ := hrel
    obtain ⟨A0, n0, c0, rfl, hn0, hrd0⟩ := hO.out.rdn
    by_cases hcont : k < n ∨ (¬ k < n ∧ k < m) ∨ (¬ k < n ∧ ¬ k < m ∧ 0 < cy)
    · have hkb : k ≤ n + m := by
        rcases hcont with h | h | h
        · omega
        · omega
        · have := hZ.out
          rcases Nat.lt_or_ge (n + m) k with h1 | h1
          · have := this (by omega) (by omega); omega
          · exact h1
      have ha1 := Lib.hid (HA.out.below (hBw.out.mono hhi))
      have hb1 := Lib.hid (HB.out.below (hBw.out.mono hhi'))
      have hxB := getD_lt HX.out (by unfold B32; omega) k
      have hyB := getD_lt HY.out (by unfold B32; omega) k
      have hca := Lib.hid (digit_any wr lo hi A n c k xs ha1.out HX.out)
      have hcb := Lib.hid (digit_any wr lo' hi' B m cb k ys hb1.out HY.out)
      have hI2 := hI.out.step B32_two (T := cy + (xs.getD k 0 + ys.getD k 0)) rfl
      have hlen := hI.out.1
      obtain ⟨v', w', hrun, hO', hB'⟩ := out32 wr w.heap.size _ _ [(cy + (xs.getD k 0 + ys.getD k 0)) % B32] hO.out hBw.out.size (by rw [hlen]; simp; omega)
      have hnext : n < k + 1 → m < k + 1 → (cy + (xs.getD k 0 + ys.getD k 0)) / B32 = 0 := by
        intro h1 h2
        rw [getD_out (xs := xs) (by have := HLx.out; omega), getD_out (xs := ys) (by have := HLy.out; omega)]
        exact Nat.div_eq_of_lt (by unfold B32; omega)
      generalize xs.getD k 0 = x at *
      generalize ys.getD k 0 = y at *
      unfold B32 at hxB hyB
      have e1 := wrap_sum x y (by omega)
      have e2 := wrap_sum cy (x + y) (by omega)
      have hTb : cy + (x + y) < 18446744073709551616 := by omega
      have e3 := mask32 (cy + (x + y)) hTb
      have hd1 : (cy + (x + y)) / B32 ≤ 1 := by unfold B32; omega
      have e4 : ((cy + (x + y) : Nat) : Int) / 4294967296 = (((cy + (x + y)) / B32 : Nat) : Int) := by unfold B32; omega
      have hvB : (cy + (x + y)) % B32 < 4294967296 := by unfold B32; omega
      rw [show (cy + (x + y)) % 4294967296 = (cy + (x + y)) % B32 from rfl] at e3
      obtain ⟨s1, hs1⟩ : ∃ s1, s1 = x + y := ⟨_, rfl⟩
      rw [← hs1] at e1 e2 e3 e4 hI2 hrun hO' hTb hd1 hvB hnext
      obtain ⟨T, hT⟩ : ∃ T, T = cy + s1 := ⟨_, rfl⟩
      rw [← hT] at e2 e3 e4 hI2 hrun hO' hTb hd1 hvB hnext
      obtain ⟨v, hv⟩ : ∃ v, v = T % B32 := ⟨_, rfl⟩
      obtain ⟨d, hd⟩ : ∃ d, d = T / B32 := ⟨_, rfl⟩
      rw [← hv] at e3 hI2 hrun hO' hvB
      rw [← hd] at e4 hI2 hd1 hnext
      have e5 : IntKind.u32.wrap (v : Int) = (v : Int) := by rw [IntKind.wrap_u32]; omega
      have HR := Lib.hid (show (Builtin.append_ #[34, 34] 34 #[.slice A0 n0 c0, .slice (some ⟨wr.heap.size, 0, none⟩) 1 1]).run Tryd.prog (wr.alloc (.cells #[.int .u32 (v : Int)] 75)) = .ok v' w' from hrun)
      have HI2 := Lib.hid hI2; have HO2 := Lib.hid hO'; have HB2 := Lib.hid (hBw.out.trans hB'); have HNx := Lib.hid hnext
      clear hxB hyB hI2 hlen hrun hO' hB' hTb hvB hs1 hT hv hd hnext ha1 hb1
      rcases hcont with h | ⟨h, h'⟩ | ⟨h, h', h''⟩
      rotate_left 2
      · have f1 : decide ((0 : Int) < (cy : Int)) = true := by simp; omega
        go_wp2_with fail
        refine hca.out.mono ?_
        rintro _ w3 ⟨rfl, rfl⟩
        go_wp2_with fail
        refine hcb.out.mono ?_
        rintro _ w3 ⟨rfl, rfl⟩
        go_wp2_with (at_builtin; refine wpList_append_run rfl (.tmp 33) (.tmp 37) _ rfl _ _ _ _ rfl rfl HR.out ?_)
        go_roundw
        case rel => exact ⟨k + 1, d, _, by omega, by go_num, rfl, hd1, HI2, HNx, HO2, HB2⟩
        case measure => simp [intOf]; omega
      all_goals
        go_wp2_with fail
        refine hca.out.mono ?_
        rintro _ w3 ⟨rfl, rfl⟩
        go_wp2_with fail
        refine hcb.out.mono ?_
        rintro _ w3 ⟨rfl, rfl⟩
        go_wp2_with (at_builtin; refine wpList_append_run rfl (.tmp 33) (.tmp 37) _ rfl _ _ _ _ rfl rfl HR.out ?_)
        go_roundw
        case rel => exact ⟨k + 1, d, _, by omega, by go_num, rfl, hd1, HI2, HNx, HO2, HB2⟩
        case measure => simp [intOf]; omega
    · have h1 : ¬ k < n := by omega
      have h2 : ¬ k < m := by omega
      have h3 : cy = 0 := by omega
      subst h3
      have hN := hI.out.done (by have := HLx.out; omega) (by have := HLy.out; omega)
      have HN := Lib.hid hN
      have hlen : n0 ≤ n + m + 1 := by rw [← hn0.out, hI.out.1]; exact hk
      clear hN hcont
      go_wp2_with fail
      refine (trim32_any wr w.heap.size wr.heap.size A0 n0 c0 out hrd0.out hI.out.2.1 (by omega)).mono ?_
      rintro e w' ⟨A3, c3, rfl, rfl, hA3, hc3⟩
      have hfin := hrd0.out.trim hI.out.2.1 hA3 hc3
      rw [HN.out] at hfin
      have HF := Lib.hid hfin
      clear hfin hA3 hc3
      go_wp2
      go_ret
      exact ⟨_, _, _, rfl, HF.out, hBw.out⟩
end Go.Proofs.YtimkifkikcohgaaDoor
