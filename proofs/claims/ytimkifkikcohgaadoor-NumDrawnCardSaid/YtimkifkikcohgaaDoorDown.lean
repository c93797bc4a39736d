/- fathomlineref1: Down. -/
import Derived.Test.YtimkifkikcohgaaDoorLeft
namespace Go.Proofs.YtimkifkikcohgaaDoor
open Go.RowKit Nx

/-- A digit of the number shifted down by q bits. -/
theorem down_digit {q x y z T d : Nat} (hq : q < 32) (hxB : x < B32) (hz : z = x + B32 * y) (hT : T = z / 2 ^ q) (hd : d = T % B32) :
    d < B32 ∧ 2 ^ q * d + x % 2 ^ q = x + B32 * (y % 2 ^ q) := by
  have hp : 2 ^ q * 2 ^ (32 - q) = B32 := by rw [← Nat.pow_add, Nat.add_sub_cancel' (by omega)]; rfl
  have hqp := Nat.two_pow_pos q
  have hPp := Nat.two_pow_pos (32 - q)
  generalize 2 ^ (32 - q) = P at *
  generalize 2 ^ q = Q at *
  have h1 : T = x / Q + P * y := by
    rw [hT, hz, ← hp, Nat.mul_assoc, Nat.add_mul_div_left _ _ hqp]
  have hy := Nat.mod_add_div y Q
  have hx := Nat.mod_add_div x Q
  have hxq : x / Q < P := by
    rw [Nat.div_lt_iff_lt_mul hqp, Nat.mul_comm, hp]; exact hxB
  have hyq : y % Q < Q := Nat.mod_lt _ hqp
  have h2 : T = (x / Q + P * (y % Q)) + B32 * (y / Q) := by
    rw [h1, ← hp]
    conv => lhs; rw [← hy]
    grind
  have h3 : x / Q + P * (y % Q) < B32 := by
    have : P * (y % Q + 1) ≤ P * Q := Nat.mul_le_mul_left _ hyq
    rw [Nat.mul_add, Nat.mul_comm P Q, hp] at this
    omega
  have h4 : d = x / Q + P * (y % Q) := by
    rw [hd, h2, Nat.add_mul_mod_self_left, Nat.mod_eq_of_lt h3]
  refine ⟨by omega, ?_⟩
  rw [h4, Nat.mul_add, ← Nat.mul_assoc, hp]
  omega

/-- After k rounds of shifting down by q bits. -/
def DownI (q k : Nat) (out ys : List Nat) : Prop :=
  out.length = k ∧ Small B32 out ∧ 2 ^ q * nval B32 out + ys.getD 0 0 % 2 ^ q = nval B32 (ys.take k) + B32 ^ k * (ys.getD k 0 % 2 ^ q)
theorem DownI.start {q : Nat} {ys : List Nat} : DownI q 0 [] ys := ⟨rfl, Small.nil, by simp [nval]⟩
theorem DownI.step {q k z T d : Nat} {out ys : List Nat} (h : DownI q k out ys) (hq : q < 32) (hxB : ys.getD k 0 < B32) (hz : z = ys.getD k 0 + B32 * ys.getD (k + 1) 0) (hT : T = z / 2 ^ q) (hd : d = T % B32) :
    DownI q (k + 1) (out ++ [d]) ys := by
  obtain ⟨h1, h2, h3⟩ := h
  obtain ⟨g1, g2⟩ := down_digit hq hxB hz hT hd
  refine ⟨by simp [h1], h2.append (Small.cons g1 Small.nil), ?_⟩
  rw [nval_snoc, h1, nval_take_succ, Nat.pow_succ]
  generalize ys.getD (k + 1) 0 % 2 ^ q = l2 at *
  generalize ys.getD k 0 = x at *
  generalize hl1 : x % 2 ^ q = l1 at *
  generalize ys.getD 0 0 % 2 ^ q = l0 at *
  generalize 2 ^ q = Q at *
  generalize nval B32 out = a at *
  generalize nval B32 (ys.take k) = b at *
  generalize B32 ^ k = P at *
  have e1 : P * (Q * d) + P * l1 = P * x + P * (B32 * l2) := by rw [← Nat.mul_add, g2, Nat.mul_add]
  have e2 : Q * (a + P * d) = Q * a + P * (Q * d) := by grind
  have e3 : P * B32 * l2 = P * (B32 * l2) := by rw [Nat.mul_assoc]
  rw [e2, e3]
  omega
theorem DownI.done {q n : Nat} {out ys : List Nat} (h : DownI q n out ys) (hl : ys.length ≤ n) : nval B32 out = nval B32 ys / 2 ^ q := by
  obtain ⟨_, _, h3⟩ := h
  rw [List.take_of_length_le hl, getD_out (xs := ys) (k := n) (by omega)] at h3
  have hqp := Nat.two_pow_pos q
  have : ys.getD 0 0 % 2 ^ q < 2 ^ q := Nat.mod_lt _ hqp
  rw [Nat.zero_mod, Nat.mul_zero, Nat.add_zero] at h3
  rw [← h3, Nat.mul_add_div hqp, Nat.div_eq_of_lt this, Nat.add_zero]

theorem nval_drop {B : Nat} {xs : List Nat} (hB : 2 ≤ B) (hs : Small B xs) (s : Nat) (h : s ≤ xs.length) : nval B (xs.drop s) = nval B xs / B ^ s := by
  rw [nval_split B xs s h]
  have h1 := nval_lt (hs.take s)
  rw [List.length_take, Nat.min_eq_left h] at h1
  have hp : 0 < B ^ s := Nat.pow_pos (by omega)
  rw [Nat.add_mul_div_left _ _ hp, Nat.div_eq_of_lt h1, Nat.zero_add]

/-- New digits of N are returned, and whether bits were lost. -/
def DownPost (w : World) (N : Nat) (e : Ending) (w' : World) : Prop :=
  ∃ (A : Option Addr) (n c : Nat) (b : Bool), e = .returned (.tuple #[.slice A n c, .bool b]) ∧ Rd .u32 w' w.heap.size w'.heap.size A n c (digs B32 N) ∧ Below w.heap.size w w'

/-- The relation of Down's second loop. -/
def DownRel (w : World) (n s q : Nat) (xs : List Nat) (u v : Value) (wr : World) : Prop :=
  ∃ (k : Nat) (out : List Nat), s ≤ k ∧ k ≤ n ∧ u = .int .i64 (k : Int) ∧ Hid (DownI q (k - s) out (xs.drop s)) ∧ Hid (OutL .u32 75 wr w.heap.size v out) ∧ Hid (Below w.heap.size w wr)

theorem getD_drop (xs : List Nat) (s j : Nat) : (xs.drop s).getD j 0 = xs.getD (s + j) 0 := by
  rw [List.getD_eq_getElem?_getD, List.getElem?_drop, ← List.getD_eq_getElem?_getD]

set_option maxRecDepth 100000 in
set_option maxHeartbeats 2000000 in
theorem down32_any (w : World) (lo hi : Nat) (A : Option Addr) (n c s q b : Nat) (xs : List Nat) (ha : Rd .u32 w lo hi A n c xs) (hxs : Small B32 xs) (hn : n ≤ 100000000) (hhi : hi ≤ w.heap.size)
    (hb : b ≤ 1000000) (hs : s = b / 32) (hq : q = b % 32) :
    Calls Tryd.prog 65 #[.slice A n c, .int .i64 (b : Int)] w (DownPost w (nval B32 xs / 2 ^ b)) := by
  have HA := Lib.hid ha; have HX := Lib.hid hxs
  have HL := Lib.hid ha.1
  have e1 : (b : Int) / 32 = (s : Int) := by omega
  have e2 : (b : Int) % 32 = (q : Int) := by omega
  have hq32 : q < 32 := by omega
  have hs32 : s ≤ 1000000 := by omega
  have HB := Lib.hid (show B32 ^ s * 2 ^ q = 2 ^ b by rw [pow32, ← Nat.pow_add]; congr 1; omega)
  clear ha hxs hs hq
  rcases Nat.lt_or_ge s n with hsn | hsn
  rotate_left
  · have hz : nval B32 xs / 2 ^ b = 0 := by
      apply Nat.div_eq_of_lt
      have h1 := nval_lt HX.out
      rw [HL.out] at h1
      have h2 : B32 ^ n ≤ B32 ^ s := Nat.pow_le_pow_right (by unfold B32; omega) hsn
      have h3 : B32 ^ s * 1 ≤ B32 ^ s * 2 ^ q := Nat.mul_le_mul_left _ (Nat.two_pow_pos q)
      have := HB.out
      omega
    have HZ := Lib.hid hz
    clear hz
    go_enter Tryd.func65, Tryd.ntmps65
    go_wp2
    go_ret2
    exact ⟨none, 0, 0, _, rfl, by rw [HZ.out, digs_zero]; exact Rd.none_, Below.refl _ _⟩
  · go_enter Tryd.func65, Tryd.ntmps65
    go_wp2
    go_loop [7, 6] (fun u v => ∃ (k : Nat) (l : Bool), k ≤ s ∧ u = .int .i64 (k : Int) ∧ v = .bool l) (fun u _ => s - (intOf u).toNat)
    case atStart => exact ⟨0, false, Nat.zero_le _, rfl, rfl⟩
    case round =>
      obtain ⟨k, l, hk, rfl, rfl⟩ := hrel
      by_cases hlt : k < s
      · obtain ⟨ad, x, hA, _, hbl, hx, hcx⟩ := HA.out.get_ (j := k) (by omega)
        subst hA
        have i1 : (0 : Int) ≤ (k : Int) := by omega
        have i2 : (k : Int) < (n : Int) := by omega
        cases l
        · go_wp2
          go_round
          case rel => exact ⟨k + 1, _, by omega, by go_num, rfl⟩
          case measure => simp [intOf]; omega
        · go_wp2
          go_round
          case rel => exact ⟨k + 1, _, by omega, by go_num, rfl⟩
          case measure => simp [intOf]; omega
      · obtain ⟨ad, x, hA, _, hbl, hx, hcx⟩ := HA.out.get_ (j := s) (by omega)
        subst hA
        have i1 : (0 : Int) ≤ (s : Int) := by omega
        have i2 : (s : Int) < (n : Int) := by omega
        have HX0 := hx
        clear hx
        have HSN := Lib.hid hsn
        obtain ⟨M, hM⟩ : ∃ M : Int, M = ((2 : Int) ^ q - 1) % 4294967296 := ⟨_, rfl⟩
        have m1 : ((2 : Int) ^ q - 1) % 4294967296 = M := hM.symm
        have m2 : IntKind.u32.wrap ((2 : Int) ^ q - 1) = M := by rw [IntKind.wrap_u32, hM]
        obtain ⟨V, hV⟩ : ∃ V : Int, V = bits .and .u32 (x : Int) M := ⟨_, rfl⟩
        have m3 : bits .and .u32 (x : Int) M = V := hV.symm
        obtain ⟨l2, hl2⟩ : ∃ l2 : Bool, l2 = (V != 0) := ⟨_, rfl⟩
        have m4 : (V != 0) = l2 := hl2.symm
        clear i1 hM hV hl2
        cases l
        all_goals
          go_wp2
          go_quiet (fail)
          go_wp2
          try rw [e2]
          try generalize Value.int IntKind.u32 ((2 : Int) ^ q % 4294967296) = va
          try generalize Value.int IntKind.u32 (((2 : Int) ^ q % 4294967296 - 1) % 4294967296) = vb
          go_loopw [9, 8] (fun u v wr => DownRel w n s q xs u v wr) (fun u _ _ => n - (intOf u).toNat)
          case atStart => exact ⟨s, [], Nat.le_refl _, by omega, rfl, Lib.hid (by rw [Nat.sub_self]; exact DownI.start), Lib.hid (OutL.nil _ _ _ _), Lib.hid (below_drewN (Below.refl _ _) _)⟩
          case round =>
            obtain ⟨k2, out, hks, hkn, rfl, hI, hO, hBw⟩ := hrel
            obtain ⟨A0, n0, c0, rfl, hn0, hrd0⟩ := hO.out.rdn
            clear hcx HX0
            by_cases hlt : k2 < n
            · obtain ⟨ad2, x2, hA, _, hbl2, hx2, hcx0⟩ := HA.out.get_ (j := k2) hlt
              obtain rfl : ad = ad2 := by injection hA
              have hcx : wr.cell? (ad.add k2) = some (.int .u32 (x2 : Int)) := by rw [← hcx0]; exact hBw.out.cell (by rw [block_of_add]; omega)
              have hxB := HX.out.get hx2.out
              have hyB := getD_lt HX.out (by unfold B32; omega) (k2 + 1)
              have hdig : ∀ (W : World) (t : Int), Rd .u32 W lo hi (some ad) n c xs → t = (k2 : Int) + 1 → Calls Tryd.prog 80 #[.slice (some ad) n c, .int .i64 t] W fun e w' => e = .returned (.int .u64 ((xs.getD (k2 + 1) 0 : Nat) : Int)) ∧ W = w' := by
                rintro W t h rfl
                exact digit_any W lo hi (some ad) n c (k2 + 1) xs h HX.out
              have hb1 := Lib.hid (HA.out.below (hBw.out.mono hhi))
              have hstep := fun z T d => hI.out.step (z := z) (T := T) (d := d) hq32
              rw [getD_drop, getD_drop, show s + (k2 - s) = k2 by omega, show s + (k2 - s + 1) = k2 + 1 by omega, getD_of hx2.out, show k2 - s + 1 = k2 + 1 - s by omega] at hstep
              have hlen := hI.out.1
              generalize xs.getD (k2 + 1) 0 = y at *
              have z0 := u64_of32 x2 hxB
              obtain ⟨z1, z2⟩ := pair_word x2 y hxB hyB
              unfold B32 at hxB hyB
              obtain ⟨yy, hyy⟩ : ∃ yy, yy = y * 4294967296 := ⟨_, rfl⟩
              obtain ⟨z, hz⟩ : ∃ z, z = x2 + 4294967296 * y := ⟨_, rfl⟩
              have hzB : z < 18446744073709551616 := by omega
              rw [← hyy] at z1 z2
              rw [← hz] at z2
              obtain ⟨T, hT⟩ : ∃ T, T = z / 2 ^ q := ⟨_, rfl⟩
              have z3 : (z : Int) / 2 ^ q = (T : Int) := by rw [hT]; simp
              have hTB : T < 18446744073709551616 := by
                have := Nat.div_le_self z (2 ^ q)
                omega
              have z4 := mask32 T hTB
              obtain ⟨d, hd⟩ : ∃ d, d = T % 4294967296 := ⟨_, rfl⟩
              rw [← hd] at z4
              have z5 : IntKind.u32.wrap (d : Int) = (d : Int) := by rw [IntKind.wrap_u32]; omega
              have hI2 := Lib.hid (hstep z T d hxB hz hT hd)
              obtain ⟨v', w', hrun, hO', hB'⟩ := out32 wr.drew w.heap.size _ _ [d] hO.out.drew_ hBw.out.size (by rw [hlen]; simp; omega)
              have HR := Lib.hid (show (Builtin.append_ #[34, 34] 34 #[.slice A0 n0 c0, .slice (some ⟨wr.heap.size, 0, none⟩) 1 1]).run Tryd.prog ((wr.alloc (.cells #[.int .u32 (d : Int)] 75)).drew) = .ok v' w' from hrun)
              have HO2 := Lib.hid hO'; have HB2 := Lib.hid (hBw.out.trans (show Below w.heap.size wr w' from ⟨hB'.os, hB'.tape, hB'.output, hB'.size, hB'.block⟩))
              have HC := Lib.hid hdig
              have i1 : (0 : Int) ≤ (k2 : Int) := by omega
              have i3 : (k2 : Int) < (n : Int) := by omega
              have j1 : IntKind.i64.wrap ((k2 : Int) + 1) = (k2 : Int) + 1 := IntWalk.i64_in _ (by omega)
              clear hcx0 hdig hstep hlen hrun hO' hB' hyy hz hT hd hxB hyB hzB hTB hA
              go_wp2
              go_region_with (go_at_call 80; refine (HC.out _ _ ?_ ?_).mono ?_; (exact hb1.out); (first | rfl | omega); rintro _ w3 ⟨rfl, rfl⟩)
              all_goals
                go_wp2_with (at_builtin; refine wpList_append_run rfl (.tmp 66) (.tmp 73) _ rfl _ _ _ _ rfl rfl HR.out ?_)
                go_roundw
                case rel => exact ⟨k2 + 1, _, by omega, by omega, by go_num, hI2, HO2, HB2⟩
                case measure => simp [intOf]; omega
            · obtain rfl : k2 = n := by omega
              have hN := hI.out.done (by rw [List.length_drop]; have := HL.out; omega)
              rw [nval_drop B32_two HX.out s (by have := HL.out; omega), Nat.div_div_eq_div_mul, HB.out] at hN
              have HN := Lib.hid hN
              have hlen : n0 ≤ k2 := by rw [← hn0.out, hI.out.1]; omega
              clear hN
              go_wp2_with fail
              refine (trim32_any wr w.heap.size wr.heap.size A0 n0 c0 out hrd0.out hI.out.2.1 (by omega)).mono ?_
              rintro e w' ⟨A3, c3, rfl, rfl, hA3, hc3⟩
              have hfin := hrd0.out.trim hI.out.2.1 hA3 hc3
              rw [HN.out] at hfin
              have HF := Lib.hid hfin
              clear hfin hA3 hc3
              go_wp2
              go_ret2
              exact ⟨_, _, _, _, rfl, HF.out, hBw.out⟩
end Go.Proofs.YtimkifkikcohgaaDoor
