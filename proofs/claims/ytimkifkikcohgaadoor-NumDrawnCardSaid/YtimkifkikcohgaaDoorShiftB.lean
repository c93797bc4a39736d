/- nat.shiftDown, nat.Shift. -/
import Derived.Test.YtimkifkikcohgaaDoorShift
namespace Go.Proofs.YtimkifkikcohgaaDoor
open Go.RowKit Nx

/-- After k rounds of shifting down by q bits. -/
def DnI (m q k : Nat) (cur d : List Nat) : Prop :=
  cur.length = m ∧ Small B64 cur ∧ nval B64 (cur.take k) = nval B64 (d.take k) / 2 ^ q ∧ ∀ j, k = j + 1 → cur.getD j 0 < 2 ^ (64 - q)

theorem DnI.start {m q : Nat} {d : List Nat} : DnI m q 0 (List.replicate m 0) d :=
  ⟨by simp, small_replicate (by unfold B64; omega), by simp [nval], fun j h => absurd h (by omega)⟩

theorem DnI.first {m q x : Nat} {cur d : List Nat} (hI : DnI m q 0 cur d) (hm : 0 < m) (hq : q < 64) (hx : d[0]? = some x) (hxB : x < B64) : DnI m q 1 (cur.set 0 (x / 2 ^ q)) d := by
  obtain ⟨g1, g2, g3, g4⟩ := hI
  have hp : 2 ^ (64 - q) * 2 ^ q = B64 := by rw [← Nat.pow_add, Nat.sub_add_cancel (by omega)]; rfl
  have hlt : x / 2 ^ q < 2 ^ (64 - q) := by rw [Nat.div_lt_iff_lt_mul (Nat.two_pow_pos _), hp]; exact hxB
  have hle : x / 2 ^ q ≤ x := Nat.div_le_self _ _
  refine ⟨by simpa using g1, g2.set 0 (by omega), ?_, ?_⟩
  · have e1 := nval_take_succ B64 (cur.set 0 (x / 2 ^ q)) 0
    have e2 := nval_take_succ B64 d 0
    rw [getD_set _ _ _ (by omega)] at e1
    rw [getD_of hx] at e2
    rw [Nat.zero_add] at e1 e2
    rw [e1, e2]; simp [nval]
  · intro j hj
    obtain rfl : j = 0 := by omega
    rw [getD_set _ _ _ (by omega)]; exact hlt

theorem DnI.step {m q j x h lx hx : Nat} {cur d : List Nat} (hI : DnI m q (j + 1) cur d) (hk : j + 1 < m) (hq : q < 64) (hd : d[j + 1]? = some x) (hxB : x < B64) (hh : cur[j]? = some h)
    (h1 : lx = x * 2 ^ (64 - q) % B64) (h2 : hx = x / 2 ^ q) : DnI m q (j + 1 + 1) ((cur.set (j + 1) hx).set j (h + lx)) d := by
  obtain ⟨g1, g2, g3, g4⟩ := hI
  have g4 := g4 j rfl
  have hg := getD_of hh
  rw [hg] at g4
  obtain ⟨_, w2, w3, w4, w5⟩ := up_words (q := 64 - q) (hx := hx) (by omega) hxB g4 h1 (by rw [h2, show 64 - (64 - q) = q by omega])
  have hqp := Nat.two_pow_pos q
  have hle : hx ≤ x := by rw [h2]; exact Nat.div_le_self _ _
  have hj : j < cur.length := by omega
  have e0 : (cur.set (j + 1) hx).set j (h + lx) = (cur.set j (h + lx)).set (j + 1) hx := List.set_comm _ _ (by omega)
  refine ⟨by simpa using g1, (g2.set _ (by omega)).set _ w2, ?_, ?_⟩
  · rw [e0, nval_take_succ, take_set_same, getD_set _ _ _ (by simp; omega), nval_take_succ B64 d, getD_of hd]
    have e1 := nval_take_succ B64 (cur.set j (h + lx)) j
    have e2 := nval_take_succ B64 cur j
    rw [take_set_same, getD_set _ _ _ hj] at e1
    rw [hg] at e2
    have hp : B64 = 2 ^ q * 2 ^ (64 - q) := by rw [← Nat.pow_add, show q + (64 - q) = 64 by omega]; rfl
    have e3 : B64 ^ (j + 1) * x = 2 ^ q * (B64 ^ j * (x * 2 ^ (64 - q))) := by
      rw [Nat.pow_succ]; conv => lhs; arg 1; arg 2; rw [hp]
      grind
    rw [e3, Nat.add_mul_div_left _ _ hqp, ← g3, e1, e2, ← w5, Nat.mul_add, Nat.mul_add, Nat.pow_succ]
    grind
  · intro i hi
    obtain rfl : i = j + 1 := by omega
    rw [e0, getD_set _ _ _ (by simp; omega)]; exact w4

theorem DnI.done {m q s b : Nat} {cur xs : List Nat} (hI : DnI m q m cur (xs.drop s)) (hxs : Small B64 xs) (hm : m = xs.length - s) (hs : s ≤ xs.length) (hb : B64 ^ s * 2 ^ q = 2 ^ b) : nval B64 cur = nval B64 xs / 2 ^ b := by
  obtain ⟨g1, _, g3, _⟩ := hI
  rw [List.take_of_length_le (by omega), List.take_of_length_le (by simp; omega)] at g3
  have h1 := nval_split B64 xs s hs
  have h2 := nval_lt (hxs.take s)
  rw [List.length_take, Nat.min_eq_left hs] at h2
  have h3 : nval B64 xs / B64 ^ s = nval B64 (xs.drop s) := by
    rw [h1, Nat.add_mul_div_left _ _ (by omega), Nat.div_eq_of_lt h2, Nat.zero_add]
  rw [g3, ← h3, Nat.div_div_eq_div_mul, hb]

/-- The relation of shiftDown's loop. -/
def DnRel (w : World) (g m q : Nat) (d : List Nat) (u : Value) (wr : World) : Prop :=
  ∃ (k : Nat) (cur : List Nat), k ≤ m ∧ u = .int .i64 (k : Int) ∧ Hid (DnI m q k cur d) ∧ Hid (Row .u64 wr g 54 cur) ∧ Hid (w.grownBy wr (some g))

set_option maxRecDepth 100000 in
set_option maxHeartbeats 1000000 in
theorem shiftDown_any (w : World) (lo hi : Nat) (A : Option Addr) (n c s q b m : Nat) (xs : List Nat) (ha : Rd .u64 w lo hi A n c xs) (hxs : Small B64 xs) (hn : n ≤ 100000000) (hhi : hi ≤ w.heap.size)
    (hb : b ≤ 1000000) (hs : s = b / 64) (hq : q = b % 64) (hm : m = n - s) :
    Calls Tryd.prog 78 #[.slice A n c, .int .i64 (b : Int)] w (NumPost w (nval B64 xs / 2 ^ b)) := by
  have HA := Lib.hid ha; have HX := Lib.hid hxs
  have HL := Lib.hid ha.1
  have e1 : (b : Int) / 64 = (s : Int) := by omega
  have e2 : (b : Int) % 64 = (q : Int) := by omega
  have hq64 : q < 64 := by omega
  have hs64 : s ≤ 1000000 := by omega
  have hpow : B64 ^ s * 2 ^ q = 2 ^ b := by rw [pow64, ← Nat.pow_add]; congr 1; omega
  have HB := Lib.hid hpow
  clear ha hxs hs hq
  rcases Nat.lt_or_ge s n with e | e
  rotate_left
  · have hz : nval B64 xs / 2 ^ b = 0 := by
      rw [Nat.div_eq_of_lt]
      have h1 := nval_lt HX.out
      rw [HL.out] at h1
      have h2 : B64 ^ n ≤ B64 ^ s := Nat.pow_le_pow_right (by unfold B64; omega) e
      have h3 : B64 ^ s * 1 ≤ B64 ^ s * 2 ^ q := Nat.mul_le_mul_left _ (Nat.two_pow_pos q)
      omega
    have HZ := Lib.hid hz
    clear hz hpow
    go_enter Tryd.func78, Tryd.ntmps78
    go_wp2
    go_ret
    exact ⟨none, 0, 0, rfl, by rw [HZ.out, digs_zero]; exact Rd.none_, Below.refl _ _, fun _ j _ hj => absurd hj (by omega)⟩
  · have hmn : m + s = n := by omega
    have hmp : 0 < m := by omega
    have HM := Lib.hid hm
    have em : (n : Int) - (s : Int) = (m : Int) := by omega
    clear hpow hm
    have hmk := fun W => make64 (m : Int) m rfl (by omega) W
    have HRow := Lib.hid (zrow_row .u64 54 m w)
    have HB0 := Lib.hid ((Below.refl w.heap.size w).alloc (Nat.le_refl _) (zrow .u64 54 m))
    have HSz := Lib.hid (show w.heap.size < (w.alloc (zrow .u64 54 m)).heap.size by simp)
    have HMN := Lib.hid hmn
    have hms : m + s ≤ n := by omega
    have hms' : n ≤ m + s := by omega
    clear hmn
    go_enter Tryd.func78, Tryd.ntmps78
    go_wp2
    generalize hw0 : w.alloc (zrow .u64 54 m) = w0 at *
    clear hw0
    go_loopw [24] (fun u wr => DnRel w0 w.heap.size m q (xs.drop s) u wr) (fun u _ => m - (intOf u).toNat)
    case atStart => exact ⟨0, _, Nat.zero_le _, rfl, Lib.hid DnI.start, HRow, Lib.hid (only_refl _ _)⟩
    case round =>
      obtain ⟨k, cur, hk, rfl, hI, hR, hG⟩ := hrel
      have hbw : Below w.heap.size w wr := HB0.out.trans (only_below hG.out (by have := HSz.out; omega) (Nat.le_refl _))
      by_cases hlt : k < m
      · obtain ⟨ad, x, hA, _, hbl, hx, hcx0⟩ := HA.out.get_ (j := s + k) (by omega)
        subst hA
        have hcx : wr.cell? (ad.add (s + k)) = some (.int .u64 (x : Int)) := by rw [← hcx0]; exact hbw.cell (by rw [block_of_add]; omega)
        have hlen := hI.out.1
        have hxB := HX.out.get hx.out
        have hxd : (xs.drop s)[k]? = some x := by rw [List.getElem?_drop]; exact hx.out
        obtain ⟨h', hh'⟩ : ∃ h', cur[k]? = some h' := ⟨cur[k]'(by omega), List.getElem?_eq_getElem _⟩
        have hch' := hR.out.cell (i := k) (by omega)
        rw [getD_of hh'] at hch'
        have hf2 := hR.out.frozen k
        obtain ⟨hx2, hhx⟩ : ∃ hx2, hx2 = x / 2 ^ q := ⟨_, rfl⟩
        have k3 : (x : Int) / 2 ^ q = (hx2 : Int) := by rw [show (x : Int) / 2 ^ q = ((x / 2 ^ q : Nat) : Int) by simp, hhx]
        have hrow1 := hR.out.set_ k hx2
        have HBW := Lib.hid hbw
        have i1 : (0 : Int) ≤ (k : Int) := by omega
        have i2 : (k : Int) < (m : Int) := by omega
        have i3 : (0 : Int) ≤ (s : Int) + (k : Int) := by omega
        have i4 : (s : Int) + (k : Int) < (n : Int) := by omega
        have i5 : ((s : Int) + (k : Int)).toNat = s + k := by omega
        rcases Nat.eq_zero_or_pos k with k0 | k0
        · have hI2 : Hid (DnI m q (k + 1) (cur.set k hx2) (xs.drop s)) := by
            subst k0; rw [hhx]; exact Lib.hid (hI.out.first hmp hq64 hxd hxB)
          have G1 := Lib.hid (only_set (p := ⟨w.heap.size, k, none⟩) hG.out (.inl rfl) (.int .u64 (hx2 : Int)))
          have HR1 := Lib.hid hrow1
          have k0' : k ≤ 0 := by omega
          have k0b : decide ((0 : Int) < (k : Int)) = false := by simp; omega
          clear hbw hh' hlen hcx0 hxB hhx hxd hrow1 k0
          go_wp2
          go_roundw
          case rel => exact ⟨k + 1, _, by omega, by go_num, hI2, Lib.hid HR1.out, Lib.hid G1.out⟩
          case measure => simp [intOf]; omega
        · obtain ⟨j, hj⟩ : ∃ j, k = j + 1 := ⟨k - 1, by omega⟩
          obtain ⟨h, hh⟩ : ∃ h, cur[j]? = some h := ⟨cur[j]'(by omega), List.getElem?_eq_getElem _⟩
          obtain ⟨lx, hlx⟩ : ∃ lx, lx = x * 2 ^ (64 - q) % B64 := ⟨_, rfl⟩
          have hh2 : h < 2 ^ (64 - q) := by have := hI.out.2.2.2 j hj; rwa [getD_of hh] at this
          obtain ⟨y1, y2, y3, y4, y5⟩ := up_words (q := 64 - q) (hx := hx2) (by omega) hxB hh2 hlx (by rw [hhx, show 64 - (64 - q) = q by omega])
          have hI2 : Hid (DnI m q (k + 1) ((cur.set k hx2).set j (h + lx)) (xs.drop s)) := by
            subst hj; exact Lib.hid (hI.out.step hlt hq64 hxd hxB hh hlx hhx)
          obtain ⟨v, hv⟩ : ∃ v, v = h + lx := ⟨_, rfl⟩
          rw [← hv] at y1 y2 hI2
          have k1 : IntKind.u64.wrap ((x : Int) * 2 ^ (64 - q)) = (lx : Int) := by rw [show (x : Int) * 2 ^ (64 - q) = ((x * 2 ^ (64 - q) : Nat) : Int) by simp, u64_wraps, hlx]; rfl
          have k2 : bits .or .u64 (h : Int) (lx : Int) = (v : Int) := by rw [bits_or_u64_nat h lx (by unfold B64 at y2; omega) y3, y1]
          have hrow2 := hrow1.set_ j v
          have m1 : (wr.setCell ⟨w.heap.size, k, none⟩ (.int .u64 (hx2 : Int))).cell? (ad.add (s + k)) = some (.int .u64 (x : Int)) := by
            rw [← hcx]; exact World.cell?_setCell_other _ _ _ _ (fun e => by have := congrArg Addr.block e; rw [block_of_add] at this; simp at this; omega)
          have m2 : (wr.setCell ⟨w.heap.size, k, none⟩ (.int .u64 (hx2 : Int))).cell? ⟨w.heap.size, j, none⟩ = some (.int .u64 (h : Int)) := by
            have hc := hR.out.cell (i := j) (by omega)
            rw [getD_of hh] at hc
            rw [← hc]; exact World.cell?_setCell_other _ _ _ _ (fun e => by have := congrArg Addr.off e; simp at this; omega)
          have m3 := hrow1.frozen j
          have G1 := Lib.hid (only_set (p := ⟨w.heap.size, j, none⟩) (only_set (p := ⟨w.heap.size, k, none⟩) hG.out (.inl rfl) (.int .u64 (hx2 : Int))) (.inl rfl) (.int .u64 (v : Int)))
          have HR2 := Lib.hid hrow2
          have HJ := Lib.hid hj
          have j2 : (k : Int) - 1 = (j : Int) := by omega
          have j3 : (j : Int) < (m : Int) := by omega
          have j4 : (0 : Int) ≤ (j : Int) := by omega
          have kb : decide ((0 : Int) < (k : Int)) = true := by simp; omega
          clear hbw hh' hlen hcx0 hxB hhx hxd hrow1 hrow2 hlx hh hh2 y1 y2 y3 y4 y5 hv hj
          have j1 : IntKind.i64.wrap ((s : Int) + (k : Int)) = (s : Int) + (k : Int) := IntWalk.i64_in _ (by omega)
          have j5 : IntKind.i64.wrap (j : Int) = (j : Int) := IntWalk.i64_in _ (by omega)
          have j6 : IntKind.i64.wrap (64 - (q : Int)) = 64 - (q : Int) := IntWalk.i64_in _ (by omega)
          go_wp2
          go_region
          clear j1 j5 j6
          go_wp2
          go_roundw
          case rel => exact ⟨k + 1, _, by omega, by go_num, hI2, Lib.hid HR2.out, Lib.hid (only_drew G1.out)⟩
          case measure => simp [intOf]; omega
      · have hkn : k = m := by omega
        subst hkn
        have hl := hI.out.1
        have hval : nval B64 cur = nval B64 xs / 2 ^ b := hI.out.done HX.out (by rw [HL.out]; exact HM.out) (by rw [HL.out]; omega) HB.out
        have hrd : Rd .u64 wr w.heap.size wr.heap.size (some ⟨w.heap.size, 0, none⟩) k k cur := by
          have := hR.out.rd0 (lo := w.heap.size) (hi := wr.heap.size) (c := k) (Nat.le_refl _) hR.out.lt (by rw [hl]; omega)
          rw [hl] at this; exact this
        have HRD := Lib.hid hrd
        have HV := Lib.hid hval
        have HBW := Lib.hid hbw
        clear hl hval hrd hbw
        go_wp2_with fail
        refine (used_any wr w.heap.size wr.heap.size (some ⟨w.heap.size, 0, none⟩) k k cur HRD.out hI.out.2.1 (by omega)).mono ?_
        rintro e w' ⟨A3, c3, rfl, rfl, hA3, hc3⟩
        have hfin := HRD.out.used hI.out.2.1 hA3 hc3
        rw [HV.out] at hfin
        have HF := Lib.hid hfin
        clear hfin
        go_wp2
        go_ret
        exact ⟨_, _, _, rfl, HF.out, HBW.out, hR.out.fr hA3⟩

/-- X by 2^n, rounded down, n brought into its bounds. -/
def shv (X : Nat) (n : Int) : Nat := if min (max n (-262144)) 262144 < 0 then X / 2 ^ (-(min (max n (-262144)) 262144)).toNat else X * 2 ^ (min (max n (-262144)) 262144).toNat

theorem shv_up {X : Nat} {n : Int} {b : Nat} (h : min (max n (-262144)) 262144 = (b : Int)) : shv X n = X * 2 ^ b := by
  unfold shv; rw [h, if_neg (by omega), Int.toNat_natCast]
theorem shv_down {X : Nat} {n : Int} {b : Nat} (h : min (max n (-262144)) 262144 = -(b : Int)) (hb : 0 < b) : shv X n = X / 2 ^ b := by
  unfold shv; rw [h, if_pos (by omega), Int.neg_neg, Int.toNat_natCast]

set_option maxRecDepth 100000 in
set_option maxHeartbeats 1000000 in
theorem shift_any (w : World) (lo hi : Nat) (A : Option Addr) (n c : Nat) (t : Int) (xs : List Nat) (ha : Rd .u64 w lo hi A n c xs) (hxs : Small B64 xs) (hn : n ≤ 100000000) (hhi : hi ≤ w.heap.size) :
    Calls Tryd.prog 63 #[.slice A n c, .int .i64 t] w (NumPost w (shv (nval B64 xs) t)) := by
  have ux := ulen_le hxs
  rw [ha.1] at ux
  have HA := Lib.hid ha; have HX := Lib.hid hxs
  clear ha hxs
  obtain ⟨X, hX⟩ : ∃ X, X = nval B64 xs := ⟨_, rfl⟩
  rw [← hX]
  have HXv := Lib.hid hX
  clear hX
  go_enter Tryd.func63, Tryd.ntmps63
  go_wp2_with fail
  refine (used_any w lo hi A n c xs HA.out HX.out (by omega)).mono ?_
  rintro e w' ⟨A1, c1, rfl, rfl, hA1, hc1⟩
  have H1 := Lib.hid (HA.out.used HX.out hA1 hc1)
  clear hA1 hc1
  generalize ulen xs = n1 at *
  rw [← HXv.out] at H1
  go_wp2_with fail
  · obtain ⟨b, hb⟩ : ∃ b : Nat, min (max t (-262144)) 262144 = -(b : Int) := ⟨(-(min (max t (-262144)) 262144)).toNat, by omega⟩
    have hb0 : 0 < b := by omega
    have hbb : b ≤ 1000000 := by omega
    have HV := Lib.hid (shv_down (X := X) hb hb0)
    rw [hb, Int.neg_neg]
    clear hb
    refine (shiftDown_any w lo hi A1 n1 c1 _ _ b _ _ H1.out (small_digs B64_two _) (by omega) hhi hbb rfl rfl rfl).mono ?_
    rintro e w' ⟨A2, n2, c2, rfl, h1, h2, h3⟩
    rw [nval_digs B64_two, ← HV.out] at h1
    have K1 := Lib.hid h1; have K2 := Lib.hid h2; have K3 := Lib.hid h3
    clear h1 h2 h3
    go_wp2
    go_ret
    exact ⟨_, _, _, rfl, K1.out, K2.out, K3.out⟩
  · obtain ⟨b, hb⟩ : ∃ b : Nat, min (max t (-262144)) 262144 = (b : Int) := ⟨(min (max t (-262144)) 262144).toNat, by omega⟩
    have hbb : b ≤ 1000000 := by omega
    have HV := Lib.hid (shv_up (X := X) hb)
    rw [hb]
    clear hb
    refine (shiftUp_any w lo hi A1 n1 c1 _ _ b _ H1.out (small_digs B64_two _) (by omega) hhi hbb rfl rfl).mono ?_
    rintro e w' ⟨A2, n2, c2, rfl, h1, h2, h3⟩
    rw [nval_digs B64_two, ← HV.out] at h1
    have K1 := Lib.hid h1; have K2 := Lib.hid h2; have K3 := Lib.hid h3
    clear h1 h2 h3
    go_wp2
    go_ret
    exact ⟨_, _, _, rfl, K1.out, K2.out, K3.out⟩
end Go.Proofs.YtimkifkikcohgaaDoor
