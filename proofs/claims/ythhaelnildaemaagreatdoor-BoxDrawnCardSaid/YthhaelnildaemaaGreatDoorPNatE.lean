/- nat.shiftUp, nat.shiftDown, nat.Shift. nat.shiftDown, nat.Shift. The helps of the statements: fathomlinehelp.Words; slices that are written out. Worlds step by step; words that are written out. Slices that hold a number: the contracts as the laws use them. -/
import Derived.Test.YthhaelnildaemaaGreatDoorPNatD
import Derived.Test.YthhaelnildaemaaGreatDoorPNatC
namespace Go.Proofs.YthhaelnildaemaaGreatDoor
open Go.RowKit Nx
def UpI (n s q k : Nat) (cur p : List Nat) : Prop :=
  cur.length = s + n + 1 ∧ Small B64 cur ∧ nval B64 cur = B64 ^ s * (2 ^ q * nval B64 (p.take k)) ∧ cur.getD (s + k) 0 < 2 ^ q ∧ cur.drop (s + k + 1) = List.replicate (n - k) 0
theorem UpI.start {n s q : Nat} {p : List Nat} : UpI n s q 0 (List.replicate (s + n + 1) 0) p := by
  refine ⟨by simp, small_replicate (by unfold B64; omega), by rw [nval_zeros]; simp [nval], ?_, ?_⟩
  · have : (List.replicate (s + n + 1) 0).getD (s + 0) 0 = 0 := by
      rw [List.getD_eq_getElem?_getD, List.getElem?_replicate]; split <;> rfl
    rw [this]; exact Nat.two_pow_pos q
  · rw [List.drop_replicate]; congr 1; omega
theorem up_words {q x h lx hx : Nat} (hq : q ≤ 64) (hxB : x < B64) (hh : h < 2 ^ q) (h1 : lx = x * 2 ^ q % B64) (h2 : hx = x / 2 ^ (64 - q)) :
    h ||| lx = h + lx ∧ h + lx < B64 ∧ lx < B64 ∧ hx < 2 ^ q ∧ lx + B64 * hx = x * 2 ^ q := by
  have hp : 2 ^ (64 - q) * 2 ^ q = B64 := by rw [← Nat.pow_add, Nat.sub_add_cancel (by omega)]; rfl
  have hqp := Nat.two_pow_pos q
  have hd : x * 2 ^ q / B64 = x / 2 ^ (64 - q) := by rw [← hp, Nat.mul_div_mul_right _ _ hqp]
  have hm := Nat.mod_add_div (x * 2 ^ q) B64
  rw [hd, ← h1, ← h2] at hm
  have hl : lx = 2 ^ q * (x % 2 ^ (64 - q)) := by
    rw [h1, ← hp, Nat.mul_mod_mul_right, Nat.mul_comm]
  have hlt : x % 2 ^ (64 - q) < 2 ^ (64 - q) := Nat.mod_lt _ (Nat.two_pow_pos _)
  have hle : 2 ^ q * (x % 2 ^ (64 - q) + 1) ≤ 2 ^ q * 2 ^ (64 - q) := Nat.mul_le_mul_left _ hlt
  rw [Nat.mul_add, ← hl, Nat.mul_comm (2 ^ q) (2 ^ (64 - q)), hp] at hle
  refine ⟨?_, by omega, by omega, ?_, hm⟩
  · rw [Nat.or_comm, hl, ← Nat.two_pow_add_eq_or_of_lt hh, Nat.add_comm]
  · rw [h2, Nat.div_lt_iff_lt_mul (Nat.two_pow_pos _), Nat.mul_comm, hp]; exact hxB
theorem UpI.step {n s q k x h lx hx : Nat} {cur p : List Nat} (hI : UpI n s q k cur p) (hk : k < n) (hq : q < 64) (hp : p[k]? = some x) (hxB : x < B64) (hh : cur[s + k]? = some h) (h1 : lx = x * 2 ^ q % B64) (h2 : hx = x / 2 ^ (64 - q)) :
    UpI n s q (k + 1) ((cur.set (s + k) (h + lx)).set (s + k + 1) hx) p := by
  obtain ⟨g1, g2, g3, g4, g5⟩ := hI
  have hg := getD_of hh
  rw [hg] at g4
  obtain ⟨_, w2, w3, w4, w5⟩ := up_words (Nat.le_of_lt hq) hxB g4 h1 h2
  have hz : cur.drop (s + k + 1) = 0 :: List.replicate (n - k - 1) 0 := by
    rw [g5, show n - k = (n - k - 1) + 1 by omega, List.replicate_succ]; rfl
  have h0 : cur.getD (s + k + 1) 0 = 0 := by
    have : cur[s + k + 1]? = some 0 := by
      have e : (cur.drop (s + k + 1))[0]? = cur[s + k + 1]? := by simp
      rw [← e, hz]; rfl
    exact getD_of this
  have hqB : 2 ^ q ≤ B64 := by rw [B64_pow]; exact Nat.pow_le_pow_right (by omega) (by omega)
  have n1 := nval_set B64 cur (s + k) (h + lx) (by omega)
  have n2 := nval_set B64 (cur.set (s + k) (h + lx)) (s + k + 1) hx (by simp; omega)
  have h0' : (cur.set (s + k) (h + lx)).getD (s + k + 1) 0 = 0 := by
    rw [List.getD_eq_getElem?_getD, List.getElem?_set_ne (by omega), ← List.getD_eq_getElem?_getD]; exact h0
  rw [h0', Nat.mul_zero, Nat.add_zero] at n2
  rw [hg] at n1
  refine ⟨by simpa using g1, (g2.set _ w2).set _ (by omega), ?_, ?_, ?_⟩
  · rw [n2, nval_take_succ, getD_of hp]
    have e1 : B64 ^ (s + k + 1) * hx = B64 ^ (s + k) * (B64 * hx) := by rw [Nat.pow_succ]; grind
    have e2 : B64 ^ s * (2 ^ q * (nval B64 (p.take k) + B64 ^ k * x)) = B64 ^ s * (2 ^ q * nval B64 (p.take k)) + B64 ^ (s + k) * (x * 2 ^ q) := by rw [Nat.pow_add]; grind
    rw [e2, ← g3, ← w5, e1, Nat.mul_add]
    rw [Nat.mul_add] at n1
    omega
  · rw [show s + (k + 1) = s + k + 1 by omega, getD_set _ _ _ (by simp; omega)]; exact w4
  · rw [show s + (k + 1) + 1 = s + k + 1 + 1 by omega, drop_set_succ]
    have e := congrArg (List.drop 1) hz
    rw [List.drop_drop] at e
    rw [List.drop_set, if_pos (by omega)]
    rw [show n - (k + 1) = n - k - 1 by omega]
    simpa using e
def UpRel (w : World) (g n s q : Nat) (p : List Nat) (u : Value) (wr : World) : Prop :=
  ∃ (k : Nat) (cur : List Nat), k ≤ n ∧ u = .int .i64 (k : Int) ∧ Hid (UpI n s q k cur p) ∧ Hid (Row .u64 wr g 56 cur) ∧ Hid (w.grownBy wr (some g))
set_option maxRecDepth 100000 in
set_option maxHeartbeats 1000000 in
theorem shiftUp_any (w : World) (lo hi : Nat) (A : Option Addr) (n c s q b : Nat) (xs : List Nat) (ha : Rd .u64 w lo hi A n c xs) (hxs : Small B64 xs) (hn : n ≤ 100000000) (hhi : hi ≤ w.heap.size)
    (hb : b ≤ 1000000) (hs : s = b / 64) (hq : q = b % 64) :
    Calls Tryz.prog 209 #[.slice A n c, .int .i64 (b : Int)] w (NumPost w (nval B64 xs * 2 ^ b)) := by
  have HA := Lib.hid ha; have HX := Lib.hid hxs
  have HL := Lib.hid ha.1
  have e1 : (b : Int) / 64 = (s : Int) := by omega
  have e2 : (b : Int) % 64 = (q : Int) := by omega
  have hq64 : q < 64 := by omega
  have hs64 : s ≤ 1000000 := by omega
  have HB := Lib.hid (show B64 ^ s * 2 ^ q = 2 ^ b by rw [pow64, ← Nat.pow_add]; congr 1; omega)
  clear ha hxs hs hq
  rcases Nat.eq_zero_or_pos n with e | e
  · have hz : nval B64 xs * 2 ^ b = 0 := by
      rw [List.eq_nil_of_length_eq_zero (HL.out.trans e)]; simp [nval]
    have HZ := Lib.hid hz
    clear hz
    subst e
    go_enter Tryz.func209, Tryz.ntmps209
    go_wp2
    go_ret
    exact ⟨none, 0, 0, rfl, by rw [HZ.out, digs_zero]; exact Rd.none_, Below.refl _ _, fun _ j _ hj => absurd hj (by omega)⟩
  · have f1 : ((n : Int) == 0) = false := by simp; omega
    have hmk := fun W => make64 ((s : Int) + (n : Int) + 1) (s + n + 1) (by omega) (by omega) W
    have HRow := Lib.hid (zrow_row .u64 56 (s + n + 1) w)
    have HB0 := Lib.hid ((Below.refl w.heap.size w).alloc (Nat.le_refl _) (zrow .u64 56 (s + n + 1)))
    have HSz := Lib.hid (show w.heap.size < (w.alloc (zrow .u64 56 (s + n + 1))).heap.size by simp)
    go_enter Tryz.func209, Tryz.ntmps209
    go_wp2
    generalize hw0 : w.alloc (zrow .u64 56 (s + n + 1)) = w0 at *
    clear hw0
    go_loopw [24] (fun u wr => UpRel w0 w.heap.size n s q xs u wr) (fun u _ => n - (intOf u).toNat)
    case atStart => exact ⟨0, _, Nat.zero_le _, rfl, Lib.hid UpI.start, HRow, Lib.hid (only_refl _ _)⟩
    case round =>
      obtain ⟨k, cur, hk, rfl, hI, hR, hG⟩ := hrel
      have hbw : Below w.heap.size w wr := HB0.out.trans (only_below hG.out (by have := HSz.out; omega) (Nat.le_refl _))
      by_cases hlt : k < n
      · obtain ⟨ad, x, hA, _, hbl, hx, hcx0⟩ := HA.out.get_ (j := k) hlt
        subst hA
        have hcx : wr.cell? (ad.add k) = some (.int .u64 (x : Int)) := by rw [← hcx0]; exact hbw.cell (by rw [block_of_add]; omega)
        have hlen := hI.out.1
        obtain ⟨h, hh⟩ : ∃ h, cur[s + k]? = some h := ⟨cur[s + k]'(by omega), List.getElem?_eq_getElem _⟩
        obtain ⟨h', hh'⟩ : ∃ h', cur[s + k + 1]? = some h' := ⟨cur[s + k + 1]'(by omega), List.getElem?_eq_getElem _⟩
        have hch := hR.out.cell (i := s + k) (by omega)
        have hch' := hR.out.cell (i := s + k + 1) (by omega)
        rw [getD_of hh] at hch
        rw [getD_of hh'] at hch'
        have hf1 := hR.out.frozen (s + k)
        have hf2 := hR.out.frozen (s + k + 1)
        have HBW := Lib.hid hbw
        have hxB := HX.out.get hx.out
        obtain ⟨lx, hlx⟩ : ∃ lx, lx = x * 2 ^ q % B64 := ⟨_, rfl⟩
        obtain ⟨hx2, hhx⟩ : ∃ hx2, hx2 = x / 2 ^ (64 - q) := ⟨_, rfl⟩
        have hh2 : h < 2 ^ q := by have := hI.out.2.2.2.1; rwa [getD_of hh] at this
        obtain ⟨y1, y2, y3, y4, y5⟩ := up_words (Nat.le_of_lt hq64) hxB hh2 hlx hhx
        have hI2 := Lib.hid (hI.out.step hlt hq64 hx.out hxB hh hlx hhx)
        obtain ⟨v, hv⟩ : ∃ v, v = h + lx := ⟨_, rfl⟩
        rw [← hv] at y1 y2 hI2
        have k1 : IntKind.u64.wrap ((x : Int) * 2 ^ q) = (lx : Int) := by rw [show (x : Int) * 2 ^ q = ((x * 2 ^ q : Nat) : Int) by simp, u64_wraps, hlx]; rfl
        have k2 : bits .or .u64 (h : Int) (lx : Int) = (v : Int) := by rw [bits_or_u64_nat h lx (by unfold B64 at y2; omega) y3, y1]
        have k3 : (x : Int) / 2 ^ (64 - q) = (hx2 : Int) := by rw [show (x : Int) / 2 ^ (64 - q) = ((x / 2 ^ (64 - q) : Nat) : Int) by simp, hhx]
        have hrow1 := hR.out.set_ (s + k) v
        have hrow2 := hrow1.set_ (s + k + 1) hx2
        have m1 : (wr.setCell ⟨w.heap.size, s + k, none⟩ (.int .u64 (v : Int))).cell? (ad.add k) = some (.int .u64 (x : Int)) := by
          rw [← hcx]; exact World.cell?_setCell_other _ _ _ _ (fun e => by have := congrArg Addr.block e; rw [block_of_add] at this; simp at this; omega)
        have m2 : (wr.setCell ⟨w.heap.size, s + k, none⟩ (.int .u64 (v : Int))).cell? ⟨w.heap.size, s + k + 1, none⟩ = some (.int .u64 (h' : Int)) := by
          rw [← hch']; exact World.cell?_setCell_other _ _ _ _ (fun e => by have := congrArg Addr.off e; simp at this)
        have m3 := hrow1.frozen (s + k + 1)
        have G1 := Lib.hid (only_set (p := ⟨w.heap.size, s + k + 1, none⟩) (only_set (p := ⟨w.heap.size, s + k, none⟩) hG.out (.inl rfl) (.int .u64 (v : Int))) (.inl rfl) (.int .u64 (hx2 : Int)))
        have HR2 := Lib.hid hrow2
        have hz1 : ¬ (s + k = s + k + 1) := by omega
        clear hbw hh hh' hlen hcx0 hxB hlx hhx hh2 y1 y2 y3 y4 y5 hv hrow1 hrow2
        have i1 : (0 : Int) ≤ (k : Int) := by omega
        have i2 : (k : Int) < (n : Int) := by omega
        have i3 : (0 : Int) ≤ (s : Int) + (k : Int) := by omega
        have i4 : (s : Int) + (k : Int) < (s : Int) + (n : Int) + 1 := by omega
        have i5 : ((s : Int) + (k : Int)).toNat = s + k := by omega
        have j1 : IntKind.i64.wrap ((s : Int) + (k : Int)) = (s : Int) + (k : Int) := IntWalk.i64_in _ (by omega)
        go_wp2
        go_region
        clear j1
        go_wp2
        go_roundw
        case rel => exact ⟨k + 1, _, by omega, by go_num, hI2, Lib.hid HR2.out, Lib.hid (only_drew G1.out)⟩
        case measure => simp [intOf]; omega
      · have hkn : k = n := by omega
        subst hkn
        have hl := hI.out.1
        have hval : nval B64 cur = nval B64 xs * 2 ^ b := by
          have := hI.out.2.2.1
          rw [List.take_of_length_le (by rw [HL.out]; omega), ← Nat.mul_assoc, HB.out, Nat.mul_comm] at this
          exact this
        have hrd : Rd .u64 wr w.heap.size wr.heap.size (some ⟨w.heap.size, 0, none⟩) (s + k + 1) (s + k + 1) cur := by
          have := hR.out.rd0 (lo := w.heap.size) (hi := wr.heap.size) (c := s + k + 1) (Nat.le_refl _) hR.out.lt (by rw [hl]; omega)
          rw [hl] at this; exact this
        have HRD := Lib.hid hrd
        have HV := Lib.hid hval
        have HBW := Lib.hid hbw
        clear hl hval hrd hbw
        go_wp2_with fail
        refine (used_any wr w.heap.size wr.heap.size (some ⟨w.heap.size, 0, none⟩) (s + k + 1) (s + k + 1) cur HRD.out hI.out.2.1 (by omega)).mono ?_
        rintro e w' ⟨A3, c3, rfl, rfl, hA3, hc3⟩
        have hfin := HRD.out.used hI.out.2.1 hA3 hc3
        rw [HV.out] at hfin
        have HF := Lib.hid hfin
        clear hfin
        go_wp2
        go_ret
        exact ⟨_, _, _, rfl, HF.out, HBW.out, hR.out.fr hA3⟩
end Go.Proofs.YthhaelnildaemaaGreatDoor
namespace Go.Proofs.YthhaelnildaemaaGreatDoor
open Go.RowKit Nx
def DnI (m q k : Nat) (cur d : List Nat) : Prop :=
  cur.length = m ∧ Small B64 cur ∧ nval B64 (cur.take k) = nval B64 (d.take k) / 2 ^ q ∧ ∀ j, k = j + 1 → cur.getD j 0 < 2 ^ (64 - q)
theorem DnI.start {m q : Nat} {d : List Nat} : DnI m q 0 (List.replicate m 0) d :=
  ⟨by simp, small_replicate (by unfold B64; omega), by simp [nval], fun j h => absurd h (by omega)⟩
theorem DnI.first {m q x : Nat} {cur d : List Nat} (hI : DnI m q 0 cur d) (hm : 0 < m) (hq : q < 64) (hx : d[0]? = some x) (hxB : x < B64) : DnI m q 1 (cur.set 0 (x / 2 ^ q)) d := by
  obtain ⟨g1, g2, g3, g4⟩ := hI
  have hp : 2 ^ (64 - q) * 2 ^ q = B64 := by rw [← Nat.pow_add, Nat.sub_add_cancel (by omega)]; rfl
  have hlt : x / 2 ^ q < 2 ^ (64 - q) := by rw [Nat.div_lt_iff_lt_mul (Nat.two_pow_pos _), hp]; exact hxB
  have hle : x / 2 ^ q ≤ x := Nat.div_le_self _ _
  refine ⟨by simpa using g1, g2.set 0 (by omega), ?_, ?_⟩
  · have e1 := nval_take_succ B64 (cur.set 0 (x / 2 ^ q)) 0
    have e2 := nval_take_succ B64 d 0
    rw [getD_set _ _ _ (by omega)] at e1
    rw [getD_of hx] at e2
    rw [Nat.zero_add] at e1 e2
    rw [e1, e2]; simp [nval]
  · intro j hj
    obtain rfl : j = 0 := by omega
    rw [getD_set _ _ _ (by omega)]; exact hlt
theorem DnI.step {m q j x h lx hx : Nat} {cur d : List Nat} (hI : DnI m q (j + 1) cur d) (hk : j + 1 < m) (hq : q < 64) (hd : d[j + 1]? = some x) (hxB : x < B64) (hh : cur[j]? = some h)
    (h1 : lx = x * 2 ^ (64 - q) % B64) (h2 : hx = x / 2 ^ q) : DnI m q (j + 1 + 1) ((cur.set (j + 1) hx).set j (h + lx)) d := by
  obtain ⟨g1, g2, g3, g4⟩ := hI
  have g4 := g4 j rfl
  have hg := getD_of hh
  rw [hg] at g4
  obtain ⟨_, w2, w3, w4, w5⟩ := up_words (q := 64 - q) (hx := hx) (by omega) hxB g4 h1 (by rw [h2, show 64 - (64 - q) = q by omega])
  have hqp := Nat.two_pow_pos q
  have hle : hx ≤ x := by rw [h2]; exact Nat.div_le_self _ _
  have hj : j < cur.length := by omega
  have e0 : (cur.set (j + 1) hx).set j (h + lx) = (cur.set j (h + lx)).set (j + 1) hx := List.set_comm _ _ (by omega)
  refine ⟨by simpa using g1, (g2.set _ (by omega)).set _ w2, ?_, ?_⟩
  · rw [e0, nval_take_succ, take_set_same, getD_set _ _ _ (by simp; omega), nval_take_succ B64 d, getD_of hd]
    have e1 := nval_take_succ B64 (cur.set j (h + lx)) j
    have e2 := nval_take_succ B64 cur j
    rw [take_set_same, getD_set _ _ _ hj] at e1
    rw [hg] at e2
    have hp : B64 = 2 ^ q * 2 ^ (64 - q) := by rw [← Nat.pow_add, show q + (64 - q) = 64 by omega]; rfl
    have e3 : B64 ^ (j + 1) * x = 2 ^ q * (B64 ^ j * (x * 2 ^ (64 - q))) := by
      rw [Nat.pow_succ]; conv => lhs; arg 1; arg 2; rw [hp]
      grind
    rw [e3, Nat.add_mul_div_left _ _ hqp, ← g3, e1, e2, ← w5, Nat.mul_add, Nat.mul_add, Nat.pow_succ]
    grind
  · intro i hi
    obtain rfl : i = j + 1 := by omega
    rw [e0, getD_set _ _ _ (by simp; omega)]; exact w4
theorem DnI.done {m q s b : Nat} {cur xs : List Nat} (hI : DnI m q m cur (xs.drop s)) (hxs : Small B64 xs) (hm : m = xs.length - s) (hs : s ≤ xs.length) (hb : B64 ^ s * 2 ^ q = 2 ^ b) : nval B64 cur = nval B64 xs / 2 ^ b := by
  obtain ⟨g1, _, g3, _⟩ := hI
  rw [List.take_of_length_le (by omega), List.take_of_length_le (by simp; omega)] at g3
  have h1 := nval_split B64 xs s hs
  have h2 := nval_lt (hxs.take s)
  rw [List.length_take, Nat.min_eq_left hs] at h2
  have h3 : nval B64 xs / B64 ^ s = nval B64 (xs.drop s) := by
    rw [h1, Nat.add_mul_div_left _ _ (by omega), Nat.div_eq_of_lt h2, Nat.zero_add]
  rw [g3, ← h3, Nat.div_div_eq_div_mul, hb]
def DnRel (w : World) (g m q : Nat) (d : List Nat) (u : Value) (wr : World) : Prop :=
  ∃ (k : Nat) (cur : List Nat), k ≤ m ∧ u = .int .i64 (k : Int) ∧ Hid (DnI m q k cur d) ∧ Hid (Row .u64 wr g 56 cur) ∧ Hid (w.grownBy wr (some g))
set_option maxRecDepth 100000 in
set_option maxHeartbeats 1000000 in
theorem shiftDown_any (w : World) (lo hi : Nat) (A : Option Addr) (n c s q b m : Nat) (xs : List Nat) (ha : Rd .u64 w lo hi A n c xs) (hxs : Small B64 xs) (hn : n ≤ 100000000) (hhi : hi ≤ w.heap.size)
    (hb : b ≤ 1000000) (hs : s = b / 64) (hq : q = b % 64) (hm : m = n - s) :
    Calls Tryz.prog 208 #[.slice A n c, .int .i64 (b : Int)] w (NumPost w (nval B64 xs / 2 ^ b)) := by
  have HA := Lib.hid ha; have HX := Lib.hid hxs
  have HL := Lib.hid ha.1
  have e1 : (b : Int) / 64 = (s : Int) := by omega
  have e2 : (b : Int) % 64 = (q : Int) := by omega
  have hq64 : q < 64 := by omega
  have hs64 : s ≤ 1000000 := by omega
  have hpow : B64 ^ s * 2 ^ q = 2 ^ b := by rw [pow64, ← Nat.pow_add]; congr 1; omega
  have HB := Lib.hid hpow
  clear ha hxs hs hq
  rcases Nat.lt_or_ge s n with e | e
  rotate_left
  · have hz : nval B64 xs / 2 ^ b = 0 := by
      rw [Nat.div_eq_of_lt]
      have h1 := nval_lt HX.out
      rw [HL.out] at h1
      have h2 : B64 ^ n ≤ B64 ^ s := Nat.pow_le_pow_right (by unfold B64; omega) e
      have h3 : B64 ^ s * 1 ≤ B64 ^ s * 2 ^ q := Nat.mul_le_mul_left _ (Nat.two_pow_pos q)
      omega
    have HZ := Lib.hid hz
    clear hz hpow
    go_enter Tryz.func208, Tryz.ntmps208
    go_wp2
    go_ret
    exact ⟨none, 0, 0, rfl, by rw [HZ.out, digs_zero]; exact Rd.none_, Below.refl _ _, fun _ j _ hj => absurd hj (by omega)⟩
  · have hmn : m + s = n := by omega
    have hmp : 0 < m := by omega
    have HM := Lib.hid hm
    have em : (n : Int) - (s : Int) = (m : Int) := by omega
    clear hpow hm
    have hmk := fun W => make64 (m : Int) m rfl (by omega) W
    have HRow := Lib.hid (zrow_row .u64 56 m w)
    have HB0 := Lib.hid ((Below.refl w.heap.size w).alloc (Nat.le_refl _) (zrow .u64 56 m))
    have HSz := Lib.hid (show w.heap.size < (w.alloc (zrow .u64 56 m)).heap.size by simp)
    have HMN := Lib.hid hmn
    have hms : m + s ≤ n := by omega
    have hms' : n ≤ m + s := by omega
    clear hmn
    go_enter Tryz.func208, Tryz.ntmps208
    go_wp2
    generalize hw0 : w.alloc (zrow .u64 56 m) = w0 at *
    clear hw0
    go_loopw [24] (fun u wr => DnRel w0 w.heap.size m q (xs.drop s) u wr) (fun u _ => m - (intOf u).toNat)
    case atStart => exact ⟨0, _, Nat.zero_le _, rfl, Lib.hid DnI.start, HRow, Lib.hid (only_refl _ _)⟩
    case round =>
      obtain ⟨k, cur, hk, rfl, hI, hR, hG⟩ := hrel
      have hbw : Below w.heap.size w wr := HB0.out.trans (only_below hG.out (by have := HSz.out; omega) (Nat.le_refl _))
      by_cases hlt : k < m
      · obtain ⟨ad, x, hA, _, hbl, hx, hcx0⟩ := HA.out.get_ (j := s + k) (by omega)
        subst hA
        have hcx : wr.cell? (ad.add (s + k)) = some (.int .u64 (x : Int)) := by rw [← hcx0]; exact hbw.cell (by rw [block_of_add]; omega)
        have hlen := hI.out.1
        have hxB := HX.out.get hx.out
        have hxd : (xs.drop s)[k]? = some x := by rw [List.getElem?_drop]; exact hx.out
        obtain ⟨h', hh'⟩ : ∃ h', cur[k]? = some h' := ⟨cur[k]'(by omega), List.getElem?_eq_getElem _⟩
        have hch' := hR.out.cell (i := k) (by omega)
        rw [getD_of hh'] at hch'
        have hf2 := hR.out.frozen k
        obtain ⟨hx2, hhx⟩ : ∃ hx2, hx2 = x / 2 ^ q := ⟨_, rfl⟩
        have k3 : (x : Int) / 2 ^ q = (hx2 : Int) := by rw [show (x : Int) / 2 ^ q = ((x / 2 ^ q : Nat) : Int) by simp, hhx]
        have hrow1 := hR.out.set_ k hx2
        have HBW := Lib.hid hbw
        have i1 : (0 : Int) ≤ (k : Int) := by omega
        have i2 : (k : Int) < (m : Int) := by omega
        have i3 : (0 : Int) ≤ (s : Int) + (k : Int) := by omega
        have i4 : (s : Int) + (k : Int) < (n : Int) := by omega
        have i5 : ((s : Int) + (k : Int)).toNat = s + k := by omega
        rcases Nat.eq_zero_or_pos k with k0 | k0
        · have hI2 : Hid (DnI m q (k + 1) (cur.set k hx2) (xs.drop s)) := by
            subst k0; rw [hhx]; exact Lib.hid (hI.out.first hmp hq64 hxd hxB)
          have G1 := Lib.hid (only_set (p := ⟨w.heap.size, k, none⟩) hG.out (.inl rfl) (.int .u64 (hx2 : Int)))
          have HR1 := Lib.hid hrow1
          have k0' : k ≤ 0 := by omega
          have k0b : decide ((0 : Int) < (k : Int)) = false := by simp; omega
          clear hbw hh' hlen hcx0 hxB hhx hxd hrow1 k0
          go_wp2
          go_roundw
          case rel => exact ⟨k + 1, _, by omega, by go_num, hI2, Lib.hid HR1.out, Lib.hid G1.out⟩
          case measure => simp [intOf]; omega
        · obtain ⟨j, hj⟩ : ∃ j, k = j + 1 := ⟨k - 1, by omega⟩
          obtain ⟨h, hh⟩ : ∃ h, cur[j]? = some h := ⟨cur[j]'(by omega), List.getElem?_eq_getElem _⟩
          obtain ⟨lx, hlx⟩ : ∃ lx, lx = x * 2 ^ (64 - q) % B64 := ⟨_, rfl⟩
          have hh2 : h < 2 ^ (64 - q) := by have := hI.out.2.2.2 j hj; rwa [getD_of hh] at this
          obtain ⟨y1, y2, y3, y4, y5⟩ := up_words (q := 64 - q) (hx := hx2) (by omega) hxB hh2 hlx (by rw [hhx, show 64 - (64 - q) = q by omega])
          have hI2 : Hid (DnI m q (k + 1) ((cur.set k hx2).set j (h + lx)) (xs.drop s)) := by
            subst hj; exact Lib.hid (hI.out.step hlt hq64 hxd hxB hh hlx hhx)
          obtain ⟨v, hv⟩ : ∃ v, v = h + lx := ⟨_, rfl⟩
          rw [← hv] at y1 y2 hI2
          have k1 : IntKind.u64.wrap ((x : Int) * 2 ^ (64 - q)) = (lx : Int) := by rw [show (x : Int) * 2 ^ (64 - q) = ((x * 2 ^ (64 - q) : Nat) : Int) by simp, u64_wraps, hlx]; rfl
          have k2 : bits .or .u64 (h : Int) (lx : Int) = (v : Int) := by rw [bits_or_u64_nat h lx (by unfold B64 at y2; omega) y3, y1]
          have hrow2 := hrow1.set_ j v
          have m1 : (wr.setCell ⟨w.heap.size, k, none⟩ (.int .u64 (hx2 : Int))).cell? (ad.add (s + k)) = some (.int .u64 (x : Int)) := by
            rw [← hcx]; exact World.cell?_setCell_other _ _ _ _ (fun e => by have := congrArg Addr.block e; rw [block_of_add] at this; simp at this; omega)
          have m2 : (wr.setCell ⟨w.heap.size, k, none⟩ (.int .u64 (hx2 : Int))).cell? ⟨w.heap.size, j, none⟩ = some (.int .u64 (h : Int)) := by
            have hc := hR.out.cell (i := j) (by omega)
            rw [getD_of hh] at hc
            rw [← hc]; exact World.cell?_setCell_other _ _ _ _ (fun e => by have := congrArg Addr.off e; simp at this; omega)
          have m3 := hrow1.frozen j
          have G1 := Lib.hid (only_set (p := ⟨w.heap.size, j, none⟩) (only_set (p := ⟨w.heap.size, k, none⟩) hG.out (.inl rfl) (.int .u64 (hx2 : Int))) (.inl rfl) (.int .u64 (v : Int)))
          have HR2 := Lib.hid hrow2
          have HJ := Lib.hid hj
          have j2 : (k : Int) - 1 = (j : Int) := by omega
          have j3 : (j : Int) < (m : Int) := by omega
          have j4 : (0 : Int) ≤ (j : Int) := by omega
          have kb : decide ((0 : Int) < (k : Int)) = true := by simp; omega
          clear hbw hh' hlen hcx0 hxB hhx hxd hrow1 hrow2 hlx hh hh2 y1 y2 y3 y4 y5 hv hj
          have j1 : IntKind.i64.wrap ((s : Int) + (k : Int)) = (s : Int) + (k : Int) := IntWalk.i64_in _ (by omega)
          have j5 : IntKind.i64.wrap (j : Int) = (j : Int) := IntWalk.i64_in _ (by omega)
          have j6 : IntKind.i64.wrap (64 - (q : Int)) = 64 - (q : Int) := IntWalk.i64_in _ (by omega)
          go_wp2
          go_region
          clear j1 j5 j6
          go_wp2
          go_roundw
          case rel => exact ⟨k + 1, _, by omega, by go_num, hI2, Lib.hid HR2.out, Lib.hid (only_drew G1.out)⟩
          case measure => simp [intOf]; omega
      · have hkn : k = m := by omega
        subst hkn
        have hl := hI.out.1
        have hval : nval B64 cur = nval B64 xs / 2 ^ b := hI.out.done HX.out (by rw [HL.out]; exact HM.out) (by rw [HL.out]; omega) HB.out
        have hrd : Rd .u64 wr w.heap.size wr.heap.size (some ⟨w.heap.size, 0, none⟩) k k cur := by
          have := hR.out.rd0 (lo := w.heap.size) (hi := wr.heap.size) (c := k) (Nat.le_refl _) hR.out.lt (by rw [hl]; omega)
          rw [hl] at this; exact this
        have HRD := Lib.hid hrd
        have HV := Lib.hid hval
        have HBW := Lib.hid hbw
        clear hl hval hrd hbw
        go_wp2_with fail
        refine (used_any wr w.heap.size wr.heap.size (some ⟨w.heap.size, 0, none⟩) k k cur HRD.out hI.out.2.1 (by omega)).mono ?_
        rintro e w' ⟨A3, c3, rfl, rfl, hA3, hc3⟩
        have hfin := HRD.out.used hI.out.2.1 hA3 hc3
        rw [HV.out] at hfin
        have HF := Lib.hid hfin
        clear hfin
        go_wp2
        go_ret
        exact ⟨_, _, _, rfl, HF.out, HBW.out, hR.out.fr hA3⟩
def shv (X : Nat) (n : Int) : Nat := if min (max n (-262144)) 262144 < 0 then X / 2 ^ (-(min (max n (-262144)) 262144)).toNat else X * 2 ^ (min (max n (-262144)) 262144).toNat
theorem shv_up {X : Nat} {n : Int} {b : Nat} (h : min (max n (-262144)) 262144 = (b : Int)) : shv X n = X * 2 ^ b := by
  unfold shv; rw [h, if_neg (by omega), Int.toNat_natCast]
theorem shv_down {X : Nat} {n : Int} {b : Nat} (h : min (max n (-262144)) 262144 = -(b : Int)) (hb : 0 < b) : shv X n = X / 2 ^ b := by
  unfold shv; rw [h, if_pos (by omega), Int.neg_neg, Int.toNat_natCast]
set_option maxRecDepth 100000 in
set_option maxHeartbeats 1000000 in
theorem shift_any (w : World) (lo hi : Nat) (A : Option Addr) (n c : Nat) (t : Int) (xs : List Nat) (ha : Rd .u64 w lo hi A n c xs) (hxs : Small B64 xs) (hn : n ≤ 100000000) (hhi : hi ≤ w.heap.size) :
    Calls Tryz.prog 190 #[.slice A n c, .int .i64 t] w (NumPost w (shv (nval B64 xs) t)) := by
  have ux := ulen_le hxs
  rw [ha.1] at ux
  have HA := Lib.hid ha; have HX := Lib.hid hxs
  clear ha hxs
  obtain ⟨X, hX⟩ : ∃ X, X = nval B64 xs := ⟨_, rfl⟩
  rw [← hX]
  have HXv := Lib.hid hX
  clear hX
  go_enter Tryz.func190, Tryz.ntmps190
  go_wp2_with fail
  refine (used_any w lo hi A n c xs HA.out HX.out (by omega)).mono ?_
  rintro e w' ⟨A1, c1, rfl, rfl, hA1, hc1⟩
  have H1 := Lib.hid (HA.out.used HX.out hA1 hc1)
  clear hA1 hc1
  generalize ulen xs = n1 at *
  rw [← HXv.out] at H1
  go_wp2_with fail
  · obtain ⟨b, hb⟩ : ∃ b : Nat, min (max t (-262144)) 262144 = -(b : Int) := ⟨(-(min (max t (-262144)) 262144)).toNat, by omega⟩
    have hb0 : 0 < b := by omega
    have hbb : b ≤ 1000000 := by omega
    have HV := Lib.hid (shv_down (X := X) hb hb0)
    rw [hb, Int.neg_neg]
    clear hb
    refine (shiftDown_any w lo hi A1 n1 c1 _ _ b _ _ H1.out (small_digs B64_two _) (by omega) hhi hbb rfl rfl rfl).mono ?_
    rintro e w' ⟨A2, n2, c2, rfl, h1, h2, h3⟩
    rw [nval_digs B64_two, ← HV.out] at h1
    have K1 := Lib.hid h1; have K2 := Lib.hid h2; have K3 := Lib.hid h3
    clear h1 h2 h3
    go_wp2
    go_ret
    exact ⟨_, _, _, rfl, K1.out, K2.out, K3.out⟩
  · obtain ⟨b, hb⟩ : ∃ b : Nat, min (max t (-262144)) 262144 = (b : Int) := ⟨(min (max t (-262144)) 262144).toNat, by omega⟩
    have hbb : b ≤ 1000000 := by omega
    have HV := Lib.hid (shv_up (X := X) hb)
    rw [hb]
    clear hb
    refine (shiftUp_any w lo hi A1 n1 c1 _ _ b _ H1.out (small_digs B64_two _) (by omega) hhi hbb rfl rfl).mono ?_
    rintro e w' ⟨A2, n2, c2, rfl, h1, h2, h3⟩
    rw [nval_digs B64_two, ← HV.out] at h1
    have K1 := Lib.hid h1; have K2 := Lib.hid h2; have K3 := Lib.hid h3
    clear h1 h2 h3
    go_wp2
    go_ret
    exact ⟨_, _, _, rfl, K1.out, K2.out, K3.out⟩
end Go.Proofs.YthhaelnildaemaaGreatDoor
namespace Go.Proofs.YthhaelnildaemaaGreatDoor
open Go.RowKit Nx
def TruePost (w : World) (e : Ending) (w' : World) : Prop := ∃ m : Nat, e = .returned (.bool true) ∧ w' = w.drewN m
theorem TruePost.of {w w' : World} {e : Ending} (he : e = .returned (.bool true)) (h : ∃ m, w' = w.drewN m) : TruePost w e w' := by
  obtain ⟨m, hm⟩ := h; exact ⟨m, he, hm⟩
def SameRel (w : World) (n : Nat) (u : Value) (wr : World) : Prop := ∃ k m : Nat, k ≤ n ∧ u = .int .i64 (k : Int) ∧ wr = w.drewN m
theorem SameRel.of {w wr : World} {n : Nat} {u : Value} (k : Nat) (hk : k ≤ n) (hu : u = .int .i64 (k : Int)) (h : ∃ m, wr = w.drewN m) : SameRel w n u wr := by
  obtain ⟨m, hm⟩ := h; exact ⟨k, m, hk, hu, hm⟩
theorem built1 (w : World) (v : Nat) (lo hi g : Nat) (hg : g = w.heap.size) (hl : lo ≤ g) (hh : g < hi) : Rd .u64 (w.alloc (.cells #[.int .u64 (v : Int)] 56)) lo hi (some ⟨g, 0, none⟩) 1 1 [v] := by
  subst hg
  have : Row .u64 (w.alloc (.cells #[.int .u64 (v : Int)] 56)) w.heap.size 56 [v] := Blk.new w _ _
  exact this.rd0 hl hh (by simp)
theorem small1 {v : Nat} (h : v < B64) : Small B64 [v] := Small.cons h Small.nil
theorem nval1 (v : Nat) : nval B64 [v] = v := by simp [nval]
end Go.Proofs.YthhaelnildaemaaGreatDoor
namespace Go.Proofs.YthhaelnildaemaaGreatDoor
open Go.RowKit Nx
theorem Tab.below {w W : World} (h : Tab w) (hb : Below w.heap.size w W) : Tab W := fun i hi => by
  rw [← h i hi]; exact hb.cell (World.block_lt_of_cell? w _ (h i hi))
def wd (a : Nat) : Obj := .cells #[.int .u64 (a : Int)] 56
theorem one_rd (W : World) (a : Nat) : Rd .u64 (W.alloc (wd a)) 0 (W.alloc (wd a)).heap.size (some ⟨W.heap.size, 0, none⟩) 1 1 [a] := built1 W a 0 _ _ rfl (Nat.zero_le _) (by simp)
theorem one_below (W : World) (o : Obj) : Below W.heap.size W (W.alloc o) := (Below.refl _ _).alloc (Nat.le_refl _) _
theorem below_step {w W W' : World} (h : Below w.heap.size w W) (h' : Below W.heap.size W W') : Below w.heap.size w W' := h.trans (h'.mono h.size)
theorem rd_step {k : IntKind} {W W' : World} {n c : Nat} {A : Option Addr} {xs : List Nat} (h : Rd k W 0 W.heap.size A n c xs) (h' : Below W.heap.size W W') : Rd k W' 0 W'.heap.size A n c xs := (h.below h').more h'.size
end Go.Proofs.YthhaelnildaemaaGreatDoor
namespace Go.Proofs.YthhaelnildaemaaGreatDoor
open Go.RowKit Nx
def Has (w : World) (A : Option Addr) (n c X k : Nat) : Prop := ∃ xs : List Nat, Rd .u64 w 0 w.heap.size A n c xs ∧ Small B64 xs ∧ nval B64 xs = X ∧ n ≤ k
def Is (w : World) (A : Option Addr) (n c N : Nat) : Prop := Rd .u64 w 0 w.heap.size A n c (digs B64 N)
theorem Has.step {w w' : World} {A : Option Addr} {n c X k : Nat} (h : Has w A n c X k) (hb : Below w.heap.size w w') : Has w' A n c X k := by
  obtain ⟨xs, h1, h2⟩ := h; exact ⟨xs, rd_step h1 hb, h2⟩
theorem Is.step {w w' : World} {A : Option Addr} {n c N : Nat} (h : Is w A n c N) (hb : Below w.heap.size w w') : Is w' A n c N := rd_step h hb
theorem Is.has {w : World} {A : Option Addr} {n c N k : Nat} (h : Is w A n c N) (hk : N < B64 ^ k) : Has w A n c N k :=
  ⟨_, h, small_digs B64_two _, nval_digs B64_two _, by rw [← h.1]; exact digs_len_le B64_two hk⟩
theorem Has.lt {w : World} {A : Option Addr} {n c X k : Nat} (h : Has w A n c X k) : X < B64 ^ k := by
  obtain ⟨xs, h1, h2, rfl, h4⟩ := h
  have := nval_lt h2
  rw [h1.1] at this
  exact Nat.lt_of_lt_of_le this (Nat.pow_le_pow_right (by unfold B64; omega) h4)
def NewIs (W : World) (N : Nat) (e : Ending) (w' : World) : Prop := ∃ (A : Option Addr) (n c : Nat), e = .returned (.slice A n c) ∧ Is w' A n c N ∧ Below W.heap.size W w'
theorem NewIs.of {W w' : World} {N M : Nat} {e : Ending} (h : NumPost W N e w') (hN : N = M) : NewIs W M e w' := by
  obtain ⟨A, n, c, he, h1, h2, _⟩ := h
  subst hN
  exact ⟨A, n, c, he, h1.less (Nat.zero_le _), h2⟩
section
variable {W : World} {A B : Option Addr} {n c m d X Y k l : Nat}
theorem add_is (ha : Has W A n c X k) (hb : Has W B m d Y l) (hk : k ≤ 100000) (hl : l ≤ 100000) : Calls Tryz.prog 142 #[.slice A n c, .slice B m d] W (NewIs W (X + Y)) := by
  obtain ⟨xs, a1, a2, rfl, a4⟩ := ha
  obtain ⟨ys, b1, b2, rfl, b4⟩ := hb
  exact (add_any W 0 _ A B n c m d xs ys a1 b1 a2 b2 (by omega) (by omega) (Nat.le_refl _)).mono fun e w' h => NewIs.of h rfl
theorem shift_is (t : Int) (ha : Has W A n c X k) (hk : k ≤ 100000) : Calls Tryz.prog 190 #[.slice A n c, .int .i64 t] W (NewIs W (shv X t)) := by
  obtain ⟨xs, a1, a2, rfl, a4⟩ := ha
  exact (shift_any W 0 _ A n c t xs a1 a2 (by omega) (Nat.le_refl _)).mono fun e w' h => NewIs.of h rfl
theorem cmp_is (ha : Has W A n c X k) (hb : Has W B m d Y l) (hk : k ≤ 100000) (hl : l ≤ 100000) : Calls Tryz.prog 192 #[.slice A n c, .slice B m d] W fun e w' => e = .returned (.int .i64 (cmpv X Y)) ∧ Below W.heap.size W w' := by
  obtain ⟨xs, a1, a2, rfl, a4⟩ := ha
  obtain ⟨ys, b1, b2, rfl, b4⟩ := hb
  refine (cmp_any W 0 _ A B n c m d xs ys a1 b1 a2 b2 (by omega) (by omega)).mono ?_
  rintro e w' ⟨t, rfl, rfl⟩
  exact ⟨rfl, below_drewN (Below.refl _ _) t⟩
end
theorem lt_add {a b x y : Nat} (hx : x < B64 ^ a) (hy : y < B64 ^ b) : x + y < B64 ^ (a + b + 1) := by
  have h1 : B64 ^ a ≤ B64 ^ (a + b) := Nat.pow_le_pow_right (by unfold B64; omega) (by omega)
  have h2 : B64 ^ b ≤ B64 ^ (a + b) := Nat.pow_le_pow_right (by unfold B64; omega) (by omega)
  have h3 : B64 ^ (a + b) * 2 ≤ B64 ^ (a + b) * B64 := Nat.mul_le_mul_left _ B64_two
  rw [Nat.pow_succ]; omega
theorem lt_mul {a b x y : Nat} (hx : x < B64 ^ a) (hy : y < B64 ^ b) : x * y < B64 ^ (a + b) := by
  rw [Nat.pow_add]; exact Nat.mul_lt_mul'' hx hy
theorem lt_up {a b x : Nat} (hx : x < B64 ^ a) (h : a ≤ b) : x < B64 ^ b := Nat.lt_of_lt_of_le hx (Nat.pow_le_pow_right (by unfold B64; omega) h)
def Arg (w : World) (A : Option Addr) (n c : Nat) (xs : List Nat) : Prop := Rd .u64 w 0 w.heap.size A n c xs ∧ Small B64 xs
theorem Arg.step {w w' : World} {A : Option Addr} {n c : Nat} {xs : List Nat} (h : Arg w A n c xs) (hb : Below w.heap.size w w') : Arg w' A n c xs := ⟨rd_step h.1 hb, h.2⟩
theorem Arg.has {w : World} {A : Option Addr} {n c : Nat} {xs : List Nat} (h : Arg w A n c xs) (hn : n ≤ 40) : Has w A n c (nval B64 xs) 40 := ⟨xs, h.1, h.2, rfl, hn⟩
end Go.Proofs.YthhaelnildaemaaGreatDoor
