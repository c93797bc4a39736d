/- nat.shiftUp, nat.shiftDown, nat.Shift. -/
import Derived.Test.YtimkifkikcohgaaDoorMulB
namespace Go.Proofs.YtimkifkikcohgaaDoor
open Go.RowKit Nx

/-- After k rounds of shifting up by 64 s + q bits. -/
def UpI (n s q k : Nat) (cur p : List Nat) : Prop :=
  cur.length = s + n + 1 ∧ Small B64 cur ∧ nval B64 cur = B64 ^ s * (2 ^ q * nval B64 (p.take k)) ∧ cur.getD (s + k) 0 < 2 ^ q ∧ cur.drop (s + k + 1) = List.replicate (n - k) 0

theorem UpI.start {n s q : Nat} {p : List Nat} : UpI n s q 0 (List.replicate (s + n + 1) 0) p := by
  refine ⟨by simp, small_replicate (by unfold B64; omega), by rw [nval_zeros]; simp [nval], ?_, ?_⟩
  · have : (List.replicate (s + n + 1) 0).getD (s + 0) 0 = 0 := by
      rw [List.getD_eq_getElem?_getD, List.getElem?_replicate]; split <;> rfl
    rw [this]; exact Nat.two_pow_pos q
  · rw [List.drop_replicate]; congr 1; omega

/-- The words of one round. -/
theorem up_words {q x h lx hx : Nat} (hq : q ≤ 64) (hxB : x < B64) (hh : h < 2 ^ q) (h1 : lx = x * 2 ^ q % B64) (h2 : hx = x / 2 ^ (64 - q)) :
    h ||| lx = h + lx ∧ h + lx < B64 ∧ lx < B64 ∧ hx < 2 ^ q ∧ lx + B64 * hx = x * 2 ^ q := by
  have hp : 2 ^ (64 - q) * 2 ^ q = B64 := by rw [← Nat.pow_add, Nat.sub_add_cancel (by omega)]; rfl
  have hqp := Nat.two_pow_pos q
  have hd : x * 2 ^ q / B64 = x / 2 ^ (64 - q) := by rw [← hp, Nat.mul_div_mul_right _ _ hqp]
  have hm := Nat.mod_add_div (x * 2 ^ q) B64
  rw [hd, ← h1, ← h2] at hm
  have hl : lx = 2 ^ q * (x % 2 ^ (64 - q)) := by
    rw [h1, ← hp, Nat.mul_mod_mul_right, Nat.mul_comm]
  have hlt : x % 2 ^ (64 - q) < 2 ^ (64 - q) := Nat.mod_lt _ (Nat.two_pow_pos _)
  have hle : 2 ^ q * (x % 2 ^ (64 - q) + 1) ≤ 2 ^ q * 2 ^ (64 - q) := Nat.mul_le_mul_left _ hlt
  rw [Nat.mul_add, ← hl, Nat.mul_comm (2 ^ q) (2 ^ (64 - q)), hp] at hle
  refine ⟨?_, by omega, by omega, ?_, hm⟩
  · rw [Nat.or_comm, hl, ← Nat.two_pow_add_eq_or_of_lt hh, Nat.add_comm]
  · rw [h2, Nat.div_lt_iff_lt_mul (Nat.two_pow_pos _), Nat.mul_comm, hp]; exact hxB

theorem UpI.step {n s q k x h lx hx : Nat} {cur p : List Nat} (hI : UpI n s q k cur p) (hk : k < n) (hq : q < 64) (hp : p[k]? = some x) (hxB : x < B64) (hh : cur[s + k]? = some h) (h1 : lx = x * 2 ^ q % B64) (h2 : hx = x / 2 ^ (64 - q)) :
    UpI n s q (k + 1) ((cur.set (s + k) (h + lx)).set (s + k + 1) hx) p := by
  obtain ⟨g1, g2, g3, g4, g5⟩ := hI
  have hg := getD_of hh
  rw [hg] at g4
  obtain ⟨_, w2, w3, w4, w5⟩ := up_words (Nat.le_of_lt hq) hxB g4 h1 h2
  have hz : cur.drop (s + k + 1) = 0 :: List.replicate (n - k - 1) 0 := by
    rw [g5, show n - k = (n - k - 1) + 1 by omega, List.replicate_succ]; rfl
  have h0 : cur.getD (s + k + 1) 0 = 0 := by
    have : cur[s + k + 1]? = some 0 := by
      have e : (cur.drop (s + k + 1))[0]? = cur[s + k + 1]? := by simp
      rw [← e, hz]; rfl
    exact getD_of this
  have hqB : 2 ^ q ≤ B64 := by rw [B64_pow]; exact Nat.pow_le_pow_right (by omega) (by omega)
  have n1 := nval_set B64 cur (s + k) (h + lx) (by omega)
  have n2 := nval_set B64 (cur.set (s + k) (h + lx)) (s + k + 1) hx (by simp; omega)
  have h0' : (cur.set (s + k) (h + lx)).getD (s + k + 1) 0 = 0 := by
    rw [List.getD_eq_getElem?_getD, List.getElem?_set_ne (by omega), ← List.getD_eq_getElem?_getD]; exact h0
  rw [h0', Nat.mul_zero, Nat.add_zero] at n2
  rw [hg] at n1
  refine ⟨by simpa using g1, (g2.set _ w2).set _ (by omega), ?_, ?_, ?_⟩
  · rw [n2, nval_take_succ, getD_of hp]
    have e1 : B64 ^ (s + k + 1) * hx = B64 ^ (s + k) * (B64 * hx) := by rw [Nat.pow_succ]; grind
    have e2 : B64 ^ s * (2 ^ q * (nval B64 (p.take k) + B64 ^ k * x)) = B64 ^ s * (2 ^ q * nval B64 (p.take k)) + B64 ^ (s + k) * (x * 2 ^ q) := by rw [Nat.pow_add]; grind
    rw [e2, ← g3, ← w5, e1, Nat.mul_add]
    rw [Nat.mul_add] at n1
    omega
  · rw [show s + (k + 1) = s + k + 1 by omega, getD_set _ _ _ (by simp; omega)]; exact w4
  · rw [show s + (k + 1) + 1 = s + k + 1 + 1 by omega, drop_set_succ]
    have e := congrArg (List.drop 1) hz
    rw [List.drop_drop] at e
    rw [List.drop_set, if_pos (by omega)]
    rw [show n - (k + 1) = n - k - 1 by omega]
    simpa using e

/-- The relation of shiftUp's loop. -/
def UpRel (w : World) (g n s q : Nat) (p : List Nat) (u : Value) (wr : World) : Prop :=
  ∃ (k : Nat) (cur : List Nat), k ≤ n ∧ u = .int .i64 (k : Int) ∧ Hid (UpI n s q k cur p) ∧ Hid (Row .u64 wr g 54 cur) ∧ Hid (w.grownBy wr (some g))

set_option maxRecDepth 100000 in
set_option maxHeartbeats 1000000 in
theorem shiftUp_any (w : World) (lo hi : Nat) (A : Option Addr) (n c s q b : Nat) (xs : List Nat) (ha : Rd .u64 w lo hi A n c xs) (hxs : Small B64 xs) (hn : n ≤ 100000000) (hhi : hi ≤ w.heap.size)
    (hb : b ≤ 1000000) (hs : s = b / 64) (hq : q = b % 64) :
    Calls Tryd.prog 79 #[.slice A n c, .int .i64 (b : Int)] w (NumPost w (nval B64 xs * 2 ^ b)) := by
  have HA := Lib.hid ha; have HX := Lib.hid hxs
  have HL := Lib.hid ha.1
  have e1 : (b : Int) / 64 = (s : Int) := by omega
  have e2 : (b : Int) % 64 = (q : Int) := by omega
  have hq64 : q < 64 := by omega
  have hs64 : s ≤ 1000000 := by omega
  have HB := Lib.hid (show B64 ^ s * 2 ^ q = 2 ^ b by rw [pow64, ← Nat.pow_add]; congr 1; omega)
  clear ha hxs hs hq
  rcases Nat.eq_zero_or_pos n with e | e
  · have hz : nval B64 xs * 2 ^ b = 0 := by
      rw [List.eq_nil_of_length_eq_zero (HL.out.trans e)]; simp [nval]
    have HZ := Lib.hid hz
    clear hz
    subst e
    go_enter Tryd.func79, Tryd.ntmps79
    go_wp2
    go_ret
    exact ⟨none, 0, 0, rfl, by rw [HZ.out, digs_zero]; exact Rd.none_, Below.refl _ _, fun _ j _ hj => absurd hj (by omega)⟩
  · have f1 : ((n : Int) == 0) = false := by simp; omega
    have hmk := fun W => make64 ((s : Int) + (n : Int) + 1) (s + n + 1) (by omega) (by omega) W
    have HRow := Lib.hid (zrow_row .u64 54 (s + n + 1) w)
    have HB0 := Lib.hid ((Below.refl w.heap.size w).alloc (Nat.le_refl _) (zrow .u64 54 (s + n + 1)))
    have HSz := Lib.hid (show w.heap.size < (w.alloc (zrow .u64 54 (s + n + 1))).heap.size by simp)
    go_enter Tryd.func79, Tryd.ntmps79
    go_wp2
    generalize hw0 : w.alloc (zrow .u64 54 (s + n + 1)) = w0 at *
    clear hw0
    go_loopw [24] (fun u wr => UpRel w0 w.heap.size n s q xs u wr) (fun u _ => n - (intOf u).toNat)
    case atStart => exact ⟨0, _, Nat.zero_le _, rfl, Lib.hid UpI.start, HRow, Lib.hid (only_refl _ _)⟩
    case round =>
      obtain ⟨k, cur, hk, rfl, hI, hR, hG⟩ := hrel
      have hbw : Below w.heap.size w wr := HB0.out.trans (only_below hG.out (by have := HSz.out; omega) (Nat.le_refl _))
      by_cases hlt : k < n
      · obtain ⟨ad, x, hA, _, hbl, hx, hcx0⟩ := HA.out.get_ (j := k) hlt
        subst hA
        have hcx : wr.cell? (ad.add k) = some (.int .u64 (x : Int)) := by rw [← hcx0]; exact hbw.cell (by rw [block_of_add]; omega)
        have hlen := hI.out.1
        obtain ⟨h, hh⟩ : ∃ h, cur[s + k]? = some h := ⟨cur[s + k]'(by omega), List.getElem?_eq_getElem _⟩
        obtain ⟨h', hh'⟩ : ∃ h', cur[s + k + 1]? = some h' := ⟨cur[s + k + 1]'(by omega), List.getElem?_eq_getElem _⟩
        have hch := hR.out.cell (i := s + k) (by omega)
        have hch' := hR.out.cell (i := s + k + 1) (by omega)
        rw [getD_of hh] at hch
        rw [getD_of hh'] at hch'
        have hf1 := hR.out.frozen (s + k)
        have hf2 := hR.out.frozen (s + k + 1)
        have HBW := Lib.hid hbw
        have hxB := HX.out.get hx.out
        obtain ⟨lx, hlx⟩ : ∃ lx, lx = x * 2 ^ q % B64 := ⟨_, rfl⟩
        obtain ⟨hx2, hhx⟩ : ∃ hx2, hx2 = x / 2 ^ (64 - q) := ⟨_, rfl⟩
        have hh2 : h < 2 ^ q := by have := hI.out.2.2.2.1; rwa [getD_of hh] at this
        obtain ⟨y1, y2, y3, y4, y5⟩ := up_words (Nat.le_of_lt hq64) hxB hh2 hlx hhx
        have hI2 := Lib.hid (hI.out.step hlt hq64 hx.out hxB hh hlx hhx)
        obtain ⟨v, hv⟩ : ∃ v, v = h + lx := ⟨_, rfl⟩
        rw [← hv] at y1 y2 hI2
        have k1 : IntKind.u64.wrap ((x : Int) * 2 ^ q) = (lx : Int) := by rw [show (x : Int) * 2 ^ q = ((x * 2 ^ q : Nat) : Int) by simp, u64_wraps, hlx]; rfl
        have k2 : bits .or .u64 (h : Int) (lx : Int) = (v : Int) := by rw [bits_or_u64_nat h lx (by unfold B64 at y2; omega) y3, y1]
        have k3 : (x : Int) / 2 ^ (64 - q) = (hx2 : Int) := by rw [show (x : Int) / 2 ^ (64 - q) = ((x / 2 ^ (64 - q) : Nat) : Int) by simp, hhx]
        have hrow1 := hR.out.set_ (s + k) v
        have hrow2 := hrow1.set_ (s + k + 1) hx2
        have m1 : (wr.setCell ⟨w.heap.size, s + k, none⟩ (.int .u64 (v : Int))).cell? (ad.add k) = some (.int .u64 (x : Int)) := by
          rw [← hcx]; exact World.cell?_setCell_other _ _ _ _ (fun e => by have := congrArg Addr.block e; rw [block_of_add] at this; simp at this; omega)
        have m2 : (wr.setCell ⟨w.heap.size, s + k, none⟩ (.int .u64 (v : Int))).cell? ⟨w.heap.size, s + k + 1, none⟩ = some (.int .u64 (h' : Int)) := by
          rw [← hch']; exact World.cell?_setCell_other _ _ _ _ (fun e => by have := congrArg Addr.off e; simp at this)
        have m3 := hrow1.frozen (s + k + 1)
        have G1 := Lib.hid (only_set (p := ⟨w.heap.size, s + k + 1, none⟩) (only_set (p := ⟨w.heap.size, s + k, none⟩) hG.out (.inl rfl) (.int .u64 (v : Int))) (.inl rfl) (.int .u64 (hx2 : Int)))
        have HR2 := Lib.hid hrow2
        have hz1 : ¬ (s + k = s + k + 1) := by omega
        clear hbw hh hh' hlen hcx0 hxB hlx hhx hh2 y1 y2 y3 y4 y5 hv hrow1 hrow2
        have i1 : (0 : Int) ≤ (k : Int) := by omega
        have i2 : (k : Int) < (n : Int) := by omega
        have i3 : (0 : Int) ≤ (s : Int) + (k : Int) := by omega
        have i4 : (s : Int) + (k : Int) < (s : Int) + (n : Int) + 1 := by omega
        have i5 : ((s : Int) + (k : Int)).toNat = s + k := by omega
        have j1 : IntKind.i64.wrap ((s : Int) + (k : Int)) = (s : Int) + (k : Int) := IntWalk.i64_in _ (by omega)
        go_wp2
        go_region
        clear j1
        go_wp2
        go_roundw
        case rel => exact ⟨k + 1, _, by omega, by go_num, hI2, Lib.hid HR2.out, Lib.hid (only_drew G1.out)⟩
        case measure => simp [intOf]; omega
      · have hkn : k = n := by omega
        subst hkn
        have hl := hI.out.1
        have hval : nval B64 cur = nval B64 xs * 2 ^ b := by
          have := hI.out.2.2.1
          rw [List.take_of_length_le (by rw [HL.out]; omega), ← Nat.mul_assoc, HB.out, Nat.mul_comm] at this
          exact this
        have hrd : Rd .u64 wr w.heap.size wr.heap.size (some ⟨w.heap.size, 0, none⟩) (s + k + 1) (s + k + 1) cur := by
          have := hR.out.rd0 (lo := w.heap.size) (hi := wr.heap.size) (c := s + k + 1) (Nat.le_refl _) hR.out.lt (by rw [hl]; omega)
          rw [hl] at this; exact this
        have HRD := Lib.hid hrd
        have HV := Lib.hid hval
        have HBW := Lib.hid hbw
        clear hl hval hrd hbw
        go_wp2_with fail
        refine (used_any wr w.heap.size wr.heap.size (some ⟨w.heap.size, 0, none⟩) (s + k + 1) (s + k + 1) cur HRD.out hI.out.2.1 (by omega)).mono ?_
        rintro e w' ⟨A3, c3, rfl, rfl, hA3, hc3⟩
        have hfin := HRD.out.used hI.out.2.1 hA3 hc3
        rw [HV.out] at hfin
        have HF := Lib.hid hfin
        clear hfin
        go_wp2
        go_ret
        exact ⟨_, _, _, rfl, HF.out, HBW.out, hR.out.fr hA3⟩
end Go.Proofs.YtimkifkikcohgaaDoor
