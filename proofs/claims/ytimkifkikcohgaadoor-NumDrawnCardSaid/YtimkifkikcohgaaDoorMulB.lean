/- nat.Mul. -/
import Derived.Test.YtimkifkikcohgaaDoorMul
namespace Go.Proofs.YtimkifkikcohgaaDoor
open Go.RowKit Nx

/-- After k rows of the product. -/
def MulJ (B n m k : Nat) (out xs ys : List Nat) : Prop :=
  out.length = n + m ∧ Small B out ∧ nval B out = nval B (xs.take k) * nval B ys ∧ out.drop (k + m) = List.replicate (n - k) 0

theorem MulJ.start {B n m : Nat} {xs ys : List Nat} (hB : 2 ≤ B) : MulJ B n m 0 (List.replicate (n + m) 0) xs ys :=
  ⟨by simp, small_replicate (by omega), by rw [nval_zeros]; simp [nval], by rw [List.drop_replicate]; congr 1; omega⟩

theorem MulJ.parts {B n m k f : Nat} {out xs ys : List Nat} (h : MulJ B n m k out xs ys) (hk : k < n) (hf : xs[k]? = some f) :
    ∃ pre seg post : List Nat, out = pre ++ seg ++ post ∧ pre.length = k ∧ seg.length = m + 1 ∧ Small B seg ∧
      ∀ o2 : List Nat, o2.length = m + 1 → Small B o2 → nval B o2 = nval B (seg.take m) + f * nval B ys → MulJ B n m (k + 1) (pre ++ o2 ++ post) xs ys := by
  obtain ⟨h1, h2, h3, h4⟩ := h
  have hz : out.drop (k + m) = 0 :: List.replicate (n - k - 1) 0 := by
    rw [h4, show n - k = (n - k - 1) + 1 by omega, List.replicate_succ]; rfl
  refine ⟨out.take k, (out.drop k).take (m + 1), out.drop (k + m + 1), ?_, by simp; omega, by simp; omega, (h2.drop k).take _, ?_⟩
  · rw [List.append_assoc, show out.drop (k + m + 1) = (out.drop k).drop (m + 1) by rw [List.drop_drop, Nat.add_assoc], List.take_append_drop, List.take_append_drop]
  · intro o2 g1 g2 g3
    have hpost : out.drop (k + m + 1) = List.replicate (n - k - 1) 0 := by
      have := congrArg (List.drop 1) hz
      rw [List.drop_drop] at this
      simpa using this
    refine ⟨?_, ((h2.take k).append g2).append (h2.drop _), ?_, ?_⟩
    · simp; omega
    · have e1 : ((out.drop k).take (m + 1)).take m = (out.drop k).take m := by rw [List.take_take]; congr 1; omega
      rw [e1] at g3
      have e2 : nval B out = nval B (out.take k) + B ^ k * nval B (out.drop k) := nval_split B out k (by omega)
      have e3 : nval B (out.drop k) = nval B ((out.drop k).take m) + B ^ m * nval B ((out.drop k).drop m) := nval_split B (out.drop k) m (by simp; omega)
      rw [List.drop_drop, h4, nval_zeros, Nat.mul_zero, Nat.add_zero] at e3
      rw [List.append_assoc, nval_append, nval_append, g1, hpost, nval_zeros, Nat.mul_zero, Nat.add_zero, g3, List.length_take, Nat.min_eq_left (by omega), nval_take_succ, getD_of hf, Nat.add_mul, ← h3, e2, e3]
      grind
    · rw [List.append_assoc, List.drop_append, List.drop_append]
      have l1 : (out.take k).length = k := by simp; omega
      rw [l1, g1, List.drop_of_length_le (l := out.take k) (by omega), List.drop_of_length_le (l := o2) (by omega), List.nil_append, List.nil_append, hpost, List.drop_replicate]
      congr 1; omega

theorem only_trans {a b c : World} {row : Option Nat} (h : a.grownBy b row) (k : b.grownBy c row) : a.grownBy c row :=
  ⟨k.os.trans h.os, k.tape.trans h.tape, k.output.trans h.output, Nat.le_trans h.size k.size, fun i hi hne => (k.block i (Nat.lt_of_lt_of_le hi h.size) hne).trans (h.block i hi hne)⟩

/-- The relation of Mul's loop. -/
def MulRel (w : World) (g n m : Nat) (xs ys : List Nat) (u : Value) (wr : World) : Prop :=
  ∃ (k : Nat) (out : List Nat), k ≤ n ∧ u = .int .i64 (k : Int) ∧ Hid (MulJ B64 n m k out xs ys) ∧ Hid (Row .u64 wr g 54 out) ∧ Hid (w.grownBy wr (some g))

set_option maxRecDepth 100000 in
set_option maxHeartbeats 1000000 in
theorem mul_any (w : World) (lo hi : Nat) (A B : Option Addr) (n c m cb : Nat) (xs ys : List Nat) (ha : Rd .u64 w lo hi A n c xs) (hb : Rd .u64 w lo hi B m cb ys) (hxs : Small B64 xs) (hys : Small B64 ys)
    (hn : n ≤ 100000000) (hm : m ≤ 100000000) (hhi : hi ≤ w.heap.size) :
    Calls Tryd.prog 56 #[.slice A n c, .slice B m cb] w (NumPost w (nval B64 xs * nval B64 ys)) := by
  have ux := ulen_le hxs
  have uy := ulen_le hys
  rw [ha.1] at ux
  rw [hb.1] at uy
  have HA := Lib.hid ha; have HB := Lib.hid hb; have HX := Lib.hid hxs; have HY := Lib.hid hys
  clear ha hb hxs hys
  obtain ⟨X, hX⟩ : ∃ X, X = nval B64 xs := ⟨_, rfl⟩
  obtain ⟨Y, hY⟩ : ∃ Y, Y = nval B64 ys := ⟨_, rfl⟩
  rw [← hX, ← hY]
  have HXv := Lib.hid hX; have HYv := Lib.hid hY
  clear hX hY
  go_enter Tryd.func56, Tryd.ntmps56
  go_wp2_with fail
  refine (used_any w lo hi A n c xs HA.out HX.out (by omega)).mono ?_
  rintro e w' ⟨A1, c1, rfl, rfl, hA1, hc1⟩
  have H1 := Lib.hid (HA.out.used HX.out hA1 hc1)
  clear hA1 hc1
  go_wp2_with fail
  refine (used_any w lo hi B m cb ys HB.out HY.out (by omega)).mono ?_
  rintro e w' ⟨A2, c2, rfl, rfl, hA2, hc2⟩
  have H2 := Lib.hid (HB.out.used HY.out hA2 hc2)
  clear hA2 hc2 HA HB HX HY
  generalize ulen xs = n1 at *
  generalize ulen ys = n2 at *
  rw [← HXv.out] at H1
  rw [← HYv.out] at H2
  have hzero : n1 = 0 ∨ n2 = 0 → X * Y = 0 := by
    rintro (h | h)
    · have := (digs_eq_nil B64_two).1 (List.eq_nil_of_length_eq_zero (H1.out.1.trans h)); rw [this, Nat.zero_mul]
    · have := (digs_eq_nil B64_two).1 (List.eq_nil_of_length_eq_zero (H2.out.1.trans h)); rw [this, Nat.mul_zero]
  have HZ := Lib.hid hzero
  clear hzero
  rcases Nat.eq_zero_or_pos n1 with e1 | e1
  · have HE := Lib.hid (HZ.out (.inl e1))
    subst e1
    go_wp2
    go_ret
    exact ⟨none, 0, 0, rfl, by rw [HE.out, digs_zero]; exact Rd.none_, Below.refl _ _, fun _ j _ hj => absurd hj (by omega)⟩
  · have f1 : ((n1 : Int) == 0) = false := by simp; omega
    rcases Nat.eq_zero_or_pos n2 with e2 | e2
    · have HE := Lib.hid (HZ.out (.inr e2))
      subst e2
      go_wp2
      go_ret
      exact ⟨none, 0, 0, rfl, by rw [HE.out, digs_zero]; exact Rd.none_, Below.refl _ _, fun _ j _ hj => absurd hj (by omega)⟩
    · have f2 : ((n2 : Int) == 0) = false := by simp; omega
      have hmk := fun W => make64 ((n1 : Int) + (n2 : Int)) (n1 + n2) (by omega) (by omega) W
      have HRow := Lib.hid (zrow_row .u64 54 (n1 + n2) w)
      have HB0 := Lib.hid ((Below.refl w.heap.size w).alloc (Nat.le_refl _) (zrow .u64 54 (n1 + n2)))
      have HSz := Lib.hid (show w.heap.size < (w.alloc (zrow .u64 54 (n1 + n2))).heap.size by simp)
      go_wp2
      generalize hw0 : w.alloc (zrow .u64 54 (n1 + n2)) = w0 at *
      clear hw0
      go_loopw [27] (fun u wr => MulRel w0 w.heap.size n1 n2 (digs B64 X) (digs B64 Y) u wr) (fun u _ => n1 - (intOf u).toNat)
      case atStart => exact ⟨0, _, Nat.zero_le _, rfl, Lib.hid (MulJ.start B64_two), HRow, Lib.hid (only_refl _ _)⟩
      case round =>
        obtain ⟨k, out, hk, rfl, hI, hR, hG⟩ := hrel
        have hbw : Below w.heap.size w wr := HB0.out.trans (only_below hG.out (by have := HSz.out; omega) (Nat.le_refl _))
        by_cases hlt : k < n1
        · obtain ⟨ad, x, hA, _, hbl, hx, hcx0⟩ := H1.out.get_ (j := k) hlt
          subst hA
          have hcx : wr.cell? (ad.add k) = some (.int .u64 (x : Int)) := by rw [← hcx0]; exact hbw.cell (by rw [block_of_add]; omega)
          obtain ⟨pre, seg, post, q1, q2, q3, q4, q5⟩ := hI.out.parts hlt hx.out
          have hq2 := H2.out.below (hbw.mono hhi)
          have hcall := fun W (h1 : Seg .u64 W w.heap.size 54 pre seg post) (h2 : Rd .u64 W lo hi A2 n2 c2 (digs B64 Y)) =>
            Lib.hid (addRow_any W lo hi w.heap.size k n2 (n1 + n2 - k) c2 x A2 pre seg post (digs B64 Y) h1 q2 q3 (by omega) h2 hhi q4 (small_digs B64_two _) ((small_digs B64_two _).get hx.out) (by omega))
          have HC := Lib.hid hcall
          have HQ := Lib.hid (And.intro (hR.out.toSeg q1) (And.intro hq2 q5))
          clear hcall q1 q2 q3 q4 q5 hq2 hcx0
          have HBW := Lib.hid hbw
          clear hbw
          have i1 : (0 : Int) ≤ (k : Int) := by omega
          have i2 : (k : Int) < (n1 : Int) := by omega
          have i3 : (k : Int) ≤ (k : Int) + (n2 : Int) + 1 := by omega
          have i4 : (k : Int) + (n2 : Int) + 1 ≤ (n1 : Int) + (n2 : Int) := by omega
          have hsl := fun W => slice64 w.heap.size (n1 + n2) (n1 + n2) k (k + n2 + 1) (k : Int) ((k : Int) + (n2 : Int) + 1) rfl (by omega) (by omega) (by omega) (by omega) W
          rw [show k + n2 + 1 - k = n2 + 1 by omega] at hsl
          have j1 : IntKind.i64.wrap ((k : Int) + (n2 : Int)) = (k : Int) + (n2 : Int) := IntWalk.i64_in _ (by omega)
          have j2 : IntKind.i64.wrap ((k : Int) + (n2 : Int) + 1) = (k : Int) + (n2 : Int) + 1 := IntWalk.i64_in _ (by omega)
          go_wp2
          go_region_with (go_at_call 75; refine (HC.out _ ?_ ?_).out.mono ?_; (exact HQ.out.1); (exact HQ.out.2.1); rintro e w' ⟨o2, rfl, z1, z2, z3, z4, z5⟩)
          have hJ := Lib.hid (HQ.out.2.2 o2 z1 z2 z3)
          have hR2 : Row .u64 w' w.heap.size 54 (pre ++ o2 ++ post) := z4
          have HR2 := Lib.hid hR2
          have HG2 := Lib.hid (only_trans (only_drew hG.out) z5)
          clear z1 z2 z3 z4 z5 hR2 hsl j1 j2
          go_wp2
          go_roundw
          case rel => exact ⟨k + 1, _, by omega, by go_num, hJ, HR2, HG2⟩
          case measure => simp [intOf]; omega
        · have hkn : k = n1 := by omega
          subst hkn
          have hl := hI.out.1
          have hval : nval B64 out = X * Y := by
            have := hI.out.2.2.1
            rw [List.take_of_length_le (by rw [H1.out.1]; omega), nval_digs B64_two, nval_digs B64_two] at this
            exact this
          have hrd : Rd .u64 wr w.heap.size wr.heap.size (some ⟨w.heap.size, 0, none⟩) (k + n2) (k + n2) out := by
            have := hR.out.rd0 (lo := w.heap.size) (hi := wr.heap.size) (c := k + n2) (Nat.le_refl _) hR.out.lt (by rw [hl]; omega)
            rw [hl] at this; exact this
          have HRD := Lib.hid hrd
          have HV := Lib.hid hval
          have HBW := Lib.hid hbw
          clear hl hval hrd hbw
          go_wp2_with fail
          refine (used_any wr w.heap.size wr.heap.size (some ⟨w.heap.size, 0, none⟩) (k + n2) (k + n2) out HRD.out hI.out.2.1 (by omega)).mono ?_
          rintro e w' ⟨A3, c3, rfl, rfl, hA3, hc3⟩
          have hfin := HRD.out.used hI.out.2.1 hA3 hc3
          rw [HV.out] at hfin
          have HF := Lib.hid hfin
          clear hfin
          go_wp2
          go_ret
          exact ⟨_, _, _, rfl, HF.out, HBW.out, hR.out.fr hA3⟩
end Go.Proofs.YtimkifkikcohgaaDoor
