/- fathomlineref1: Sub. -/
import Derived.Test.YtimkifkikcohgaaDoorRefC
namespace Go.Proofs.YtimkifkikcohgaaDoor
open Go.RowKit Nx

/-- After k rounds of Sub: the digits so far and the borrow. -/
def LesI (B k c : Nat) (out xs ys : List Nat) : Prop := out.length = k ∧ Small B out ∧ nval B out + nval B (ys.take k) = nval B (xs.take k) + B ^ k * c
theorem LesI.start {B : Nat} {xs ys : List Nat} : LesI B 0 0 [] xs ys := ⟨rfl, Small.nil, by simp [nval]⟩
theorem LesI.step {B k c v d : Nat} {out xs ys : List Nat} (h : LesI B k c out xs ys) (hv : v < B) (he : v + (ys.getD k 0 + c) = xs.getD k 0 + B * d) : LesI B (k + 1) d (out ++ [v]) xs ys := by
  obtain ⟨h1, h2, h3⟩ := h
  refine ⟨by simp [h1], h2.append (Small.cons hv Small.nil), ?_⟩
  rw [nval_snoc, h1, nval_take_succ, nval_take_succ, Nat.pow_succ]
  generalize nval B out = a at *
  generalize nval B (xs.take k) = b at *
  generalize nval B (ys.take k) = e at *
  generalize xs.getD k 0 = x at *
  generalize ys.getD k 0 = y at *
  generalize B ^ k = P at *
  have : P * v + (P * y + P * c) = P * x + P * B * d := by
    rw [← Nat.mul_add, ← Nat.mul_add, he]; grind
  omega
theorem LesI.done {B n c : Nat} {out xs ys : List Nat} (h : LesI B n c out xs ys) (h1 : xs.length = n) (h2 : ys.length ≤ n) (hle : nval B ys ≤ nval B xs) : nval B out = nval B xs - nval B ys := by
  obtain ⟨g1, g2, g3⟩ := h
  rw [List.take_of_length_le (l := xs) (by omega), List.take_of_length_le h2] at g3
  have := nval_lt g2
  rw [g1] at this
  rcases Nat.eq_zero_or_pos c with e | e
  · subst e; omega
  · have h8 : B ^ n * 1 ≤ B ^ n * c := Nat.mul_le_mul_left _ e
    omega

/-- The relation of Sub's loop. -/
def LesRel (w : World) (xs ys : List Nat) (n : Nat) (u c v : Value) (wr : World) : Prop :=
  ∃ (k cy : Nat) (out : List Nat), k ≤ n ∧ u = .int .i64 (k : Int) ∧ c = .int .u64 (cy : Int) ∧ cy ≤ 1 ∧ Hid (LesI B32 k cy out xs ys) ∧ Hid (OutL .u32 75 wr w.heap.size v out) ∧ Hid (Below w.heap.size w wr)

set_option maxRecDepth 100000 in
set_option maxHeartbeats 2000000 in
theorem sub32_any (w : World) (lo hi lo' hi' : Nat) (A B : Option Addr) (n c m cb : Nat) (xs ys : List Nat) (ha : Rd .u32 w lo hi A n c xs) (hb : Rd .u32 w lo' hi' B m cb ys) (hxs : Small B32 xs) (hys : Small B32 ys)
    (hn : n ≤ 100000000) (hhi : hi ≤ w.heap.size) (hhi' : hi' ≤ w.heap.size) (hmn : m ≤ n) (hle : nval B32 ys ≤ nval B32 xs) :
    Calls Tryd.prog 89 #[.slice A n c, .slice B m cb] w (DigPost w (nval B32 xs - nval B32 ys)) := by
  have HA := Lib.hid ha; have HB := Lib.hid hb; have HX := Lib.hid hxs; have HY := Lib.hid hys; have HLx := Lib.hid ha.1; have HLy := Lib.hid hb.1; have HLe := Lib.hid hle
  clear ha hb hxs hys hle
  go_enter Tryd.func89, Tryd.ntmps89
  go_wp2
  go_loopw [7, 6, 5] (fun u c v wr => LesRel w xs ys n u c v wr) (fun u _ _ _ => n - (intOf u).toNat)
  case atStart => exact ⟨0, 0, [], Nat.zero_le _, rfl, rfl, Nat.zero_le _, Lib.hid LesI.start, Lib.hid (OutL.nil _ _ _ _), Lib.hid (Below.refl _ _)⟩
  case round =>
    obtain ⟨k, cy, out, hk, rfl, rfl, hcy, hI, hO, hBw⟩ := hrel
    obtain ⟨A0, n0, c0, rfl, hn0, hrd0⟩ := hO.out.rdn
    by_cases hlt : k < n
    · obtain ⟨ad, x, hA, _, hbl, hx, hcx0⟩ := HA.out.get_ (j := k) hlt
      subst hA
      have hcx : wr.cell? (ad.add k) = some (.int .u32 (x : Int)) := by rw [← hcx0]; exact hBw.out.cell (by rw [block_of_add]; omega)
      have hxB := HX.out.get hx.out
      have hyB := getD_lt HY.out (by unfold B32; omega) k
      have hcb := fun (W : World) (h : Rd .u32 W lo' hi' B m cb ys) => Lib.hid (digit_any W lo' hi' B m cb k ys h HY.out)
      have hb1 := Lib.hid (HB.out.below (hBw.out.mono hhi'))
      have hgx := getD_of hx.out
      have hst := fun v d (hv : v < B32) (he : v + (ys.getD k 0 + cy) = xs.getD k 0 + B32 * d) => hI.out.step hv he
      have hlen := hI.out.1
      rw [hgx] at hst
      have e0 := u64_of32 x hxB
      generalize ys.getD k 0 = y at *
      unfold B32 at hxB hyB
      have e1 := wrap_sum y cy (by omega)
      obtain ⟨yy, hyy⟩ : ∃ yy, yy = y + cy := ⟨_, rfl⟩
      rw [← hyy] at e1
      have hyyB : yy ≤ 4294967296 := by omega
      have HC := Lib.hid hcb
      have i1 : (0 : Int) ≤ (k : Int) := by omega
      have i2 : (k : Int) < (n : Int) := by omega
      clear hcx0 hgx hcb
      rcases Nat.lt_or_ge x yy with hxy | hxy
      · have e2 : IntKind.u64.wrap ((x : Int) + 4294967296) = ((x + 4294967296 : Nat) : Int) := by rw [show (x : Int) + 4294967296 = ((x + 4294967296 : Nat) : Int) by omega, u64_fits _ (by omega)]
        obtain ⟨x2, hx2⟩ : ∃ x2, x2 = x + 4294967296 := ⟨_, rfl⟩
        rw [← hx2] at e2
        obtain ⟨v, hv⟩ : ∃ v, v = x2 - yy := ⟨_, rfl⟩
        have e3 : IntKind.u64.wrap ((x2 : Int) - (yy : Int)) = (v : Int) := by rw [show (x2 : Int) - (yy : Int) = (v : Int) by omega, u64_fits _ (by omega)]
        have e4 : IntKind.u32.wrap (v : Int) = (v : Int) := by rw [IntKind.wrap_u32]; omega
        have hI2 := Lib.hid (hst v 1 (by unfold B32; omega) (by unfold B32; omega))
        obtain ⟨v', w', hrun, hO', hB'⟩ := out32 wr.drew w.heap.size _ _ [v] hO.out.drew_ hBw.out.size (by rw [hlen]; simp; omega)
        have HR := Lib.hid (show (Builtin.append_ #[34, 34] 34 #[.slice A0 n0 c0, .slice (some ⟨wr.heap.size, 0, none⟩) 1 1]).run Tryd.prog ((wr.alloc (.cells #[.int .u32 (v : Int)] 75)).drew) = .ok v' w' from hrun)
        have HO2 := Lib.hid hO'; have HB2 := Lib.hid (hBw.out.trans (show Below w.heap.size wr w' from ⟨hB'.os, hB'.tape, hB'.output, hB'.size, hB'.block⟩))
        have f1 : decide (x < yy) = true := by simp; omega
        clear hst hlen hrun hO' hB' hx2 hv hyy hxB hyB hyyB
        go_wp2
        go_region_with (go_at_call 80; refine (HC.out _ ?_).out.mono ?_; (exact hb1.out); rintro _ w3 ⟨rfl, rfl⟩)
        all_goals
          go_wp2_with (at_builtin; refine wpList_append_run rfl (.tmp 31) (.tmp 36) _ rfl _ _ _ _ rfl rfl HR.out ?_)
          go_roundw
          case rel => exact ⟨k + 1, 1, _, by omega, by go_num, rfl, Nat.le_refl _, hI2, HO2, HB2⟩
          case measure => simp [intOf]; omega
      · obtain ⟨v, hv⟩ : ∃ v, v = x - yy := ⟨_, rfl⟩
        have e3 : IntKind.u64.wrap ((x : Int) - (yy : Int)) = (v : Int) := by rw [show (x : Int) - (yy : Int) = (v : Int) by omega, u64_fits _ (by omega)]
        have e4 : IntKind.u32.wrap (v : Int) = (v : Int) := by rw [IntKind.wrap_u32]; omega
        have hI2 := Lib.hid (hst v 0 (by unfold B32; omega) (by omega))
        obtain ⟨v', w', hrun, hO', hB'⟩ := out32 wr.drew w.heap.size _ _ [v] hO.out.drew_ hBw.out.size (by rw [hlen]; simp; omega)
        have HR := Lib.hid (show (Builtin.append_ #[34, 34] 34 #[.slice A0 n0 c0, .slice (some ⟨wr.heap.size, 0, none⟩) 1 1]).run Tryd.prog ((wr.alloc (.cells #[.int .u32 (v : Int)] 75)).drew) = .ok v' w' from hrun)
        have HO2 := Lib.hid hO'; have HB2 := Lib.hid (hBw.out.trans (show Below w.heap.size wr w' from ⟨hB'.os, hB'.tape, hB'.output, hB'.size, hB'.block⟩))
        have f1 : decide (x < yy) = false := by simp; omega
        clear hst hlen hrun hO' hB' hv hyy hxB hyB hyyB
        go_wp2
        go_region_with (go_at_call 80; refine (HC.out _ ?_).out.mono ?_; (exact hb1.out); rintro _ w3 ⟨rfl, rfl⟩)
        all_goals
          go_wp2_with (at_builtin; refine wpList_append_run rfl (.tmp 31) (.tmp 36) _ rfl _ _ _ _ rfl rfl HR.out ?_)
          go_roundw
          case rel => exact ⟨k + 1, 0, _, by omega, by go_num, rfl, Nat.zero_le _, hI2, HO2, HB2⟩
          case measure => simp [intOf]; omega
    · have hkn : k = n := by omega
      subst hkn
      have hN := hI.out.done HLx.out (by have := HLy.out; omega) HLe.out
      have HN := Lib.hid hN
      have hlen : n0 ≤ k := by rw [← hn0.out, hI.out.1]; exact Nat.le_refl _
      clear hN
      go_wp2_with fail
      refine (trim32_any wr w.heap.size wr.heap.size A0 n0 c0 out hrd0.out hI.out.2.1 (by omega)).mono ?_
      rintro e w' ⟨A3, c3, rfl, rfl, hA3, hc3⟩
      have hfin := hrd0.out.trim hI.out.2.1 hA3 hc3
      rw [HN.out] at hfin
      have HF := Lib.hid hfin
      clear hfin hA3 hc3
      go_wp2
      go_ret
      exact ⟨_, _, _, rfl, HF.out, hBw.out⟩
end Go.Proofs.YtimkifkikcohgaaDoor
