/- fathomlineref1: Mul. -/
import Derived.Test.YtimkifkikcohgaaDoorDown
namespace Go.Proofs.YtimkifkikcohgaaDoor
open Go.RowKit Nx

/-- The relation of the inner loop. -/
def RowRel32 (w : World) (g : Nat) (pre seg post ys : List Nat) (f n m : Nat) (u c : Value) (wr : World) : Prop :=
  ∃ (k cy : Nat) (cur : List Nat), k ≤ m ∧ u = .int .i64 (k : Int) ∧ c = .int .u64 (cy : Int) ∧
    Hid (MulI B32 n k cy f cur seg ys ∧ cy < B32) ∧ Hid (Seg .u32 wr g 75 pre cur post) ∧ Hid (w.grownBy wr (some g))
/-- The relation of the outer loop. -/
def MulRel32 (w : World) (g n m : Nat) (xs ys : List Nat) (u : Value) (wr : World) : Prop :=
  ∃ (k : Nat) (out : List Nat), k ≤ n ∧ u = .int .i64 (k : Int) ∧ Hid (MulJ B32 n m k out xs ys) ∧ Hid (Row .u32 wr g 75 out) ∧ Hid (w.grownBy wr (some g))

theorem row_done {m cy f : Nat} {cur seg ys : List Nat} (hI : MulI B32 (m + 1) m cy f cur seg ys) (hc : cy < B32) (hL : ys.length = m) :
    (cur.set m cy).length = m + 1 ∧ Small B32 (cur.set m cy) ∧ nval B32 (cur.set m cy) = nval B32 (seg.take m) + f * nval B32 ys := by
  have hd := hI.done hL
  have hl := hI.1
  refine ⟨by simpa using hl, hI.2.1.set m hc, ?_⟩
  rw [← hd, ← List.take_of_length_le (l := cur.set m cy) (i := m + 1) (by simp; omega), nval_take_succ, take_set_same, getD_set _ _ _ (by omega)]

set_option maxRecDepth 100000 in
set_option maxHeartbeats 4000000 in
theorem mul32_any (w : World) (lo hi lo' hi' : Nat) (A B : Option Addr) (n c m cb : Nat) (xs ys : List Nat) (ha : Rd .u32 w lo hi A n c xs) (hb : Rd .u32 w lo' hi' B m cb ys) (hxs : Small B32 xs) (hys : Small B32 ys)
    (hn : n ≤ 100000000) (hm : m ≤ 100000000) (hhi : hi ≤ w.heap.size) (hhi' : hi' ≤ w.heap.size) :
    Calls Tryd.prog 90 #[.slice A n c, .slice B m cb] w (DigPost w (nval B32 xs * nval B32 ys)) := by
  have HA := Lib.hid ha; have HB := Lib.hid hb; have HX := Lib.hid hxs; have HY := Lib.hid hys; have HLx := Lib.hid ha.1; have HLy := Lib.hid hb.1
  clear ha hb hxs hys
  have hmk := fun W => make32 ((n : Int) + (m : Int)) (n + m) (by omega) (by omega) W
  have HRow := Lib.hid (zrow_row .u32 75 (n + m) w)
  have HB0 := Lib.hid ((Below.refl w.heap.size w).alloc (Nat.le_refl _) (zrow .u32 75 (n + m)))
  have HSz := Lib.hid (show w.heap.size < (w.alloc (zrow .u32 75 (n + m))).heap.size by simp)
  go_enter Tryd.func90, Tryd.ntmps90
  go_wp2
  generalize hw0 : w.alloc (zrow .u32 75 (n + m)) = w0 at *
  clear hw0
  go_loopw [6] (fun u wr => MulRel32 w0 w.heap.size n m xs ys u wr) (fun u _ => n - (intOf u).toNat)
  case atStart => exact ⟨0, _, Nat.zero_le _, rfl, Lib.hid (MulJ.start B32_two), HRow, Lib.hid (only_refl _ _)⟩
  case round =>
    obtain ⟨k, out, hk, rfl, hI, hR, hG⟩ := hrel
    have hbw : Below w.heap.size w wr := HB0.out.trans (only_below hG.out (by have := HSz.out; omega) (Nat.le_refl _))
    by_cases hlt : k < n
    · obtain ⟨ad, f, hA, _, hbl, hx, hcf0⟩ := HA.out.get_ (j := k) hlt
      subst hA
      have hfB := HX.out.get hx.out
      obtain ⟨pre, seg, post, q1, q2, q3, q4, q5⟩ := hI.out.parts hlt hx.out
      have HQ := Lib.hid (And.intro (hR.out.toSeg q1) q5)
      have HP := Lib.hid q2; have HN := Lib.hid q3; have HM := Lib.hid q4; have HF := Lib.hid hfB; have HBW := Lib.hid hbw; have HCf := Lib.hid hcf0
      clear q1 q2 q3 q4 q5 hfB hbw hcf0
      generalize wr = w1 at *
      go_wp2
      go_loopw [8, 7] (fun u c wr2 => RowRel32 w1 w.heap.size pre seg post ys f (m + 1) m u c wr2) (fun u _ _ => m - (intOf u).toNat)
      case atStart => exact ⟨0, 0, seg, Nat.zero_le _, rfl, rfl, Lib.hid ⟨MulI.start HN.out HM.out, by unfold B32; omega⟩, Lib.hid HQ.out.1, Lib.hid (only_refl _ _)⟩
      case round =>
        obtain ⟨j, cy, cur, hj, rfl, rfl, hI2, hS, hG2⟩ := hrel
        have hbw2 : Below w.heap.size w wr := HBW.out.trans (only_below hG2.out (Nat.le_of_lt hR.out.lt) (Nat.le_refl _))
        by_cases hjm : j < m
        · obtain ⟨bd, y, hB, _, hbl', hy, hcy0⟩ := HB.out.get_ (j := j) hjm
          subst hB
          have hcy : wr.cell? (bd.add j) = some (.int .u32 (y : Int)) := by rw [← hcy0]; exact hbw2.cell (by rw [block_of_add]; omega)
          have hcf : wr.cell? (ad.add k) = some (.int .u32 (f : Int)) := by rw [← HCf.out]; exact hbw2.cell (by rw [block_of_add]; omega)
          obtain ⟨x, hx2⟩ : ∃ x, cur[j]? = some x := ⟨cur[j]'(by have := hI2.out.1.1; omega), List.getElem?_eq_getElem _⟩
          have hcx := hS.out.cell HP.out hx2
          have hfx := hS.out.frozen (k + j)
          have hI3 := hI2.out.1.step B32_two hx2 (getD_of hy.out)
          have hcar := mul_carry (hI2.out.1.2.1.get hx2) (HY.out.get hy.out) HF.out hI2.out.2
          have hxB := hI2.out.1.2.1.get hx2
          have hyB := HY.out.get hy.out
          have hfB := HF.out
          have hcB := hI2.out.2
          have hjl : j < cur.length := by have := hI2.out.1.1; omega
          have hPB : y * f ≤ 4294967295 * 4294967295 := Nat.mul_le_mul (by unfold B32 at hyB; omega) (by unfold B32 at hfB; omega)
          have z1 := u64_of32 x hxB
          have z2 := u64_of32 y hyB
          have z3 := u64_of32 f hfB
          obtain ⟨P, hP⟩ : ∃ P, P = y * f := ⟨_, rfl⟩
          rw [← hP] at hI3 hcar hPB
          obtain ⟨S, hS1⟩ : ∃ S, S = P + x := ⟨_, rfl⟩
          obtain ⟨T, hT⟩ : ∃ T, T = x + P + cy := ⟨_, rfl⟩
          rw [← hT] at hI3 hcar
          unfold B32 at hxB hcB
          have z4 : IntKind.u64.wrap ((f : Int) * (y : Int)) = (P : Int) := by
            rw [show (f : Int) * (y : Int) = ((y * f : Nat) : Int) by rw [Int.natCast_mul, Int.mul_comm], ← hP, u64_fits _ (by omega)]
          have z5 : IntKind.u64.wrap ((P : Int) + (x : Int)) = (S : Int) := by rw [cast_add, ← hS1, u64_fits _ (by omega)]
          have z6 : IntKind.u64.wrap ((cy : Int) + (S : Int)) = (T : Int) := by rw [cast_add, show cy + S = T by omega, u64_fits _ (by omega)]
          have z7 := mask32 T (by omega)
          obtain ⟨v, hv⟩ : ∃ v, v = T % B32 := ⟨_, rfl⟩
          obtain ⟨d, hd⟩ : ∃ d, d = T / B32 := ⟨_, rfl⟩
          rw [show T % 4294967296 = v from hv.symm] at z7
          rw [← hv, ← hd] at hI3
          rw [← hd] at hcar
          have z8 : IntKind.u32.wrap (v : Int) = (v : Int) := by unfold B32 at hv; rw [IntKind.wrap_u32]; omega
          have z9 : (T : Int) / 4294967296 = (d : Int) := by unfold B32 at hd; omega
          have HI3 := Lib.hid (And.intro hI3 hcar)
          have hS3 := Lib.hid (hS.out.set_ HP.out (i := j) hjl v)
          have i1 : (0 : Int) ≤ (k : Int) := by omega
          have i2 : (k : Int) < (n : Int) := by omega
          have i3 : (0 : Int) ≤ (j : Int) := by omega
          have i4 : (j : Int) < (m : Int) := by omega
          have i5 : ((k : Int) + (j : Int)).toNat = k + j := by omega
          have i6 : IntKind.i64.wrap ((k : Int) + (j : Int)) = (k : Int) + (j : Int) := IntWalk.i64_in _ (by omega)
          clear hcy0 hx2 hI3 hcar hxB hyB hfB hcB hPB hP hS1 hT hv hd hbw2 hjl
          go_wp2
          go_quiet (fail)
          go_wp2
          go_roundw
          case rel => exact ⟨j + 1, d, _, by omega, by go_num, rfl, HI3, Lib.hid hS3.out, Lib.hid (only_set (only_drewN hG2.out _) (.inl rfl) _)⟩
          case measure => simp [intOf]; omega
        · have hjm2 : j = m := by omega
          subst hjm2
          have hjl : j < cur.length := by have := hI2.out.1.1; omega
          obtain ⟨x, hx2⟩ : ∃ x, cur[j]? = some x := ⟨cur[j]'hjl, List.getElem?_eq_getElem _⟩
          have hcx := hS.out.cell HP.out hx2
          have hfx := hS.out.frozen (k + j)
          have hcB := hI2.out.2
          have z1 : IntKind.u32.wrap (cy : Int) = (cy : Int) := by unfold B32 at hcB; rw [IntKind.wrap_u32]; omega
          have hS3 := Lib.hid (hS.out.set_ HP.out (i := j) hjl cy)
          obtain ⟨y1, y2, y3⟩ := row_done hI2.out.1 hI2.out.2 HLy.out
          have hJ := Lib.hid (HQ.out.2 _ y1 y2 y3)
          have i5 : ((k : Int) + (j : Int)).toNat = k + j := by omega
          clear hx2 hjl hcB y1 y2 y3 hbw2
          go_wp2
          go_roundw
          case rel => exact ⟨k + 1, _, by omega, by go_num, hJ, Lib.hid hS3.out, Lib.hid (only_set (only_trans hG.out hG2.out) (.inl rfl) _)⟩
          case measure => simp [intOf]; omega
    · have hkn : k = n := by omega
      subst hkn
      have hl := hI.out.1
      have hval : nval B32 out = nval B32 xs * nval B32 ys := by
        have := hI.out.2.2.1
        rw [List.take_of_length_le (by rw [HLx.out]; omega)] at this
        exact this
      have hrd : Rd .u32 wr w.heap.size wr.heap.size (some ⟨w.heap.size, 0, none⟩) (k + m) (k + m) out := by
        have := hR.out.rd0 (lo := w.heap.size) (hi := wr.heap.size) (c := k + m) (Nat.le_refl _) hR.out.lt (by rw [hl]; omega)
        rw [hl] at this; exact this
      have HRD := Lib.hid hrd
      have HV := Lib.hid hval
      have HBW := Lib.hid hbw
      clear hl hval hrd hbw
      go_wp2_with fail
      refine (trim32_any wr w.heap.size wr.heap.size (some ⟨w.heap.size, 0, none⟩) (k + m) (k + m) out HRD.out hI.out.2.1 (by omega)).mono ?_
      rintro e w' ⟨A3, c3, rfl, rfl, hA3, hc3⟩
      have hfin := HRD.out.trim hI.out.2.1 hA3 hc3
      rw [HV.out] at hfin
      have HF := Lib.hid hfin
      clear hfin
      go_wp2
      go_ret
      exact ⟨_, _, _, rfl, HF.out, HBW.out⟩
end Go.Proofs.YtimkifkikcohgaaDoor
