/- fathomlineseat: (*Deck).Num. fathomlineseat: (*Deck).N, (*Deck).Prec. -/
import Derived.Test.YtdmnohmjobofhaaGreatDoorSeatX
namespace Go.Proofs.YtdmnohmjobofhaaGreatDoor
open Go.RowKit Nx

theorem NumV.moved {lo g : Nat} {w w' : World} {v : Value} {q : Q} (h : NumV lo w v q) (m : Mv g w w') (hg : g < lo) : NumV lo w' v q := by
  obtain ⟨A, n, c, e, h1⟩ := h
  exact ⟨A, n, c, e, (m.rd h1 (.inl hg) (Nat.le_refl _)).more m.size⟩
/-- What Num leaves: a valid number, whichever. -/
def DrawPost (w : World) (g : Nat) (A : Option Addr) (n c k : Nat) (e : Ending) (w' : World) : Prop :=
  ∃ (q : Q) (v : Value) (k' : Nat), Valid q ∧ e = .returned v ∧ NumV w.heap.size w' v q ∧ Dk w' g A n c k' ∧ k' ≤ k + 4 ∧ Mv g w w'
theorem resv {q : Q} (h : Canon q) : Valid (res q).1 := by
  by_cases hf : Fits q
  · rw [res_ok hf]; exact ⟨h, hf⟩
  · rw [res_over hf]; exact ⟨canon0, fits0⟩
theorem arg1 (w : World) (x : Nat) (hx : x < B64) : Arg (w.alloc (.cells #[.int .u64 (x : Int)] 40)) (some ⟨w.heap.size, 0, none⟩) 1 1 [x] := ⟨one_rd w x, small1 hx⟩
theorem arg2 (w : World) (x y : Nat) (hx : x < B64) (hy : y < B64) : Arg (w.alloc (.cells #[.int .u64 (x : Int), .int .u64 (y : Int)] 40)) (some ⟨w.heap.size, 0, none⟩) 2 2 [x, y] := ⟨two_rd w x y, Small.cons hx (small1 hy)⟩
theorem arg3 (w : World) (x y z : Nat) (hx : x < B64) (hy : y < B64) (hz : z < B64) : Arg (w.alloc (.cells #[.int .u64 (x : Int), .int .u64 (y : Int), .int .u64 (z : Int)] 40)) (some ⟨w.heap.size, 0, none⟩) 3 3 [x, y, z] := by
  refine ⟨?_, Small.cons hx (Small.cons hy (small1 hz))⟩
  have : Row .u64 (w.alloc (.cells #[.int .u64 (x : Int), .int .u64 (y : Int), .int .u64 (z : Int)] 40)) w.heap.size 40 [x, y, z] := Blk.new w _ _
  exact this.rd0 (Nat.zero_le _) this.lt (by simp)
theorem or_lt {a b : Nat} (ha : a < B64) (hb : b < B64) : a ||| b < B64 := Nat.or_lt_two_pow (n := 64) ha hb
/-- The number is laid into the result's block. -/
theorem draw_end {w W1 w2 W3 w6 : World} {g k k' n c n6 c6 : Nat} {A A6 : Option Addr} {q : Q} (hg : g < w.heap.size) (hB : Below w.heap.size w W1) (m2 : Mv g W1 w2) (ob : Below w2.heap.size w2 W3) (b6 : Below W3.heap.size W3 w6)
    (d2 : Dk w2 g A n c k') (hk : k' ≤ k + 4) (K2 : Bx w2 w.heap.size false 0 none 0 0) (h6 : Rd .u64 w6 W3.heap.size w6.heap.size A6 n6 c6 (digs B64 q.m)) (V : Valid q) :
    DrawPost w g A n c k (.returned (.agg #[.bool q.s, .int .i64 q.e, .slice A6 n6 c6])) (put3 w6 w.heap.size (.bool q.s) (.int .i64 q.e) (.slice A6 n6 c6)) ∧
      Bx (put3 w6 w.heap.size (.bool q.s) (.int .i64 q.e) (.slice A6 n6 c6)) w.heap.size q.s q.e A6 n6 c6 := by
  have b26 := below_step ob b6
  have hsz : w.heap.size < W3.heap.size := by have := K2.lt; have := ob.size; omega
  refine ⟨⟨q, _, k', V, rfl, ⟨A6, n6, c6, rfl, ?_⟩, (d2.step b26).put (by omega) _ _ _, hk, (((Mv.of hB).trans m2).trans (Mv.of b26)).put (Nat.le_refl _) _ _ _⟩, Blk.putted (K2.step b26) _ _ _⟩
  rw [size_put3]
  exact (h6.putted (g := w.heap.size) (.inl hsz) _ _ _).less (Nat.le_of_lt hsz)

set_option maxRecDepth 100000 in
set_option maxHeartbeats 4000000 in
theorem draw_any (w : World) (g lo hi : Nat) (A : Option Addr) (n c k : Nat) (xs : List Nat) (hd : Dk w g A n c k) (hr : Rd .u64 w lo hi A n c xs) (hs : Small B64 xs) (hk : k ≤ 100) (hh : hi ≤ w.heap.size) (hhg : hi ≤ g) :
    Calls Tryz.prog 9 #[.pointer (some ⟨g, 0, none⟩)] w (DrawPost w g A n c k) := by
  have B1 := Lib.hid (one_below w (.cells #[.bool false, .int .i64 0, .slice none 0 0] 24)); have K1 := Lib.hid (Bx.new w false 0 none 0 0)
  have C := Lib.hid (next_any _ g lo hi A n c k xs (hd.step B1.out) (hr.alloc hh _) hs (by omega))
  have hgw := hd.lt
  have HR := Lib.hid (hr.alloc hh (.cells #[.bool false, .int .i64 0, .slice none 0 0] 24)); have HS := Lib.hid hs
  have sz1 : hi ≤ (w.alloc (.cells #[.bool false, .int .i64 0, .slice none 0 0] 24)).heap.size := by simp; omega
  clear hd hr hs
  go_enter Tryz.func9, Tryz.ntmps9
  go_wp2_with fail
  refine C.out.mono ?_
  clear C
  rintro _ w2 ⟨v, hv, rfl, d2, m2⟩
  have HV := Lib.hid hv; have D2 := Lib.hid d2; have M2 := Lib.hid m2
  have HR2 := Lib.hid (m2.rd HR.out (.inr hhg) sz1)
  have sz2 : hi ≤ w2.heap.size := Nat.le_trans sz1 m2.size
  have f1 := low_bit64 v hv
  have K2 := Lib.hid (K1.out.mv m2 (by omega))
  have hvB : v < 18446744073709551616 := hv
  have dv : ∀ t : Nat, v / t < B64 := fun t => Nat.lt_of_le_of_lt (Nat.div_le_self _ _) hv
  have DV := Lib.hid dv
  clear d2 m2 hv dv
  by_cases c0 : v / 128 % 8 = 0
  · have fc0 : ((v : Int) / 128 % 8 == 0) = true := by simp; omega
    obtain ⟨M, hM⟩ : ∃ M : Nat, M = v / 1024 &&& 31 := ⟨_, rfl⟩
    have f2 : bits .and .u64 ((v : Int) / 1024) 31 = (M : Int) := by rw [hM, ← u64_and_nat (v / 1024) 31 (DV.out _) (by omega)]; rfl
    have hMB : M < B64 := by rw [hM]; exact Nat.lt_of_le_of_lt Nat.and_le_left (DV.out _)
    clear hM
    have C := Lib.hid (snum_any (w2.alloc (.cells #[.int .u64 (M : Int)] 40)) ((v : Int) % 2 == 1) ((v : Int) / 2 % 41 - 32) _ _ _ _ (arg1 w2 M hMB) (by omega))
    have V := Lib.hid (resv (nm_canon ((v : Int) % 2 == 1) (nval B64 [M]) ((v : Int) / 2 % 41 - 32)))
    have ob := one_below w2 (.cells #[.int .u64 (M : Int)] 40)
    generalize (res (nm ((v : Int) % 2 == 1) (nval B64 [M]) ((v : Int) / 2 % 41 - 32))).1 = q at *
    go_wp2_with fail
    refine C.out.mono ?_
    clear C
    rintro _ w6 ⟨_, rfl, ⟨A6, n6, c6, rfl, h6⟩, b6⟩
    have K6 := Lib.hid (K2.out.step (below_step ob b6))
    have r0 := K6.out.c0; have r1 := K6.out.c1; have r2 := K6.out.c2
    have z0 := K6.out.fz 0; have z1 := K6.out.fz 1; have z2 := K6.out.fz 2
    have EN := Lib.hid (draw_end (k := k) hgw B1.out M2.out ob b6 D2.out (by omega) K2.out h6 V.out)
    clear h6 b6 ob
    go_wp2
    obtain ⟨dp, kr⟩ := EN.out
    refine bodyPost_ret (v := .agg #[.bool q.s, .int .i64 q.e, .slice A6 n6 c6]) ?_ rfl dp
    have u0 := kr.c0; have u1 := kr.c1; have u2 := kr.c2
    unfold put3 at u0 u1 u2
    simp [results, Tryz.results9, go_sem, u0, u1, u2]
  · have fc0 : ((v : Int) / 128 % 8 == 0) = false := by simp; omega
    by_cases c1 : v / 128 % 8 = 1
    · have fc1 : ((v : Int) / 128 % 8 == 1) = true := by simp; omega
      have C := Lib.hid (next_any w2 g lo hi A n c (k + 1) xs D2.out HR2.out HS.out (by omega))
      go_wp2_with fail
      refine C.out.mono ?_
      clear C
      rintro _ w3 ⟨x1, hx1, rfl, d3, m3⟩
      have HR3 := Lib.hid (m3.rd HR2.out (.inr hhg) sz2)
      have sz3 : hi ≤ w3.heap.size := Nat.le_trans sz2 m3.size
      have K3 := Lib.hid (K2.out.mv m3 (by omega)); have M3 := Lib.hid (M2.out.trans m3)
      have C := Lib.hid (next_any w3 g lo hi A n c (k + 2) xs d3 HR3.out HS.out (by omega))
      clear d3 m3
      go_wp2_with fail
      refine C.out.mono ?_
      clear C
      rintro _ w4 ⟨x2, hx2, rfl, d4, m4⟩
      have HR4 := Lib.hid (m4.rd HR3.out (.inr hhg) sz3)
      have K4 := Lib.hid (K3.out.mv m4 (by omega)); have M4 := Lib.hid (M3.out.trans m4)
      have C := Lib.hid (next_any w4 g lo hi A n c (k + 3) xs d4 HR4.out HS.out (by omega))
      clear d4 m4
      go_wp2_with fail
      refine C.out.mono ?_
      clear C
      rintro _ w5 ⟨x3, hx3, rfl, d5, m5⟩
      have K5 := Lib.hid (K4.out.mv m5 (by omega)); have M5 := Lib.hid (M4.out.trans m5); have D5 := Lib.hid d5
      clear d5 m5
      have C := Lib.hid (snum_any (w5.alloc (.cells #[.int .u64 (x1 : Int), .int .u64 (x2 : Int), .int .u64 (x3 : Int)] 40)) ((v : Int) % 2 == 1) ((v : Int) / 2 % 41 - 32 - 100) _ _ _ _ (arg3 w5 x1 x2 x3 hx1 hx2 hx3) (by omega))
      have V := Lib.hid (resv (nm_canon ((v : Int) % 2 == 1) (nval B64 [x1, x2, x3]) ((v : Int) / 2 % 41 - 32 - 100)))
      have ob := one_below w5 (.cells #[.int .u64 (x1 : Int), .int .u64 (x2 : Int), .int .u64 (x3 : Int)] 40)
      generalize (res (nm ((v : Int) % 2 == 1) (nval B64 [x1, x2, x3]) ((v : Int) / 2 % 41 - 32 - 100))).1 = q at *
      go_wp2_with fail
      refine C.out.mono ?_
      clear C
      rintro _ w6 ⟨_, rfl, ⟨A6, n6, c6, rfl, h6⟩, b6⟩
      have K6 := Lib.hid (K5.out.step (below_step ob b6))
      have r0 := K6.out.c0; have r1 := K6.out.c1; have r2 := K6.out.c2
      have z0 := K6.out.fz 0; have z1 := K6.out.fz 1; have z2 := K6.out.fz 2
      have EN := Lib.hid (draw_end (k := k) hgw B1.out M5.out ob b6 D5.out (by omega) K5.out h6 V.out)
      clear h6 b6 ob
      go_wp2
      obtain ⟨dp, kr⟩ := EN.out
      refine bodyPost_ret (v := .agg #[.bool q.s, .int .i64 q.e, .slice A6 n6 c6]) ?_ rfl dp
      have u0 := kr.c0; have u1 := kr.c1; have u2 := kr.c2
      unfold put3 at u0 u1 u2
      simp [results, Tryz.results9, go_sem, u0, u1, u2]
    · have fc1 : ((v : Int) / 128 % 8 == 1) = false := by simp; omega
      by_cases c2 : v / 128 % 8 = 2
      · have fc2 : ((v : Int) / 128 % 8 == 2) = true := by simp; omega
        obtain ⟨M, hM⟩ : ∃ M : Nat, M = 9223372036854775808 ||| v / 2048 := ⟨_, rfl⟩
        obtain ⟨M', hM'⟩ : ∃ M : Nat, M = 9223372036854775808 ||| v := ⟨_, rfl⟩
        have f2 : bits .or .u64 9223372036854775808 ((v : Int) / 2048) = (M : Int) := by rw [hM, ← u64_or_nat 9223372036854775808 (v / 2048) (by omega) (DV.out _)]; rfl
        have f3 : bits .or .u64 9223372036854775808 (v : Int) = (M' : Int) := by rw [hM', ← u64_or_nat 9223372036854775808 v (by omega) HV.out]; rfl
        have hMB : M < B64 := by rw [hM]; exact or_lt (by unfold B64; omega) (DV.out _)
        have hMB' : M' < B64 := by rw [hM']; exact or_lt (by unfold B64; omega) HV.out
        clear hM hM'
        have C := Lib.hid (snum_any (w2.alloc (.cells #[.int .u64 (M : Int), .int .u64 (M' : Int)] 40)) ((v : Int) % 2 == 1) ((v : Int) / 2 % 41 - 32) _ _ _ _ (arg2 w2 M M' hMB hMB') (by omega))
        have V := Lib.hid (resv (nm_canon ((v : Int) % 2 == 1) (nval B64 [M, M']) ((v : Int) / 2 % 41 - 32)))
        have ob := one_below w2 (.cells #[.int .u64 (M : Int), .int .u64 (M' : Int)] 40)
        generalize (res (nm ((v : Int) % 2 == 1) (nval B64 [M, M']) ((v : Int) / 2 % 41 - 32))).1 = q at *
        go_wp2_with fail
        refine C.out.mono ?_
        clear C
        rintro _ w6 ⟨_, rfl, ⟨A6, n6, c6, rfl, h6⟩, b6⟩
        have K6 := Lib.hid (K2.out.step (below_step ob b6))
        have r0 := K6.out.c0; have r1 := K6.out.c1; have r2 := K6.out.c2
        have z0 := K6.out.fz 0; have z1 := K6.out.fz 1; have z2 := K6.out.fz 2
        have EN := Lib.hid (draw_end (k := k) hgw B1.out M2.out ob b6 D2.out (by omega) K2.out h6 V.out)
        clear h6 b6 ob
        go_wp2
        obtain ⟨dp, kr⟩ := EN.out
        refine bodyPost_ret (v := .agg #[.bool q.s, .int .i64 q.e, .slice A6 n6 c6]) ?_ rfl dp
        have u0 := kr.c0; have u1 := kr.c1; have u2 := kr.c2
        unfold put3 at u0 u1 u2
        simp [results, Tryz.results9, go_sem, u0, u1, u2]
      · have fc2 : ((v : Int) / 128 % 8 == 2) = false := by simp; omega
        by_cases c3 : v / 128 % 8 = 3
        · have fc3 : ((v : Int) / 128 % 8 == 3) = true := by simp; omega
          obtain ⟨L, hL⟩ : ∃ M : Nat, M = v / 1048576 &&& 15 := ⟨_, rfl⟩
          obtain ⟨M, hM⟩ : ∃ M : Nat, M = 1 ||| L := ⟨_, rfl⟩
          have hLB : L < B64 := by rw [hL]; exact Nat.lt_of_le_of_lt Nat.and_le_left (DV.out _)
          have f2 : bits .and .u64 ((v : Int) / 1048576) 15 = (L : Int) := by rw [hL, ← u64_and_nat (v / 1048576) 15 (DV.out _) (by omega)]; rfl
          have f3 : bits .or .u64 1 (L : Int) = (M : Int) := by rw [hM, ← u64_or_nat 1 L (by omega) hLB]; rfl
          have hMB : M < B64 := by rw [hM]; exact or_lt (by unfold B64; omega) hLB
          clear hM hL
          by_cases e0 : v / 2048 % 4 = 0
          · have fe0 : ((v : Int) / 2048 % 4 == 0) = true := by simp; omega
            have C := Lib.hid (snum_any (w2.alloc (.cells #[.int .u64 (M : Int)] 40)) ((v : Int) % 2 == 1) (65536 - (v : Int) / 1073741824 % 9) _ _ _ _ (arg1 w2 M hMB) (by omega))
            have V := Lib.hid (resv (nm_canon ((v : Int) % 2 == 1) (nval B64 [M]) (65536 - (v : Int) / 1073741824 % 9)))
            have ob := one_below w2 (.cells #[.int .u64 (M : Int)] 40)
            generalize (res (nm ((v : Int) % 2 == 1) (nval B64 [M]) (65536 - (v : Int) / 1073741824 % 9))).1 = q at *
            go_wp2_with fail
            refine C.out.mono ?_
            clear C
            rintro _ w6 ⟨_, rfl, ⟨A6, n6, c6, rfl, h6⟩, b6⟩
            have K6 := Lib.hid (K2.out.step (below_step ob b6))
            have r0 := K6.out.c0; have r1 := K6.out.c1; have r2 := K6.out.c2
            have z0 := K6.out.fz 0; have z1 := K6.out.fz 1; have z2 := K6.out.fz 2
            have EN := Lib.hid (draw_end (k := k) hgw B1.out M2.out ob b6 D2.out (by omega) K2.out h6 V.out)
            clear h6 b6 ob
            go_wp2
            obtain ⟨dp, kr⟩ := EN.out
            refine bodyPost_ret (v := .agg #[.bool q.s, .int .i64 q.e, .slice A6 n6 c6]) ?_ rfl dp
            have u0 := kr.c0; have u1 := kr.c1; have u2 := kr.c2
            unfold put3 at u0 u1 u2
            simp [results, Tryz.results9, go_sem, u0, u1, u2]
          · have fe0 : ((v : Int) / 2048 % 4 == 0) = false := by simp; omega
            by_cases e1 : v / 2048 % 4 = 1
            · have fe1 : ((v : Int) / 2048 % 4 == 1) = true := by simp; omega
              have C := Lib.hid (snum_any (w2.alloc (.cells #[.int .u64 (M : Int)] 40)) ((v : Int) % 2 == 1) ((v : Int) / 1073741824 % 9 - 65536) _ _ _ _ (arg1 w2 M hMB) (by omega))
              have V := Lib.hid (resv (nm_canon ((v : Int) % 2 == 1) (nval B64 [M]) ((v : Int) / 1073741824 % 9 - 65536)))
              have ob := one_below w2 (.cells #[.int .u64 (M : Int)] 40)
              generalize (res (nm ((v : Int) % 2 == 1) (nval B64 [M]) ((v : Int) / 1073741824 % 9 - 65536))).1 = q at *
              go_wp2_with fail
              refine C.out.mono ?_
              clear C
              rintro _ w6 ⟨_, rfl, ⟨A6, n6, c6, rfl, h6⟩, b6⟩
              have K6 := Lib.hid (K2.out.step (below_step ob b6))
              have r0 := K6.out.c0; have r1 := K6.out.c1; have r2 := K6.out.c2
              have z0 := K6.out.fz 0; have z1 := K6.out.fz 1; have z2 := K6.out.fz 2
              have EN := Lib.hid (draw_end (k := k) hgw B1.out M2.out ob b6 D2.out (by omega) K2.out h6 V.out)
              clear h6 b6 ob
              go_wp2
              obtain ⟨dp, kr⟩ := EN.out
              refine bodyPost_ret (v := .agg #[.bool q.s, .int .i64 q.e, .slice A6 n6 c6]) ?_ rfl dp
              have u0 := kr.c0; have u1 := kr.c1; have u2 := kr.c2
              unfold put3 at u0 u1 u2
              simp [results, Tryz.results9, go_sem, u0, u1, u2]
            · have fe1 : ((v : Int) / 2048 % 4 == 1) = false := by simp; omega
              clear f2 f3 hMB
              obtain ⟨x, hx⟩ : ∃ x : Nat, x = v / 1048576 % 64 := ⟨_, rfl⟩
              obtain ⟨P, hP⟩ : ∃ P : Nat, P = 2 ^ x := ⟨_, rfl⟩
              have hPB : P < B64 := by rw [hP]; exact Nat.pow_lt_pow_right (by omega) (show x < 64 by omega)
              have f4 : IntKind.u64.wrap ((2 : Int) ^ (v / 1048576 % 64)) = (P : Int) := by
                rw [← hx, show (2 : Int) ^ x = (P : Int) by rw [hP, Int.natCast_pow]; rfl, u64_fits P hPB]
              clear hP hx
              have C := Lib.hid (snum_any (w2.alloc (.cells #[.int .u64 (P : Int)] 40)) ((v : Int) % 2 == 1) ((v : Int) / 2 % 41 - 32) _ _ _ _ (arg1 w2 P hPB) (by omega))
              have V := Lib.hid (resv (nm_canon ((v : Int) % 2 == 1) (nval B64 [P]) ((v : Int) / 2 % 41 - 32)))
              have ob := one_below w2 (.cells #[.int .u64 (P : Int)] 40)
              generalize (res (nm ((v : Int) % 2 == 1) (nval B64 [P]) ((v : Int) / 2 % 41 - 32))).1 = q at *
              go_wp2_with fail
              refine C.out.mono ?_
              clear C
              rintro _ w6 ⟨_, rfl, ⟨A6, n6, c6, rfl, h6⟩, b6⟩
              have K6 := Lib.hid (K2.out.step (below_step ob b6))
              have r0 := K6.out.c0; have r1 := K6.out.c1; have r2 := K6.out.c2
              have z0 := K6.out.fz 0; have z1 := K6.out.fz 1; have z2 := K6.out.fz 2
              have EN := Lib.hid (draw_end (k := k) hgw B1.out M2.out ob b6 D2.out (by omega) K2.out h6 V.out)
              clear h6 b6 ob
              go_wp2
              obtain ⟨dp, kr⟩ := EN.out
              refine bodyPost_ret (v := .agg #[.bool q.s, .int .i64 q.e, .slice A6 n6 c6]) ?_ rfl dp
              have u0 := kr.c0; have u1 := kr.c1; have u2 := kr.c2
              unfold put3 at u0 u1 u2
              simp [results, Tryz.results9, go_sem, u0, u1, u2]
        · have fc3 : ((v : Int) / 128 % 8 == 3) = false := by simp; omega
          have C := Lib.hid (next_any w2 g lo hi A n c (k + 1) xs D2.out HR2.out HS.out (by omega))
          go_wp2_with fail
          refine C.out.mono ?_
          clear C
          rintro _ w3 ⟨x1, hx1, rfl, d3, m3⟩
          have K3 := Lib.hid (K2.out.mv m3 (by omega)); have M3 := Lib.hid (M2.out.trans m3); have D3 := Lib.hid d3
          clear d3 m3
          obtain ⟨L, hL⟩ : ∃ L : Nat, L = x1 * 1048576 % 18446744073709551616 := ⟨_, rfl⟩
          obtain ⟨M, hM⟩ : ∃ M : Nat, M = v / 1024 ||| L := ⟨_, rfl⟩
          have hLB : L < B64 := by unfold B64; omega
          have f2 : IntKind.u64.wrap ((x1 : Int) * 1048576) = (L : Int) := by rw [IntKind.wrap_u64, hL]; omega
          have f3 : bits .or .u64 ((v : Int) / 1024) (L : Int) = (M : Int) := by rw [hM, ← u64_or_nat (v / 1024) L (DV.out _) hLB]; rfl
          have hMB : M < B64 := by rw [hM]; exact or_lt (DV.out _) hLB
          clear hM hL
          have C := Lib.hid (snum_any (w3.alloc (.cells #[.int .u64 (M : Int)] 40)) ((v : Int) % 2 == 1) ((v : Int) / 2 % 41 - 32 - 30) _ _ _ _ (arg1 w3 M hMB) (by omega))
          have V := Lib.hid (resv (nm_canon ((v : Int) % 2 == 1) (nval B64 [M]) ((v : Int) / 2 % 41 - 32 - 30)))
          have ob := one_below w3 (.cells #[.int .u64 (M : Int)] 40)
          generalize (res (nm ((v : Int) % 2 == 1) (nval B64 [M]) ((v : Int) / 2 % 41 - 32 - 30))).1 = q at *
          go_wp2_with fail
          refine C.out.mono ?_
          clear C
          rintro _ w6 ⟨_, rfl, ⟨A6, n6, c6, rfl, h6⟩, b6⟩
          have K6 := Lib.hid (K3.out.step (below_step ob b6))
          have r0 := K6.out.c0; have r1 := K6.out.c1; have r2 := K6.out.c2
          have z0 := K6.out.fz 0; have z1 := K6.out.fz 1; have z2 := K6.out.fz 2
          have EN := Lib.hid (draw_end (k := k) hgw B1.out M3.out ob b6 D3.out (by omega) K3.out h6 V.out)
          clear h6 b6 ob
          go_wp2
          obtain ⟨dp, kr⟩ := EN.out
          refine bodyPost_ret (v := .agg #[.bool q.s, .int .i64 q.e, .slice A6 n6 c6]) ?_ rfl dp
          have u0 := kr.c0; have u1 := kr.c1; have u2 := kr.c2
          unfold put3 at u0 u1 u2
          simp [results, Tryz.results9, go_sem, u0, u1, u2]
end Go.Proofs.YtdmnohmjobofhaaGreatDoor

namespace Go.Proofs.YtdmnohmjobofhaaGreatDoor
open Go.RowKit Nx

/-- What N leaves. -/
def NPost (w : World) (g : Nat) (A : Option Addr) (n c k m : Nat) (e : Ending) (w' : World) : Prop := ∃ v : Nat, v < m ∧ e = .returned (.int .i64 (v : Int)) ∧ Dk w' g A n c (k + 1) ∧ Mv g w w'

/-- What Prec leaves. -/
def PrecPost (w : World) (g : Nat) (A : Option Addr) (n c k : Nat) (e : Ending) (w' : World) : Prop := ∃ (p : Int) (k' : Nat), (8 ≤ p ∧ p ≤ 256) ∧ e = .returned (.int .i64 p) ∧ Dk w' g A n c k' ∧ k' ≤ k + 2 ∧ Mv g w w'

end Go.Proofs.YtdmnohmjobofhaaGreatDoor
