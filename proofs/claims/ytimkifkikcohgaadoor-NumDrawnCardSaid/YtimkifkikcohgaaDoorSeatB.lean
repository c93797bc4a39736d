/- fathomlineseat: num, Small, Of. -/
import Derived.Test.YtimkifkikcohgaaDoorSeat
import Derived.Test.YtimkifkikcohgaaDoorNumJL
namespace Go.Proofs.YtimkifkikcohgaaDoor
open Go.RowKit Nx

set_option maxRecDepth 100000 in
set_option maxHeartbeats 2000000 in
theorem snum_any (w : World) (s : Bool) (e : Int) (A : Option Addr) (n c : Nat) (xs : List Nat) (ha : Arg w A n c xs) (hk : n ≤ 15000) :
    Calls Tryd.prog 59 #[.bool s, .slice A n c, .int .i64 e] w (NumPost1 w (res (nm s (nval B64 xs) e)).1) := by
  have K1 := Lib.hid (Bx.new w false 0 none 0 0); have B1 := Lib.hid (one_below w (.cells #[.bool false, .int .i64 0, .slice none 0 0] 24))
  have C := Lib.hid (rmake_any _ s e A n c xs (ha.step B1.out) hk)
  generalize res (nm s (nval B64 xs) e) = r at *
  clear ha
  go_enter Tryd.func59, Tryd.ntmps59
  go_wp2_with fail
  refine C.out.mono ?_
  clear C
  rintro _ w6 ⟨_, rfl, ⟨A6, n6, c6, rfl, h6⟩, b6⟩
  have K26 := Lib.hid (K1.out.step b6)
  have r0 := K26.out.c0; have r1 := K26.out.c1; have r2 := K26.out.c2
  have z0 := K26.out.fz 0; have z1 := K26.out.fz 1; have z2 := K26.out.fz 2
  have hs := K26.out.lt
  have RN := Lib.hid (ret_num B1.out (Nat.le_refl w.heap.size) K26.out K1.out.lt b6 h6)
  clear b6 h6
  go_wp2
  obtain ⟨kr, nr, br⟩ := RN.out
  have ob := one_below (put3 w6 w.heap.size (.bool r.1.s) (.int .i64 r.1.e) (.slice A6 n6 c6)) (.cells #[.bool r.1.s, .int .i64 r.1.e, .slice A6 n6 c6] 24)
  refine bodyPost_ret (v := .agg #[.bool r.1.s, .int .i64 r.1.e, .slice A6 n6 c6]) ?_ rfl ⟨_, rfl, nr.step ob, below_step br ob⟩
  have q0 := (kr.step ob).c0; have q1 := (kr.step ob).c1; have q2 := (kr.step ob).c2
  unfold put3 at q0 q1 q2
  simp [results, Tryd.results59, go_sem, q0, q1, q2]

/-- A number of few bits, near 1. -/
def Few (q : Q) : Prop := Canon q ∧ q.m < 64 ∧ -6 ≤ q.e ∧ q.e ≤ 8
/-- What Small leaves. -/
def SmallPost (w : World) (g : Nat) (A : Option Addr) (n c k : Nat) (e : Ending) (w' : World) : Prop :=
  ∃ (q : Q) (v : Value), Few q ∧ e = .returned v ∧ NumV w.heap.size w' v q ∧ Dk w' g A n c (k + 1) ∧ Mv g w w'
theorem few_nm {s : Bool} {M : Nat} {e : Int} (hM : M < 64) (h1 : -6 ≤ e) (h2 : e ≤ 2) : Few (nm s M e) := by
  refine ⟨nm_canon _ _ _, ?_⟩
  by_cases h0 : M = 0
  · rw [h0, nm_zero]; exact ⟨by decide, by decide, by decide⟩
  · have hz : ntz M < 6 := ntz_lt h0 (by simpa using hM)
    have e1 : nm s M e = ⟨s, M / 2 ^ ntz M, e + ntz M⟩ := by unfold nm; rw [if_neg h0]
    rw [e1]
    exact ⟨Nat.lt_of_le_of_lt (Nat.div_le_self _ _) hM, by show -6 ≤ e + ntz M; omega, by show e + ntz M ≤ 8; omega⟩
theorem Few.valid {q : Q} (h : Few q) : Valid q := ⟨h.1, Nat.lt_of_lt_of_le h.2.1 (Nat.le_trans (by unfold B64; omega) b64_le), by have := h.2.2.1; omega, by have := h.2.2.2; omega⟩
theorem bits63 (v : Nat) (h : v < B64) : bits .and .u64 (v : Int) 63 = ((v % 64 : Nat) : Int) := by
  have := u64_and_nat v 63 h (by omega)
  rw [Nat.and_two_pow_sub_one_eq_mod v 6] at this
  exact this
theorem Mv.put {g h : Nat} {w w' : World} (m : Mv g w w') (hh : w.heap.size ≤ h) (x y z : Value) : Mv g w (put3 w' h x y z) := by
  have b := below_put3 (Below.refl h w') (Nat.le_refl h) x y z
  exact ⟨b.os.trans m.os, b.tape.trans m.tape, b.output.trans m.output, Nat.le_trans m.size b.size, fun i hi hg => (b.block i (by omega)).trans (m.block i hi hg)⟩
theorem Dk.put {w : World} {g h : Nat} {A : Option Addr} {n c k : Nat} (d : Dk w g A n c k) (hh : g ≠ h) (x y z : Value) : Dk (put3 w h x y z) g A n c k := by
  unfold put3
  exact Blk.far (Blk.far (Blk.far d hh _) hh _) hh _
theorem Bx.mv {w w' : World} {g h : Nat} {s : Bool} {e : Int} {A : Option Addr} {n c : Nat} (k : Bx w h s e A n c) (m : Mv g w w') (hh : h ≠ g) : Bx w' h s e A n c := (m.block h k.lt hh).trans k

set_option maxRecDepth 100000 in
set_option maxHeartbeats 2000000 in
theorem small_any (w : World) (g lo hi : Nat) (A : Option Addr) (n c k : Nat) (xs : List Nat) (hd : Dk w g A n c k) (hr : Rd .u64 w lo hi A n c xs) (hs : Small B64 xs) (hk : k ≤ 1000) (hh : hi ≤ w.heap.size) :
    Calls Tryd.prog 40 #[.pointer (some ⟨g, 0, none⟩)] w (SmallPost w g A n c k) := by
  have B1 := Lib.hid (one_below w (.cells #[.bool false, .int .i64 0, .slice none 0 0] 24)); have K1 := Lib.hid (Bx.new w false 0 none 0 0)
  have C := Lib.hid (next_any _ g lo hi A n c k xs (hd.step B1.out) (hr.alloc hh _) hs hk)
  have hgw := hd.lt
  clear hd hr hs
  go_enter Tryd.func40, Tryd.ntmps40
  go_wp2_with fail
  refine C.out.mono ?_
  clear C
  rintro _ w2 ⟨v, hv, rfl, d2, m2⟩
  have HV := Lib.hid hv; have D2 := Lib.hid d2; have M2 := Lib.hid m2
  have f1 := low_bit64 v hv
  obtain ⟨M, hM⟩ : ∃ M : Nat, M = v / 2 % 64 := ⟨_, rfl⟩
  have f2 : bits .and .u64 ((v : Int) / 2) 63 = (M : Int) := by
    have := bits63 (v / 2) (by unfold B64 at *; omega)
    rw [hM, ← this]; rfl
  obtain ⟨e, he⟩ : ∃ e : Int, e = (v : Int) / 128 % 9 - 6 := ⟨_, rfl⟩
  have e1 : -6 ≤ e := by omega
  have e2 : e ≤ 2 := by omega
  have hM64 : M < 64 := by omega
  have C := Lib.hid (snum_any (w2.alloc (.cells #[.int .u64 (M : Int)] 54)) ((v : Int) % 2 == 1) e (some ⟨w2.heap.size, 0, none⟩) 1 1 [M] ⟨one_rd w2 M, small1 (by unfold B64; omega)⟩ (by omega))
  have FQ := Lib.hid (few_nm (s := ((v : Int) % 2 == 1)) hM64 e1 e2)
  rw [nval1, res_ok FQ.out.valid.2] at C
  rw [he] at C FQ
  generalize nm ((v : Int) % 2 == 1) M ((v : Int) / 128 % 9 - 6) = q at *
  have K2 := Lib.hid (K1.out.mv M2.out (by omega))
  have ob := one_below w2 (.cells #[.int .u64 (M : Int)] 54)
  clear d2 m2 hv hM he e1 e2 hM64
  go_wp2_with fail
  refine C.out.mono ?_
  clear C
  rintro _ w6 ⟨_, rfl, ⟨A6, n6, c6, rfl, h6⟩, b6⟩
  have b26 := below_step ob b6
  have K6 := Lib.hid (K2.out.step b26); have D6 := Lib.hid (D2.out.step b26)
  have r0 := K6.out.c0; have r1 := K6.out.c1; have r2 := K6.out.c2
  have z0 := K6.out.fz 0; have z1 := K6.out.fz 1; have z2 := K6.out.fz 2
  have M6 := Lib.hid ((((Mv.of (g := g) B1.out).trans M2.out).trans (Mv.of b26)).put (Nat.le_refl w.heap.size) (.bool q.s) (.int .i64 q.e) (.slice A6 n6 c6))
  have D7 := Lib.hid (D6.out.put (h := w.heap.size) (by omega) (.bool q.s) (.int .i64 q.e) (.slice A6 n6 c6))
  have K7 := Lib.hid (Blk.putted K6.out (.bool q.s) (.int .i64 q.e) (.slice A6 n6 c6))
  have hsz : w.heap.size < (w2.alloc (.cells #[.int .u64 (M : Int)] 54)).heap.size := by have := K2.out.lt; simp; omega
  have N7 := Lib.hid ((h6.putted (g := w.heap.size) (.inl hsz) (.bool q.s) (.int .i64 q.e) (.slice A6 n6 c6)).less (Nat.le_of_lt hsz))
  clear h6 b6 b26 ob
  go_wp2
  refine bodyPost_ret (v := .agg #[.bool q.s, .int .i64 q.e, .slice A6 n6 c6]) ?_ rfl ⟨q, _, FQ.out, rfl, ⟨A6, n6, c6, rfl, by have := N7.out; rw [← size_put3 w6 w.heap.size (.bool q.s) (.int .i64 q.e) (.slice A6 n6 c6)] at this; exact this⟩, D7.out, M6.out⟩
  have u0 := Bx.c0 K7.out; have u1 := Bx.c1 K7.out; have u2 := Bx.c2 K7.out
  unfold put3 at u0 u1 u2
  simp [results, Tryd.results40, go_sem, u0, u1, u2]

theorem sof_any (w : World) (A : Option Addr) (n c : Nat) :
    Calls Tryd.prog 36 #[.slice A n c] w fun e w' => e = .returned (.pointer (some ⟨w.heap.size, 0, none⟩)) ∧ Dk w' w.heap.size A n c 0 ∧ Below w.heap.size w w' := by
  have h := Blk.new w 69 #[.slice A n c, .int .i64 0]
  go_enter Tryd.func36, Tryd.ntmps36
  go_wp2
  go_ret
  exact ⟨rfl, h, one_below _ _⟩
end Go.Proofs.YtimkifkikcohgaaDoor
