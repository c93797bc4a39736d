/- The laws of num, walked: NumInts. -/
import Derived.Test.YtimkifkikcohgaaDoorNumT
namespace Go.Proofs.YtimkifkikcohgaaDoor
open Go.RowKit Nx

theorem ofz_fits {n : Int} (h1 : -9223372036854775808 ≤ n) (h2 : n < 9223372036854775808) : Fits (ofz n 0) :=
  fits_small (Nat.lt_of_lt_of_le (show n.natAbs < B64 by unfold B64; omega) b64_le) (by omega) (by omega)
theorem ofz_at0 (n : Int) : (ofz n 0).at 0 = n := by
  rw [at_ofz (by omega)]; simp
theorem ofz_cmp (n m : Int) : cmpq (ofz n 0) (ofz m 0) = cmpi n m := by
  have h1 : -((0 : Nat) : Int) ≤ (ofz n 0).e := ofz_low (by omega)
  have h2 : -((0 : Nat) : Int) ≤ (ofz m 0).e := ofz_low (by omega)
  rw [cmpq_at h1 h2, ofz_at0, ofz_at0]; rfl
theorem ofz_eq (n m : Int) : decide (ofz n 0 = ofz m 0) = (n == m) := by
  by_cases h : n = m
  · subst h; simp
  · have : ofz n 0 ≠ ofz m 0 := fun h' => h (by rw [← ofz_at0 n, h', ofz_at0])
    simp [h, this]

set_option maxRecDepth 100000 in
set_option maxHeartbeats 8000000 in
theorem ints_walk (hk : ∀ w : World, Tab w → Calls Tryd.prog 12 #[] w (BoolPost w true)) (w : World) (i j : Int) (h1 : -9223372036854775808 ≤ i) (h2 : i < 9223372036854775808) (h3 : -9223372036854775808 ≤ j) (h4 : j < 9223372036854775808) (ht : Tab w) :
    Calls Tryd.prog 5 #[.int .i64 i, .int .i64 j] w (LawPost w) := by
  have HT := Lib.hid ht
  have C := Lib.hid (hk _ ht)
  have VA := Lib.hid (show Valid (ofz i 0) from ⟨ofz_canon _ _, ofz_fits h1 h2⟩); have VB := Lib.hid (show Valid (ofz j 0) from ⟨ofz_canon _ _, ofz_fits h3 h4⟩)
  have CMP := Lib.hid (ofz_cmp i j); have EQ := Lib.hid (ofz_eq i j)
  have C1 := fun w4 (h : Tab w4) => Lib.hid (nint_any w4 i h1 h2 h)
  have C2 := fun w4 (h : Tab w4) => Lib.hid (nint_any w4 j h3 h4 h)
  have C3 := fun w4 => Lib.hid (whole_any w4 i h1 h2)
  clear ht hk h1 h2 h3 h4
  generalize ofz i 0 = a at *
  generalize ofz j 0 = q at *
  go_enter Tryd.func5, Tryd.ntmps5
  go_wp2_with fail
  refine C.out.mono ?_
  rintro _ w1 ⟨rfl, b⟩
  have BB := Lib.hid b
  have D1 := C1 w1 (HT.out.below b)
  clear b C C1
  go_wp2_with fail
  refine D1.out.mono ?_
  rintro _ w2 ⟨_, rfl, ⟨Aa, na, ca, rfl, ha⟩, b⟩
  have IA := Lib.hid (num_is ha)
  replace BB := Lib.hid (below_step BB.out b)
  have D2 := C2 w2 (HT.out.below BB.out)
  clear b D1 ha C2
  go_wp2_with fail
  refine D2.out.mono ?_
  rintro _ w3 ⟨_, rfl, ⟨Ab, nb, cb, rfl, hb⟩, b⟩
  replace IA := Lib.hid (IA.out.step b)
  have IB := Lib.hid (num_is hb)
  replace BB := Lib.hid (below_step BB.out b)
  clear b D2 hb
  have D3 := C3 ((w3.alloc (.cells #[.bool a.s, .int .i64 a.e, .slice Aa na ca] 24)).alloc (.cells #[.bool q.s, .int .i64 q.e, .slice Ab nb cb] 24))
  obtain ⟨k1, k2, b1⟩ := two_bx w3 a.s q.s a.e q.e Aa Ab na ca nb cb
  have KA := Lib.hid k1; have KB := Lib.hid k2
  replace IA := Lib.hid (IA.out.step b1)
  replace IB := Lib.hid (IB.out.step b1)
  replace BB := Lib.hid (below_step BB.out b1)
  clear k1 k2 b1 C3
  go_wp2_with fail
  refine D3.out.mono ?_
  rintro _ w5 ⟨_, rfl, ⟨Av, nv, cv, rfl, hv, _⟩, b⟩
  have D4 := Lib.hid (vnum_any w5 a Av nv cv 64 hv VA.out.1 VA.out.2.1 (by omega))
  rw [res_ok VA.out.2] at D4
  have b5 := Lib.hid b
  clear b D3 hv
  go_wp2_with fail
  refine D4.out.mono ?_
  rintro _ w6 ⟨_, rfl, ⟨Az, nz, cz, rfl, hz⟩, b⟩
  have bb := Lib.hid (below_step b5.out b)
  replace IA := Lib.hid (IA.out.step bb.out)
  replace IB := Lib.hid (IB.out.step bb.out)
  replace KA := Lib.hid (KA.out.step bb.out)
  replace KB := Lib.hid (KB.out.step bb.out)
  replace BB := Lib.hid (below_step BB.out bb.out)
  have obz := one_below w6 (.cells #[.bool a.s, .int .i64 a.e, .slice Az nz cz] 24)
  have IZ := Lib.hid (Is.step (num_is hz) obz)
  have CS := Lib.hid (rsame_v (a := a) (b := a) (IA.out.step obz) IZ.out VA.out VA.out)
  rw [sameb_self] at CS
  have BZ := Lib.hid obz
  have CC := fun w8 (h : Below w6.heap.size w6 w8) => Lib.hid (ncmp_v (a := a) (b := q) (IA.out.step h) (IB.out.step h) VA.out VB.out)
  have CE := fun w8 (h : Below w6.heap.size w6 w8) => Lib.hid (nsame_v (a := a) (b := q) (IA.out.step h) (IB.out.step h) VA.out VB.out)
  rw [CMP.out] at CC
  rw [sameb_iff, EQ.out] at CE
  clear b b5 bb D4 hz IZ CMP EQ
  have KA0 := KA.out.c0; have KA1 := KA.out.c1; have KA2 := KA.out.c2; have KAl := KA.out.lt
  have KB0 := KB.out.c0; have KB1 := KB.out.c1; have KB2 := KB.out.c2; have KBl := KB.out.lt
  obtain ⟨eq, heq⟩ : ∃ eq, eq = (i == j) := ⟨_, rfl⟩
  have feq : (eq == eq) = true := by simp
  rcases Int.lt_trichotomy i j with hl | hl | hl
  · have g1 : (i == j) = false := by simp; omega
    rw [g1] at CE
    rw [show cmpi i j = -1 by unfold cmpi; rw [if_pos hl]] at CC
    go_wp2_with fail
    refine CS.out.mono ?_
    rintro _ w7 ⟨rfl, b⟩
    have CC7 := CC _ (below_step BZ.out b)
    have CE7 := fun w8 (h : Below w7.heap.size w7 w8) => CE _ (below_step BZ.out (below_step b h))
    have KA7 := Lib.hid (KA.out.step (below_step obz b)); have KB7 := Lib.hid (KB.out.step (below_step obz b)); have B7 := Lib.hid (below_step BB.out (below_step obz b))
    clear b CS CC CE
    clear KA0 KA1 KA2 KAl KB0 KB1 KB2 KBl
    have KA70 := KA7.out.c0; have KA71 := KA7.out.c1; have KA72 := KA7.out.c2; have KA7l := KA7.out.lt
    have KB70 := KB7.out.c0; have KB71 := KB7.out.c1; have KB72 := KB7.out.c2; have KB7l := KB7.out.lt
    go_wp2_with fail
    refine CC7.out.mono ?_
    rintro _ w8 ⟨rfl, b⟩
    have CE8 := CE7 _ b
    have KA8 := Lib.hid (KA7.out.step b); have KB8 := Lib.hid (KB7.out.step b); have B8 := Lib.hid (below_step B7.out b)
    clear b CC7 CE7
    clear KA70 KA71 KA72 KA7l KB70 KB71 KB72 KB7l
    have KA80 := KA8.out.c0; have KA81 := KA8.out.c1; have KA82 := KA8.out.c2; have KA8l := KA8.out.lt
    have KB80 := KB8.out.c0; have KB81 := KB8.out.c1; have KB82 := KB8.out.c2; have KB8l := KB8.out.lt
    go_wp2_with fail
    refine CE8.out.mono ?_
    rintro _ w9 ⟨rfl, b⟩
    have B9 := Lib.hid (below_step B8.out b)
    clear b CE8
    go_wp2
    go_ret
    exact ⟨rfl, B9.out⟩
  · have g1 : (i == j) = true := by simp [hl]
    rw [g1] at CE
    rw [show cmpi i j = 0 by unfold cmpi; rw [if_neg (by omega), if_neg (by omega)]] at CC
    go_wp2_with fail
    refine CS.out.mono ?_
    rintro _ w7 ⟨rfl, b⟩
    have CC7 := CC _ (below_step BZ.out b)
    have CE7 := fun w8 (h : Below w7.heap.size w7 w8) => CE _ (below_step BZ.out (below_step b h))
    have KA7 := Lib.hid (KA.out.step (below_step obz b)); have KB7 := Lib.hid (KB.out.step (below_step obz b)); have B7 := Lib.hid (below_step BB.out (below_step obz b))
    clear b CS CC CE
    clear KA0 KA1 KA2 KAl KB0 KB1 KB2 KBl
    have KA70 := KA7.out.c0; have KA71 := KA7.out.c1; have KA72 := KA7.out.c2; have KA7l := KA7.out.lt
    have KB70 := KB7.out.c0; have KB71 := KB7.out.c1; have KB72 := KB7.out.c2; have KB7l := KB7.out.lt
    go_wp2_with fail
    refine CC7.out.mono ?_
    rintro _ w8 ⟨rfl, b⟩
    have CE8 := CE7 _ b
    have KA8 := Lib.hid (KA7.out.step b); have KB8 := Lib.hid (KB7.out.step b); have B8 := Lib.hid (below_step B7.out b)
    clear b CC7 CE7
    clear KA70 KA71 KA72 KA7l KB70 KB71 KB72 KB7l
    have KA80 := KA8.out.c0; have KA81 := KA8.out.c1; have KA82 := KA8.out.c2; have KA8l := KA8.out.lt
    have KB80 := KB8.out.c0; have KB81 := KB8.out.c1; have KB82 := KB8.out.c2; have KB8l := KB8.out.lt
    go_wp2_with fail
    refine CE8.out.mono ?_
    rintro _ w9 ⟨rfl, b⟩
    have B9 := Lib.hid (below_step B8.out b)
    clear b CE8
    go_wp2
    go_ret
    exact ⟨rfl, B9.out⟩
  · have g1 : (i == j) = false := by simp; omega
    rw [g1] at CE
    rw [show cmpi i j = 1 by unfold cmpi; rw [if_neg (by omega), if_pos hl]] at CC
    go_wp2_with fail
    refine CS.out.mono ?_
    rintro _ w7 ⟨rfl, b⟩
    have CC7 := CC _ (below_step BZ.out b)
    have CE7 := fun w8 (h : Below w7.heap.size w7 w8) => CE _ (below_step BZ.out (below_step b h))
    have KA7 := Lib.hid (KA.out.step (below_step obz b)); have KB7 := Lib.hid (KB.out.step (below_step obz b)); have B7 := Lib.hid (below_step BB.out (below_step obz b))
    clear b CS CC CE
    clear KA0 KA1 KA2 KAl KB0 KB1 KB2 KBl
    have KA70 := KA7.out.c0; have KA71 := KA7.out.c1; have KA72 := KA7.out.c2; have KA7l := KA7.out.lt
    have KB70 := KB7.out.c0; have KB71 := KB7.out.c1; have KB72 := KB7.out.c2; have KB7l := KB7.out.lt
    go_wp2_with fail
    refine CC7.out.mono ?_
    rintro _ w8 ⟨rfl, b⟩
    have CE8 := CE7 _ b
    have KA8 := Lib.hid (KA7.out.step b); have KB8 := Lib.hid (KB7.out.step b); have B8 := Lib.hid (below_step B7.out b)
    clear b CC7 CE7
    clear KA70 KA71 KA72 KA7l KB70 KB71 KB72 KB7l
    have KA80 := KA8.out.c0; have KA81 := KA8.out.c1; have KA82 := KA8.out.c2; have KA8l := KA8.out.lt
    have KB80 := KB8.out.c0; have KB81 := KB8.out.c1; have KB82 := KB8.out.c2; have KB8l := KB8.out.lt
    go_wp2_with fail
    refine CE8.out.mono ?_
    rintro _ w9 ⟨rfl, b⟩
    have B9 := Lib.hid (below_step B8.out b)
    clear b CE8
    go_wp2
    go_ret
    exact ⟨rfl, B9.out⟩
end Go.Proofs.YtimkifkikcohgaaDoor
