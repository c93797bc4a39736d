/- The laws of num, walked: NumRights, NumOrders. -/
import Derived.Test.YtimkifkikcohgaaDoorNumT
namespace Go.Proofs.YtimkifkikcohgaaDoor
open Go.RowKit Nx

theorem anssign_valid {w : World} {A : Option Addr} {n c : Nat} {xs : List Nat} {s : Bool} {e : Int} (ha : Arg w A n c xs) (t : Bool) : Valid (anssign s e n xs t) := by
  unfold anssign
  by_cases h : okb s e n xs = true
  · rw [if_pos h]
    obtain ⟨_, hc, hf⟩ := okb_true ha h
    split
    · exact valid0
    · rename_i h0
      exact ⟨⟨fun h' => absurd h' h0, fun h' => hc.2 h'⟩, hf⟩
  · rw [if_neg h]; exact valid0

set_option maxRecDepth 100000 in
set_option maxHeartbeats 8000000 in
theorem rights_walk (hk : ∀ w : World, Tab w → Calls Tryd.prog 12 #[] w (BoolPost w true)) (w : World) (s s' : Bool) (e e' : Int) (A B : Option Addr) (n c m d : Nat) (xs ys : List Nat) (ha : Arg w A n c xs) (hb : Arg w B m d ys) (ht : Tab w) :
    Calls Tryd.prog 3 #[.agg #[.bool s, .int .i64 e, .slice A n c], .agg #[.bool s', .int .i64 e', .slice B m d]] w (LawPost w) := by
  obtain ⟨k1, k2, b1⟩ := two_bx w s s' e e' A B n c m d
  have K := Lib.hid k1; have L := Lib.hid k2; have BB := Lib.hid b1; have HA := Lib.hid ha; have HB := Lib.hid hb; have HT := Lib.hid ht
  have C := Lib.hid (hk _ (ht.below b1))
  clear k1 k2 b1 ha hb ht hk
  go_enter Tryd.func3, Tryd.ntmps3
  go_wp2_with fail
  refine C.out.mono ?_
  rintro _ w1 ⟨rfl, b⟩
  replace K := Lib.hid (K.out.step b)
  replace L := Lib.hid (L.out.step b)
  replace BB := Lib.hid (below_step BB.out b)
  clear b C
  have K0 := K.out.c0; have K1 := K.out.c1; have K2 := K.out.c2; have Kl := K.out.lt
  have L0 := L.out.c0; have L1 := L.out.c1; have L2 := L.out.c2; have Ll := L.out.lt
  have CL := light_any _ w1.heap.size 2 [n, m] (lensn2 w1 s s' e e' A B n c m d) rfl (by omega)
  by_cases hnm : n ≤ 70 ∧ m ≤ 70
  · obtain ⟨hn, hm⟩ := hnm
    rw [show ([n, m].all fun l => decide (l ≤ 70)) = true by simp [hn, hm]] at CL
    go_wp2_with fail
    refine CL.mono ?_
    rintro _ w2' ⟨rfl, rfl⟩
    have ob := one_below w1 (.cells #[.bool s, .int .i64 e, .slice A n c, .bool s', .int .i64 e', .slice B m d] 24)
    replace K := Lib.hid (K.out.step ob)
    replace L := Lib.hid (L.out.step ob)
    replace BB := Lib.hid (below_step BB.out ob)
    clear K0 K1 K2 Kl L0 L1 L2 Ll
    clear ob CL
    generalize w1.alloc (.cells #[.bool s, .int .i64 e, .slice A n c, .bool s', .int .i64 e', .slice B m d] 24) = w2 at *
    obtain ⟨r, hr⟩ : ∃ r, r = okb s e n xs := ⟨_, rfl⟩
    obtain ⟨q, hq⟩ : ∃ q, q = sameb s e xs s' e' ys := ⟨_, rfl⟩
    have KS := fun (wn : World) (h : Below w2.heap.size w2 wn) => And.intro (K.out.step h).c0 (And.intro (K.out.step h).c1 (And.intro (K.out.step h).c2 (And.intro (L.out.step h).c0 (And.intro (L.out.step h).c1 (L.out.step h).c2))))
    have S0 := KS w2 (Below.refl _ _)
    have B9 := Lib.hid (bdr (Below.refl w2.heap.size w2))
    have D1 := fun w4 (h : Below w2.heap.size w2 w4) => Lib.hid (nright_any w4 s e A n c xs (HA.out.step (below_step BB.out h)) (by omega))
    have D2 := fun w4 (h : Below w2.heap.size w2 w4) => Lib.hid (rright_any w4 s e A n c xs (HA.out.step (below_step BB.out h)) (by omega))
    have D3 := fun w4 (h : Below w2.heap.size w2 w4) => Lib.hid (nsame_any w4 s s' e e' A B n c m d xs ys (HA.out.step (below_step BB.out h)) (HB.out.step (below_step BB.out h)) (by omega) (by omega))
    have D4 := fun w4 (h : Below w2.heap.size w2 w4) => Lib.hid (rsame_any w4 s s' e e' A B n c m d xs ys (HA.out.step (below_step BB.out h)) (HB.out.step (below_step BB.out h)) (by omega) (by omega))
    have D5 := fun w4 (h : Below w2.heap.size w2 w4) => Lib.hid (nsame_any w4 s s e e A A n c n c xs xs (HA.out.step (below_step BB.out h)) (HA.out.step (below_step BB.out h)) (by omega) (by omega))
    rw [← hr] at D1 D2
    rw [← hq] at D3 D4
    rw [show sameb s e xs s e xs = true by simp [sameb]] at D5
    have f1 : (r == r) = true := by simp
    have f2 : (q == q) = true := by simp
    have C10 := D1 _ B9.out
    clear hr hq D1
    go_wp2_with fail
    go_region_held3 (fun w' => w'.cell? ⟨w.heap.size, 0, none⟩ = some (.bool s) ∧ w'.cell? ⟨w.heap.size, 1, none⟩ = some (.int .i64 e) ∧ w'.cell? ⟨w.heap.size, 2, none⟩ = some (.slice A n c) ∧ w'.cell? ⟨w.heap.size + 1, 0, none⟩ = some (.bool s') ∧ w'.cell? ⟨w.heap.size + 1, 1, none⟩ = some (.int .i64 e') ∧ w'.cell? ⟨w.heap.size + 1, 2, none⟩ = some (.slice B m d))
        (first | exact S0 | assumption)
        (first
          | (go_at_call 14
             refine C10.out.mono ?_
             rintro _ w10 ⟨rfl, b⟩
             have B10 := Lib.hid (below_step B9.out b)
             have S10 := KS w10 B10.out
             have C11 := D2 _ B10.out
             clear b C10)
          | (go_at_call 15
             refine C11.out.mono ?_
             rintro _ w11 ⟨rfl, b⟩
             have B11 := Lib.hid (below_step B10.out b)
             have S11 := KS w11 B11.out
             have C12 := D3 _ B11.out
             clear b C11)
          | (go_at_call 16
             refine C12.out.mono ?_
             rintro _ w12 ⟨rfl, b⟩
             have B12 := Lib.hid (below_step B11.out b)
             have S12 := KS w12 B12.out
             have C13 := D4 _ B12.out
             clear b C12)
          | (go_at_call 17
             refine C13.out.mono ?_
             rintro _ w13 ⟨rfl, b⟩
             have B13 := Lib.hid (below_step B12.out b)
             have S13 := KS w13 B13.out
             have C14 := D5 _ B13.out
             clear b C13)
          | (go_at_call 16
             refine C14.out.mono ?_
             rintro _ w14 ⟨rfl, b⟩
             have B14 := Lib.hid (below_step B13.out b)
             have S14 := KS w14 B14.out
             
             clear b C14))
    go_wp2
    go_ret
    exact ⟨rfl, below_step BB.out B14.out⟩
  · rw [show ([n, m].all fun l => decide (l ≤ 70)) = false by simp; omega] at CL
    go_wp2_with fail
    refine CL.mono ?_
    rintro _ w2' ⟨rfl, rfl⟩
    have B' := Lib.hid (below_step BB.out (one_below w1 (.cells #[.bool s, .int .i64 e, .slice A n c, .bool s', .int .i64 e', .slice B m d] 24)))
    clear CL
    go_wp2
    go_ret
    exact ⟨rfl, B'.out⟩

set_option maxRecDepth 100000 in
set_option maxHeartbeats 8000000 in
theorem orders_walk (hk : ∀ w : World, Tab w → Calls Tryd.prog 12 #[] w (BoolPost w true)) (w : World) (s s' : Bool) (e e' : Int) (A B : Option Addr) (n c m d : Nat) (xs ys : List Nat) (ha : Arg w A n c xs) (hb : Arg w B m d ys) (ht : Tab w) :
    Calls Tryd.prog 6 #[.agg #[.bool s, .int .i64 e, .slice A n c], .agg #[.bool s', .int .i64 e', .slice B m d]] w (LawPost w) := by
  obtain ⟨k1, k2, b1⟩ := two_bx w s s' e e' A B n c m d
  have K := Lib.hid k1; have L := Lib.hid k2; have BB := Lib.hid b1; have HA := Lib.hid ha; have HB := Lib.hid hb; have HT := Lib.hid ht
  have C := Lib.hid (hk _ (ht.below b1))
  clear k1 k2 b1 ha hb ht hk
  go_enter Tryd.func6, Tryd.ntmps6
  go_wp2_with fail
  refine C.out.mono ?_
  rintro _ w1 ⟨rfl, b⟩
  replace K := Lib.hid (K.out.step b)
  replace L := Lib.hid (L.out.step b)
  replace BB := Lib.hid (below_step BB.out b)
  clear b C
  have K0 := K.out.c0; have K1 := K.out.c1; have K2 := K.out.c2; have Kl := K.out.lt
  have L0 := L.out.c0; have L1 := L.out.c1; have L2 := L.out.c2; have Ll := L.out.lt
  have CL := light_any _ w1.heap.size 2 [n, m] (lensn2 w1 s s' e e' A B n c m d) rfl (by omega)
  by_cases hnm : n ≤ 70 ∧ m ≤ 70
  · obtain ⟨hn, hm⟩ := hnm
    rw [show ([n, m].all fun l => decide (l ≤ 70)) = true by simp [hn, hm]] at CL
    go_wp2_with fail
    refine CL.mono ?_
    rintro _ w2' ⟨rfl, rfl⟩
    have ob := one_below w1 (.cells #[.bool s, .int .i64 e, .slice A n c, .bool s', .int .i64 e', .slice B m d] 24)
    replace K := Lib.hid (K.out.step ob)
    replace L := Lib.hid (L.out.step ob)
    replace BB := Lib.hid (below_step BB.out ob)
    clear K0 K1 K2 Kl L0 L1 L2 Ll
    clear ob CL
    generalize w1.alloc (.cells #[.bool s, .int .i64 e, .slice A n c, .bool s', .int .i64 e', .slice B m d] 24) = w2 at *
    have CR := Lib.hid (rright_any w2 s e A n c xs (HA.out.step BB.out) (by omega))
    have K0 := K.out.c0; have K1 := K.out.c1; have K2 := K.out.c2; have Kl := K.out.lt
    have L0 := L.out.c0; have L1 := L.out.c1; have L2 := L.out.c2; have Ll := L.out.lt
    go_wp2_with fail
    refine CR.out.mono ?_
    rintro _ w3 ⟨rfl, b⟩
    replace K := Lib.hid (K.out.step b)
    replace L := Lib.hid (L.out.step b)
    replace BB := Lib.hid (below_step BB.out b)
    clear K0 K1 K2 Kl L0 L1 L2 Ll
    clear b CR
    by_cases hok : okb s e n xs = true
    · rw [hok]
      obtain ⟨i1, va⟩ := okb_true (HA.out.step BB.out) hok
      have CO := Lib.hid (of_any w3 ⟨s, nval B64 xs, e⟩ A n c i1 (by omega))
      simp only at CO
      obtain ⟨sg, hsg⟩ : ∃ sg, sg = signq ⟨s, nval B64 xs, e⟩ := ⟨_, rfl⟩
      have K0 := K.out.c0; have K1 := K.out.c1; have K2 := K.out.c2; have Kl := K.out.lt
      have L0 := L.out.c0; have L1 := L.out.c1; have L2 := L.out.c2; have Ll := L.out.lt
      go_wp2_with fail
      refine CO.out.mono ?_
      rintro _ w4 ⟨_, rfl, ⟨A4, n4, c4, rfl, h4, _⟩, b⟩
      have CV := Lib.hid (vsign_any w4 ⟨s, nval B64 xs, e⟩ A4 n4 c4 h4)
      simp only at CV
      rw [← hsg] at CV
      have b4 := Lib.hid b
      clear K0 K1 K2 Kl L0 L1 L2 Ll
      clear b CO h4
      go_wp2_with fail
      refine CV.out.mono ?_
      rintro _ w5 ⟨rfl, b⟩
      replace K := Lib.hid (K.out.step (below_step b4.out b))
      replace L := Lib.hid (L.out.step (below_step b4.out b))
      replace BB := Lib.hid (below_step BB.out (below_step b4.out b))
      clear b b4 CV i1 va
      have KS := fun (wn : World) (h : Below w5.heap.size w5 wn) => And.intro (K.out.step h).c0 (And.intro (K.out.step h).c1 (And.intro (K.out.step h).c2 (And.intro (L.out.step h).c0 (And.intro (L.out.step h).c1 (L.out.step h).c2))))
      have D1 := fun w4 (h : Below w5.heap.size w5 w4) => Lib.hid (nsign_any w4 s e A n c xs (HA.out.step (below_step BB.out h)) (by omega))
      have D2 := fun w4 (h : Below w5.heap.size w5 w4) => Lib.hid (nneg_any w4 s e A n c xs (HA.out.step (below_step BB.out h)) (by omega))
      have D3 := fun w4 (h : Below w5.heap.size w5 w4) => Lib.hid (rminus_any w4 s e A n c xs (HA.out.step (below_step BB.out h)) (by omega))
      have D4 := fun w4 (h : Below w5.heap.size w5 w4) => Lib.hid (nabs_any w4 s e A n c xs (HA.out.step (below_step BB.out h)) (by omega))
      have D5 := fun w4 (h : Below w5.heap.size w5 w4) => Lib.hid (rabs_any w4 s e A n c xs (HA.out.step (below_step BB.out h)) (by omega))
      have D6 := fun w4 (h : Below w5.heap.size w5 w4) => Lib.hid (ncmp_any w4 s s' e e' A B n c m d xs ys (HA.out.step (below_step BB.out h)) (HB.out.step (below_step BB.out h)) (by omega) (by omega))
      have D7 := fun w4 (h : Below w5.heap.size w5 w4) => Lib.hid (rcmpnum_any w4 s s' e e' A B n c m d xs ys (HA.out.step (below_step BB.out h)) (HB.out.step (below_step BB.out h)) (by omega) (by omega))
      obtain ⟨q1, hq1⟩ : ∃ q, q = anssign s e n xs (!s) := ⟨_, rfl⟩
      obtain ⟨q2, hq2⟩ : ∃ q, q = anssign s e n xs false := ⟨_, rfl⟩
      obtain ⟨oc, hoc⟩ : ∃ q, q = anscmp s e n xs s' e' m ys := ⟨_, rfl⟩
      have V1 := Lib.hid (show Valid q1 by rw [hq1]; exact anssign_valid (HA.out.step BB.out) _)
      have V2 := Lib.hid (show Valid q2 by rw [hq2]; exact anssign_valid (HA.out.step BB.out) _)
      rw [← hq1] at D2 D3
      rw [← hq2] at D4 D5
      rw [← hoc] at D6 D7
      have f1 : (oc == oc) = true := by simp
      clear hq1 hq2 hoc
      rw [if_pos hok, ← hsg] at D1
      have f0 : (sg == sg) = true := by simp
      clear hsg
      have S0 := KS w5 (Below.refl _ _)
      have B10 := Lib.hid (bdr (Below.refl w5.heap.size w5))
      have C11 := D1 _ B10.out
      clear D1
      go_wp2_with fail
      go_region_held3 (fun w' => w'.cell? ⟨w.heap.size, 0, none⟩ = some (.bool s) ∧ w'.cell? ⟨w.heap.size, 1, none⟩ = some (.int .i64 e) ∧ w'.cell? ⟨w.heap.size, 2, none⟩ = some (.slice A n c) ∧ w'.cell? ⟨w.heap.size + 1, 0, none⟩ = some (.bool s') ∧ w'.cell? ⟨w.heap.size + 1, 1, none⟩ = some (.int .i64 e') ∧ w'.cell? ⟨w.heap.size + 1, 2, none⟩ = some (.slice B m d))
              (first | exact S0 | assumption)
              (first
          | (go_at_call 26
             refine C11.out.mono ?_
             rintro _ w11 ⟨rfl, b⟩
             have B11 := Lib.hid (below_step B10.out b)
             have S11 := KS w11 B11.out
             have C12 := D2 _ B11.out
             clear b C11)
          | (go_at_call 27
             refine C12.out.mono ?_
             rintro _ w12 ⟨_, rfl, ⟨Aa, na, ca, rfl, ha⟩, b⟩
             have B12 := Lib.hid (below_step B11.out b)
             have S12 := KS w12 B12.out
             have I12 := Lib.hid (num_is ha)
             have C13 := D3 _ B12.out
             clear ha
             clear b C12)
          | (go_at_call 28
             refine C13.out.mono ?_
             rintro _ w13 ⟨_, rfl, ⟨Ab, nb, cb, rfl, hb⟩, b⟩
             have B13 := Lib.hid (below_step B12.out b)
             have S13 := KS w13 B13.out
             have I13 := Lib.hid (num_is hb)
             have C14 := Lib.hid (rsame_v (a := q1) (b := q1) (I12.out.step b) I13.out V1.out V1.out)
             rw [sameb_self] at C14
             clear hb
             clear b C13)
          | (go_at_call 17
             refine C14.out.mono ?_
             rintro _ w14 ⟨rfl, b⟩
             have B14 := Lib.hid (below_step B13.out b)
             have S14 := KS w14 B14.out
             have C15 := D4 _ B14.out
             clear b C14)
          | (go_at_call 29
             refine C15.out.mono ?_
             rintro _ w15 ⟨_, rfl, ⟨Ac, nc, cc, rfl, hc⟩, b⟩
             have B15 := Lib.hid (below_step B14.out b)
             have S15 := KS w15 B15.out
             have I15 := Lib.hid (num_is hc)
             have C16 := D5 _ B15.out
             clear hc
             clear b C15)
          | (go_at_call 30
             refine C16.out.mono ?_
             rintro _ w16 ⟨_, rfl, ⟨Ad, nd, cd, rfl, hd⟩, b⟩
             have B16 := Lib.hid (below_step B15.out b)
             have S16 := KS w16 B16.out
             have I16 := Lib.hid (num_is hd)
             have C17 := Lib.hid (rsame_v (a := q2) (b := q2) (I15.out.step b) I16.out V2.out V2.out)
             rw [sameb_self] at C17
             clear hd
             clear b C16)
          | (go_at_call 17
             refine C17.out.mono ?_
             rintro _ w17 ⟨rfl, b⟩
             have B17 := Lib.hid (below_step B16.out b)
             have S17 := KS w17 B17.out
             have C18 := D6 _ B17.out
             clear b C17)
          | (go_at_call 23
             refine C18.out.mono ?_
             rintro _ w18 ⟨rfl, b⟩
             have B18 := Lib.hid (below_step B17.out b)
             have S18 := KS w18 B18.out
             have C19 := D7 _ B18.out
             clear b C18)
          | (go_at_call 31
             refine C19.out.mono ?_
             rintro _ w19 ⟨rfl, b⟩
             have B19 := Lib.hid (below_step B18.out b)
             have S19 := KS w19 B19.out
             
             clear b C19))
      go_wp2
      go_ret
      exact ⟨rfl, below_step BB.out B19.out⟩
    · have hf : okb s e n xs = false := by simpa using hok
      rw [hf]
      have KS := fun (wn : World) (h : Below w3.heap.size w3 wn) => And.intro (K.out.step h).c0 (And.intro (K.out.step h).c1 (And.intro (K.out.step h).c2 (And.intro (L.out.step h).c0 (And.intro (L.out.step h).c1 (L.out.step h).c2))))
      have D1 := fun w4 (h : Below w3.heap.size w3 w4) => Lib.hid (nsign_any w4 s e A n c xs (HA.out.step (below_step BB.out h)) (by omega))
      have D2 := fun w4 (h : Below w3.heap.size w3 w4) => Lib.hid (nneg_any w4 s e A n c xs (HA.out.step (below_step BB.out h)) (by omega))
      have D3 := fun w4 (h : Below w3.heap.size w3 w4) => Lib.hid (rminus_any w4 s e A n c xs (HA.out.step (below_step BB.out h)) (by omega))
      have D4 := fun w4 (h : Below w3.heap.size w3 w4) => Lib.hid (nabs_any w4 s e A n c xs (HA.out.step (below_step BB.out h)) (by omega))
      have D5 := fun w4 (h : Below w3.heap.size w3 w4) => Lib.hid (rabs_any w4 s e A n c xs (HA.out.step (below_step BB.out h)) (by omega))
      have D6 := fun w4 (h : Below w3.heap.size w3 w4) => Lib.hid (ncmp_any w4 s s' e e' A B n c m d xs ys (HA.out.step (below_step BB.out h)) (HB.out.step (below_step BB.out h)) (by omega) (by omega))
      have D7 := fun w4 (h : Below w3.heap.size w3 w4) => Lib.hid (rcmpnum_any w4 s s' e e' A B n c m d xs ys (HA.out.step (below_step BB.out h)) (HB.out.step (below_step BB.out h)) (by omega) (by omega))
      obtain ⟨q1, hq1⟩ : ∃ q, q = anssign s e n xs (!s) := ⟨_, rfl⟩
      obtain ⟨q2, hq2⟩ : ∃ q, q = anssign s e n xs false := ⟨_, rfl⟩
      obtain ⟨oc, hoc⟩ : ∃ q, q = anscmp s e n xs s' e' m ys := ⟨_, rfl⟩
      have V1 := Lib.hid (show Valid q1 by rw [hq1]; exact anssign_valid (HA.out.step BB.out) _)
      have V2 := Lib.hid (show Valid q2 by rw [hq2]; exact anssign_valid (HA.out.step BB.out) _)
      rw [← hq1] at D2 D3
      rw [← hq2] at D4 D5
      rw [← hoc] at D6 D7
      have f1 : (oc == oc) = true := by simp
      clear hq1 hq2 hoc
      rw [if_neg hok] at D1
      have S0 := KS w3 (Below.refl _ _)
      have B10 := Lib.hid (bdr (Below.refl w3.heap.size w3))
      have C11 := D1 _ B10.out
      clear D1
      go_wp2_with fail
      go_region_held3 (fun w' => w'.cell? ⟨w.heap.size, 0, none⟩ = some (.bool s) ∧ w'.cell? ⟨w.heap.size, 1, none⟩ = some (.int .i64 e) ∧ w'.cell? ⟨w.heap.size, 2, none⟩ = some (.slice A n c) ∧ w'.cell? ⟨w.heap.size + 1, 0, none⟩ = some (.bool s') ∧ w'.cell? ⟨w.heap.size + 1, 1, none⟩ = some (.int .i64 e') ∧ w'.cell? ⟨w.heap.size + 1, 2, none⟩ = some (.slice B m d))
              (first | exact S0 | assumption)
              (first
          | (go_at_call 26
             refine C11.out.mono ?_
             rintro _ w11 ⟨rfl, b⟩
             have B11 := Lib.hid (below_step B10.out b)
             have S11 := KS w11 B11.out
             have C12 := D2 _ B11.out
             clear b C11)
          | (go_at_call 27
             refine C12.out.mono ?_
             rintro _ w12 ⟨_, rfl, ⟨Aa, na, ca, rfl, ha⟩, b⟩
             have B12 := Lib.hid (below_step B11.out b)
             have S12 := KS w12 B12.out
             have I12 := Lib.hid (num_is ha)
             have C13 := D3 _ B12.out
             clear ha
             clear b C12)
          | (go_at_call 28
             refine C13.out.mono ?_
             rintro _ w13 ⟨_, rfl, ⟨Ab, nb, cb, rfl, hb⟩, b⟩
             have B13 := Lib.hid (below_step B12.out b)
             have S13 := KS w13 B13.out
             have I13 := Lib.hid (num_is hb)
             have C14 := Lib.hid (rsame_v (a := q1) (b := q1) (I12.out.step b) I13.out V1.out V1.out)
             rw [sameb_self] at C14
             clear hb
             clear b C13)
          | (go_at_call 17
             refine C14.out.mono ?_
             rintro _ w14 ⟨rfl, b⟩
             have B14 := Lib.hid (below_step B13.out b)
             have S14 := KS w14 B14.out
             have C15 := D4 _ B14.out
             clear b C14)
          | (go_at_call 29
             refine C15.out.mono ?_
             rintro _ w15 ⟨_, rfl, ⟨Ac, nc, cc, rfl, hc⟩, b⟩
             have B15 := Lib.hid (below_step B14.out b)
             have S15 := KS w15 B15.out
             have I15 := Lib.hid (num_is hc)
             have C16 := D5 _ B15.out
             clear hc
             clear b C15)
          | (go_at_call 30
             refine C16.out.mono ?_
             rintro _ w16 ⟨_, rfl, ⟨Ad, nd, cd, rfl, hd⟩, b⟩
             have B16 := Lib.hid (below_step B15.out b)
             have S16 := KS w16 B16.out
             have I16 := Lib.hid (num_is hd)
             have C17 := Lib.hid (rsame_v (a := q2) (b := q2) (I15.out.step b) I16.out V2.out V2.out)
             rw [sameb_self] at C17
             clear hd
             clear b C16)
          | (go_at_call 17
             refine C17.out.mono ?_
             rintro _ w17 ⟨rfl, b⟩
             have B17 := Lib.hid (below_step B16.out b)
             have S17 := KS w17 B17.out
             have C18 := D6 _ B17.out
             clear b C17)
          | (go_at_call 23
             refine C18.out.mono ?_
             rintro _ w18 ⟨rfl, b⟩
             have B18 := Lib.hid (below_step B17.out b)
             have S18 := KS w18 B18.out
             have C19 := D7 _ B18.out
             clear b C18)
          | (go_at_call 31
             refine C19.out.mono ?_
             rintro _ w19 ⟨rfl, b⟩
             have B19 := Lib.hid (below_step B18.out b)
             have S19 := KS w19 B19.out
             
             clear b C19))
      go_wp2
      go_ret
      exact ⟨rfl, below_step BB.out B19.out⟩
  · rw [show ([n, m].all fun l => decide (l ≤ 70)) = false by simp; omega] at CL
    go_wp2_with fail
    refine CL.mono ?_
    rintro _ w2' ⟨rfl, rfl⟩
    have B' := Lib.hid (below_step BB.out (one_below w1 (.cells #[.bool s, .int .i64 e, .slice A n c, .bool s', .int .i64 e', .slice B m d] 24)))
    clear CL
    go_wp2
    go_ret
    exact ⟨rfl, B'.out⟩
end Go.Proofs.YtimkifkikcohgaaDoor
