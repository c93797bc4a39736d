/- The laws of num, walked: NumScales, NumMakes, NumReckons. -/
import Derived.Test.YtimkifkikcohgaaDoorNumPR
namespace Go.Proofs.YtimkifkikcohgaaDoor
open Go.RowKit Nx

theorem lensn1 (w : World) (s : Bool) (e : Int) (A : Option Addr) (n c : Nat) : LensN (w.alloc (.cells #[.bool s, .int .i64 e, .slice A n c] 24)) w.heap.size [n] := by
  intro i l h
  have hb : Blk (w.alloc (.cells #[.bool s, .int .i64 e, .slice A n c] 24)) w.heap.size 24 _ := Blk.new w _ _
  rw [hb.cell]
  match i, h with
  | 0, h => simp at h; subst h; exact ⟨A, c, rfl⟩
theorem lensn2 (w : World) (s s' : Bool) (e e' : Int) (A B : Option Addr) (n c m d : Nat) : LensN (w.alloc (.cells #[.bool s, .int .i64 e, .slice A n c, .bool s', .int .i64 e', .slice B m d] 24)) w.heap.size [n, m] := by
  intro i l h
  have hb : Blk (w.alloc (.cells #[.bool s, .int .i64 e, .slice A n c, .bool s', .int .i64 e', .slice B m d] 24)) w.heap.size 24 _ := Blk.new w _ _
  rw [hb.cell]
  match i, h with
  | 0, h => simp at h; subst h; exact ⟨A, c, rfl⟩
  | 1, h => simp at h; subst h; exact ⟨B, d, rfl⟩
theorem res2_canon {f : Q → Q → Q} (hf : ∀ a b, Canon (f a b)) (s : Bool) (e : Int) (n : Nat) (xs : List Nat) (s' : Bool) (e' : Int) (m : Nat) (ys : List Nat) : Valid (ans2 f s e n xs s' e' m ys).1 := by
  unfold ans2
  split
  · exact res_valid (hf _ _)
  · exact valid0
theorem res1_valid (s : Bool) (e : Int) (n : Nat) (xs : List Nat) (k : Int) : Valid (ans1 s e n xs k).1 := by
  unfold ans1
  split
  · exact res_valid (nm_canon _ _ _)
  · exact valid0

set_option maxRecDepth 100000 in
set_option maxHeartbeats 4000000 in
theorem scales_walk (hk : ∀ w : World, Tab w → Calls Tryd.prog 12 #[] w (BoolPost w true)) (w : World) (s : Bool) (e k : Int) (A : Option Addr) (n c : Nat) (xs : List Nat) (ha : Arg w A n c xs) (ht : Tab w) :
    Calls Tryd.prog 9 #[.agg #[.bool s, .int .i64 e, .slice A n c], .int .i64 k] w (LawPost w) := by
  obtain ⟨k1, b1⟩ := box_one w s e A n c
  have K := Lib.hid k1; have B := Lib.hid b1; have HA := Lib.hid ha; have HT := Lib.hid ht
  have C := Lib.hid (hk _ (ht.below b1))
  clear k1 b1 ha ht hk
  go_enter Tryd.func9, Tryd.ntmps9
  go_wp2_with fail
  refine C.out.mono ?_
  rintro _ w1 ⟨rfl, b⟩
  replace K := Lib.hid (K.out.step b)
  replace B := Lib.hid (below_step B.out b)
  clear b C
  have K0 := K.out.c0; have K1 := K.out.c1; have K2 := K.out.c2; have Kl := K.out.lt
  have CL := light_any _ w1.heap.size 1 [n] (lensn1 w1 s e A n c) rfl (by omega)
  by_cases hn : n ≤ 70
  · rw [show ([n].all fun l => decide (l ≤ 70)) = true by simp [hn]] at CL
    go_wp2_with fail
    refine CL.mono ?_
    rintro _ w2' ⟨rfl, rfl⟩
    have ob := one_below w1 (.cells #[.bool s, .int .i64 e, .slice A n c] 24)
    replace K := Lib.hid (K.out.step ob)
    replace B := Lib.hid (below_step B.out ob)
    clear K0 K1 K2 Kl
    clear ob CL
    have K0 := K.out.c0; have K1 := K.out.c1; have K2 := K.out.c2; have Kl := K.out.lt
    have C1 := Lib.hid (nscale_any _ s e k A n c xs (HA.out.step B.out) (by omega) (HT.out.below B.out))
    obtain ⟨r, hr⟩ : ∃ r, r = ans1 s e n xs k := ⟨_, rfl⟩
    have VR := Lib.hid (show Valid r.1 by rw [hr]; exact res1_valid _ _ _ _ _)
    have CR := fun w4 (h : Below w.heap.size w w4) => Lib.hid (rscale_any w4 s e k A n c xs (HA.out.step h) (by omega))
    rw [← hr] at C1 CR
    clear hr
    generalize w1.alloc (.cells #[.bool s, .int .i64 e, .slice A n c] 24) = w2 at *
    go_wp2_with fail
    refine C1.out.mono ?_
    rintro _ w3 ⟨_, rfl, ⟨A3, n3, c3, rfl, h3⟩, b⟩
    have ob := one_below w3 (.cells #[.bool r.1.s, .int .i64 r.1.e, .slice A3 n3 c3] 24)
    have I3 := Lib.hid (Is.step (num_is h3) ob); have K3 := Lib.hid (Bx.new w3 r.1.s r.1.e A3 n3 c3)
    replace K := Lib.hid (K.out.step b)
    clear K0 K1 K2 Kl
    have K0 := K.out.c0; have K1 := K.out.c1; have K2 := K.out.c2; have Kl := K.out.lt
    replace B := Lib.hid (below_step (below_step B.out b) ob)
    have C2 := CR _ B.out
    clear h3 b C1 CR
    go_wp2_with fail
    refine C2.out.mono ?_
    clear K0 K1 K2 Kl
    clear C2
    rintro _ w5 ⟨_, rfl, ⟨A5, n5, c5, rfl, h5⟩, b⟩
    have ob' := one_below w5 (.cells #[.bool r.1.s, .int .i64 r.1.e, .slice A5 n5 c5] 24)
    have I5 := Lib.hid (Is.step (num_is h5) ob')
    replace K3 := Lib.hid (K3.out.step b)
    have K30 := K3.out.c0; have K31 := K3.out.c1; have K32 := K3.out.c2; have K3l := K3.out.lt
    have C3 := Lib.hid (rsame_v (a := r.1) (b := r.1) (I3.out.step (below_step b ob')) I5.out VR.out VR.out)
    rw [sameb_self] at C3
    replace B := Lib.hid (below_step (below_step B.out b) ob')
    have f0 : (r.2 == r.2) = true := by simp
    clear h5 b I3 I5
    go_wp2_with fail
    refine C3.out.mono ?_
    rintro _ w6 ⟨rfl, b⟩
    replace B := Lib.hid (below_step B.out b)
    clear C3 b
    go_wp2
    go_ret
    exact ⟨rfl, B.out⟩
  · rw [show ([n].all fun l => decide (l ≤ 70)) = false by simp; omega] at CL
    go_wp2_with fail
    refine CL.mono ?_
    rintro _ w2' ⟨rfl, rfl⟩
    have B' := Lib.hid (below_step B.out (one_below w1 (.cells #[.bool s, .int .i64 e, .slice A n c] 24)))
    clear CL
    go_wp2
    go_ret
    exact ⟨rfl, B'.out⟩

set_option maxRecDepth 100000 in
set_option maxHeartbeats 4000000 in
theorem makes_walk (hk : ∀ w : World, Tab w → Calls Tryd.prog 12 #[] w (BoolPost w true)) (w : World) (s : Bool) (e : Int) (A : Option Addr) (n c : Nat) (xs : List Nat) (ha : Arg w A n c xs) (ht : Tab w) :
    Calls Tryd.prog 4 #[.bool s, .slice A n c, .int .i64 e] w (LawPost w) := by
  have HA := Lib.hid ha; have HT := Lib.hid ht
  have C := Lib.hid (hk _ ht)
  clear ha ht hk
  go_enter Tryd.func4, Tryd.ntmps4
  go_wp2_with fail
  refine C.out.mono ?_
  rintro _ w2 ⟨rfl, b⟩
  have B := Lib.hid b
  clear b C
  by_cases hn : n ≤ 80
  · have C1 := Lib.hid (make_any _ s e A n c xs (HA.out.step B.out) (by omega) (HT.out.below B.out))
    obtain ⟨r, hr⟩ : ∃ r, r = res (nm s (nval B64 xs) e) := ⟨_, rfl⟩
    have VR := Lib.hid (show Valid r.1 by rw [hr]; exact res_valid (nm_canon _ _ _))
    have CR := fun w4 (h : Below w.heap.size w w4) => Lib.hid (rmake_any w4 s e A n c xs (HA.out.step h) (by omega))
    rw [← hr] at C1 CR
    clear hr
    go_wp2_with fail
    refine C1.out.mono ?_
    rintro _ w3 ⟨_, rfl, ⟨A3, n3, c3, rfl, h3⟩, b⟩
    have ob := one_below w3 (.cells #[.bool r.1.s, .int .i64 r.1.e, .slice A3 n3 c3] 24)
    have I3 := Lib.hid (Is.step (num_is h3) ob); have K3 := Lib.hid (Bx.new w3 r.1.s r.1.e A3 n3 c3)
    replace B := Lib.hid (below_step (below_step B.out b) ob)
    have C2 := CR _ B.out
    clear h3 b C1 CR
    go_wp2_with fail
    refine C2.out.mono ?_
    clear C2
    rintro _ w5 ⟨_, rfl, ⟨A5, n5, c5, rfl, h5⟩, b⟩
    have ob' := one_below w5 (.cells #[.bool r.1.s, .int .i64 r.1.e, .slice A5 n5 c5] 24)
    have I5 := Lib.hid (Is.step (num_is h5) ob')
    replace K3 := Lib.hid (K3.out.step b)
    have K30 := K3.out.c0; have K31 := K3.out.c1; have K32 := K3.out.c2; have K3l := K3.out.lt
    have I35 := Lib.hid (I3.out.step (below_step b ob'))
    have C3 := Lib.hid (rsame_v (a := r.1) (b := r.1) I35.out I5.out VR.out VR.out)
    rw [sameb_self] at C3
    replace B := Lib.hid (below_step (below_step B.out b) ob')
    have f0 : (r.2 == r.2) = true := by simp
    clear h5 b I3 I5
    go_wp2_with fail
    refine C3.out.mono ?_
    rintro _ w6 ⟨rfl, b⟩
    have C4 := Lib.hid (nright_v (a := r.1) (I35.out.step b) VR.out)
    replace K3 := Lib.hid (K3.out.step (below_step ob' b))
    clear K30 K31 K32 K3l
    have K30 := K3.out.c0; have K31 := K3.out.c1; have K32 := K3.out.c2; have K3l := K3.out.lt
    replace B := Lib.hid (below_step B.out b)
    clear C3 b
    by_cases h0 : r.2 = 0
    · have f1 : (r.2 != 0) = false := by simp [h0]
      go_wp2_with fail
      refine C4.out.mono ?_
      rintro _ w7 ⟨rfl, b⟩
      replace B := Lib.hid (below_step B.out b)
      clear C4 b
      go_wp2
      go_ret
      exact ⟨rfl, B.out⟩
    · have f1 : (r.2 != 0) = true := by simp [h0]
      go_wp2
      go_ret
      exact ⟨rfl, B.out⟩
  · go_wp2
    go_ret
    exact ⟨rfl, B.out⟩

set_option maxRecDepth 100000 in
set_option maxHeartbeats 8000000 in
theorem reckons_walk (hk : ∀ w : World, Tab w → Calls Tryd.prog 12 #[] w (BoolPost w true)) (w : World) (s s' : Bool) (e e' : Int) (A B : Option Addr) (n c m d : Nat) (xs ys : List Nat) (ha : Arg w A n c xs) (hb : Arg w B m d ys) (ht : Tab w) :
    Calls Tryd.prog 7 #[.agg #[.bool s, .int .i64 e, .slice A n c], .agg #[.bool s', .int .i64 e', .slice B m d]] w (LawPost w) := by
  obtain ⟨k1, k2, b1⟩ := two_bx w s s' e e' A B n c m d
  have K := Lib.hid k1; have L := Lib.hid k2; have BB := Lib.hid b1; have HA := Lib.hid ha; have HB := Lib.hid hb; have HT := Lib.hid ht
  have C := Lib.hid (hk _ (ht.below b1))
  clear k1 k2 b1 ha hb ht hk
  go_enter Tryd.func7, Tryd.ntmps7
  go_wp2_with fail
  refine C.out.mono ?_
  rintro _ w1 ⟨rfl, b⟩
  replace K := Lib.hid (K.out.step b)
  replace L := Lib.hid (L.out.step b)
  replace BB := Lib.hid (below_step BB.out b)
  clear b C
  have K0 := K.out.c0; have K1 := K.out.c1; have K2 := K.out.c2; have Kl := K.out.lt
  have L0 := L.out.c0; have L1 := L.out.c1; have L2 := L.out.c2; have Ll := L.out.lt
  have CL := light_any _ w1.heap.size 2 [n, m] (lensn2 w1 s s' e e' A B n c m d) rfl (by omega)
  by_cases hnm : n ≤ 70 ∧ m ≤ 70
  · obtain ⟨hn, hm⟩ := hnm
    rw [show ([n, m].all fun l => decide (l ≤ 70)) = true by simp [hn, hm]] at CL
    go_wp2_with fail
    refine CL.mono ?_
    rintro _ w2' ⟨rfl, rfl⟩
    have ob := one_below w1 (.cells #[.bool s, .int .i64 e, .slice A n c, .bool s', .int .i64 e', .slice B m d] 24)
    replace K := Lib.hid (K.out.step ob)
    replace L := Lib.hid (L.out.step ob)
    replace BB := Lib.hid (below_step BB.out ob)
    clear K0 K1 K2 Kl L0 L1 L2 Ll
    clear ob CL
    generalize w1.alloc (.cells #[.bool s, .int .i64 e, .slice A n c, .bool s', .int .i64 e', .slice B m d] 24) = w2 at *
    obtain ⟨r1, hr1⟩ : ∃ r, r = ans2 plus s e n xs s' e' m ys := ⟨_, rfl⟩
    obtain ⟨r2, hr2⟩ : ∃ r, r = ans2 minus s e n xs s' e' m ys := ⟨_, rfl⟩
    obtain ⟨r3, hr3⟩ : ∃ r, r = ans2 times s e n xs s' e' m ys := ⟨_, rfl⟩
    have V1 := Lib.hid (show Valid r1.1 by rw [hr1]; exact res2_canon (fun _ _ => ofz_canon _ _) _ _ _ _ _ _ _ _)
    have V2 := Lib.hid (show Valid r2.1 by rw [hr2]; exact res2_canon (fun _ _ => ofz_canon _ _) _ _ _ _ _ _ _ _)
    have V3 := Lib.hid (show Valid r3.1 by rw [hr3]; exact res2_canon (fun _ _ => ofz_canon _ _) _ _ _ _ _ _ _ _)
    have Ca := fun w4 (h : Below w.heap.size w w4) => Lib.hid (nadd_any w4 s s' e e' A B n c m d xs ys (HA.out.step h) (HB.out.step h) (by omega) (by omega) (HT.out.below h))
    rw [← hr1] at Ca
    have Cb := fun w4 (h : Below w.heap.size w w4) => Lib.hid (nsub_any w4 s s' e e' A B n c m d xs ys (HA.out.step h) (HB.out.step h) (by omega) (by omega) (HT.out.below h))
    rw [← hr2] at Cb
    have Cc := fun w4 (h : Below w.heap.size w w4) => Lib.hid (nmul_any w4 s s' e e' A B n c m d xs ys (HA.out.step h) (HB.out.step h) (by omega) (by omega) (HT.out.below h))
    rw [← hr3] at Cc
    have Cd := fun w4 (h : Below w.heap.size w w4) => Lib.hid (straight_any w4 0 s s' e e' A B n c m d xs ys (HA.out.step h) (HB.out.step h) (by omega) (by omega) (HT.out.below h))
    rw [show exq 0 = plus from rfl] at Cd
    rw [← hr1] at Cd
    have Cf := fun w4 (h : Below w.heap.size w w4) => Lib.hid (straight_any w4 1 s s' e e' A B n c m d xs ys (HA.out.step h) (HB.out.step h) (by omega) (by omega) (HT.out.below h))
    rw [show exq 1 = minus from rfl] at Cf
    rw [← hr2] at Cf
    have Cg := fun w4 (h : Below w.heap.size w w4) => Lib.hid (straight_any w4 2 s s' e e' A B n c m d xs ys (HA.out.step h) (HB.out.step h) (by omega) (by omega) (HT.out.below h))
    rw [show exq 2 = times from rfl] at Cg
    rw [← hr3] at Cg
    clear hr1 hr2 hr3
    have K0 := K.out.c0; have K1 := K.out.c1; have K2 := K.out.c2; have Kl := K.out.lt
    have L0 := L.out.c0; have L1 := L.out.c1; have L2 := L.out.c2; have Ll := L.out.lt
    have D := Ca _ BB.out
    clear Ca
    go_wp2_with fail
    refine D.out.mono ?_
    clear D
    rintro _ w3 ⟨_, rfl, ⟨Aa, na, ca, rfl, hh⟩, b⟩
    clear K0 K1 K2 Kl L0 L1 L2 Ll
    replace K := Lib.hid (K.out.step b)
    replace L := Lib.hid (L.out.step b)
    have oba := one_below w3 (.cells #[.bool r1.1.s, .int .i64 r1.1.e, .slice Aa na ca] 24)
    have Ia := Lib.hid (Is.step (num_is hh) oba); have Ka := Lib.hid (Bx.new w3 r1.1.s r1.1.e Aa na ca)
    replace BB := Lib.hid (below_step (below_step BB.out b) oba)
    clear hh b
    have K0 := K.out.c0; have K1 := K.out.c1; have K2 := K.out.c2; have Kl := K.out.lt
    have L0 := L.out.c0; have L1 := L.out.c1; have L2 := L.out.c2; have Ll := L.out.lt
    have D := Cb _ BB.out
    clear Cb
    go_wp2_with fail
    refine D.out.mono ?_
    clear D
    rintro _ w4 ⟨_, rfl, ⟨Ab, nb, cb, rfl, hh⟩, b⟩
    clear K0 K1 K2 Kl L0 L1 L2 Ll
    replace K := Lib.hid (K.out.step (below_step oba b))
    replace L := Lib.hid (L.out.step (below_step oba b))
    replace Ka := Lib.hid (Ka.out.step b)
    replace Ia := Lib.hid (Ia.out.step b)
    have obb := one_below w4 (.cells #[.bool r2.1.s, .int .i64 r2.1.e, .slice Ab nb cb] 24)
    have Ib := Lib.hid (Is.step (num_is hh) obb); have Kb := Lib.hid (Bx.new w4 r2.1.s r2.1.e Ab nb cb)
    replace BB := Lib.hid (below_step (below_step BB.out b) obb)
    clear hh b
    clear oba
    have K0 := K.out.c0; have K1 := K.out.c1; have K2 := K.out.c2; have Kl := K.out.lt
    have L0 := L.out.c0; have L1 := L.out.c1; have L2 := L.out.c2; have Ll := L.out.lt
    have D := Cc _ BB.out
    clear Cc
    go_wp2_with fail
    refine D.out.mono ?_
    clear D
    rintro _ w5 ⟨_, rfl, ⟨Ac, nc, cc, rfl, hh⟩, b⟩
    clear K0 K1 K2 Kl L0 L1 L2 Ll
    replace K := Lib.hid (K.out.step (below_step obb b))
    replace L := Lib.hid (L.out.step (below_step obb b))
    replace Ka := Lib.hid (Ka.out.step (below_step obb b))
    replace Ia := Lib.hid (Ia.out.step (below_step obb b))
    replace Kb := Lib.hid (Kb.out.step b)
    replace Ib := Lib.hid (Ib.out.step b)
    have obc := one_below w5 (.cells #[.bool r3.1.s, .int .i64 r3.1.e, .slice Ac nc cc] 24)
    have Ic := Lib.hid (Is.step (num_is hh) obc); have Kc := Lib.hid (Bx.new w5 r3.1.s r3.1.e Ac nc cc)
    replace BB := Lib.hid (below_step (below_step BB.out b) obc)
    clear hh b
    clear obb
    have K0 := K.out.c0; have K1 := K.out.c1; have K2 := K.out.c2; have Kl := K.out.lt
    have L0 := L.out.c0; have L1 := L.out.c1; have L2 := L.out.c2; have Ll := L.out.lt
    have D := Cd _ BB.out
    clear Cd
    go_wp2_with fail
    refine D.out.mono ?_
    clear D
    rintro _ w6 ⟨_, rfl, ⟨Ad, nd, cd, rfl, hh⟩, b⟩
    clear K0 K1 K2 Kl L0 L1 L2 Ll
    replace K := Lib.hid (K.out.step (below_step obc b))
    replace L := Lib.hid (L.out.step (below_step obc b))
    replace Ka := Lib.hid (Ka.out.step (below_step obc b))
    replace Ia := Lib.hid (Ia.out.step (below_step obc b))
    replace Kb := Lib.hid (Kb.out.step (below_step obc b))
    replace Ib := Lib.hid (Ib.out.step (below_step obc b))
    replace Kc := Lib.hid (Kc.out.step b)
    replace Ic := Lib.hid (Ic.out.step b)
    have obd := one_below w6 (.cells #[.bool r1.1.s, .int .i64 r1.1.e, .slice Ad nd cd] 24)
    have Id := Lib.hid (Is.step (num_is hh) obd); have Kd := Lib.hid (Bx.new w6 r1.1.s r1.1.e Ad nd cd)
    replace BB := Lib.hid (below_step (below_step BB.out b) obd)
    clear hh b
    clear obc
    have K0 := K.out.c0; have K1 := K.out.c1; have K2 := K.out.c2; have Kl := K.out.lt
    have L0 := L.out.c0; have L1 := L.out.c1; have L2 := L.out.c2; have Ll := L.out.lt
    have D := Cf _ BB.out
    clear Cf
    go_wp2_with fail
    refine D.out.mono ?_
    clear D
    rintro _ w7 ⟨_, rfl, ⟨Af, nf, cf, rfl, hh⟩, b⟩
    clear K0 K1 K2 Kl L0 L1 L2 Ll
    replace K := Lib.hid (K.out.step (below_step obd b))
    replace L := Lib.hid (L.out.step (below_step obd b))
    replace Ka := Lib.hid (Ka.out.step (below_step obd b))
    replace Ia := Lib.hid (Ia.out.step (below_step obd b))
    replace Kb := Lib.hid (Kb.out.step (below_step obd b))
    replace Ib := Lib.hid (Ib.out.step (below_step obd b))
    replace Kc := Lib.hid (Kc.out.step (below_step obd b))
    replace Ic := Lib.hid (Ic.out.step (below_step obd b))
    replace Kd := Lib.hid (Kd.out.step b)
    replace Id := Lib.hid (Id.out.step b)
    have obf := one_below w7 (.cells #[.bool r2.1.s, .int .i64 r2.1.e, .slice Af nf cf] 24)
    have If := Lib.hid (Is.step (num_is hh) obf); have Kf := Lib.hid (Bx.new w7 r2.1.s r2.1.e Af nf cf)
    replace BB := Lib.hid (below_step (below_step BB.out b) obf)
    clear hh b
    clear obd
    have K0 := K.out.c0; have K1 := K.out.c1; have K2 := K.out.c2; have Kl := K.out.lt
    have L0 := L.out.c0; have L1 := L.out.c1; have L2 := L.out.c2; have Ll := L.out.lt
    have D := Cg _ BB.out
    clear Cg
    go_wp2_with fail
    refine D.out.mono ?_
    clear D
    rintro _ w8 ⟨_, rfl, ⟨Ag, ng, cg, rfl, hh⟩, b⟩
    clear K0 K1 K2 Kl L0 L1 L2 Ll
    replace K := Lib.hid (K.out.step (below_step obf b))
    replace L := Lib.hid (L.out.step (below_step obf b))
    replace Ka := Lib.hid (Ka.out.step (below_step obf b))
    replace Ia := Lib.hid (Ia.out.step (below_step obf b))
    replace Kb := Lib.hid (Kb.out.step (below_step obf b))
    replace Ib := Lib.hid (Ib.out.step (below_step obf b))
    replace Kc := Lib.hid (Kc.out.step (below_step obf b))
    replace Ic := Lib.hid (Ic.out.step (below_step obf b))
    replace Kd := Lib.hid (Kd.out.step (below_step obf b))
    replace Id := Lib.hid (Id.out.step (below_step obf b))
    replace Kf := Lib.hid (Kf.out.step b)
    replace If := Lib.hid (If.out.step b)
    have obg := one_below w8 (.cells #[.bool r3.1.s, .int .i64 r3.1.e, .slice Ag ng cg] 24)
    have Ig := Lib.hid (Is.step (num_is hh) obg); have Kg := Lib.hid (Bx.new w8 r3.1.s r3.1.e Ag ng cg)
    replace BB := Lib.hid (below_step (below_step BB.out b) obg)
    clear hh b
    clear obf
    have f1 : (r1.2 == r1.2) = true := by simp
    have f2 : (r2.2 == r2.2) = true := by simp
    have f3 : (r3.2 == r3.2) = true := by simp
    have Ka0 := Ka.out.c0; have Ka1 := Ka.out.c1; have Ka2 := Ka.out.c2; have Kal := Ka.out.lt
    have Kb0 := Kb.out.c0; have Kb1 := Kb.out.c1; have Kb2 := Kb.out.c2; have Kbl := Kb.out.lt
    have Kc0 := Kc.out.c0; have Kc1 := Kc.out.c1; have Kc2 := Kc.out.c2; have Kcl := Kc.out.lt
    have Kd0 := Kd.out.c0; have Kd1 := Kd.out.c1; have Kd2 := Kd.out.c2; have Kdl := Kd.out.lt
    have Kf0 := Kf.out.c0; have Kf1 := Kf.out.c1; have Kf2 := Kf.out.c2; have Kfl := Kf.out.lt
    have Ia8 := Lib.hid (Ia.out.step obg); have Id8 := Lib.hid (Id.out.step obg)
    have D := Lib.hid (rsame_v (a := r1.1) (b := r1.1) Ia8.out Id8.out V1.out V1.out)
    rw [sameb_self] at D
    go_wp2_with fail
    refine D.out.mono ?_
    clear D Ia8 Id8
    rintro _ w10 ⟨rfl, b⟩
    clear Ka0 Ka1 Ka2 Kal Kb0 Kb1 Kb2 Kbl Kc0 Kc1 Kc2 Kcl Kd0 Kd1 Kd2 Kdl Kf0 Kf1 Kf2 Kfl
    replace Ka := Lib.hid (Ka.out.step (below_step obg b))
    replace Ia := Lib.hid (Ia.out.step (below_step obg b))
    replace Kb := Lib.hid (Kb.out.step (below_step obg b))
    replace Ib := Lib.hid (Ib.out.step (below_step obg b))
    replace Kc := Lib.hid (Kc.out.step (below_step obg b))
    replace Ic := Lib.hid (Ic.out.step (below_step obg b))
    replace Kd := Lib.hid (Kd.out.step (below_step obg b))
    replace Id := Lib.hid (Id.out.step (below_step obg b))
    replace Kf := Lib.hid (Kf.out.step (below_step obg b))
    replace If := Lib.hid (If.out.step (below_step obg b))
    replace Kg := Lib.hid (Kg.out.step b)
    replace Ig := Lib.hid (Ig.out.step b)
    replace BB := Lib.hid (below_step BB.out b)
    clear b obg
    have Ka0 := Ka.out.c0; have Ka1 := Ka.out.c1; have Ka2 := Ka.out.c2; have Kal := Ka.out.lt
    have Kb0 := Kb.out.c0; have Kb1 := Kb.out.c1; have Kb2 := Kb.out.c2; have Kbl := Kb.out.lt
    have Kc0 := Kc.out.c0; have Kc1 := Kc.out.c1; have Kc2 := Kc.out.c2; have Kcl := Kc.out.lt
    have Kd0 := Kd.out.c0; have Kd1 := Kd.out.c1; have Kd2 := Kd.out.c2; have Kdl := Kd.out.lt
    have Kf0 := Kf.out.c0; have Kf1 := Kf.out.c1; have Kf2 := Kf.out.c2; have Kfl := Kf.out.lt
    have Kg0 := Kg.out.c0; have Kg1 := Kg.out.c1; have Kg2 := Kg.out.c2; have Kgl := Kg.out.lt
    have D := Lib.hid (rsame_v (a := r2.1) (b := r2.1) Ib.out If.out V2.out V2.out)
    rw [sameb_self] at D
    go_wp2_with fail
    refine D.out.mono ?_
    clear D
    rintro _ w11 ⟨rfl, b⟩
    clear Ka0 Ka1 Ka2 Kal Kb0 Kb1 Kb2 Kbl Kc0 Kc1 Kc2 Kcl Kd0 Kd1 Kd2 Kdl Kf0 Kf1 Kf2 Kfl Kg0 Kg1 Kg2 Kgl
    replace Ka := Lib.hid (Ka.out.step b)
    replace Ia := Lib.hid (Ia.out.step b)
    replace Kb := Lib.hid (Kb.out.step b)
    replace Ib := Lib.hid (Ib.out.step b)
    replace Kc := Lib.hid (Kc.out.step b)
    replace Ic := Lib.hid (Ic.out.step b)
    replace Kd := Lib.hid (Kd.out.step b)
    replace Id := Lib.hid (Id.out.step b)
    replace Kf := Lib.hid (Kf.out.step b)
    replace If := Lib.hid (If.out.step b)
    replace Kg := Lib.hid (Kg.out.step b)
    replace Ig := Lib.hid (Ig.out.step b)
    replace BB := Lib.hid (below_step BB.out b)
    clear b
    have Ka0 := Ka.out.c0; have Ka1 := Ka.out.c1; have Ka2 := Ka.out.c2; have Kal := Ka.out.lt
    have Kb0 := Kb.out.c0; have Kb1 := Kb.out.c1; have Kb2 := Kb.out.c2; have Kbl := Kb.out.lt
    have Kc0 := Kc.out.c0; have Kc1 := Kc.out.c1; have Kc2 := Kc.out.c2; have Kcl := Kc.out.lt
    have Kd0 := Kd.out.c0; have Kd1 := Kd.out.c1; have Kd2 := Kd.out.c2; have Kdl := Kd.out.lt
    have Kf0 := Kf.out.c0; have Kf1 := Kf.out.c1; have Kf2 := Kf.out.c2; have Kfl := Kf.out.lt
    have Kg0 := Kg.out.c0; have Kg1 := Kg.out.c1; have Kg2 := Kg.out.c2; have Kgl := Kg.out.lt
    have D := Lib.hid (rsame_v (a := r3.1) (b := r3.1) Ic.out Ig.out V3.out V3.out)
    rw [sameb_self] at D
    go_wp2_with fail
    refine D.out.mono ?_
    clear D
    rintro _ w12 ⟨rfl, b⟩
    clear Ka0 Ka1 Ka2 Kal Kb0 Kb1 Kb2 Kbl Kc0 Kc1 Kc2 Kcl Kd0 Kd1 Kd2 Kdl Kf0 Kf1 Kf2 Kfl Kg0 Kg1 Kg2 Kgl
    replace Ka := Lib.hid (Ka.out.step b)
    replace Ia := Lib.hid (Ia.out.step b)
    replace Kb := Lib.hid (Kb.out.step b)
    replace Ib := Lib.hid (Ib.out.step b)
    replace Kc := Lib.hid (Kc.out.step b)
    replace Ic := Lib.hid (Ic.out.step b)
    replace Kd := Lib.hid (Kd.out.step b)
    replace Id := Lib.hid (Id.out.step b)
    replace Kf := Lib.hid (Kf.out.step b)
    replace If := Lib.hid (If.out.step b)
    replace Kg := Lib.hid (Kg.out.step b)
    replace Ig := Lib.hid (Ig.out.step b)
    replace BB := Lib.hid (below_step BB.out b)
    clear b
    go_wp2
    go_ret
    exact ⟨rfl, BB.out⟩
  · rw [show ([n, m].all fun l => decide (l ≤ 70)) = false by simp; omega] at CL
    go_wp2_with fail
    refine CL.mono ?_
    rintro _ w2' ⟨rfl, rfl⟩
    have B' := Lib.hid (below_step BB.out (one_below w1 (.cells #[.bool s, .int .i64 e, .slice A n c, .bool s', .int .i64 e', .slice B m d] 24)))
    clear CL
    go_wp2
    go_ret
    exact ⟨rfl, B'.out⟩
end Go.Proofs.YtimkifkikcohgaaDoor
