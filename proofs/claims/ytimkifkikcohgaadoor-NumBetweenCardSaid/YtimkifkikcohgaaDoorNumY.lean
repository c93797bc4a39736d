/- The laws of num, walked: NumBetween. -/
import Derived.Test.YtimkifkikcohgaaDoorNumX
namespace Go.Proofs.YtimkifkikcohgaaDoor
open Go.RowKit Nx

theorem cmpq_le {a b : Q} {E : Nat} (h1 : -(E : Int) ≤ a.e) (h2 : -(E : Int) ≤ b.e) : cmpq a b ≤ 0 ↔ a.at E ≤ b.at E := by
  rw [cmpq_at h1 h2]
  by_cases c1 : a.at E < b.at E
  · rw [if_pos c1]; omega
  · rw [if_neg c1]
    by_cases c2 : b.at E < a.at E
    · rw [if_pos c2]; omega
    · rw [if_neg c2]; omega
theorem cmpq_zero {a b : Q} {E : Nat} (h1 : -(E : Int) ≤ a.e) (h2 : -(E : Int) ≤ b.e) (h : cmpq a b = 0) : a.at E = b.at E := by
  rw [cmpq_at h1 h2] at h
  by_cases c1 : a.at E < b.at E
  · rw [if_pos c1] at h; omega
  · rw [if_neg c1] at h
    by_cases c2 : b.at E < a.at E
    · rw [if_pos c2] at h; omega
    · omega
theorem Bx.far3 {w : World} {g h : Nat} {s : Bool} {e : Int} {A : Option Addr} {n c : Nat} (k : Bx w g s e A n c) (hh : g ≠ h) (x y z : Value) : Bx (put3 w h x y z) g s e A n c := by
  unfold put3
  exact Blk.far (Blk.far (Blk.far k hh _) hh _) hh _
/-- Half of a number. -/
def half (q : Q) : Q := nm q.s q.m (q.e + -1)
theorem half_at {q : Q} {E : Nat} (hq : Canon q) (h : -(E : Int) ≤ q.e) : (half q).at (E + 1) = q.at E ∧ -((E + 1 : Nat) : Int) ≤ (half q).e := by
  unfold half
  by_cases h0 : q.m = 0
  · rw [h0, nm_zero, hq.1 h0, at0, at0]
    exact ⟨rfl, by show -((E + 1 : Nat) : Int) ≤ 0; omega⟩
  · have e1 : nm q.s q.m (q.e + -1) = ⟨q.s, q.m, q.e + -1⟩ := nm_odd (e := q.e) hq h0
    rw [e1]
    refine ⟨?_, by show -((E + 1 : Nat) : Int) ≤ q.e + -1; omega⟩
    unfold Q.at
    show Q.z ⟨q.s, q.m, q.e + -1⟩ * 2 ^ (q.e + -1 + ((E + 1 : Nat) : Int)).toNat = _
    rw [show (q.e + -1 + ((E + 1 : Nat) : Int)).toNat = (q.e + E).toNat by omega]
    rfl
theorem half_bd {q : Q} {k : Nat} (hq : Canon q) (h : Bd k q) : Bd (k + 1) (half q) := by
  unfold half
  by_cases h0 : q.m = 0
  · rw [h0, nm_zero]
    exact ⟨Nat.pow_pos (by omega), by show -((k + 1 : Nat) : Int) ≤ 0; omega, by show (0 : Int) ≤ ((k + 1 : Nat) : Int); omega⟩
  · have e1 : nm q.s q.m (q.e + -1) = ⟨q.s, q.m, q.e + -1⟩ := nm_odd (e := q.e) hq h0
    rw [e1]
    have h1 := h.2.1; have h2 := h.2.2
    exact ⟨Nat.lt_of_lt_of_le h.1 (Nat.pow_le_pow_right (by omega) (by omega)), by show -((k + 1 : Nat) : Int) ≤ q.e + -1; omega, by show q.e + -1 ≤ ((k + 1 : Nat) : Int); omega⟩
/-- All that the law asks of two numbers, one not above the other, and a third. -/
theorem between {a b c : Q} (fa : Few a) (fb : Few b) (fc : Few c) (h : cmpq a b ≤ 0) :
    Valid (plus a b) ∧ Valid (half (plus a b)) ∧ cmpq a (half (plus a b)) ≤ 0 ∧ cmpq (half (plus a b)) b ≤ 0 ∧ (cmpq a (half (plus a b)) = 0 → a = b) ∧ (cmpq b c ≤ 0 → cmpq a c ≤ 0) := by
  have la : -((8 : Nat) : Int) ≤ a.e := fa.bd.2.1
  have lb : -((8 : Nat) : Int) ≤ b.e := fb.bd.2.1
  have lc : -((8 : Nat) : Int) ≤ c.e := fc.bd.2.1
  have hle := (cmpq_le la lb).1 h
  have X1 := bd_plus fa.bd fb.bd
  have X2 := half_bd (ofz_canon _ _) X1
  obtain ⟨e1, l1⟩ := half_at (q := plus a b) (E := 8) (ofz_canon _ _) (low_plus la lb)
  rw [at_plus la lb] at e1
  have la' : -((8 + 1 : Nat) : Int) ≤ a.e := by omega
  have lb' : -((8 + 1 : Nat) : Int) ≤ b.e := by omega
  have ea := at_more (F := 1) la
  have eb := at_more (F := 1) lb
  rw [Int.pow_one] at ea eb
  refine ⟨⟨ofz_canon _ _, X1.fits (by omega)⟩, ⟨nm_canon _ _ _, X2.fits (by omega)⟩, ?_, ?_, ?_, ?_⟩
  · rw [cmpq_le la' l1, e1, ea]; omega
  · rw [cmpq_le l1 lb', e1, eb]; omega
  · intro h0
    have := cmpq_zero la' l1 h0
    rw [e1, ea] at this
    exact at_inj fa.1 fb.1 la lb (by omega)
  · intro h0
    rw [cmpq_le lb lc] at h0
    rw [cmpq_le la lc]; omega

set_option maxRecDepth 100000 in
set_option maxHeartbeats 8000000 in
theorem between_walk (hk : ∀ w : World, Tab w → Calls Tryd.prog 12 #[] w (BoolPost w true)) (w : World) (A : Option Addr) (n c : Nat) (xs : List Nat) (ha : Arg w A n c xs) (ht : Tab w) :
    Calls Tryd.prog 11 #[.slice A n c] w (LawPost w) := by
  have HA := Lib.hid ha; have HT := Lib.hid ht
  have C := Lib.hid (hk _ ht)
  clear ha ht hk
  go_enter Tryd.func11, Tryd.ntmps11
  go_wp2_with fail
  refine C.out.mono ?_
  rintro _ w1 ⟨rfl, b⟩
  have BB := Lib.hid b
  have D := Lib.hid (sof_any w1 A n c)
  clear b C
  go_wp2_with fail
  refine D.out.mono ?_
  rintro _ w2 ⟨rfl, dk, b⟩
  obtain ⟨g, hg⟩ : ∃ g, g = w1.heap.size := ⟨_, rfl⟩
  rw [← hg] at dk ⊢
  have hwg : w.heap.size ≤ g := by rw [hg]; exact BB.out.size
  replace BB := Lib.hid (below_step BB.out b)
  have DK := Lib.hid dk
  have hg2 : g < w2.heap.size := dk.lt
  clear b D dk hg
  have D := Lib.hid (small_any w2 g 0 w.heap.size A n c 0 xs DK.out (HA.out.1.below BB.out) HA.out.2 (by omega) BB.out.size)
  go_wp2_with fail
  refine D.out.mono ?_
  clear D
  rintro _ w3 ⟨qa, _, fa, rfl, na', dk, m⟩
  have Fa := Lib.hid fa; have Na := Lib.hid na'
  replace DK := Lib.hid dk
  replace BB := Lib.hid (Mv.below BB.out m hwg BB.out.size)
  have sz3 : w2.heap.size ≤ w3.heap.size := m.size
  clear fa na' dk m
  have D := Lib.hid (small_any w3 g 0 w.heap.size A n c 1 xs DK.out (HA.out.1.below BB.out) HA.out.2 (by omega) BB.out.size)
  go_wp2_with fail
  refine D.out.mono ?_
  clear D
  rintro _ w4 ⟨qb, _, fb, rfl, nb', dk, m⟩
  have Fb := Lib.hid fb; have Nb := Lib.hid nb'
  replace DK := Lib.hid dk
  replace BB := Lib.hid (Mv.below BB.out m hwg BB.out.size)
  have sz4 : w3.heap.size ≤ w4.heap.size := m.size
  replace Na := Lib.hid (Na.out.mv m (by omega))
  clear fb nb' dk m
  have D := Lib.hid (small_any w4 g 0 w.heap.size A n c 2 xs DK.out (HA.out.1.below BB.out) HA.out.2 (by omega) BB.out.size)
  go_wp2_with fail
  refine D.out.mono ?_
  clear D
  rintro _ w5 ⟨qc, _, fc, rfl, nc', dk, m⟩
  have Fc := Lib.hid fc; have Nc := Lib.hid nc'
  replace DK := Lib.hid dk
  replace BB := Lib.hid (Mv.below BB.out m hwg BB.out.size)
  have sz5 : w4.heap.size ≤ w5.heap.size := m.size
  replace Na := Lib.hid (Na.out.mv m (by omega))
  replace Nb := Lib.hid (Nb.out.mv m (by omega))
  clear fc nc' dk m
  obtain ⟨Aa, na, ca, rfl, ia⟩ := Na.out
  obtain ⟨Ab, nb, cb, rfl, ib⟩ := Nb.out
  obtain ⟨Ac, nc, cc, rfl, ic⟩ := Nc.out
  obtain ⟨k1, k2, k3, b0⟩ := tri_bx w5 qa qb qc Aa Ab Ac na ca nb cb nc cc
  have Ka := Lib.hid k1; have Kb := Lib.hid k2; have Kc := Lib.hid k3
  have Ia := Lib.hid (Is.step (num_is ia) b0); have Ib := Lib.hid (Is.step (num_is ib) b0); have Ic := Lib.hid (Is.step (num_is ic) b0)
  have Va := Lib.hid Fa.out.valid; have Vb := Lib.hid Fb.out.valid; have Vc := Lib.hid Fc.out.valid
  replace BB := Lib.hid (below_step BB.out b0)
  have Ja := Lib.hid (num_is ia); have Jb := Lib.hid (num_is ib); have Jc := Lib.hid (num_is ic); have B5 := Lib.hid b0
  have HW5 : w.heap.size ≤ w5.heap.size := by omega
  clear k1 k2 k3 b0 ia ib ic Na Nb Nc DK sz3 sz4 sz5
  have D := Lib.hid (ncmp_v (a := qa) (b := qb) Ia.out Ib.out Va.out Vb.out)
  go_wp2_with fail
  refine D.out.mono ?_
  clear D
  rintro _ w6 ⟨rfl, b⟩
  replace B5 := Lib.hid (below_step B5.out b)
  replace Ka := Lib.hid (Ka.out.step b)
  replace Kb := Lib.hid (Kb.out.step b)
  replace Kc := Lib.hid (Kc.out.step b)
  replace Ia := Lib.hid (Ia.out.step b)
  replace Ib := Lib.hid (Ib.out.step b)
  replace Ic := Lib.hid (Ic.out.step b)
  replace BB := Lib.hid (below_step BB.out b)
  have hw5 : w.heap.size ≤ w5.heap.size := HW5
  clear b
  by_cases hc : cmpq qa qb ≤ 0
  · have hle := hc
    obtain ⟨t0, ht0⟩ : ∃ t, t = cmpq qa qb := ⟨_, rfl⟩
    rw [← ht0] at hc ⊢
    clear ht0
    have KL := Ka; have KH := Kb
    obtain ⟨V1', V2', c1, c2, c3, c4⟩ := between Fa.out Fb.out Fc.out hle
    have R1 := Lib.hid (res_ok V1'.2); have R2 := Lib.hid (res_ok V2'.2)
    have V1 := Lib.hid V1'; have V2 := Lib.hid V2'
    have NL := fun w4 (i : Below w6.heap.size w6 w4) => Ia.out.step i
    have NH := fun w4 (i : Below w6.heap.size w6 w4) => Ib.out.step i
    have NC := fun w4 (i : Below w6.heap.size w6 w4) => Ic.out.step i
    have hhalf : nm (plus qa qb).s (plus qa qb).m ((plus qa qb).e + -1) = half (plus qa qb) := rfl
    obtain ⟨q1, hq1⟩ : ∃ q, q = plus qa qb := ⟨_, rfl⟩
    rw [← hq1] at R1 V1 R2 V2 c1 c2 c3 hhalf
    obtain ⟨q2, hq2⟩ : ∃ q, q = half q1 := ⟨_, rfl⟩
    rw [← hq2] at R2 V2 c1 c2 c3 hhalf
    have D := Lib.hid (nadd_v (a := qa) (b := qb) Ia.out Ib.out Va.out Vb.out (HT.out.below BB.out))
    rw [← hq1, R1.out] at D
    clear V1' V2' hq1 hq2
    have KL0 := KL.out.c0; have KL1 := KL.out.c1; have KL2 := KL.out.c2; have KLl := KL.out.lt
    have KH0 := KH.out.c0; have KH1 := KH.out.c1; have KH2 := KH.out.c2; have KHl := KH.out.lt
    go_wp2_with fail
    refine D.out.mono ?_
    clear D
    clear KL0 KL1 KL2 KLl KH0 KH1 KH2 KHl
    rintro _ w8 ⟨_, rfl, ⟨As, ns, cs, rfl, hh⟩, b⟩
    have obs := one_below w8 (.cells #[.bool q1.s, .int .i64 q1.e, .slice As ns cs] 24)
    have Is' := Lib.hid (Is.step (num_is hh) obs)
    have b8 := Lib.hid (below_step b obs)
    replace KL := Lib.hid (KL.out.step b)
    replace KH := Lib.hid (KH.out.step b)
    replace Kc := Lib.hid (Kc.out.step b)
    replace BB := Lib.hid (below_step BB.out b8.out)
    have D := Lib.hid (nscale_v (a := q1) (-1) Is'.out V1.out (HT.out.below BB.out))
    rw [hhalf, R2.out] at D
    clear hh b Is' hhalf
    go_wp2_with fail
    refine D.out.mono ?_
    clear D
    rintro _ w9 ⟨_, rfl, ⟨Am, nm', cm, rfl, hh⟩, b⟩
    have obm := one_below w9 (.cells #[.bool q2.s, .int .i64 q2.e, .slice Am nm' cm] 24)
    replace KL := Lib.hid (KL.out.step (below_step obs b))
    replace KH := Lib.hid (KH.out.step (below_step obs b))
    replace Kc := Lib.hid (Kc.out.step (below_step obs b))
    have IM := Lib.hid (Is.step (num_is hh) obm); have KM := Lib.hid (Bx.new w9 q2.s q2.e Am nm' cm)
    have b9 := Lib.hid (below_step b8.out (below_step b obm))
    replace BB := Lib.hid (below_step BB.out (below_step b obm))
    clear hh b obs b8
    obtain ⟨t1, ht1⟩ : ∃ t, t = cmpq qa q2 := ⟨_, rfl⟩
    obtain ⟨t2, ht2⟩ : ∃ t, t = cmpq q2 qb := ⟨_, rfl⟩
    obtain ⟨t3, ht3⟩ : ∃ t, t = cmpq qb qc := ⟨_, rfl⟩
    obtain ⟨t4, ht4⟩ : ∃ t, t = cmpq qa qc := ⟨_, rfl⟩
    have CLM := fun w4 (i : Below w6.heap.size w6 w4) (j : Is w4 Am nm' cm q2.m) => Lib.hid (ncmp_v (a := qa) (b := q2) (NL w4 i) j Va.out V2.out)
    have CMH := fun w4 (i : Below w6.heap.size w6 w4) (j : Is w4 Am nm' cm q2.m) => Lib.hid (ncmp_v (a := q2) (b := qb) j (NH w4 i) V2.out Vb.out)
    have CSM := fun w4 (i : Below w6.heap.size w6 w4) => Lib.hid (nsame_v (a := qa) (b := qb) (NL w4 i) (NH w4 i) Va.out Vb.out)
    have CHC := fun w4 (i : Below w6.heap.size w6 w4) => Lib.hid (ncmp_v (a := qb) (b := qc) (NH w4 i) (NC w4 i) Vb.out Vc.out)
    have CLC := fun w4 (i : Below w6.heap.size w6 w4) => Lib.hid (ncmp_v (a := qa) (b := qc) (NL w4 i) (NC w4 i) Va.out Vc.out)
    rw [← ht1] at CLM c1 c3
    rw [← ht2] at CMH c2
    rw [← ht3] at CHC c4
    rw [← ht4] at CLC c4
    clear ht1 ht2 ht3 ht4
    have D := CLM _ b9.out IM.out
    have KL0 := KL.out.c0; have KL1 := KL.out.c1; have KL2 := KL.out.c2; have KLl := KL.out.lt
    have KH0 := KH.out.c0; have KH1 := KH.out.c1; have KH2 := KH.out.c2; have KHl := KH.out.lt
    have Kc0 := Kc.out.c0; have Kc1 := Kc.out.c1; have Kc2 := Kc.out.c2; have Kcl := Kc.out.lt
    go_wp2_with fail
    refine D.out.mono ?_
    clear D
    rintro _ wa ⟨rfl, b⟩
    clear KL0 KL1 KL2 KLl KH0 KH1 KH2 KHl Kc0 Kc1 Kc2 Kcl
    replace KL := Lib.hid (KL.out.step (below_step obm b))
    replace KH := Lib.hid (KH.out.step (below_step obm b))
    replace Kc := Lib.hid (Kc.out.step (below_step obm b))
    replace KM := Lib.hid (KM.out.step b)
    replace IM := Lib.hid (IM.out.step b)
    replace b9 := Lib.hid (below_step b9.out b)
    replace BB := Lib.hid (below_step BB.out b)
    clear b obm
    have D := CMH _ b9.out IM.out
    have KL0 := KL.out.c0; have KL1 := KL.out.c1; have KL2 := KL.out.c2; have KLl := KL.out.lt
    have KH0 := KH.out.c0; have KH1 := KH.out.c1; have KH2 := KH.out.c2; have KHl := KH.out.lt
    have Kc0 := Kc.out.c0; have Kc1 := Kc.out.c1; have Kc2 := Kc.out.c2; have Kcl := Kc.out.lt
    have KM0 := KM.out.c0; have KM1 := KM.out.c1; have KM2 := KM.out.c2; have KMl := KM.out.lt
    go_wp2_with fail
    refine D.out.mono ?_
    clear D
    rintro _ wb ⟨rfl, b⟩
    clear KL0 KL1 KL2 KLl KH0 KH1 KH2 KHl Kc0 Kc1 Kc2 Kcl KM0 KM1 KM2 KMl
    replace KL := Lib.hid (KL.out.step b)
    replace KH := Lib.hid (KH.out.step b)
    replace Kc := Lib.hid (Kc.out.step b)
    replace KM := Lib.hid (KM.out.step b)
    replace IM := Lib.hid (IM.out.step b)
    replace b9 := Lib.hid (below_step b9.out b)
    replace BB := Lib.hid (below_step BB.out b)
    clear b
    have D := CLM _ b9.out IM.out
    have KL0 := KL.out.c0; have KL1 := KL.out.c1; have KL2 := KL.out.c2; have KLl := KL.out.lt
    have KH0 := KH.out.c0; have KH1 := KH.out.c1; have KH2 := KH.out.c2; have KHl := KH.out.lt
    have Kc0 := Kc.out.c0; have Kc1 := Kc.out.c1; have Kc2 := Kc.out.c2; have Kcl := Kc.out.lt
    have KM0 := KM.out.c0; have KM1 := KM.out.c1; have KM2 := KM.out.c2; have KMl := KM.out.lt
    go_wp2_with fail
    refine D.out.mono ?_
    clear D
    rintro _ wc ⟨rfl, b⟩
    clear KL0 KL1 KL2 KLl KH0 KH1 KH2 KHl Kc0 Kc1 Kc2 Kcl KM0 KM1 KM2 KMl
    replace KL := Lib.hid (KL.out.step b)
    replace KH := Lib.hid (KH.out.step b)
    replace Kc := Lib.hid (Kc.out.step b)
    replace b9 := Lib.hid (below_step b9.out b)
    replace BB := Lib.hid (below_step BB.out b)
    clear b KM IM CLM CMH
    have KL0 := KL.out.c0; have KL1 := KL.out.c1; have KL2 := KL.out.c2; have KLl := KL.out.lt
    have KH0 := KH.out.c0; have KH1 := KH.out.c1; have KH2 := KH.out.c2; have KHl := KH.out.lt
    have Kc0 := Kc.out.c0; have Kc1 := Kc.out.c1; have Kc2 := Kc.out.c2; have Kcl := Kc.out.lt
    have E3 := Lib.hid c3; have E4 := Lib.hid c4
    clear c3 c4
    by_cases h0 : t1 = 0
    · have hE := E3.out h0
      have f0 : (t1 == 0) = true := by simp [h0]
      have D := CSM _ b9.out
      rw [sameb_iff, decide_eq_true hE] at D
      clear hE
      go_wp2_with fail
      refine D.out.mono ?_
      clear D
      rintro _ wd ⟨rfl, b⟩
      clear KL0 KL1 KL2 KLl KH0 KH1 KH2 KHl Kc0 Kc1 Kc2 Kcl
      replace KL := Lib.hid (KL.out.step b)
      replace KH := Lib.hid (KH.out.step b)
      replace Kc := Lib.hid (Kc.out.step b)
      replace b9 := Lib.hid (below_step b9.out b)
      replace BB := Lib.hid (below_step BB.out b)
      clear b
      have KL0 := KL.out.c0; have KL1 := KL.out.c1; have KL2 := KL.out.c2; have KLl := KL.out.lt
      have KH0 := KH.out.c0; have KH1 := KH.out.c1; have KH2 := KH.out.c2; have KHl := KH.out.lt
      have Kc0 := Kc.out.c0; have Kc1 := Kc.out.c1; have Kc2 := Kc.out.c2; have Kcl := Kc.out.lt
      have D := CHC _ b9.out
      go_wp2_with fail
      refine D.out.mono ?_
      clear D
      rintro _ we ⟨rfl, b⟩
      clear KL0 KL1 KL2 KLl KH0 KH1 KH2 KHl Kc0 Kc1 Kc2 Kcl
      replace KL := Lib.hid (KL.out.step b)
      replace Kc := Lib.hid (Kc.out.step b)
      replace b9 := Lib.hid (below_step b9.out b)
      replace BB := Lib.hid (below_step BB.out b)
      clear b
      have KL0 := KL.out.c0; have KL1 := KL.out.c1; have KL2 := KL.out.c2; have KLl := KL.out.lt
      have Kc0 := Kc.out.c0; have Kc1 := Kc.out.c1; have Kc2 := Kc.out.c2; have Kcl := Kc.out.lt
      by_cases h3 : t3 ≤ 0
      · have h4 := E4.out h3
        have D := CLC _ b9.out
        go_wp2_with fail
        refine D.out.mono ?_
        clear D
        rintro _ wf ⟨rfl, b⟩
        replace BB := Lib.hid (below_step BB.out b)
        clear b
        go_wp2
        go_ret
        exact ⟨rfl, BB.out⟩
      · have h3' : 0 < t3 := by omega
        go_wp2
        go_ret
        exact ⟨rfl, BB.out⟩
    · have f0 : (t1 == 0) = false := by simpa using h0
      have D := CHC _ b9.out
      go_wp2_with fail
      refine D.out.mono ?_
      clear D
      rintro _ we ⟨rfl, b⟩
      clear KL0 KL1 KL2 KLl KH0 KH1 KH2 KHl Kc0 Kc1 Kc2 Kcl
      replace KL := Lib.hid (KL.out.step b)
      replace Kc := Lib.hid (Kc.out.step b)
      replace b9 := Lib.hid (below_step b9.out b)
      replace BB := Lib.hid (below_step BB.out b)
      clear b
      have KL0 := KL.out.c0; have KL1 := KL.out.c1; have KL2 := KL.out.c2; have KLl := KL.out.lt
      have Kc0 := Kc.out.c0; have Kc1 := Kc.out.c1; have Kc2 := Kc.out.c2; have Kcl := Kc.out.lt
      by_cases h3 : t3 ≤ 0
      · have h4 := E4.out h3
        have D := CLC _ b9.out
        go_wp2_with fail
        refine D.out.mono ?_
        clear D
        rintro _ wf ⟨rfl, b⟩
        replace BB := Lib.hid (below_step BB.out b)
        clear b
        go_wp2
        go_ret
        exact ⟨rfl, BB.out⟩
      · have h3' : 0 < t3 := by omega
        go_wp2
        go_ret
        exact ⟨rfl, BB.out⟩
  · have hle : cmpq qb qa ≤ 0 := by
      have la : -((8 : Nat) : Int) ≤ qa.e := Fa.out.bd.2.1
      have lb : -((8 : Nat) : Int) ≤ qb.e := Fb.out.bd.2.1
      rw [cmpq_le la lb] at hc
      rw [cmpq_le lb la]; omega
    obtain ⟨t0, ht0⟩ : ∃ t, t = cmpq qa qb := ⟨_, rfl⟩
    rw [← ht0] at hc ⊢
    clear ht0
    have hc' : 0 < t0 := by omega
    have Ka0 := Ka.out.c0; have Ka1 := Ka.out.c1; have Ka2 := Ka.out.c2; have Kal := Ka.out.lt
    have Kb0 := Kb.out.c0; have Kb1 := Kb.out.c1; have Kb2 := Kb.out.c2; have Kbl := Kb.out.lt
    have y0 := Ka.out.fz 0; have y1 := Ka.out.fz 1; have y2 := Ka.out.fz 2
    have z0 := Kb.out.fz 0; have z1 := Kb.out.fz 1; have z2 := Kb.out.fz 2
    obtain ⟨w7, hw7⟩ : ∃ w7, w7 = put3 (put3 w6 w5.heap.size (.bool qb.s) (.int .i64 qb.e) (.slice Ab nb cb)) (w5.heap.size + 1) (.bool qa.s) (.int .i64 qa.e) (.slice Aa na ca) := ⟨_, rfl⟩
    have b57 : Below w5.heap.size w5 w7 := by rw [hw7]; exact below_put3 (below_put3 B5.out (Nat.le_refl _) _ _ _) (by omega) _ _ _
    have KL : Hid (Bx w7 w5.heap.size qb.s qb.e Ab nb cb) := Lib.hid (by rw [hw7]; exact Bx.far3 (show Bx (put3 w6 w5.heap.size _ _ _) _ _ _ _ _ _ from Blk.putted Ka.out _ _ _) (by omega) _ _ _)
    have KH : Hid (Bx w7 (w5.heap.size + 1) qa.s qa.e Aa na ca) := Lib.hid (by rw [hw7]; exact Blk.putted (Bx.far3 Kb.out (show w5.heap.size + 1 ≠ w5.heap.size by omega) _ _ _) _ _ _)
    replace Kc : Hid (Bx w7 (w5.heap.size + 1 + 1) qc.s qc.e Ac nc cc) := Lib.hid (by rw [hw7]; exact Bx.far3 (Bx.far3 Kc.out (by omega) _ _ _) (by omega) _ _ _)
    replace BB : Hid (Below w.heap.size w w7) := Lib.hid (by rw [hw7]; exact below_put3 (below_put3 BB.out (by omega) _ _ _) (by omega) _ _ _)
    replace Ia := Lib.hid (Ja.out.step b57)
    replace Ib := Lib.hid (Jb.out.step b57)
    replace Ic := Lib.hid (Jc.out.step b57)
    have HW7 := Lib.hid hw7
    clear hw7 b57 Ja Jb Jc B5 Ka Kb
    obtain ⟨V1', V2', c1, c2, c3, c4⟩ := between Fb.out Fa.out Fc.out hle
    have R1 := Lib.hid (res_ok V1'.2); have R2 := Lib.hid (res_ok V2'.2)
    have V1 := Lib.hid V1'; have V2 := Lib.hid V2'
    have NL := fun w4 (i : Below w7.heap.size w7 w4) => Ib.out.step i
    have NH := fun w4 (i : Below w7.heap.size w7 w4) => Ia.out.step i
    have NC := fun w4 (i : Below w7.heap.size w7 w4) => Ic.out.step i
    have hhalf : nm (plus qb qa).s (plus qb qa).m ((plus qb qa).e + -1) = half (plus qb qa) := rfl
    obtain ⟨q1, hq1⟩ : ∃ q, q = plus qb qa := ⟨_, rfl⟩
    rw [← hq1] at R1 V1 R2 V2 c1 c2 c3 hhalf
    obtain ⟨q2, hq2⟩ : ∃ q, q = half q1 := ⟨_, rfl⟩
    rw [← hq2] at R2 V2 c1 c2 c3 hhalf
    have D := Lib.hid (nadd_v (a := qb) (b := qa) Ib.out Ia.out Vb.out Va.out (HT.out.below BB.out))
    rw [← hq1, R1.out] at D
    clear V1' V2' hq1 hq2
    have KL0 := KL.out.c0; have KL1 := KL.out.c1; have KL2 := KL.out.c2; have KLl := KL.out.lt
    have KH0 := KH.out.c0; have KH1 := KH.out.c1; have KH2 := KH.out.c2; have KHl := KH.out.lt
    go_wp2_with fail
    change Calls _ _ _ (put3 (put3 w6 w5.heap.size (.bool qb.s) (.int .i64 qb.e) (.slice Ab nb cb)) (w5.heap.size + 1) (.bool qa.s) (.int .i64 qa.e) (.slice Aa na ca)) _
    rw [← HW7.out]
    refine D.out.mono ?_
    clear D
    clear KL0 KL1 KL2 KLl KH0 KH1 KH2 KHl
    rintro _ w8 ⟨_, rfl, ⟨As, ns, cs, rfl, hh⟩, b⟩
    have obs := one_below w8 (.cells #[.bool q1.s, .int .i64 q1.e, .slice As ns cs] 24)
    have Is' := Lib.hid (Is.step (num_is hh) obs)
    have b8 := Lib.hid (below_step b obs)
    replace KL := Lib.hid (KL.out.step b)
    replace KH := Lib.hid (KH.out.step b)
    replace Kc := Lib.hid (Kc.out.step b)
    replace BB := Lib.hid (below_step BB.out b8.out)
    have D := Lib.hid (nscale_v (a := q1) (-1) Is'.out V1.out (HT.out.below BB.out))
    rw [hhalf, R2.out] at D
    clear hh b Is' hhalf
    go_wp2_with fail
    refine D.out.mono ?_
    clear D
    rintro _ w9 ⟨_, rfl, ⟨Am, nm', cm, rfl, hh⟩, b⟩
    have obm := one_below w9 (.cells #[.bool q2.s, .int .i64 q2.e, .slice Am nm' cm] 24)
    replace KL := Lib.hid (KL.out.step (below_step obs b))
    replace KH := Lib.hid (KH.out.step (below_step obs b))
    replace Kc := Lib.hid (Kc.out.step (below_step obs b))
    have IM := Lib.hid (Is.step (num_is hh) obm); have KM := Lib.hid (Bx.new w9 q2.s q2.e Am nm' cm)
    have b9 := Lib.hid (below_step b8.out (below_step b obm))
    replace BB := Lib.hid (below_step BB.out (below_step b obm))
    clear hh b obs b8
    obtain ⟨t1, ht1⟩ : ∃ t, t = cmpq qb q2 := ⟨_, rfl⟩
    obtain ⟨t2, ht2⟩ : ∃ t, t = cmpq q2 qa := ⟨_, rfl⟩
    obtain ⟨t3, ht3⟩ : ∃ t, t = cmpq qa qc := ⟨_, rfl⟩
    obtain ⟨t4, ht4⟩ : ∃ t, t = cmpq qb qc := ⟨_, rfl⟩
    have CLM := fun w4 (i : Below w7.heap.size w7 w4) (j : Is w4 Am nm' cm q2.m) => Lib.hid (ncmp_v (a := qb) (b := q2) (NL w4 i) j Vb.out V2.out)
    have CMH := fun w4 (i : Below w7.heap.size w7 w4) (j : Is w4 Am nm' cm q2.m) => Lib.hid (ncmp_v (a := q2) (b := qa) j (NH w4 i) V2.out Va.out)
    have CSM := fun w4 (i : Below w7.heap.size w7 w4) => Lib.hid (nsame_v (a := qb) (b := qa) (NL w4 i) (NH w4 i) Vb.out Va.out)
    have CHC := fun w4 (i : Below w7.heap.size w7 w4) => Lib.hid (ncmp_v (a := qa) (b := qc) (NH w4 i) (NC w4 i) Va.out Vc.out)
    have CLC := fun w4 (i : Below w7.heap.size w7 w4) => Lib.hid (ncmp_v (a := qb) (b := qc) (NL w4 i) (NC w4 i) Vb.out Vc.out)
    rw [← ht1] at CLM c1 c3
    rw [← ht2] at CMH c2
    rw [← ht3] at CHC c4
    rw [← ht4] at CLC c4
    clear ht1 ht2 ht3 ht4
    have D := CLM _ b9.out IM.out
    have KL0 := KL.out.c0; have KL1 := KL.out.c1; have KL2 := KL.out.c2; have KLl := KL.out.lt
    have KH0 := KH.out.c0; have KH1 := KH.out.c1; have KH2 := KH.out.c2; have KHl := KH.out.lt
    have Kc0 := Kc.out.c0; have Kc1 := Kc.out.c1; have Kc2 := Kc.out.c2; have Kcl := Kc.out.lt
    go_wp2_with fail
    refine D.out.mono ?_
    clear D
    rintro _ wa ⟨rfl, b⟩
    clear KL0 KL1 KL2 KLl KH0 KH1 KH2 KHl Kc0 Kc1 Kc2 Kcl
    replace KL := Lib.hid (KL.out.step (below_step obm b))
    replace KH := Lib.hid (KH.out.step (below_step obm b))
    replace Kc := Lib.hid (Kc.out.step (below_step obm b))
    replace KM := Lib.hid (KM.out.step b)
    replace IM := Lib.hid (IM.out.step b)
    replace b9 := Lib.hid (below_step b9.out b)
    replace BB := Lib.hid (below_step BB.out b)
    clear b obm
    have D := CMH _ b9.out IM.out
    have KL0 := KL.out.c0; have KL1 := KL.out.c1; have KL2 := KL.out.c2; have KLl := KL.out.lt
    have KH0 := KH.out.c0; have KH1 := KH.out.c1; have KH2 := KH.out.c2; have KHl := KH.out.lt
    have Kc0 := Kc.out.c0; have Kc1 := Kc.out.c1; have Kc2 := Kc.out.c2; have Kcl := Kc.out.lt
    have KM0 := KM.out.c0; have KM1 := KM.out.c1; have KM2 := KM.out.c2; have KMl := KM.out.lt
    go_wp2_with fail
    refine D.out.mono ?_
    clear D
    rintro _ wb ⟨rfl, b⟩
    clear KL0 KL1 KL2 KLl KH0 KH1 KH2 KHl Kc0 Kc1 Kc2 Kcl KM0 KM1 KM2 KMl
    replace KL := Lib.hid (KL.out.step b)
    replace KH := Lib.hid (KH.out.step b)
    replace Kc := Lib.hid (Kc.out.step b)
    replace KM := Lib.hid (KM.out.step b)
    replace IM := Lib.hid (IM.out.step b)
    replace b9 := Lib.hid (below_step b9.out b)
    replace BB := Lib.hid (below_step BB.out b)
    clear b
    have D := CLM _ b9.out IM.out
    have KL0 := KL.out.c0; have KL1 := KL.out.c1; have KL2 := KL.out.c2; have KLl := KL.out.lt
    have KH0 := KH.out.c0; have KH1 := KH.out.c1; have KH2 := KH.out.c2; have KHl := KH.out.lt
    have Kc0 := Kc.out.c0; have Kc1 := Kc.out.c1; have Kc2 := Kc.out.c2; have Kcl := Kc.out.lt
    have KM0 := KM.out.c0; have KM1 := KM.out.c1; have KM2 := KM.out.c2; have KMl := KM.out.lt
    go_wp2_with fail
    refine D.out.mono ?_
    clear D
    rintro _ wc ⟨rfl, b⟩
    clear KL0 KL1 KL2 KLl KH0 KH1 KH2 KHl Kc0 Kc1 Kc2 Kcl KM0 KM1 KM2 KMl
    replace KL := Lib.hid (KL.out.step b)
    replace KH := Lib.hid (KH.out.step b)
    replace Kc := Lib.hid (Kc.out.step b)
    replace b9 := Lib.hid (below_step b9.out b)
    replace BB := Lib.hid (below_step BB.out b)
    clear b KM IM CLM CMH
    have KL0 := KL.out.c0; have KL1 := KL.out.c1; have KL2 := KL.out.c2; have KLl := KL.out.lt
    have KH0 := KH.out.c0; have KH1 := KH.out.c1; have KH2 := KH.out.c2; have KHl := KH.out.lt
    have Kc0 := Kc.out.c0; have Kc1 := Kc.out.c1; have Kc2 := Kc.out.c2; have Kcl := Kc.out.lt
    have E3 := Lib.hid c3; have E4 := Lib.hid c4
    clear c3 c4
    by_cases h0 : t1 = 0
    · have hE := E3.out h0
      have f0 : (t1 == 0) = true := by simp [h0]
      have D := CSM _ b9.out
      rw [sameb_iff, decide_eq_true hE] at D
      clear hE
      go_wp2_with fail
      refine D.out.mono ?_
      clear D
      rintro _ wd ⟨rfl, b⟩
      clear KL0 KL1 KL2 KLl KH0 KH1 KH2 KHl Kc0 Kc1 Kc2 Kcl
      replace KL := Lib.hid (KL.out.step b)
      replace KH := Lib.hid (KH.out.step b)
      replace Kc := Lib.hid (Kc.out.step b)
      replace b9 := Lib.hid (below_step b9.out b)
      replace BB := Lib.hid (below_step BB.out b)
      clear b
      have KL0 := KL.out.c0; have KL1 := KL.out.c1; have KL2 := KL.out.c2; have KLl := KL.out.lt
      have KH0 := KH.out.c0; have KH1 := KH.out.c1; have KH2 := KH.out.c2; have KHl := KH.out.lt
      have Kc0 := Kc.out.c0; have Kc1 := Kc.out.c1; have Kc2 := Kc.out.c2; have Kcl := Kc.out.lt
      have D := CHC _ b9.out
      go_wp2_with fail
      refine D.out.mono ?_
      clear D
      rintro _ we ⟨rfl, b⟩
      clear KL0 KL1 KL2 KLl KH0 KH1 KH2 KHl Kc0 Kc1 Kc2 Kcl
      replace KL := Lib.hid (KL.out.step b)
      replace Kc := Lib.hid (Kc.out.step b)
      replace b9 := Lib.hid (below_step b9.out b)
      replace BB := Lib.hid (below_step BB.out b)
      clear b
      have KL0 := KL.out.c0; have KL1 := KL.out.c1; have KL2 := KL.out.c2; have KLl := KL.out.lt
      have Kc0 := Kc.out.c0; have Kc1 := Kc.out.c1; have Kc2 := Kc.out.c2; have Kcl := Kc.out.lt
      by_cases h3 : t3 ≤ 0
      · have h4 := E4.out h3
        have D := CLC _ b9.out
        go_wp2_with fail
        refine D.out.mono ?_
        clear D
        rintro _ wf ⟨rfl, b⟩
        replace BB := Lib.hid (below_step BB.out b)
        clear b
        go_wp2
        go_ret
        exact ⟨rfl, BB.out⟩
      · have h3' : 0 < t3 := by omega
        go_wp2
        go_ret
        exact ⟨rfl, BB.out⟩
    · have f0 : (t1 == 0) = false := by simpa using h0
      have D := CHC _ b9.out
      go_wp2_with fail
      refine D.out.mono ?_
      clear D
      rintro _ we ⟨rfl, b⟩
      clear KL0 KL1 KL2 KLl KH0 KH1 KH2 KHl Kc0 Kc1 Kc2 Kcl
      replace KL := Lib.hid (KL.out.step b)
      replace Kc := Lib.hid (Kc.out.step b)
      replace b9 := Lib.hid (below_step b9.out b)
      replace BB := Lib.hid (below_step BB.out b)
      clear b
      have KL0 := KL.out.c0; have KL1 := KL.out.c1; have KL2 := KL.out.c2; have KLl := KL.out.lt
      have Kc0 := Kc.out.c0; have Kc1 := Kc.out.c1; have Kc2 := Kc.out.c2; have Kcl := Kc.out.lt
      by_cases h3 : t3 ≤ 0
      · have h4 := E4.out h3
        have D := CLC _ b9.out
        go_wp2_with fail
        refine D.out.mono ?_
        clear D
        rintro _ wf ⟨rfl, b⟩
        replace BB := Lib.hid (below_step BB.out b)
        clear b
        go_wp2
        go_ret
        exact ⟨rfl, BB.out⟩
      · have h3' : 0 < t3 := by omega
        go_wp2
        go_ret
        exact ⟨rfl, BB.out⟩
end Go.Proofs.YtimkifkikcohgaaDoor
