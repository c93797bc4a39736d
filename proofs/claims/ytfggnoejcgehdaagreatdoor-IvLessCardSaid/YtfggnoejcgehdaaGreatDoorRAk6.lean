/- Sums, differences and products of intervals: they hold those of what lies in the operands, and those of the intervals inside. -/
import Derived.Test.YtfggnoejcgehdaaGreatDoorRAk5
import Derived.Test.YtfggnoejcgehdaaGreatDoorRAkG
namespace Go.Proofs.YtfggnoejcgehdaaGreatDoor
open Go.RowKit Nx
set_option linter.unusedVariables false
set_option linter.unusedSimpArgs false
section
variable {z : Int} {E K : Nat} {L G L' G' r : Q}
theorem val_rnd {up : Bool} (hz : prl z = true) (h : Bd K L) (hK : 2 * K + 257 ≤ 65536) : Valid (rnd z.toNat up L) := ⟨rnd_canon _ _ _, fits_rnd h (by have := (prl_two hz).1; omega) (prl_two hz).2 hK⟩
theorem hold (hz : prl z = true) (bL : Bd K L) (bG : Bd K G) (hK : 2 * K + 257 ≤ 65536) (lL : -(E : Int) ≤ L.e) (lG : -(E : Int) ≤ G.e) (lr : -(E : Int) ≤ r.e) (vr : Valid r) (h1 : L.at E ≤ r.at E) (h2 : r.at E ≤ G.at E) :
    ∃ s, endsQ (rnd z.toNat false L) (rnd z.toNat true G) = (s, 0) ∧ hasJ s (qx r) = true := by
  have hp : 1 ≤ z.toNat := by have := (prl_two hz).1; omega
  have va := val_rnd (up := false) hz bL hK
  have vb := val_rnd (up := true) hz bG hK
  have hc := out_ok (p := z.toNat) hp lL lG (Int.le_trans h1 h2)
  exact ⟨_, (ends_ok va vb hc).1, ends_has va vb vr (out_has lL lr h1) (out_has' lG lr h2) hc⟩
theorem less (hz : prl z = true) (bL : Bd K L) (bG : Bd K G) (bL' : Bd K L') (bG' : Bd K G') (hK : 2 * K + 257 ≤ 65536) (lL : -(E : Int) ≤ L.e) (lG : -(E : Int) ≤ G.e) (lL' : -(E : Int) ≤ L'.e) (lG' : -(E : Int) ≤ G'.e)
    (h1 : L.at E ≤ L'.at E) (h2 : L'.at E ≤ G'.at E) (h3 : G'.at E ≤ G.at E) :
    ∃ s t, endsQ (rnd z.toNat false L) (rnd z.toNat true G) = (s, 0) ∧ endsQ (rnd z.toNat false L') (rnd z.toNat true G') = (t, 0) ∧ inJ t s = true := by
  have hp : 1 ≤ z.toNat := by have := (prl_two hz).1; omega
  have va := val_rnd (up := false) hz bL hK
  have vb := val_rnd (up := true) hz bG hK
  have vc := val_rnd (up := false) hz bL' hK
  have vd := val_rnd (up := true) hz bG' hK
  have hc := out_ok (p := z.toNat) hp lL lG (Int.le_trans h1 (Int.le_trans h2 h3))
  have hc' := out_ok (p := z.toNat) hp lL' lG' h2
  exact ⟨_, _, (ends_ok va vb hc).1, (ends_ok vc vd hc').1, ends_in va vb vc vd (out_mono hp lL lL' h1) (out_mono hp lG' lG h3) hc' hc⟩
end
section
variable {j j1 : J} {z : Int}
theorem op0 (h : okJ j = true) (h1 : okJ j1 = true) (hz : prl z = true) : opQ 0 j j1 z = endsQ (rnd z.toNat false (plus j.lo.q j1.lo.q)) (rnd z.toNat true (plus j.hi.q j1.hi.q)) := by
  unfold opQ; rw [h, h1, prl_prb, hz]; rfl
theorem op1 (h : okJ j = true) (h1 : okJ j1 = true) (hz : prl z = true) : opQ 1 j j1 z = endsQ (rnd z.toNat false (minus j.lo.q j1.hi.q)) (rnd z.toNat true (minus j.hi.q j1.lo.q)) := by
  unfold opQ; rw [h, h1, prl_prb, hz]; rfl
theorem op2 (h : okJ j = true) (h1 : okJ j1 = true) (hz : prl z = true) : opQ 2 j j1 z = endsQ (rnd z.toNat false (leastQ j.lo.q j.hi.q j1.lo.q j1.hi.q)) (rnd z.toNat true (greatQ j.lo.q j.hi.q j1.lo.q j1.hi.q)) := by
  unfold opQ; rw [h, h1, prl_prb, hz]; rfl
def BdJ (k : Nat) (j : J) : Prop := Bd k j.lo.q ∧ Bd k j.hi.q
variable {x y : X} {k : Nat}
theorem hold_add (hg : Good j) (hg1 : Good j1) (hz : prl z = true) (b : BdJ k j) (b1 : BdJ k j1) (hk : k ≤ 1000) (hx : GX x) (hy : GX y) (h : hasJ j x = true) (h1 : hasJ j1 y = true) (bx : Bd k x.q) (by' : Bd k y.q) :
    (∃ s, addJ j j1 z = (s, 0) ∧ hasJ s (qx (plus x.q y.q)) = true) ∧ two plus x y = (plus x.q y.q, 0) := by
  have ex := ok_e hx.1
  have ey := ok_e hy.1
  obtain ⟨a1, a2, _⟩ := okJ_parts hg.1
  obtain ⟨c1, c2, _⟩ := okJ_parts hg1.1
  have f : Fits (plus x.q y.q) := (bd_plus bx by').fits (by omega)
  refine ⟨?_, by rw [two_ok hx.1 hy.1, res_ok f]⟩
  rw [add_eq, op0 hg.1 hg1.1 hz]
  have v := has_v h
  have v1 := has_v h1
  refine hold (E := 65536) hz (bd_plus b.1 b1.1) (bd_plus b.2 b1.2) (by omega) (low_plus (ok_e a1) (ok_e c1)) (low_plus (ok_e a2) (ok_e c2)) (low_plus ex ey) ⟨ofz_canon _ _, f⟩ ?_ ?_
  · rw [at_plus (ok_e a1) (ok_e c1), at_plus ex ey]; exact Int.add_le_add v.2.2.1 v1.2.2.1
  · rw [at_plus (ok_e a2) (ok_e c2), at_plus ex ey]; exact Int.add_le_add v.2.2.2 v1.2.2.2
theorem hold_sub (hg : Good j) (hg1 : Good j1) (hz : prl z = true) (b : BdJ k j) (b1 : BdJ k j1) (hk : k ≤ 1000) (hx : GX x) (hy : GX y) (h : hasJ j x = true) (h1 : hasJ j1 y = true) (bx : Bd k x.q) (by' : Bd k y.q) :
    (∃ s, subJ j j1 z = (s, 0) ∧ hasJ s (qx (minus x.q y.q)) = true) ∧ two minus x y = (minus x.q y.q, 0) := by
  have ex := ok_e hx.1
  have ey := ok_e hy.1
  obtain ⟨a1, a2, _⟩ := okJ_parts hg.1
  obtain ⟨c1, c2, _⟩ := okJ_parts hg1.1
  have k1 := (ok_arg c1 hg1.2.lo).1
  have k2 := (ok_arg c2 hg1.2.hi).1
  have ky := (ok_arg hy.1 hy.2).1
  have f : Fits (minus x.q y.q) := (bd_minus bx by').fits (by omega)
  refine ⟨?_, by rw [two_ok hx.1 hy.1, res_ok f]⟩
  rw [sub_eq, op1 hg.1 hg1.1 hz]
  have v := has_v h
  have v1 := has_v h1
  refine hold (E := 65536) hz (bd_minus b.1 b1.2) (bd_minus b.2 b1.1) (by omega) (low_minus k2 (ok_e a1) (ok_e c2)) (low_minus k1 (ok_e a2) (ok_e c1)) (low_minus ky ex ey) ⟨ofz_canon _ _, f⟩ ?_ ?_
  · rw [at_minus k2 (ok_e a1) (ok_e c2), at_minus ky ex ey]; exact Int.sub_le_sub v.2.2.1 v1.2.2.2
  · rw [at_minus k1 (ok_e a2) (ok_e c1), at_minus ky ex ey]; exact Int.sub_le_sub v.2.2.2 v1.2.2.1
theorem low_least {E : Nat} {x y u v : Q} (hx : -(E : Int) ≤ x.e) (hy : -(E : Int) ≤ y.e) (hu : -(E : Int) ≤ u.e) (hv : -(E : Int) ≤ v.e) : -((E + E : Nat) : Int) ≤ (leastQ x y u v).e := by
  rcases least_in x y u v with h | h | h | h <;> rw [h]
  · exact low_times hx hu
  · exact low_times hy hu
  · exact low_times hx hv
  · exact low_times hy hv
theorem least_canon (x y u v : Q) : Canon (leastQ x y u v) := by
  rcases least_in x y u v with h | h | h | h <;> rw [h] <;> exact ofz_canon _ _
theorem low_great {E : Nat} {x y u v : Q} (cx : Canon x) (cy : Canon y) (hx : -(E : Int) ≤ x.e) (hy : -(E : Int) ≤ y.e) (hu : -(E : Int) ≤ u.e) (hv : -(E : Int) ≤ v.e) : -((E + E : Nat) : Int) ≤ (greatQ x y u v).e := by
  unfold greatQ
  rw [e_neg (least_canon _ _ _ _)]
  exact low_least (by rw [e_neg cy]; exact hy) (by rw [e_neg cx]; exact hx) hu hv
theorem hold_mul (hg : Good j) (hg1 : Good j1) (hz : prl z = true) (b : BdJ k j) (b1 : BdJ k j1) (hk : k ≤ 1000) (hx : GX x) (hy : GX y) (h : hasJ j x = true) (h1 : hasJ j1 y = true) (bx : Bd k x.q) (by' : Bd k y.q) :
    (∃ s, mulJ j j1 z = (s, 0) ∧ hasJ s (qx (times x.q y.q)) = true) ∧ two times x y = (times x.q y.q, 0) := by
  have ex := ok_e hx.1
  have ey := ok_e hy.1
  obtain ⟨a1, a2, _⟩ := okJ_parts hg.1
  obtain ⟨c1, c2, _⟩ := okJ_parts hg1.1
  have k1 := (ok_arg a1 hg.2.lo).1
  have k2 := (ok_arg a2 hg.2.hi).1
  have kx := (ok_arg hx.1 hx.2).1
  have f : Fits (times x.q y.q) := (bd_times bx by').fits (by omega)
  refine ⟨?_, by rw [two_ok hx.1 hy.1, res_ok f]⟩
  rw [mul_eq hg.2 hg1.2, op2 hg.1 hg1.1 hz]
  have v := has_v h
  have v1 := has_v h1
  refine hold (E := 65536 + 65536) hz (bd_least b.1 b.2 b1.1 b1.2) (bd_great b.1 b.2 b1.1 b1.2) (by omega) (low_least (ok_e a1) (ok_e a2) (ok_e c1) (ok_e c2)) (low_great k1 k2 (ok_e a1) (ok_e a2) (ok_e c1) (ok_e c2)) (low_times ex ey) ⟨ofz_canon _ _, f⟩ ?_ ?_
  · rw [at_times ex ey]; exact least_le (ok_e a1) (ok_e a2) (ok_e c1) (ok_e c2) v.2.2.1 v.2.2.2 v1.2.2.1 v1.2.2.2
  · rw [at_times ex ey]; exact great_ge k1 k2 kx (ok_e a1) (ok_e a2) (ok_e c1) (ok_e c2) v.2.2.1 v.2.2.2 v1.2.2.1 v1.2.2.2
end
end Go.Proofs.YtfggnoejcgehdaaGreatDoor
namespace Go.Proofs.YtfggnoejcgehdaaGreatDoor
open Go.RowKit Nx
set_option linter.unusedVariables false
set_option linter.unusedSimpArgs false
theorem least_mono {E : Nat} {X Y U V X' Y' U' V' : Q} (lX : -(E : Int) ≤ X.e) (lY : -(E : Int) ≤ Y.e) (lU : -(E : Int) ≤ U.e) (lV : -(E : Int) ≤ V.e) (lX' : -(E : Int) ≤ X'.e) (lY' : -(E : Int) ≤ Y'.e) (lU' : -(E : Int) ≤ U'.e) (lV' : -(E : Int) ≤ V'.e)
    (h1 : X.at E ≤ X'.at E) (h2 : Y'.at E ≤ Y.at E) (h3 : U.at E ≤ U'.at E) (h4 : V'.at E ≤ V.at E) (hx : X'.at E ≤ Y'.at E) (hu : U'.at E ≤ V'.at E) : (leastQ X Y U V).at (E + E) ≤ (leastQ X' Y' U' V').at (E + E) := by
  rcases least_in X' Y' U' V' with h | h | h | h <;> rw [h]
  · rw [at_times lX' lU']; exact least_le lX lY lU lV h1 (by omega) h3 (by omega)
  · rw [at_times lY' lU']; exact least_le lX lY lU lV (by omega) h2 h3 (by omega)
  · rw [at_times lX' lV']; exact least_le lX lY lU lV h1 (by omega) (by omega) h4
  · rw [at_times lY' lV']; exact least_le lX lY lU lV (by omega) h2 (by omega) h4
theorem great_mono {E : Nat} {X Y U V X' Y' U' V' : Q} (cX : Canon X) (cY : Canon Y) (cX' : Canon X') (cY' : Canon Y') (lX : -(E : Int) ≤ X.e) (lY : -(E : Int) ≤ Y.e) (lU : -(E : Int) ≤ U.e) (lV : -(E : Int) ≤ V.e) (lX' : -(E : Int) ≤ X'.e) (lY' : -(E : Int) ≤ Y'.e) (lU' : -(E : Int) ≤ U'.e) (lV' : -(E : Int) ≤ V'.e)
    (h1 : X.at E ≤ X'.at E) (h2 : Y'.at E ≤ Y.at E) (h3 : U.at E ≤ U'.at E) (h4 : V'.at E ≤ V.at E) (hx : X'.at E ≤ Y'.at E) (hu : U'.at E ≤ V'.at E) : (greatQ X' Y' U' V').at (E + E) ≤ (greatQ X Y U V).at (E + E) := by
  unfold greatQ
  rw [at_neg (least_canon _ _ _ _), at_neg (least_canon _ _ _ _)]
  have := least_mono (E := E) (X := Y.neg) (Y := X.neg) (U := U) (V := V) (X' := Y'.neg) (Y' := X'.neg) (U' := U') (V' := V') (by rw [e_neg cY]; exact lY) (by rw [e_neg cX]; exact lX) lU lV (by rw [e_neg cY']; exact lY') (by rw [e_neg cX']; exact lX') lU' lV'
    (by rw [at_neg cY, at_neg cY']; omega) (by rw [at_neg cX, at_neg cX']; omega) h3 h4 (by rw [at_neg cX', at_neg cY']; omega) hu
  omega
def Sub (i j : J) : Prop := j.lo.v ≤ i.lo.v ∧ i.hi.v ≤ j.hi.v
section
variable {j j1 i i1 : J} {z : Int} {k : Nat}
theorem j_facts (hg : Good j) : (-((65536 : Nat) : Int) ≤ j.lo.q.e ∧ -((65536 : Nat) : Int) ≤ j.hi.q.e) ∧ (Canon j.lo.q ∧ Canon j.hi.q) ∧ j.lo.q.at 65536 ≤ j.hi.q.at 65536 := by
  obtain ⟨a1, a2, a3⟩ := okJ_parts hg.1
  exact ⟨⟨ok_e a1, ok_e a2⟩, ⟨(ok_arg a1 hg.2.lo).1, (ok_arg a2 hg.2.hi).1⟩, (cmpx_le a1 a2).1 a3⟩
theorem less_add (hg : Good j) (hg1 : Good j1) (hi : Good i) (hi1 : Good i1) (hz : prl z = true) (b : BdJ k j) (b1 : BdJ k j1) (c : BdJ k i) (c1 : BdJ k i1) (hk : k ≤ 1000) (h : Sub i j) (h1 : Sub i1 j1) :
    ∃ s t, addJ j j1 z = (s, 0) ∧ addJ i i1 z = (t, 0) ∧ inJ t s = true := by
  rw [add_eq, add_eq, op0 hg.1 hg1.1 hz, op0 hi.1 hi1.1 hz]
  obtain ⟨⟨l1, l2⟩, _, _⟩ := j_facts hg
  obtain ⟨⟨l3, l4⟩, _, _⟩ := j_facts hg1
  obtain ⟨⟨m1, m2⟩, _, n1⟩ := j_facts hi
  obtain ⟨⟨m3, m4⟩, _, n2⟩ := j_facts hi1
  refine less (E := 65536) hz (bd_plus b.1 b1.1) (bd_plus b.2 b1.2) (bd_plus c.1 c1.1) (bd_plus c.2 c1.2) (by omega) (low_plus l1 l3) (low_plus l2 l4) (low_plus m1 m3) (low_plus m2 m4) ?_ ?_ ?_
  · rw [at_plus l1 l3, at_plus m1 m3]; exact Int.add_le_add h.1 h1.1
  · rw [at_plus m1 m3, at_plus m2 m4]; exact Int.add_le_add n1 n2
  · rw [at_plus m2 m4, at_plus l2 l4]; exact Int.add_le_add h.2 h1.2
theorem less_sub (hg : Good j) (hg1 : Good j1) (hi : Good i) (hi1 : Good i1) (hz : prl z = true) (b : BdJ k j) (b1 : BdJ k j1) (c : BdJ k i) (c1 : BdJ k i1) (hk : k ≤ 1000) (h : Sub i j) (h1 : Sub i1 j1) :
    ∃ s t, subJ j j1 z = (s, 0) ∧ subJ i i1 z = (t, 0) ∧ inJ t s = true := by
  rw [sub_eq, sub_eq, op1 hg.1 hg1.1 hz, op1 hi.1 hi1.1 hz]
  obtain ⟨⟨l1, l2⟩, _, _⟩ := j_facts hg
  obtain ⟨⟨l3, l4⟩, ⟨k3, k4⟩, _⟩ := j_facts hg1
  obtain ⟨⟨m1, m2⟩, _, n1⟩ := j_facts hi
  obtain ⟨⟨m3, m4⟩, ⟨p3, p4⟩, n2⟩ := j_facts hi1
  refine less (E := 65536) hz (bd_minus b.1 b1.2) (bd_minus b.2 b1.1) (bd_minus c.1 c1.2) (bd_minus c.2 c1.1) (by omega) (low_minus k4 l1 l4) (low_minus k3 l2 l3) (low_minus p4 m1 m4) (low_minus p3 m2 m3) ?_ ?_ ?_
  · rw [at_minus k4 l1 l4, at_minus p4 m1 m4]; exact Int.sub_le_sub h.1 h1.2
  · rw [at_minus p4 m1 m4, at_minus p3 m2 m3]; exact Int.sub_le_sub n1 n2
  · rw [at_minus p3 m2 m3, at_minus k3 l2 l3]; exact Int.sub_le_sub h.2 h1.1
theorem less_mul (hg : Good j) (hg1 : Good j1) (hi : Good i) (hi1 : Good i1) (hz : prl z = true) (b : BdJ k j) (b1 : BdJ k j1) (c : BdJ k i) (c1 : BdJ k i1) (hk : k ≤ 1000) (h : Sub i j) (h1 : Sub i1 j1) :
    ∃ s t, mulJ j j1 z = (s, 0) ∧ mulJ i i1 z = (t, 0) ∧ inJ t s = true := by
  rw [mul_eq hg.2 hg1.2, mul_eq hi.2 hi1.2, op2 hg.1 hg1.1 hz, op2 hi.1 hi1.1 hz]
  obtain ⟨⟨l1, l2⟩, ⟨k1, k2⟩, _⟩ := j_facts hg
  obtain ⟨⟨l3, l4⟩, ⟨k3, k4⟩, _⟩ := j_facts hg1
  obtain ⟨⟨m1, m2⟩, ⟨p1, p2⟩, n1⟩ := j_facts hi
  obtain ⟨⟨m3, m4⟩, ⟨p3, p4⟩, n2⟩ := j_facts hi1
  refine less (E := 65536 + 65536) hz (bd_least b.1 b.2 b1.1 b1.2) (bd_great b.1 b.2 b1.1 b1.2) (bd_least c.1 c.2 c1.1 c1.2) (bd_great c.1 c.2 c1.1 c1.2) (by omega) (low_least l1 l2 l3 l4) (low_great k1 k2 l1 l2 l3 l4) (low_least m1 m2 m3 m4) (low_great p1 p2 m1 m2 m3 m4) ?_ ?_ ?_
  · exact least_mono l1 l2 l3 l4 m1 m2 m3 m4 h.1 h.2 h1.1 h1.2 n1 n2
  · exact Int.le_trans (least_le (a := i.lo.q) (b := i1.lo.q) m1 m2 m3 m4 (Int.le_refl _) n1 (Int.le_refl _) n2) (great_ge (a := i.lo.q) (b := i1.lo.q) p1 p2 p1 m1 m2 m3 m4 (Int.le_refl _) n1 (Int.le_refl _) n2)
  · exact great_mono k1 k2 p1 p2 l1 l2 l3 l4 m1 m2 m3 m4 h.1 h.2 h1.1 h1.2 n1 n2
end
end Go.Proofs.YtfggnoejcgehdaaGreatDoor
namespace Go.Proofs.YtfggnoejcgehdaaGreatDoor
open Go.RowKit Nx
set_option linter.unusedVariables false
set_option linter.unusedSimpArgs false
noncomputable def powL (j : J) (k : Int) : Q := bif decide (0 < k) && (k.tmod 2 == 0) && hasJ j zX then q0 else bif decide (0 < cmpq (pw j.lo.q k.toNat) (pw j.hi.q k.toNat)) then pw j.hi.q k.toNat else pw j.lo.q k.toNat
noncomputable def powG (j : J) (k : Int) : Q := bif decide (0 < cmpq (pw j.lo.q k.toNat) (pw j.hi.q k.toNat)) then pw j.lo.q k.toNat else pw j.hi.q k.toNat
theorem rpow_is {j : J} {k z : Int} (h : okJ j = true) (h0 : 0 ≤ k) (h8 : k ≤ 8) (hz : prl z = true) : rpow j k z = endsQ (rnd z.toNat false (powL j k)) (rnd z.toNat true (powG j k)) := by
  unfold rpow; rw [h, prl_prb, hz, decide_eq_false (show ¬ k < 0 by omega), decide_eq_false (show ¬ 8 < k by omega)]; rfl
section
variable {a b u : Int} {n : Nat}
theorem pow_most (h1 : a ≤ u) (h2 : u ≤ b) : u ^ n ≤ a ^ n ∨ u ^ n ≤ b ^ n := by
  rcases Nat.mod_two_eq_zero_or_one n with hn | hn
  · rw [pow_even hn, pow_even hn, pow_even hn]
    by_cases hu : 0 ≤ u
    · right; exact Int.ofNat_le.2 (Nat.pow_le_pow_left (by omega) n)
    · left; exact Int.ofNat_le.2 (Nat.pow_le_pow_left (by omega) n)
  · right; exact pow_odd hn h2
theorem pow_least (h1 : a ≤ u) (h2 : u ≤ b) (hn : ¬ (0 < n ∧ n % 2 = 0 ∧ a ≤ 0 ∧ 0 ≤ b)) : a ^ n ≤ u ^ n ∨ b ^ n ≤ u ^ n := by
  rcases Nat.mod_two_eq_zero_or_one n with hm | hm
  · by_cases h0 : n = 0
    · subst h0; left; rw [Int.pow_zero, Int.pow_zero]; exact Int.le_refl _
    · rw [pow_even hm, pow_even hm, pow_even hm]
      by_cases ha : a ≤ 0
      · right; exact Int.ofNat_le.2 (Nat.pow_le_pow_left (by omega) n)
      · left; exact Int.ofNat_le.2 (Nat.pow_le_pow_left (by omega) n)
  · left; exact pow_odd hm h1
theorem pow_nonneg2 (hn : n % 2 = 0) : 0 ≤ u ^ n := by rw [pow_even hn]; exact Int.natCast_nonneg _
end
section
variable {j i : J} {k z : Int} {K : Nat}
theorem even_is (h0 : 0 ≤ k) : (decide (0 < k) && (k.tmod 2 == 0)) = true ↔ 0 < k.toNat ∧ k.toNat % 2 = 0 := by
  rw [tmod_two h0, Bool.and_eq_true, decide_eq_true_eq, beq_iff_eq]
  constructor
  · rintro ⟨h1, h2⟩; exact ⟨by omega, h2⟩
  · rintro ⟨h1, h2⟩; exact ⟨by omega, h2⟩
theorem powL_low (hg : Good j) : -((k.toNat * 65536 : Nat) : Int) ≤ (powL j k).e := by
  obtain ⟨⟨l1, l2⟩, _, _⟩ := j_facts hg
  unfold powL
  cases decide (0 < k) && (k.tmod 2 == 0) && hasJ j zX
  · cases decide (0 < cmpq (pw j.lo.q k.toNat) (pw j.hi.q k.toNat))
    · exact pw_low l1 _
    · exact pw_low l2 _
  · show -((k.toNat * 65536 : Nat) : Int) ≤ 0; omega
theorem powG_low (hg : Good j) : -((k.toNat * 65536 : Nat) : Int) ≤ (powG j k).e := by
  obtain ⟨⟨l1, l2⟩, _, _⟩ := j_facts hg
  unfold powG
  cases decide (0 < cmpq (pw j.lo.q k.toNat) (pw j.hi.q k.toNat))
  · exact pw_low l2 _
  · exact pw_low l1 _
theorem powL_le {u : Q} (hg : Good j) (h0 : 0 ≤ k) (lu : -((65536 : Nat) : Int) ≤ u.e) (h1 : j.lo.v ≤ u.at 65536) (h2 : u.at 65536 ≤ j.hi.v) : (powL j k).at (k.toNat * 65536) ≤ (pw u k.toNat).at (k.toNat * 65536) := by
  obtain ⟨⟨l1, l2⟩, _, _⟩ := j_facts hg
  obtain ⟨a1, a2, _⟩ := okJ_parts hg.1
  have hc := cmp_pw a1 a2 k.toNat
  have e1 : (pw j.lo.q k.toNat).at (k.toNat * 65536) = j.lo.v ^ k.toNat := pw_at l1 _
  have e2 : (pw j.hi.q k.toNat).at (k.toNat * 65536) = j.hi.v ^ k.toNat := pw_at l2 _
  rw [pw_at lu]
  unfold powL
  cases hb : decide (0 < k) && (k.tmod 2 == 0) && hasJ j zX
  · have hn : ¬ (0 < k.toNat ∧ k.toNat % 2 = 0 ∧ j.lo.v ≤ 0 ∧ 0 ≤ j.hi.v) := fun g => by
      have g1 := (even_is h0).2 ⟨g.1, g.2.1⟩
      rw [g1, Bool.true_and, has_zero hg.1, decide_eq_true g.2.2.1, decide_eq_true g.2.2.2] at hb
      cases hb
    have hl := pow_least (n := k.toNat) h1 h2 hn
    cases hd : decide (0 < cmpq (pw j.lo.q k.toNat) (pw j.hi.q k.toNat))
    · have hd := of_decide_eq_false hd
      rw [hc] at hd
      show (pw j.lo.q k.toNat).at _ ≤ _
      rw [e1]; omega
    · have hd := of_decide_eq_true hd
      rw [hc] at hd
      show (pw j.hi.q k.toNat).at _ ≤ _
      rw [e2]; omega
  · rw [Bool.and_eq_true] at hb
    show q0.at _ ≤ _
    rw [at_q0]; exact pow_nonneg2 ((even_is h0).1 hb.1).2
theorem powG_ge {u : Q} (hg : Good j) (lu : -((65536 : Nat) : Int) ≤ u.e) (h1 : j.lo.v ≤ u.at 65536) (h2 : u.at 65536 ≤ j.hi.v) : (pw u k.toNat).at (k.toNat * 65536) ≤ (powG j k).at (k.toNat * 65536) := by
  obtain ⟨⟨l1, l2⟩, _, _⟩ := j_facts hg
  obtain ⟨a1, a2, _⟩ := okJ_parts hg.1
  have hc := cmp_pw a1 a2 k.toNat
  have e1 : (pw j.lo.q k.toNat).at (k.toNat * 65536) = j.lo.v ^ k.toNat := pw_at l1 _
  have e2 : (pw j.hi.q k.toNat).at (k.toNat * 65536) = j.hi.v ^ k.toNat := pw_at l2 _
  rw [pw_at lu]
  have hm := pow_most (n := k.toNat) h1 h2
  unfold powG
  cases hd : decide (0 < cmpq (pw j.lo.q k.toNat) (pw j.hi.q k.toNat))
  · have hd := of_decide_eq_false hd
    rw [hc] at hd
    show _ ≤ (pw j.hi.q k.toNat).at _
    rw [e2]; omega
  · have hd := of_decide_eq_true hd
    rw [hc] at hd
    show _ ≤ (pw j.lo.q k.toNat).at _
    rw [e1]; omega
theorem powL_bd (hg : Good j) (h8 : k ≤ 8) (b : BdJ K j) : Bd (8 * K + 1) (powL j k) := by
  obtain ⟨_, ⟨c1, c2⟩, _⟩ := j_facts hg
  unfold powL
  cases decide (0 < k) && (k.tmod 2 == 0) && hasJ j zX
  · cases decide (0 < cmpq (pw j.lo.q k.toNat) (pw j.hi.q k.toNat))
    · exact bd_pw c1 b.1 (by omega)
    · exact bd_pw c2 b.2 (by omega)
  · exact ⟨Nat.two_pow_pos _, by show -((8 * K + 1 : Nat) : Int) ≤ 0; omega, by show (0 : Int) ≤ _; omega⟩
theorem powG_bd (hg : Good j) (h8 : k ≤ 8) (b : BdJ K j) : Bd (8 * K + 1) (powG j k) := by
  obtain ⟨_, ⟨c1, c2⟩, _⟩ := j_facts hg
  unfold powG
  cases decide (0 < cmpq (pw j.lo.q k.toNat) (pw j.hi.q k.toNat))
  · exact bd_pw c2 b.2 (by omega)
  · exact bd_pw c1 b.1 (by omega)
theorem pw_two (q : Q) (hq : Canon q) : pw q 2 = times q q := by
  rw [pw_ofz]
  show ofz (q.z ^ 2) (2 * q.e) = ofz (q.z * q.z) (q.e + q.e)
  rw [show q.z ^ 2 = q.z * q.z from Int.pow_succ .. |>.trans (by rw [show q.z ^ 1 = q.z from Int.pow_one ..]), show (2 : Int) * q.e = q.e + q.e by omega]
theorem hold_sq {x : X} (hg : Good j) (hz : prl z = true) (b : BdJ K j) (hK : K ≤ 1000) (hx : GX x) (h : hasJ j x = true) (bx : Bd K x.q) : (∃ s, powJ j 2 z = (s, 0) ∧ hasJ s (qx (times x.q x.q)) = true) ∧ two times x x = (times x.q x.q, 0) := by
  have ex := ok_e hx.1
  have cx := (ok_arg hx.1 hx.2).1
  have f : Fits (times x.q x.q) := (bd_times bx bx).fits (by omega)
  refine ⟨?_, by rw [two_ok hx.1 hx.1, res_ok f]⟩
  rw [pow_eq hg.2, rpow_is hg.1 (by omega) (by omega) hz]
  have v := has_v h
  have e2 : (2 : Int).toNat = 2 := rfl
  have p1 := powL_le (k := 2) hg (by omega) ex v.2.2.1 v.2.2.2
  have p2 := powG_ge (k := 2) hg ex v.2.2.1 v.2.2.2
  have l1 := powL_low (k := 2) hg
  have l2 := powG_low (k := 2) hg
  rw [e2, pw_two x.q cx] at p1 p2
  rw [e2] at l1 l2
  exact hold (E := 2 * 65536) hz (powL_bd (k := 2) hg (by omega) b) (powG_bd (k := 2) hg (by omega) b) (by omega) l1 l2 (by rw [← pw_two x.q cx]; exact pw_low ex 2) ⟨ofz_canon _ _, f⟩ p1 p2
theorem less_pow (hg : Good j) (hi : Good i) (h0 : 0 ≤ k) (h8 : k ≤ 8) (hz : prl z = true) (b : BdJ K j) (c : BdJ K i) (hK : K ≤ 1000) (h : Sub i j) : ∃ s t, powJ j k z = (s, 0) ∧ powJ i k z = (t, 0) ∧ inJ t s = true := by
  rw [pow_eq hg.2, pow_eq hi.2, rpow_is hg.1 h0 h8 hz, rpow_is hi.1 h0 h8 hz]
  obtain ⟨⟨m1, m2⟩, _, n⟩ := j_facts hi
  have q1 : j.lo.v ≤ i.lo.q.at 65536 := h.1
  have q2 : i.hi.q.at 65536 ≤ j.hi.v := h.2
  refine less (E := k.toNat * 65536) hz (powL_bd hg h8 b) (powG_bd hg h8 b) (powL_bd hi h8 c) (powG_bd hi h8 c) (by omega) (powL_low hg) (powG_low hg) (powL_low hi) (powG_low hi) ?_ ?_ ?_
  · conv => rhs; unfold powL
    cases hb : decide (0 < k) && (k.tmod 2 == 0) && hasJ i zX
    · cases decide (0 < cmpq (pw i.lo.q k.toNat) (pw i.hi.q k.toNat))
      · exact powL_le hg h0 m1 q1 (by omega)
      · exact powL_le hg h0 m2 (by omega) q2
    · rw [Bool.and_eq_true] at hb
      have hv := has_v hb.2
      rw [zX_v] at hv
      have f1 := h.1
      have f2 := h.2
      show _ ≤ q0.at _
      unfold powL
      rw [hb.1, has_zero hg.1, decide_eq_true (show j.lo.v ≤ 0 by omega), decide_eq_true (show 0 ≤ j.hi.v by omega)]
      exact Int.le_refl _
  · exact Int.le_trans (powL_le (u := i.lo.q) hi h0 m1 (Int.le_refl _) n) (powG_ge (u := i.lo.q) hi m1 (Int.le_refl _) n)
  · conv => lhs; unfold powG
    cases decide (0 < cmpq (pw i.lo.q k.toNat) (pw i.hi.q k.toNat))
    · exact powG_ge hg m2 (by omega) q2
    · exact powG_ge hg m1 q1 (by omega)
end
end Go.Proofs.YtfggnoejcgehdaaGreatDoor
namespace Go.Proofs.YtfggnoejcgehdaaGreatDoor
open Go.RowKit Nx
set_option linter.unusedVariables false
set_option linter.unusedSimpArgs false
section
variable {r u v x y X Y T D D' x' y' u' v' : Int}
theorem back1 (hT : 0 ≤ T) (hu : 0 < u) (hY : u ≤ Y) (hV : Y ≤ v) (hX : x ≤ X) (h : r * (if x < 0 then u else v) ≤ x * T) : r * Y ≤ X * T := by
  have h1 : x * T ≤ X * T := mn_right hX hT
  by_cases hr : r ≤ 0
  · by_cases hx : x < 0
    · rw [if_pos hx] at h
      have : r * Y ≤ r * u := mp_left hY hr
      omega
    · rw [if_neg hx] at h
      have h2 : r * Y ≤ 0 := by have := mp_left (show 0 ≤ Y by omega) hr; rw [Int.mul_zero] at this; exact this
      have h3 : 0 ≤ x * T := Int.mul_nonneg (by omega) hT
      omega
  · by_cases hx : x < 0
    · rw [if_pos hx] at h
      have h2 : 0 < r * u := Int.mul_pos (by omega) hu
      have h3 : x * T ≤ 0 := by have := mn_right (show x ≤ 0 by omega) hT; rw [Int.zero_mul] at this; exact this
      omega
    · rw [if_neg hx] at h
      have : r * Y ≤ r * v := mn_left hV (by omega)
      omega
theorem back2 (hT : 0 ≤ T) (hu : 0 < u) (hY : u ≤ Y) (hV : Y ≤ v) (hX : X ≤ y) (h : y * T ≤ r * (if y < 0 then v else u)) : X * T ≤ r * Y := by
  have h1 : X * T ≤ y * T := mn_right hX hT
  by_cases hr : r < 0
  · by_cases hy : y < 0
    · rw [if_pos hy] at h
      have : r * v ≤ r * Y := mp_left hV (by omega)
      omega
    · rw [if_neg hy] at h
      have h2 : r * u < 0 := Int.mul_neg_of_neg_of_pos hr hu
      have h3 : 0 ≤ y * T := Int.mul_nonneg (by omega) hT
      omega
  · by_cases hy : y < 0
    · have h2 : 0 ≤ r * Y := Int.mul_nonneg (by omega) (by omega)
      have h3 : y * T ≤ 0 := by have := mn_right (show y ≤ 0 by omega) hT; rw [Int.zero_mul] at this; exact this
      omega
    · rw [if_neg hy] at h
      have : r * u ≤ r * Y := mn_left hY (by omega)
      omega
theorem cross1 (hu : 0 < u) (h1 : x ≤ x') (h3 : u ≤ u') (h4 : v' ≤ v) (h5 : u' ≤ v') : x * (if x' < 0 then u' else v') ≤ x' * (if x < 0 then u else v) := by
  by_cases hx : x < 0
  · rw [if_pos hx]
    by_cases hx' : x' < 0
    · rw [if_pos hx']; exact Int.le_trans (mp_left h3 (by omega)) (mn_right h1 (by omega))
    · rw [if_neg hx']
      have a : x * v' ≤ 0 := by have := mn_right (show x ≤ 0 by omega) (show 0 ≤ v' by omega); rw [Int.zero_mul] at this; exact this
      have b : 0 ≤ x' * u := Int.mul_nonneg (by omega) (by omega)
      omega
  · rw [if_neg hx, if_neg (show ¬ x' < 0 by omega)]
    exact Int.le_trans (mn_left h4 (by omega)) (mn_right h1 (by omega))
theorem cross2 (hu : 0 < u) (h2 : y' ≤ y) (h3 : u ≤ u') (h4 : v' ≤ v) (h5 : u' ≤ v') : y' * (if y < 0 then v else u) ≤ y * (if y' < 0 then v' else u') := by
  by_cases hy : y < 0
  · rw [if_pos hy, if_pos (show y' < 0 by omega)]
    exact Int.le_trans (mn_right h2 (by omega)) (mp_left h4 (by omega))
  · rw [if_neg hy]
    by_cases hy' : y' < 0
    · rw [if_pos hy']
      have a : y' * u ≤ 0 := by have := mn_right (show y' ≤ 0 by omega) (show 0 ≤ u by omega); rw [Int.zero_mul] at this; exact this
      have b : 0 ≤ y * v' := Int.mul_nonneg (by omega) (by omega)
      omega
    · rw [if_neg hy']; exact Int.le_trans (mn_right h2 (by omega)) (mn_left h3 (by omega))
end
section
variable {E p : Nat} {x y u v : Q}
theorem pos_form (h : 0 < v.at E) : v.m ≠ 0 ∧ v.s = false := by
  rw [at_sg] at h
  cases hs : v.s
  · refine ⟨fun h0 => ?_, rfl⟩
    rw [hs, h0, Nat.zero_mul] at h
    exact absurd h (by decide)
  · exfalso
    rw [hs] at h
    have : sg true (v.m * 2 ^ (v.e + (E : Int)).toNat) ≤ 0 := by show -((_ : Nat) : Int) ≤ 0; omega
    omega
theorem rat_at (hp : 1 ≤ p) (cx : Canon x) (cv : Canon v) (lx : -(E : Int) ≤ x.e) (lv : -(E : Int) ≤ v.e) (hv : 0 < v.at E) :
    (-(E : Int) ≤ (ratq p false x v).e → (ratq p false x v).at E * v.at E ≤ x.at E * 2 ^ E) ∧ (-(E : Int) ≤ (ratq p true x v).e → x.at E * 2 ^ E ≤ (ratq p true x v).at E * v.at E) := by
  obtain ⟨h0, hs⟩ := pos_form hv
  have hc := rat_cmp (p := p) hp cx cv h0
  have h1 : signq v = 1 := by unfold signq; rw [if_neg h0, hs]; rfl
  rw [h1, Int.one_mul, Int.one_mul] at hc
  have lx2 : -((E + E : Nat) : Int) ≤ x.e := by omega
  refine ⟨fun lr => ?_, fun lr => ?_⟩
  · have := (cmp_le (low_times lr lv) lx2).1 hc.1
    rw [at_times lr lv, at_more lx] at this; exact this
  · have := (cmp_ge (low_times lr lv) lx2).1 hc.2
    rw [at_times lr lv, at_more lx] at this; exact this
def qL (p : Nat) (x u v : Q) : Q := ratq p false x (bif decide (signq x < 0) then u else v)
def qG (p : Nat) (y u v : Q) : Q := ratq p true y (bif decide (signq y < 0) then v else u)
theorem sign_lt (a : Q) : signq a < 0 ↔ a.at E < 0 := by
  have := (sign_at (E := E) a).1
  omega
theorem pick_at (a b c : Q) : (bif decide (signq a < 0) then b else c).at E = if a.at E < 0 then b.at E else c.at E := by
  by_cases h : a.at E < 0
  · rw [decide_eq_true ((sign_lt a).2 h), if_pos h]; rfl
  · rw [decide_eq_false (fun g => h ((sign_lt a).1 g)), if_neg h]; rfl
theorem pick_any {P : Q → Prop} {c : Bool} {a b : Q} (ha : P a) (hb : P b) : P (bif c then a else b) := by cases c <;> assumption
theorem two_pos (E : Nat) : (0 : Int) ≤ 2 ^ E := Int.le_of_lt (pow_posZ E)
theorem qL_back {Xv Yv : Int} (hp : 1 ≤ p) (cx : Canon x) (cu : Canon u) (cv : Canon v) (lx : -(E : Int) ≤ x.e) (lu : -(E : Int) ≤ u.e) (lv : -(E : Int) ≤ v.e) (lr : -(E : Int) ≤ (qL p x u v).e) (hu : 0 < u.at E) (hY : u.at E ≤ Yv) (hV : Yv ≤ v.at E) (hX : x.at E ≤ Xv) :
    (qL p x u v).at E * Yv ≤ Xv * 2 ^ E := by
  have hd : 0 < (bif decide (signq x < 0) then u else v).at E := pick_any (P := fun q => 0 < q.at E) hu (by omega)
  have h := (rat_at hp cx (pick_any cu cv) lx (pick_any (P := fun q => -(E : Int) ≤ q.e) lu lv) hd).1 lr
  rw [pick_at] at h
  exact back1 (two_pos E) hu hY hV hX h
theorem qG_back {Xv Yv : Int} (hp : 1 ≤ p) (cy : Canon y) (cu : Canon u) (cv : Canon v) (ly : -(E : Int) ≤ y.e) (lu : -(E : Int) ≤ u.e) (lv : -(E : Int) ≤ v.e) (lr : -(E : Int) ≤ (qG p y u v).e) (hu : 0 < u.at E) (hY : u.at E ≤ Yv) (hV : Yv ≤ v.at E) (hX : Xv ≤ y.at E) :
    Xv * 2 ^ E ≤ (qG p y u v).at E * Yv := by
  have hd : 0 < (bif decide (signq y < 0) then v else u).at E := pick_any (P := fun q => 0 < q.at E) (by omega) hu
  have h := (rat_at hp cy (pick_any cv cu) ly (pick_any (P := fun q => -(E : Int) ≤ q.e) lv lu) hd).2 lr
  rw [pick_at] at h
  exact back2 (two_pos E) hu hY hV hX h
variable {x' y' u' v' : Q}
theorem qL_mono (hp : 1 ≤ p) (lx : -(E : Int) ≤ x.e) (lu : -(E : Int) ≤ u.e) (lv : -(E : Int) ≤ v.e) (lx' : -(E : Int) ≤ x'.e) (lu' : -(E : Int) ≤ u'.e) (lv' : -(E : Int) ≤ v'.e)
    (hu : 0 < u.at E) (h1 : x.at E ≤ x'.at E) (h3 : u.at E ≤ u'.at E) (h4 : v'.at E ≤ v.at E) (h5 : u'.at E ≤ v'.at E) : cmpq (qL p x u v) (qL p x' u' v') ≤ 0 := by
  have f1 := pos_form hu
  have f2 := pos_form (show 0 < v.at E by omega)
  have f3 := pos_form (show 0 < u'.at E by omega)
  have f4 := pos_form (show 0 < v'.at E by omega)
  refine rat_mono (E := E) hp (pick_any (P := fun q => q.s = false) f1.2 f2.2) (pick_any (P := fun q => q.s = false) f3.2 f4.2) (pick_any (P := fun q => q.m ≠ 0) f1.1 f2.1) (pick_any (P := fun q => q.m ≠ 0) f3.1 f4.1) lx lx' (pick_any (P := fun q => -(E : Int) ≤ q.e) lu lv) (pick_any (P := fun q => -(E : Int) ≤ q.e) lu' lv') ?_
  rw [pick_at, pick_at]
  exact cross1 hu h1 h3 h4 h5
theorem qG_mono (hp : 1 ≤ p) (ly : -(E : Int) ≤ y.e) (lu : -(E : Int) ≤ u.e) (lv : -(E : Int) ≤ v.e) (ly' : -(E : Int) ≤ y'.e) (lu' : -(E : Int) ≤ u'.e) (lv' : -(E : Int) ≤ v'.e)
    (hu : 0 < u.at E) (h2 : y'.at E ≤ y.at E) (h3 : u.at E ≤ u'.at E) (h4 : v'.at E ≤ v.at E) (h5 : u'.at E ≤ v'.at E) : cmpq (qG p y' u' v') (qG p y u v) ≤ 0 := by
  have f1 := pos_form hu
  have f2 := pos_form (show 0 < v.at E by omega)
  have f3 := pos_form (show 0 < u'.at E by omega)
  have f4 := pos_form (show 0 < v'.at E by omega)
  refine rat_mono (E := E) hp (pick_any (P := fun q => q.s = false) f4.2 f3.2) (pick_any (P := fun q => q.s = false) f2.2 f1.2) (pick_any (P := fun q => q.m ≠ 0) f4.1 f3.1) (pick_any (P := fun q => q.m ≠ 0) f2.1 f1.1) ly' ly (pick_any (P := fun q => -(E : Int) ≤ q.e) lv' lu') (pick_any (P := fun q => -(E : Int) ≤ q.e) lv lu) ?_
  rw [pick_at, pick_at]
  exact cross2 hu h2 h3 h4 h5
end
end Go.Proofs.YtfggnoejcgehdaaGreatDoor
namespace Go.Proofs.YtfggnoejcgehdaaGreatDoor
open Go.RowKit Nx
set_option linter.unusedVariables false
set_option linter.unusedSimpArgs false
def Quo (E k : Nat) (x y u v : Int) (L G : Q) : Prop := (Valid L ∧ Valid G ∧ cmpq L G ≤ 0 ∧ Bd (5 * k + 2 * 256 + 257) L ∧ Bd (5 * k + 2 * 256 + 257) G) ∧
  ∀ X Y : Int, x ≤ X → X ≤ y → u ≤ Y → Y ≤ v → (0 < Y → L.at E * Y ≤ X * 2 ^ E ∧ X * 2 ^ E ≤ G.at E * Y) ∧ (Y < 0 → G.at E * Y ≤ X * 2 ^ E ∧ X * 2 ^ E ≤ L.at E * Y)
section
variable {E k p : Nat} {x y u v : Q}
theorem quo_pos (hE : E = 65536) (hp : 1 ≤ p) (hp2 : p ≤ 256) (vx : Valid x) (vy : Valid y) (vu : Valid u) (vv : Valid v) (bx : Bd k x) (by' : Bd k y) (bu : Bd k u) (bv : Bd k v) (hk : k ≤ 1000) (hu : 0 < u.at E) (huv : u.at E ≤ v.at E) (hxy : x.at E ≤ y.at E) :
    Quo E k (x.at E) (y.at E) (u.at E) (v.at E) (qL p x u v) (qG p y u v) := by
  have low : ∀ {q : Q}, Valid q → -(E : Int) ≤ q.e := fun h => by have := h.2.2.1; omega
  have f1 := pos_form hu
  have f2 := pos_form (show 0 < v.at E by omega)
  have b1 : Bd (5 * k + 2 * 256 + 257) (qL p x u v) := (bd_rat hp bx (pick_any bu bv) (pick_any (P := fun q => q.m ≠ 0) f1.1 f2.1)).mono (by omega)
  have b2 : Bd (5 * k + 2 * 256 + 257) (qG p y u v) := (bd_rat hp by' (pick_any bv bu) (pick_any (P := fun q => q.m ≠ 0) f2.1 f1.1)).mono (by omega)
  have vL : Valid (qL p x u v) := ⟨ratq_canon _ _ _ _, fits_rat bx (pick_any bu bv) (pick_any (P := fun q => q.m ≠ 0) f1.1 f2.1) hp hp2 hk⟩
  have vG : Valid (qG p y u v) := ⟨ratq_canon _ _ _ _, fits_rat by' (pick_any bv bu) (pick_any (P := fun q => q.m ≠ 0) f2.1 f1.1) hp hp2 hk⟩
  have key : ∀ X Y : Int, x.at E ≤ X → X ≤ y.at E → u.at E ≤ Y → Y ≤ v.at E → (qL p x u v).at E * Y ≤ X * 2 ^ E ∧ X * 2 ^ E ≤ (qG p y u v).at E * Y := fun X Y h1 h2 h3 h4 =>
    ⟨qL_back hp vx.1 vu.1 vv.1 (low vx) (low vu) (low vv) (low vL) hu h3 h4 h1, qG_back hp vy.1 vu.1 vv.1 (low vy) (low vu) (low vv) (low vG) hu h3 h4 h2⟩
  refine ⟨⟨vL, vG, (cmp_le (low vL) (low vG)).2 ?_, b1, b2⟩, fun X Y h1 h2 h3 h4 => ⟨fun _ => key X Y h1 h2 h3 h4, fun h => by omega⟩⟩
  obtain ⟨k1, k2⟩ := key (x.at E) (u.at E) (Int.le_refl _) hxy (Int.le_refl _) huv
  exact Int.le_of_mul_le_mul_right (Int.le_trans k1 k2) hu
end
section
variable {j j1 : J} {z : Int} {k : Nat}
theorem op3 (h : okJ j = true) (h1 : okJ j1 = true) (hz : prl z = true) : opQ 3 j j1 z = bif hasJ j1 zX then (zJ, 3) else quotQ j.lo.q j.hi.q j1.lo.q j1.hi.q z := by
  unfold opQ; rw [h, h1, prl_prb, hz]; cases hasJ j1 zX <;> rfl
theorem no_zero (h1 : okJ j1 = true) (h : hasJ j1 zX = false) : 0 < j1.lo.v ∨ j1.hi.v < 0 := by
  rw [has_zero h1, Bool.and_eq_false_iff, decide_eq_false_iff_not, decide_eq_false_iff_not] at h
  omega
theorem quo_ex (hg : Good j) (hg1 : Good j1) (hz : prl z = true) (b : BdJ k j) (b1 : BdJ k j1) (hk : k ≤ 1000) (hn : hasJ j1 zX = false) :
    ∃ L G, divJ j j1 z = (⟨qx L, qx G⟩, 0) ∧ Quo 65536 k j.lo.v j.hi.v j1.lo.v j1.hi.v L G := by
  obtain ⟨a1, a2, a3⟩ := okJ_parts hg.1
  obtain ⟨c1, c2, c3⟩ := okJ_parts hg1.1
  have le1 : j.lo.v ≤ j.hi.v := (cmpx_le a1 a2).1 a3
  have le2 : j1.lo.v ≤ j1.hi.v := (cmpx_le c1 c2).1 c3
  have v1 := ok_arg a1 hg.2.lo
  have v2 := ok_arg a2 hg.2.hi
  have v3 := ok_arg c1 hg1.2.lo
  have v4 := ok_arg c2 hg1.2.hi
  have p1 := (prl_two hz).1
  have p2 := (prl_two hz).2
  have fin : ∀ L G : Q, Valid L → Valid G → cmpq L G ≤ 0 → endsQ L G = (⟨qx L, qx G⟩, 0) := fun L G h1 h2 h3 => (ends_ok h1 h2 h3).1
  rw [div_eq hg1.2, op3 hg.1 hg1.1 hz, hn, cond_false]
  unfold quotQ
  rcases no_zero hg1.1 hn with hp | hp
  · have hs : decide (signq j1.hi.q < 0) = false := decide_eq_false fun g => by
      have := (sign_lt (E := 65536) j1.hi.q).1 g
      have e : j1.hi.v = j1.hi.q.at 65536 := rfl
      omega
    rw [hs, cond_false]
    have q := quo_pos (E := 65536) (p := z.toNat) rfl (by omega) p2 v1 v2 v3 v4 b.1 b.2 b1.1 b1.2 hk hp le2 le1
    exact ⟨_, _, fin _ _ q.1.1 q.1.2.1 q.1.2.2.1, q⟩
  · have hs : decide (signq j1.hi.q < 0) = true := decide_eq_true ((sign_lt (E := 65536) j1.hi.q).2 hp)
    rw [hs, cond_true]
    have n1 : j.lo.q.neg.at 65536 = -j.lo.v := at_neg v1.1
    have n2 : j.hi.q.neg.at 65536 = -j.hi.v := at_neg v2.1
    have n3 : j1.lo.q.neg.at 65536 = -j1.lo.v := at_neg v3.1
    have n4 : j1.hi.q.neg.at 65536 = -j1.hi.v := at_neg v4.1
    have q := quo_pos (E := 65536) (p := z.toNat) rfl (by omega) p2 (neg_valid v2) (neg_valid v1) (neg_valid v4) (neg_valid v3) (bd_neg b.2) (bd_neg b.1) (bd_neg b1.2) (bd_neg b1.1) hk (by rw [n4]; omega) (by rw [n3, n4]; omega) (by rw [n1, n2]; omega)
    rw [n1, n2, n3, n4] at q
    refine ⟨_, _, fin _ _ q.1.1 q.1.2.1 q.1.2.2.1, q.1, fun X Y h1 h2 h3 h4 => ⟨fun h => by omega, fun h => ?_⟩⟩
    have := (q.2 (-X) (-Y) (by omega) (by omega) (by omega) (by omega)).1 (by omega)
    rw [Int.mul_neg, Int.mul_neg, Int.neg_mul] at this
    exact ⟨Int.le_of_neg_le_neg this.2, Int.le_of_neg_le_neg this.1⟩
end
end Go.Proofs.YtfggnoejcgehdaaGreatDoor
namespace Go.Proofs.YtfggnoejcgehdaaGreatDoor
open Go.RowKit Nx
set_option linter.unusedVariables false
set_option linter.unusedSimpArgs false
section
variable {j j1 i i1 : J} {z : Int} {k : Nat}
theorem div_no (hg : Good j) (hg1 : Good j1) (hz : prl z = true) (hn : hasJ j1 zX = true) : divJ j j1 z = (zJ, 3) := by
  rw [div_eq hg1.2, op3 hg.1 hg1.1 hz, hn]; rfl
theorem hold_back {x y : X} (hg : Good j) (hg1 : Good j1) (hz : prl z = true) (b : BdJ k j) (b1 : BdJ k j1) (hk : k ≤ 1000) (hn : hasJ j1 zX = false) (hx : GX x) (hy : GX y) (h : hasJ j x = true) (h1 : hasJ j1 y = true) (by' : Bd k y.q) :
    ∃ c s, divJ j j1 z = (c, 0) ∧ mulJ c ⟨y, y⟩ z = (s, 0) ∧ hasJ s x = true := by
  obtain ⟨L, G, e, ⟨vL, vG, hc, bL, bG⟩, hq⟩ := quo_ex hg hg1 hz b b1 hk hn
  have gc := (ends_ok vL vG hc).2
  have gy := pt_good hy
  have v := has_v h
  have v1 := has_v h1
  have hq := hq x.v y.v v.2.2.1 v.2.2.2 v1.2.2.1 v1.2.2.2
  have ey := ok_e hy.1
  have ex := ok_e hx.1
  have cy := (ok_arg hy.1 hy.2)
  have cx := (ok_arg hx.1 hx.2)
  have lL : -((65536 : Nat) : Int) ≤ L.e := by have := vL.2.2.1; omega
  have lG : -((65536 : Nat) : Int) ≤ G.e := by have := vG.2.2.1; omega
  have hLG := (cmp_le (E := 65536) lL lG).1 hc
  have byK : Bd (5 * k + 2 * 256 + 257) y.q := by'.mono (by omega)
  have ez : mulJ ⟨qx L, qx G⟩ ⟨y, y⟩ z = endsQ (rnd z.toNat false (leastQ L G y.q y.q)) (rnd z.toNat true (greatQ L G y.q y.q)) := by
    rw [mul_eq gc.2 gy.2, op2 gc.1 gy.1 hz]
    show endsQ (rnd z.toNat false (leastQ (qx L).q (qx G).q y.q y.q)) (rnd z.toNat true (greatQ (qx L).q (qx G).q y.q y.q)) = _
    rw [(qx_ok vL).2.2, (qx_ok vG).2.2]
  have r1 := least_le (E := 65536) (a := L) (b := y.q) lL lG ey ey (Int.le_refl _) hLG (Int.le_refl _) (Int.le_refl _)
  have r2 := least_le (E := 65536) (a := G) (b := y.q) lL lG ey ey hLG (Int.le_refl _) (Int.le_refl _) (Int.le_refl _)
  have r3 := great_ge (E := 65536) (a := L) (b := y.q) vL.1 vG.1 vL.1 lL lG ey ey (Int.le_refl _) hLG (Int.le_refl _) (Int.le_refl _)
  have r4 := great_ge (E := 65536) (a := G) (b := y.q) vL.1 vG.1 vG.1 lL lG ey ey hLG (Int.le_refl _) (Int.le_refl _) (Int.le_refl _)
  have xm : x.q.at (65536 + 65536) = x.v * 2 ^ 65536 := at_more ex
  have lr : -((65536 + 65536 : Nat) : Int) ≤ x.q.e := by omega
  have hy0 : 0 < y.v ∨ y.v < 0 := by
    have := no_zero hg1.1 hn
    omega
  have ends : (leastQ L G y.q y.q).at (65536 + 65536) ≤ x.q.at (65536 + 65536) ∧ x.q.at (65536 + 65536) ≤ (greatQ L G y.q y.q).at (65536 + 65536) := by
    rw [xm]
    rcases hy0 with h0 | h0
    · exact ⟨Int.le_trans r1 (hq.1 h0).1, Int.le_trans (hq.1 h0).2 r4⟩
    · exact ⟨Int.le_trans r2 (hq.2 h0).1, Int.le_trans (hq.2 h0).2 r3⟩
  obtain ⟨s, e1, e2⟩ := hold (E := 65536 + 65536) (r := x.q) hz (bd_least bL bG byK byK) (bd_great bL bG byK byK) (by omega) (low_least lL lG ey ey) (low_great vL.1 vG.1 lL lG ey ey) lr cx ends.1 ends.2
  rw [qx_q hx.1 hx.2] at e2
  exact ⟨_, s, e, by rw [ez]; exact e1, e2⟩
theorem less_div (hg : Good j) (hg1 : Good j1) (hi : Good i) (hi1 : Good i1) (hz : prl z = true) (b : BdJ k j) (b1 : BdJ k j1) (c : BdJ k i) (c1 : BdJ k i1) (hk : k ≤ 1000) (h : Sub i j) (h1 : Sub i1 j1) (hn : hasJ j1 zX = false) :
    ∃ s t, divJ j j1 z = (s, 0) ∧ divJ i i1 z = (t, 0) ∧ inJ t s = true := by
  obtain ⟨⟨l1, l2⟩, _, n0⟩ := j_facts hg
  obtain ⟨⟨l3, l4⟩, _, n1⟩ := j_facts hg1
  obtain ⟨⟨m1, m2⟩, _, n2⟩ := j_facts hi
  obtain ⟨⟨m3, m4⟩, _, n3⟩ := j_facts hi1
  have v1 := jlo hg.2 hg.1; have v2 := jhi hg.2 hg.1
  have v3 := jlo hg1.2 hg1.1; have v4 := jhi hg1.2 hg1.1
  have w1 := jlo hi.2 hi.1; have w2 := jhi hi.2 hi.1
  have w3 := jlo hi1.2 hi1.1; have w4 := jhi hi1.2 hi1.1
  have p1 := (prl_two hz).1
  have p2 := (prl_two hz).2
  have hp1 : 1 ≤ z.toNat := by omega
  have q1 : j.lo.q.at 65536 ≤ i.lo.q.at 65536 := h.1
  have q2 : i.hi.q.at 65536 ≤ j.hi.q.at 65536 := h.2
  have q3 : j1.lo.q.at 65536 ≤ i1.lo.q.at 65536 := h1.1
  have q4 : i1.hi.q.at 65536 ≤ j1.hi.q.at 65536 := h1.2
  have hn' : hasJ i1 zX = false := by
    have hz0 := no_zero hg1.1 hn
    rw [has_zero hi1.1]
    have f1 := h1.1; have f2 := h1.2
    rcases hz0 with g | g
    · rw [decide_eq_false (show ¬ i1.lo.v ≤ 0 by omega)]; rfl
    · rw [decide_eq_false (show ¬ 0 ≤ i1.hi.v by omega), Bool.and_false]
  rw [div_eq hg1.2, div_eq hi1.2, op3 hg.1 hg1.1 hz, op3 hi.1 hi1.1 hz, hn, hn', cond_false, cond_false]
  unfold quotQ
  have sg1 := sign_lt (E := 65536) j1.hi.q
  have sg2 := sign_lt (E := 65536) i1.hi.q
  have zz : 0 < j1.lo.q.at 65536 ∨ j1.hi.q.at 65536 < 0 := no_zero hg1.1 hn
  rcases zz with g | g
  · rw [decide_eq_false (show ¬ signq j1.hi.q < 0 by rw [sg1]; omega), decide_eq_false (show ¬ signq i1.hi.q < 0 by rw [sg2]; omega), cond_false, cond_false]
    have Q1 := (quo_pos (E := 65536) (p := z.toNat) rfl hp1 p2 v1 v2 v3 v4 b.1 b.2 b1.1 b1.2 hk g n1 n0).1
    have Q2 := (quo_pos (E := 65536) (p := z.toNat) rfl hp1 p2 w1 w2 w3 w4 c.1 c.2 c1.1 c1.2 hk (by omega) n3 n2).1
    exact ⟨_, _, (ends_ok Q1.1 Q1.2.1 Q1.2.2.1).1, (ends_ok Q2.1 Q2.2.1 Q2.2.2.1).1, ends_in Q1.1 Q1.2.1 Q2.1 Q2.2.1 (qL_mono hp1 l1 l3 l4 m1 m3 m4 g q1 q3 q4 n3) (qG_mono hp1 l2 l3 l4 m2 m3 m4 g q2 q3 q4 n3) Q2.2.2.1 Q1.2.2.1⟩
  · rw [decide_eq_true (show signq j1.hi.q < 0 by rw [sg1]; exact g), decide_eq_true (show signq i1.hi.q < 0 by rw [sg2]; omega), cond_true, cond_true]
    have a1 := at_neg (E := 65536) v1.1; have a2 := at_neg (E := 65536) v2.1; have a3 := at_neg (E := 65536) v3.1; have a4 := at_neg (E := 65536) v4.1
    have d1 := at_neg (E := 65536) w1.1; have d2 := at_neg (E := 65536) w2.1; have d3 := at_neg (E := 65536) w3.1; have d4 := at_neg (E := 65536) w4.1
    have low : ∀ {q : Q}, Valid q → -((65536 : Nat) : Int) ≤ q.neg.e := fun h => by rw [e_neg h.1]; have := h.2.2.1; omega
    have Q1 := (quo_pos (E := 65536) (p := z.toNat) rfl hp1 p2 (neg_valid v2) (neg_valid v1) (neg_valid v4) (neg_valid v3) (bd_neg b.2) (bd_neg b.1) (bd_neg b1.2) (bd_neg b1.1) hk (by rw [a4]; omega) (by rw [a3, a4]; omega) (by rw [a1, a2]; omega)).1
    have Q2 := (quo_pos (E := 65536) (p := z.toNat) rfl hp1 p2 (neg_valid w2) (neg_valid w1) (neg_valid w4) (neg_valid w3) (bd_neg c.2) (bd_neg c.1) (bd_neg c1.2) (bd_neg c1.1) hk (by rw [d4]; omega) (by rw [d3, d4]; omega) (by rw [d1, d2]; omega)).1
    refine ⟨_, _, (ends_ok Q1.1 Q1.2.1 Q1.2.2.1).1, (ends_ok Q2.1 Q2.2.1 Q2.2.2.1).1, ends_in Q1.1 Q1.2.1 Q2.1 Q2.2.1 (qL_mono (E := 65536) hp1 (low v2) (low v4) (low v3) (low w2) (low w4) (low w3) ?_ ?_ ?_ ?_ ?_) (qG_mono (E := 65536) hp1 (low v1) (low v4) (low v3) (low w1) (low w4) (low w3) ?_ ?_ ?_ ?_ ?_) Q2.2.2.1 Q1.2.2.1⟩
    all_goals simp only [a1, a2, a3, a4, d1, d2, d3, d4]; omega
end
end Go.Proofs.YtfggnoejcgehdaaGreatDoor
