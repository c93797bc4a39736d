/- Products of intervals hold the products of what lies in them; quotients rise. -/
import Derived.Test.YtfggnoejcgehdaaGreatDoorRAkM
import Derived.Test.YtfggnoejcgehdaaGreatDoorRAk4
namespace Go.Proofs.YtfggnoejcgehdaaGreatDoor
open Go.RowKit Nx
set_option linter.unusedVariables false
set_option linter.unusedSimpArgs false
section
variable {x y u v p q : Int}
theorem mn_left {a b c : Int} (h : a ≤ b) (hc : 0 ≤ c) : c * a ≤ c * b := Int.mul_le_mul_of_nonneg_left h hc
theorem mn_right {a b c : Int} (h : a ≤ b) (hc : 0 ≤ c) : a * c ≤ b * c := Int.mul_le_mul_of_nonneg_right h hc
theorem mp_left {a b c : Int} (h : a ≤ b) (hc : c ≤ 0) : c * b ≤ c * a := Int.mul_le_mul_of_nonpos_left hc h
theorem mp_right {a b c : Int} (h : a ≤ b) (hc : c ≤ 0) : b * c ≤ a * c := Int.mul_le_mul_of_nonpos_right h hc
theorem corner1 (h1 : x ≤ p) (h3 : u ≤ q) (hx : 0 ≤ x) (hu : 0 ≤ u) : x * u ≤ p * q := Int.le_trans (mn_right h1 hu) (mn_left h3 (by omega))
theorem corner2 (h1 : x ≤ p) (h2 : p ≤ y) (h3 : u ≤ q) (hx : 0 ≤ x) (hu : u < 0) : y * u ≤ p * q := Int.le_trans (mp_right h2 (by omega)) (mn_left h3 (by omega))
theorem corner3 (h1 : x ≤ p) (h3 : u ≤ q) (h4 : q ≤ v) (hx : x < 0) (hu : 0 ≤ u) : x * v ≤ p * q := Int.le_trans (mp_left h4 (by omega)) (mn_right h1 (by omega))
theorem corner4 (h2 : p ≤ y) (h4 : q ≤ v) (hy : y ≤ 0) (hv : v ≤ 0) : y * v ≤ p * q := Int.le_trans (mp_left h4 hy) (mp_right h2 (by omega))
theorem corner5 (h1 : x ≤ p) (h2 : p ≤ y) (h3 : u ≤ q) (h4 : q ≤ v) (hx : x < 0) (hu : u < 0) (hn : ¬ (y ≤ 0 ∧ v ≤ 0)) : y * u ≤ p * q ∨ x * v ≤ p * q := by
  by_cases hp : 0 ≤ p
  · left
    exact Int.le_trans (mp_right h2 (by omega)) (mn_left h3 hp)
  · by_cases hq : 0 ≤ q
    · right
      exact Int.le_trans (mp_left h4 (by omega)) (mn_right h1 hq)
    · have hpq : 0 ≤ p * q := Int.mul_nonneg_of_nonpos_of_nonpos (by omega) (by omega)
      by_cases hy : y ≤ 0
      · right
        have : x * v ≤ 0 := by have := mn_right (c := v) (show x ≤ 0 by omega) (by omega); rw [Int.zero_mul] at this; exact this
        omega
      · left
        have : y * u ≤ 0 := by have := mn_left (c := y) (show u ≤ 0 by omega) (by omega); rw [Int.mul_zero] at this; exact this
        omega
end
theorem sign_at {E : Nat} (a : Q) : (0 ≤ signq a ↔ 0 ≤ a.at E) ∧ (signq a ≤ 0 ↔ a.at E ≤ 0) := by
  rw [signq_at (E := E)]
  split
  · constructor <;> constructor <;> intro h <;> omega
  · split <;> constructor <;> constructor <;> intro h <;> omega
theorem least_le {E : Nat} {X Y U V a b : Q} (lX : -(E : Int) ≤ X.e) (lY : -(E : Int) ≤ Y.e) (lU : -(E : Int) ≤ U.e) (lV : -(E : Int) ≤ V.e)
    (h1 : X.at E ≤ a.at E) (h2 : a.at E ≤ Y.at E) (h3 : U.at E ≤ b.at E) (h4 : b.at E ≤ V.at E) : (leastQ X Y U V).at (E + E) ≤ a.at E * b.at E := by
  unfold leastQ
  obtain ⟨x0, _⟩ := sign_at (E := E) X
  obtain ⟨u0, _⟩ := sign_at (E := E) U
  obtain ⟨_, y0⟩ := sign_at (E := E) Y
  obtain ⟨_, v0⟩ := sign_at (E := E) V
  by_cases hx : signq X ≥ 0
  · rw [decide_eq_true hx]
    by_cases hu : signq U ≥ 0
    · rw [decide_eq_true hu]
      show (times X U).at (E + E) ≤ _
      rw [at_times lX lU]; exact corner1 h1 h3 (x0.1 hx) (u0.1 hu)
    · rw [decide_eq_false hu]
      show (times Y U).at (E + E) ≤ _
      rw [at_times lY lU]; exact corner2 h1 h2 h3 (x0.1 hx) (Int.not_le.1 fun h => hu (u0.2 h))
  · rw [decide_eq_false hx]
    have hx' : X.at E < 0 := Int.not_le.1 fun h => hx (x0.2 h)
    by_cases hu : signq U ≥ 0
    · rw [decide_eq_true hu]
      show (times X V).at (E + E) ≤ _
      rw [at_times lX lV]; exact corner3 h1 h3 h4 hx' (u0.1 hu)
    · rw [decide_eq_false hu]
      have hu' : U.at E < 0 := Int.not_le.1 fun h => hu (u0.2 h)
      by_cases hn : Y.at E ≤ 0 ∧ V.at E ≤ 0
      · rw [decide_eq_true (y0.2 hn.1), decide_eq_true (v0.2 hn.2)]
        show (times Y V).at (E + E) ≤ _
        rw [at_times lY lV]; exact corner4 h2 h4 hn.1 hn.2
      · have hb : (decide (signq Y ≤ 0) && decide (signq V ≤ 0)) = false := by
          rw [Bool.and_eq_false_iff, decide_eq_false_iff_not, decide_eq_false_iff_not, y0, v0]
          omega
        rw [hb]
        have c := corner5 h1 h2 h3 h4 hx' hu' hn
        rw [← at_times lY lU, ← at_times lX lV] at c
        have l1 := low_times lY lU
        have l2 := low_times lX lV
        have k1 := cmp_le (E := E + E) l1 l2
        have k2 := cmp_ge (E := E + E) l1 l2
        cases hc : decide (cmpq (times Y U) (times X V) < 0)
        · have hc := of_decide_eq_false hc
          have := k2.1 (by omega)
          show (times X V).at (E + E) ≤ _
          omega
        · have hc := of_decide_eq_true hc
          have := k1.1 (by omega)
          show (times Y U).at (E + E) ≤ _
          omega
theorem great_ge {E : Nat} {X Y U V a b : Q} (cX : Canon X) (cY : Canon Y) (ca : Canon a) (lX : -(E : Int) ≤ X.e) (lY : -(E : Int) ≤ Y.e) (lU : -(E : Int) ≤ U.e) (lV : -(E : Int) ≤ V.e)
    (h1 : X.at E ≤ a.at E) (h2 : a.at E ≤ Y.at E) (h3 : U.at E ≤ b.at E) (h4 : b.at E ≤ V.at E) : a.at E * b.at E ≤ (greatQ X Y U V).at (E + E) := by
  have hl : Canon (leastQ Y.neg X.neg U V) := by
    rcases least_in Y.neg X.neg U V with h | h | h | h <;> rw [h] <;> exact ofz_canon _ _
  unfold greatQ
  rw [at_neg hl]
  have := least_le (a := a.neg) (b := b) (E := E) (by rw [e_neg cY]; exact lY) (by rw [e_neg cX]; exact lX) lU lV (by rw [at_neg cY, at_neg ca]; omega) (by rw [at_neg cX, at_neg ca]; omega) h3 h4
  rw [at_neg ca, Int.neg_mul] at this
  omega
theorem stk_mono {X X' D D' : Nat} (hD : 0 < D) (hD' : 0 < D') (h : X * D' ≤ X' * D) : stk X D ≤ stk X' D' := by
  have h1 := Nat.div_add_mod X D
  have h2 := Nat.div_add_mod X' D'
  have r1 := Nat.mod_lt X hD
  have r2 := Nat.mod_lt X' hD'
  have hq : X / D ≤ X' / D' := by
    rw [Nat.le_div_iff_mul_le hD']
    have a1 : X / D * D * D' ≤ X' * D := Nat.le_trans (Nat.mul_le_mul_right _ (Nat.div_mul_le_self X D)) h
    rw [Nat.mul_right_comm] at a1
    exact Nat.le_of_mul_le_mul_right a1 hD
  unfold stk
  by_cases he : X / D = X' / D'
  · rw [← he]
    by_cases hm : X' % D' = 0
    · have hm0 : X % D = 0 := by
        by_cases h0 : X % D = 0
        · exact h0
        · exfalso
          have e2 : X' = X / D * D' := by rw [← he, hm, Nat.add_zero, Nat.mul_comm] at h2; exact h2.symm
          have e1 : X / D * D < X := by rw [Nat.mul_comm]; omega
          have : X / D * D * D' < X * D' := Nat.mul_lt_mul_of_pos_right e1 hD'
          rw [e2, Nat.mul_right_comm] at h
          omega
      rw [hm, hm0]; exact Nat.le_refl _
    · rw [if_pos hm]
      split <;> omega
  · split <;> split <;> omega
theorem stk_zero (D : Nat) : stk 0 D = 0 := by unfold stk; simp
theorem rat_any {p : Nat} (up : Bool) {x y : Q} {k : Nat} (hp : 1 ≤ p) (hy : y.m ≠ 0) (hk : ratk p x y ≤ k) :
    ratq p up x y = rnd p up ⟨x.s != y.s, stk (x.m * 2 ^ k) y.m, x.e - y.e - (k : Int) - 1⟩ := by
  by_cases hx : x.m = 0
  · rw [rat_zero hx, hx, Nat.zero_mul, stk_zero, rnd_zero]
  · exact (ratq_more up hp hx hy hk).symm
theorem rat_mono {p : Nat} {up : Bool} {u u' D D' : Q} (hp : 1 ≤ p) (sD : D.s = false) (sD' : D'.s = false) (hD : D.m ≠ 0) (hD' : D'.m ≠ 0) {E : Nat} (lu : -(E : Int) ≤ u.e) (lu' : -(E : Int) ≤ u'.e) (lD : -(E : Int) ≤ D.e) (lD' : -(E : Int) ≤ D'.e)
    (h : u.at E * D'.at E ≤ u'.at E * D.at E) : cmpq (ratq p up u D) (ratq p up u' D') ≤ 0 := by
  obtain ⟨K, hK⟩ : ∃ K : Nat, K = ratk p u D + ratk p u' D' + u.e.natAbs + D.e.natAbs + u'.e.natAbs + D'.e.natAbs := ⟨_, rfl⟩
  obtain ⟨k, hk⟩ : ∃ k : Nat, (k : Int) = u.e - D.e + K := ⟨(u.e - D.e + K).toNat, by omega⟩
  obtain ⟨k', hk'⟩ : ∃ k' : Nat, (k' : Int) = u'.e - D'.e + K := ⟨(u'.e - D'.e + K).toNat, by omega⟩
  rw [rat_any up hp hD (k := k) (by omega), rat_any up hp hD' (k := k') (by omega), sD, sD']
  have e1 : u.e - D.e - (k : Int) - 1 = -((K + 1 : Nat) : Int) := by omega
  have e2 : u'.e - D'.e - (k' : Int) - 1 = -((K + 1 : Nat) : Int) := by omega
  rw [e1, e2]
  have l1 : ∀ (b : Bool) (M : Nat), -((K + 1 : Nat) : Int) ≤ (rnd p up ⟨b, M, -((K + 1 : Nat) : Int)⟩).e := fun b M => rnd_low (Int.le_refl _)
  refine (cmp_le (E := K + 1) (l1 _ _) (l1 _ _)).2 (rnd_mono hp (Int.le_refl _) (Int.le_refl _) ?_)
  have ev : ∀ (b : Bool) (M : Nat), (⟨b, M, -((K + 1 : Nat) : Int)⟩ : Q).at (K + 1) = sg b M := fun b M => by
    rw [at_sg]
    show sg b (M * 2 ^ (-((K + 1 : Nat) : Int) + ((K + 1 : Nat) : Int)).toNat) = _
    rw [Int.add_left_neg]
    show sg b (M * 1) = _
    rw [Nat.mul_one]
  rw [ev, ev]
  rw [at_sg u, at_sg u', at_sg D, at_sg D', sD, sD', sg_sg, sg_sg] at h
  rw [Bool.bne_false] at h ⊢
  rw [Bool.bne_false] at h ⊢
  have hp1 := Nat.pos_of_ne_zero hD
  have hp2 := Nat.pos_of_ne_zero hD'
  obtain ⟨a, ha⟩ : ∃ a : Nat, a = (u.e + (E : Int)).toNat + (D'.e + (E : Int)).toNat := ⟨_, rfl⟩
  obtain ⟨b, hb⟩ : ∃ b : Nat, b = (u'.e + (E : Int)).toNat + (D.e + (E : Int)).toNat := ⟨_, rfl⟩
  have m1 : u.m * 2 ^ (u.e + (E : Int)).toNat * (D'.m * 2 ^ (D'.e + (E : Int)).toNat) = u.m * D'.m * 2 ^ a := by rw [ha, Nat.pow_add, Nat.mul_mul_mul_comm]
  have m2 : u'.m * 2 ^ (u'.e + (E : Int)).toNat * (D.m * 2 ^ (D.e + (E : Int)).toNat) = u'.m * D.m * 2 ^ b := by rw [hb, Nat.pow_add, Nat.mul_mul_mul_comm]
  rw [m1, m2] at h
  have hab : a + k' = b + k := by omega
  have hba : b + k = a + k' := by omega
  have w1 : u.m * 2 ^ k * D'.m = u.m * D'.m * 2 ^ k := Nat.mul_right_comm ..
  have w2 : u'.m * 2 ^ k' * D.m = u'.m * D.m * 2 ^ k' := Nat.mul_right_comm ..
  have c1 := pow_cmp (m := u'.m * D.m) (n := u.m * D'.m) (a := b) (b := a) (c := k') (d := k) hba
  have c2 := pow_cmp (m := u.m * D'.m) (n := u'.m * D.m) (a := a) (b := b) (c := k) (d := k') hab
  cases h1 : u.s <;> cases h2 : u'.s <;> rw [h1, h2] at h
  · rw [sg_ff] at h ⊢
    exact stk_mono hp1 hp2 (by rw [w1, w2]; exact Nat.not_lt.1 fun g => Nat.not_lt.2 h (c1.2 g))
  · rw [sg_ft] at h ⊢
    have z1 : u.m * D'.m = 0 := (Nat.mul_eq_zero.1 h.1).resolve_right (Nat.ne_of_gt (Nat.two_pow_pos _))
    have z2 : u'.m * D.m = 0 := (Nat.mul_eq_zero.1 h.2).resolve_right (Nat.ne_of_gt (Nat.two_pow_pos _))
    rw [(Nat.mul_eq_zero.1 z1).resolve_right hD', (Nat.mul_eq_zero.1 z2).resolve_right hD, Nat.zero_mul, Nat.zero_mul, stk_zero, stk_zero]
    exact ⟨rfl, rfl⟩
  · exact sg_tf
  · rw [sg_tt] at h ⊢
    exact stk_mono hp2 hp1 (by rw [w1, w2]; exact Nat.not_lt.1 fun g => Nat.not_lt.2 h (c2.2 g))
end Go.Proofs.YtfggnoejcgehdaaGreatDoor
namespace Go.Proofs.YtfggnoejcgehdaaGreatDoor
open Go.RowKit Nx
set_option linter.unusedVariables false
set_option linter.unusedSimpArgs false
theorem two_ok {f : Q → Q → Q} {x y : X} (hx : x.ok = true) (hy : y.ok = true) : two f x y = res (f x.q y.q) := by
  unfold two ans2
  unfold X.ok at hx hy
  rw [hx, hy]; rfl
theorem qx_v {q : Q} (h : Valid q) : (qx q).v = q.at 65536 := by unfold X.v; rw [(qx_ok h).2.2]
theorem res_le {q : Q} {x : X} (hc : Canon q) (hx : x.ok = true) (h : q.at 65536 ≤ x.v) : ((res q).2 != 0) = false → decide (cmpx (qx (res q).1) x ≤ 0) = true := fun hr => by
  have hf : Fits q := by
    by_cases hf : Fits q
    · exact hf
    · rw [res_over hf] at hr; cases hr
  rw [res_ok hf]
  exact decide_eq_true ((cmpx_le (qx_ok ⟨hc, hf⟩).1 hx).2 (by rw [qx_v ⟨hc, hf⟩]; exact h))
theorem res_ge {q : Q} {x : X} (hc : Canon q) (hx : x.ok = true) (h : x.v ≤ q.at 65536) : ((res q).2 != 0) = false → decide (cmpx x (qx (res q).1) ≤ 0) = true := fun hr => by
  have hf : Fits q := by
    by_cases hf : Fits q
    · exact hf
    · rw [res_over hf] at hr; cases hr
  rw [res_ok hf]
  exact decide_eq_true ((cmpx_le hx (qx_ok ⟨hc, hf⟩).1).2 (by rw [qx_v ⟨hc, hf⟩]; exact h))
theorem mid_facts {j : J} {z : Int} (hg : Good j) (hz : prl z = true) : ((rmid j z).2 = 0 ∨ (rmid j z).2 = 2) ∧ ((rmid j z).2 = 0 → GX (rmid j z).1 ∧ hasJ j (rmid j z).1 = true) := by
  obtain ⟨a1, a2, a3⟩ := okJ_parts hg.1
  have hle := (cmpx_le a1 a2).1 a3
  have hk := rmid_ok hg.2 z
  refine ⟨?_, fun h0 => ⟨⟨hk.1, hk.2⟩, has_of hg.1 hk.1 ?_ ?_⟩⟩
  · unfold rmid
    rw [hg.1, prl_prb, hz]
    simp only [Bool.not_true, Bool.or_self, cond_false]
    cases decide (cmpq (rnd z.toNat false (hlf (plus j.lo.q j.hi.q))) j.lo.q < 0)
    · exact res_two _
    · exact .inl rfl
  · have h0 := h0
    unfold rmid at h0 ⊢
    rw [hg.1, prl_prb, hz] at h0 ⊢
    simp only [Bool.not_true, Bool.or_self, cond_false] at h0 ⊢
    cases hc : decide (cmpq (rnd z.toNat false (hlf (plus j.lo.q j.hi.q))) j.lo.q < 0)
    · rw [hc] at h0
      simp only [cond_false] at h0 ⊢
      have hf : Fits (rnd z.toNat false (hlf (plus j.lo.q j.hi.q))) := by
        by_cases hf : Fits (rnd z.toNat false (hlf (plus j.lo.q j.hi.q)))
        · exact hf
        · rw [res_over hf] at h0; cases h0
      rw [res_ok hf, qx_v ⟨rnd_canon _ _ _, hf⟩]
      have hc := of_decide_eq_false hc
      exact (cmp_ge (E := 65536) hf.2.1 (ok_e a1)).1 (by omega)
    · exact Int.le_refl _
  · have := mid_le hg.2 hg.1 (z := z) (by rw [h0]; rfl)
    have e1 := at_more (F := 1) (ok_e hk.1)
    have e2 := at_more (F := 1) (ok_e a1)
    have e3 := at_more (F := 1) (ok_e a2)
    rw [show 65536 + 1 = 65537 from rfl] at e1 e2 e3
    rw [e1, e2, e3] at this
    have f1 : (rmid j z).1.v = (rmid j z).1.q.at 65536 := rfl
    have f2 : j.lo.v = j.lo.q.at 65536 := rfl
    have f3 : j.hi.v = j.hi.q.at 65536 := rfl
    rw [← f1, ← f2, ← f3] at this
    omega
theorem rad_facts {j : J} {z : Int} (hg : Good j) (hz : prl z = true) (h0 : (rmid j z).2 = 0) : ((rrad j z).2 = 0 ∨ (rrad j z).2 = 2) ∧ ((rrad j z).2 = 0 → Valid (rrad j z).1 ∧ (rmid j z).1.v - j.lo.v ≤ (rrad j z).1.at 65536 ∧ j.hi.v - (rmid j z).1.v ≤ (rrad j z).1.at 65536) := by
  obtain ⟨a1, a2, a3⟩ := okJ_parts hg.1
  obtain ⟨_, hm⟩ := mid_facts hg hz
  obtain ⟨hx, _⟩ := hm h0
  have c1 := (ok_arg hx.1 hx.2).1
  have c2 := (ok_arg a1 hg.2.lo).1
  unfold rrad
  rw [h0]
  simp only [bne_self_eq_false, cond_false]
  have d1 := at_minus (E := 65536) (a := j.hi.q) c1 (ok_e a2) (ok_e hx.1)
  have d2 := at_minus (E := 65536) (b := j.lo.q) c2 (ok_e hx.1) (ok_e a1)
  have l1 := low_minus (E := 65536) (a := j.hi.q) c1 (ok_e a2) (ok_e hx.1)
  have l2 := low_minus (E := 65536) (b := j.lo.q) c2 (ok_e hx.1) (ok_e a1)
  refine ⟨res_two _, fun hr => ?_⟩
  obtain ⟨D, hD⟩ : ∃ D, D = (bif decide (cmpq (minus j.hi.q (rmid j z).1.q) (minus (rmid j z).1.q j.lo.q) < 0) then minus (rmid j z).1.q j.lo.q else minus j.hi.q (rmid j z).1.q) := ⟨_, rfl⟩
  rw [← hD] at hr ⊢
  have hf : Fits (rnd z.toNat true D) := by
    by_cases hf : Fits (rnd z.toNat true D)
    · exact hf
    · rw [res_over hf] at hr; cases hr
  rw [res_ok hf]
  have key : -((65536 : Nat) : Int) ≤ D.e ∧ (rmid j z).1.v - j.lo.v ≤ D.at 65536 ∧ j.hi.v - (rmid j z).1.v ≤ D.at 65536 := by
    have f1 : (rmid j z).1.v = (rmid j z).1.q.at 65536 := rfl
    have f2 : j.lo.v = j.lo.q.at 65536 := rfl
    have f3 : j.hi.v = j.hi.q.at 65536 := rfl
    have hcm := cmp_ge (E := 65536) l1 l2
    cases hc : decide (cmpq (minus j.hi.q (rmid j z).1.q) (minus (rmid j z).1.q j.lo.q) < 0)
    · rw [hc, cond_false] at hD
      have hc := of_decide_eq_false hc
      have := hcm.1 (by omega)
      rw [hD]
      exact ⟨l1, by omega, by omega⟩
    · rw [hc, cond_true] at hD
      have hc := of_decide_eq_true hc
      have := cmp_le (E := 65536) l1 l2
      have := this.1 (by omega)
      rw [hD]
      exact ⟨l2, by omega, by omega⟩
  have up := rnd_up (E := 65536) (p := z.toNat) key.1
  exact ⟨⟨rnd_canon _ _ _, hf⟩, by have := key.2.1; show _ ≤ (rnd z.toNat true D).at 65536; omega, by have := key.2.2; show _ ≤ (rnd z.toNat true D).at 65536; omega⟩
theorem wide_facts {j : J} {z : Int} (hg : Good j) (hz : prl z = true) : ((rwide j z).2 = 0 ∨ (rwide j z).2 = 2) ∧ ((rwide j z).2 = 0 → Valid (rwide j z).1 ∧ j.hi.v - j.lo.v ≤ (rwide j z).1.at 65536) := by
  obtain ⟨a1, a2, a3⟩ := okJ_parts hg.1
  have c2 := (ok_arg a1 hg.2.lo).1
  unfold rwide
  rw [hg.1, prl_prb, hz]
  simp only [Bool.not_true, Bool.or_self, cond_false]
  refine ⟨res_two _, fun hr => ?_⟩
  have hf : Fits (rnd z.toNat true (minus j.hi.q j.lo.q)) := by
    by_cases hf : Fits (rnd z.toNat true (minus j.hi.q j.lo.q))
    · exact hf
    · rw [res_over hf] at hr; cases hr
  rw [res_ok hf]
  have up := rnd_up (E := 65536) (p := z.toNat) (low_minus (E := 65536) (a := j.hi.q) c2 (ok_e a2) (ok_e a1))
  rw [at_minus (E := 65536) (a := j.hi.q) c2 (ok_e a2) (ok_e a1)] at up
  exact ⟨⟨rnd_canon _ _ _, hf⟩, up⟩
noncomputable def Tlaw5_IvMids : Tbl := one 10 (gJI fun j z => (True, bA true))
theorem Tlaw5_IvMids_ok : TbOK Tryz.prog Tlaw5_IvMids := one_ok (ent Tryz.func10 (by kernel_rfl) rfl) fun args e h hp => by obtain ⟨j, z, rfl, rfl⟩ := gJI_eq h; exact v_mids j z
end Go.Proofs.YtfggnoejcgehdaaGreatDoor
namespace Go.Proofs.YtfggnoejcgehdaaGreatDoor
open Go.RowKit Nx
set_option linter.unusedVariables false
set_option linter.unusedSimpArgs false
theorem fits_rnd {k p : Nat} {up : Bool} {q : Q} (h : Bd k q) (hp : 1 ≤ p) (h2 : p ≤ 256) (hk : 2 * k + 257 ≤ 65536) : Fits (rnd p up q) := by
  have hb := bd_rnd (p := p) (up := up) h
  exact fits_few (Nat.le_trans (nbits_rnd up q hp) h2) (by have := hb.2.1; omega) (by have := hb.2.2; omega)
theorem fits_rat {k p : Nat} {up : Bool} {x y : Q} (hx : Bd k x) (hy : Bd k y) (hy0 : y.m ≠ 0) (hp : 1 ≤ p) (h2 : p ≤ 256) (hk : k ≤ 1000) : Fits (ratq p up x y) := by
  have hb := bd_rat (up := up) hp hx hy hy0
  exact fits_few (Nat.le_trans (ratq_bits up x y hp) h2) (by have := hb.2.1; omega) (by have := hb.2.2; omega)
theorem qx_cmp {a b : Q} (ha : Valid a) (hb : Valid b) : cmpx (qx a) (qx b) = cmpq a b := by
  rw [cmpx_q (qx_ok ha).1 (qx_ok hb).1, (qx_ok ha).2.2, (qx_ok hb).2.2]
theorem ends_ok {a b : Q} (va : Valid a) (vb : Valid b) (h : cmpq a b ≤ 0) : endsQ a b = (⟨qx a, qx b⟩, 0) ∧ Good ⟨qx a, qx b⟩ := by
  refine ⟨by unfold endsQ; rw [res_ok va.2, res_ok vb.2]; rfl, ?_, (qx_ok va).2.1, (qx_ok vb).2.1⟩
  unfold okJ
  show ((qx a).ok && (qx b).ok && decide (cmpx (qx a) (qx b) ≤ 0)) = true
  rw [(qx_ok va).1, (qx_ok vb).1, qx_cmp va vb, decide_eq_true h]; rfl
theorem ends_has {a b r : Q} (va : Valid a) (vb : Valid b) (vr : Valid r) (h1 : cmpq a r ≤ 0) (h2 : cmpq r b ≤ 0) (h : cmpq a b ≤ 0) : hasJ ⟨qx a, qx b⟩ (qx r) = true := by
  unfold hasJ
  rw [(ends_ok va vb h).2.1, (qx_ok vr).1]
  show (true && true && decide (cmpx (qx a) (qx r) ≤ 0) && decide (cmpx (qx r) (qx b) ≤ 0)) = true
  rw [qx_cmp va vr, qx_cmp vr vb, decide_eq_true h1, decide_eq_true h2]; rfl
theorem ends_in {a b c d : Q} (va : Valid a) (vb : Valid b) (vc : Valid c) (vd : Valid d) (h1 : cmpq a c ≤ 0) (h2 : cmpq d b ≤ 0) (h : cmpq c d ≤ 0) (h' : cmpq a b ≤ 0) : inJ ⟨qx c, qx d⟩ ⟨qx a, qx b⟩ = true := by
  unfold inJ
  rw [(ends_ok va vb h').2.1, (ends_ok vc vd h).2.1]
  simp only [qx_cmp va vc, qx_cmp vd vb]
  rw [decide_eq_true h1, decide_eq_true h2]; rfl
theorem out_ok {p E : Nat} {L G : Q} (hp : 1 ≤ p) (lL : -(E : Int) ≤ L.e) (lG : -(E : Int) ≤ G.e) (h : L.at E ≤ G.at E) : cmpq (rnd p false L) (rnd p true G) ≤ 0 :=
  (cmp_le (E := E) (rnd_low lL) (rnd_low lG)).2 (Int.le_trans (rnd_down lL) (Int.le_trans h (rnd_up lG)))
theorem out_has {p E : Nat} {L r : Q} (lL : -(E : Int) ≤ L.e) (lr : -(E : Int) ≤ r.e) (h : L.at E ≤ r.at E) : cmpq (rnd p false L) r ≤ 0 :=
  (cmp_le (E := E) (rnd_low lL) lr).2 (Int.le_trans (rnd_down lL) h)
theorem out_has' {p E : Nat} {G r : Q} (lG : -(E : Int) ≤ G.e) (lr : -(E : Int) ≤ r.e) (h : r.at E ≤ G.at E) : cmpq r (rnd p true G) ≤ 0 :=
  (cmp_le (E := E) lr (rnd_low lG)).2 (Int.le_trans h (rnd_up lG))
theorem out_mono {p E : Nat} {up : Bool} {L M : Q} (hp : 1 ≤ p) (lL : -(E : Int) ≤ L.e) (lM : -(E : Int) ≤ M.e) (h : L.at E ≤ M.at E) : cmpq (rnd p up L) (rnd p up M) ≤ 0 :=
  (cmp_le (E := E) (rnd_low lL) (rnd_low lM)).2 (rnd_mono hp lL lM h)
theorem bd_pw {k i : Nat} {q : Q} (hc : Canon q) (h : Bd k q) (hi : i ≤ 8) : Bd (8 * k + 1) (pw q i) := by
  rcases pw_form hc i with e | e
  · rw [e]; exact ⟨Nat.two_pow_pos _, by show -((8 * k + 1 : Nat) : Int) ≤ 0; omega, by show (0 : Int) ≤ _; omega⟩
  · rw [e]
    obtain ⟨h1, h2, h3⟩ := h
    refine ⟨?_, ?_, ?_⟩
    · show q.m ^ i < 2 ^ (8 * k + 1)
      have a1 : q.m ^ i ≤ (2 ^ k) ^ i := Nat.pow_le_pow_left (Nat.le_of_lt h1) i
      rw [← Nat.pow_mul] at a1
      refine Nat.lt_of_le_of_lt a1 (Nat.pow_lt_pow_right (by omega) ?_)
      have : k * i ≤ k * 8 := Nat.mul_le_mul_left k hi
      omega
    · show -((8 * k + 1 : Nat) : Int) ≤ (i : Int) * q.e
      have a1 : (i : Int) * -(k : Int) ≤ (i : Int) * q.e := Int.mul_le_mul_of_nonneg_left h2 (by omega)
      have a2 : (i : Int) * (k : Int) ≤ 8 * (k : Int) := Int.mul_le_mul_of_nonneg_right (by omega) (by omega)
      rw [Int.mul_neg] at a1
      omega
    · show (i : Int) * q.e ≤ ((8 * k + 1 : Nat) : Int)
      have a1 : (i : Int) * q.e ≤ (i : Int) * (k : Int) := Int.mul_le_mul_of_nonneg_left h3 (by omega)
      have a2 : (i : Int) * (k : Int) ≤ 8 * (k : Int) := Int.mul_le_mul_of_nonneg_right (by omega) (by omega)
      omega
theorem bd_least {k : Nat} {x y u v : Q} (hx : Bd k x) (hy : Bd k y) (hu : Bd k u) (hv : Bd k v) : Bd (2 * k + 2 * k) (leastQ x y u v) := by
  rcases least_in x y u v with h | h | h | h <;> rw [h]
  · exact bd_times hx hu
  · exact bd_times hy hu
  · exact bd_times hx hv
  · exact bd_times hy hv
theorem bd_great {k : Nat} {x y u v : Q} (hx : Bd k x) (hy : Bd k y) (hu : Bd k u) (hv : Bd k v) : Bd (2 * k + 2 * k) (greatQ x y u v) := bd_neg (bd_least (bd_neg hy) (bd_neg hx) hu hv)
end Go.Proofs.YtfggnoejcgehdaaGreatDoor
