/- Powers are the document's. -/
import Derived.Test.YtfggnoejcgehdaaGreatDoorRAkF
namespace Go.Proofs.YtfggnoejcgehdaaGreatDoor
open Go.RowKit Nx
set_option linter.unusedVariables false
set_option linter.unusedSimpArgs false
theorem pw_form {q : Q} (hq : Canon q) (k : Nat) : pw q k = q0 ∨ pw q k = ⟨psg q.s k, q.m ^ k, k * q.e⟩ := by
  have e1 : pw q k = nm (psg q.s k) (q.m ^ k) (k * q.e) := by rw [pw_ofz, z_pow, nm_ofz]; rfl
  by_cases h0 : q.m ^ k = 0
  · left; rw [e1, h0, nm_zero]
  · right
    rw [e1]
    have hodd : q.m ^ k % 2 = 1 := by
      cases k with
      | zero => rfl
      | succ k =>
        have hm : q.m ≠ 0 := fun h => h0 (by rw [h, Nat.zero_pow (by omega)])
        have := hq.2 hm
        generalize k + 1 = n
        induction n with
        | zero => rfl
        | succ n ih => rw [Nat.pow_succ, Nat.mul_mod, ih, this]
    exact nm_odd (e := k * q.e) ⟨fun h => absurd h h0, fun _ => hodd⟩ h0
noncomputable def rpow (j : J) (k z : Int) : J × Int := bif !(okJ j) || decide (k < 0) || decide (8 < k) || !(prb z) then (zJ, 1) else
  endsQ (rnd z.toNat false (bif decide (0 < k) && (k.tmod 2 == 0) && hasJ j zX then q0 else bif decide (0 < cmpq (pw j.lo.q k.toNat) (pw j.hi.q k.toNat)) then pw j.hi.q k.toNat else pw j.lo.q k.toNat))
    (rnd z.toNat true (bif decide (0 < cmpq (pw j.lo.q k.toNat) (pw j.hi.q k.toNat)) then pw j.lo.q k.toNat else pw j.hi.q k.toNat))
theorem pw_low {q : Q} {E : Nat} (h : -(E : Int) ≤ q.e) (k : Nat) : -((k * E : Nat) : Int) ≤ (pw q k).e := by
  rw [pw_ofz]
  refine ofz_low ?_
  have := Int.mul_le_mul_of_nonneg_left h (show (0 : Int) ≤ k by omega)
  rw [Int.natCast_mul]
  rw [Int.mul_neg] at this
  exact this
theorem pw_at {q : Q} {E : Nat} (h : -(E : Int) ≤ q.e) (k : Nat) : (pw q k).at (k * E) = q.at E ^ k := by
  induction k with
  | zero =>
    show (ofz 1 0).at (0 * E) = _
    rw [Nat.zero_mul, at_ofz (by omega), Int.pow_zero]; rfl
  | succ k ih =>
    rw [show (k + 1) * E = k * E + E by rw [Nat.add_mul, Nat.one_mul]]
    show (times (pw q k) q).at (k * E + E) = _
    rw [at_times (pw_low h k) h, ih, Int.pow_succ]
theorem int_pow (a : Int) (k : Nat) : a ^ k = sg (psg (decide (a < 0)) k) (a.natAbs ^ k) := by
  have := z_pow ⟨decide (a < 0), a.natAbs, 0⟩ k
  have e : (⟨decide (a < 0), a.natAbs, 0⟩ : Q).z = a := by
    unfold Q.z
    by_cases h : a < 0
    · simp [h]; omega
    · simp [h]; omega
  rw [e] at this; exact this
theorem pow_odd {a b : Int} {k : Nat} (hk : k % 2 = 1) (h : a ≤ b) : a ^ k ≤ b ^ k := by
  rw [int_pow a k, int_pow b k]
  unfold psg
  rw [hk]
  simp only [BEq.rfl, Bool.and_true]
  by_cases h1 : a < 0 <;> by_cases h2 : b < 0
  · rw [decide_eq_true h1, decide_eq_true h2, sg_tt]; exact Nat.pow_le_pow_left (by omega) k
  · rw [decide_eq_true h1, decide_eq_false h2]; exact sg_tf
  · omega
  · rw [decide_eq_false h1, decide_eq_false h2, sg_ff]; exact Nat.pow_le_pow_left (by omega) k
theorem pow_even {a : Int} {k : Nat} (hk : k % 2 = 0) : a ^ k = ((a.natAbs ^ k : Nat) : Int) := by
  rw [int_pow]; unfold psg; rw [hk]
  simp only [show ((0 : Nat) == 1) = false from rfl, Bool.and_false]; rfl
theorem cmp_pw {x y : X} (hx : x.ok = true) (hy : y.ok = true) (k : Nat) : 0 < cmpq (pw x.q k) (pw y.q k) ↔ y.v ^ k < x.v ^ k := by
  rw [cmpq_at (pw_low (ok_e hx) k) (pw_low (ok_e hy) k), pw_at (ok_e hx), pw_at (ok_e hy)]
  show 0 < (if x.v ^ k < y.v ^ k then (-1 : Int) else if y.v ^ k < x.v ^ k then 1 else 0) ↔ _
  split
  · omega
  · split <;> omega
theorem pw_inj {x y : X} (hx : x.ok = true) (hy : y.ok = true) {k : Nat} (h : x.v ^ k = y.v ^ k) : pw x.q k = pw y.q k :=
  at_inj (pw_canon _ _) (pw_canon _ _) (pw_low (ok_e hx) k) (pw_low (ok_e hy) k) (by rw [pw_at (ok_e hx), pw_at (ok_e hy)]; exact h)
theorem pw_zero {q : Q} (h : q.m = 0) {k : Nat} (hk : 0 < k) : pw q k = q0 := by
  rw [pw_ofz, z_pow, h, Nat.zero_pow hk, show sg (psg q.s k) 0 = 0 by unfold sg; cases psg q.s k <;> rfl, ofz_zero]
theorem tmod_two {k : Int} (h : 0 ≤ k) : (k.tmod 2 == 0) = (k.toNat % 2 == 0) := by
  obtain ⟨n, rfl⟩ := Int.eq_ofNat_of_zero_le h
  rw [Int.toNat_natCast, Int.tmod_eq_emod_of_nonneg (by omega)]
  have : ((n : Int) % 2) = ((n % 2 : Nat) : Int) := rfl
  rw [this]
  rcases Nat.mod_two_eq_zero_or_one n with e | e <;> rw [e] <;> rfl
theorem abs_val {x : X} (h : x.ok = true) (hs : Small B64 x.xs) : (qx (absx x)).ok = true ∧ (qx (absx x)).v = (x.v.natAbs : Int) := by
  have hv := ok_arg h hs
  rw [absx_ok h hs]
  exact ⟨(qx_ok (abs_valid hv)).1, abs_nat hv⟩
theorem pw_abs {x : X} (h : x.ok = true) (hs : Small B64 x.xs) {k : Nat} (hk : k % 2 = 0) : pw (qx (absx x)).q k = pw x.q k := by
  obtain ⟨h1, h2⟩ := abs_val h hs
  refine pw_inj h1 h ?_
  rw [h2, pow_even hk, pow_even hk, Int.natAbs_natCast]
theorem has_zero {j : J} (h : okJ j = true) : hasJ j zX = (decide (j.lo.v ≤ 0) && decide (0 ≤ j.hi.v)) := by
  obtain ⟨a1, a2, a3⟩ := okJ_parts h
  unfold hasJ
  rw [h, zX_ok, decide_eq_decide.2 ((cmpx_le a1 zX_ok).trans (by rw [zX_v])), decide_eq_decide.2 ((cmpx_le zX_ok a2).trans (by rw [zX_v]))]; rfl
set_option maxHeartbeats 1000000 in
theorem pow_eq {j : J} (hg : GJ j) (k z : Int) : powJ j k z = rpow j k z := by
  by_cases hgood : okJ j = true ∧ prl z = true ∧ 0 ≤ k ∧ k ≤ 8
  · obtain ⟨h, hz, h0, h8⟩ := hgood
    obtain ⟨a1, a2, a3⟩ := okJ_parts h
    have hle := (cmpx_le a1 a2).1 a3
    have e1 : powJ j k z = outJ (fun b => prX (res (rnd z.toNat b (pw (sdX (bif (k.tmod 2 == 0) then sizJ j else j) b).q k.toNat)))) := by
      unfold powJ; rw [h, hz, decide_eq_true h0, decide_eq_true h8]; rfl
    have e2 : rpow j k z = endsQ (rnd z.toNat false (bif decide (0 < k) && (k.tmod 2 == 0) && hasJ j zX then q0 else bif decide (0 < cmpq (pw j.lo.q k.toNat) (pw j.hi.q k.toNat)) then pw j.hi.q k.toNat else pw j.lo.q k.toNat))
        (rnd z.toNat true (bif decide (0 < cmpq (pw j.lo.q k.toNat) (pw j.hi.q k.toNat)) then pw j.lo.q k.toNat else pw j.hi.q k.toNat)) := by
      unfold rpow; rw [h, prl_prb, hz, decide_eq_false (show ¬ k < 0 by omega), decide_eq_false (show ¬ 8 < k by omega)]; rfl
    rw [e1, e2]
    rw [tmod_two h0]
    obtain ⟨n, hn⟩ : ∃ n, n = k.toNat := ⟨_, rfl⟩
    have hk : decide (0 < k) = decide (0 < n) := decide_eq_decide.2 (by omega)
    rw [hk, ← hn]
    have hc := cmp_pw a1 a2 n
    have fin : ∀ (A B : X) (u v : Q), pw A.q n = u → pw B.q n = v → outJ (fun b => prX (res (rnd z.toNat b (pw (sdX ⟨A, B⟩ b).q n)))) = endsQ (rnd z.toNat false u) (rnd z.toNat true v) := fun A B u v hu hv => by
      rw [← hu, ← hv]; exact out_ends rfl rfl
    rcases Nat.mod_two_eq_zero_or_one n with hm | hm
    · rw [hm]
      simp only [BEq.rfl, cond_true, Bool.and_true]
      obtain ⟨b1, b2⟩ := abs_val a1 hg.lo
      obtain ⟨c1, c2⟩ := abs_val a2 hg.hi
      have p1 := pw_abs a1 hg.lo hm
      have p2 := pw_abs a2 hg.hi hm
      have hmag : magJ j = uppX (qx (absx j.lo)) (qx (absx j.hi)) := by unfold magJ; rw [h]; exact more_upp b1 c1
      by_cases hn0 : n = 0
      · subst hn0
        have p0 : ∀ q, pw q 0 = ofz 1 0 := fun _ => rfl
        simp only [p0, Nat.lt_irrefl, decide_false, Bool.false_and, cond_false, Bool.cond_self]
        exact out_ends rfl rfl
      · have hnp : 0 < n := by omega
        rw [decide_eq_true hnp, Bool.true_and]
        rw [pow_even hm, pow_even hm, Int.ofNat_lt, Nat.pow_lt_pow_iff_left (by omega)] at hc
        have zabs : ∀ {x : X}, x.ok = true → x.v = 0 → pw x.q n = q0 := fun {x} _ hv => pw_zero (by
          by_cases h0 : x.q.m = 0
          · exact h0
          · exfalso
            unfold X.v at hv
            have h1 := at_abs (E := 65536) x.q
            rw [hv] at h1
            have := Nat.mul_pos (Nat.pos_of_ne_zero h0) (Nat.two_pow_pos (x.q.e + ((65536 : Nat) : Int)).toNat)
            rw [← h1] at this
            exact absurd this (by decide)) hnp
        unfold sizJ
        refine fin _ _ _ _ ?_ ?_
        ·
          cases hs : strJ j
          · show pw (lessX (qx (absx j.lo)) (qx (absx j.hi))).q n = _
            rw [less_low b1 c1]
            rw [str_v h] at hs
            by_cases hcl : cmpx (qx (absx j.hi)) (qx (absx j.lo)) < 0
            · have hlt := (cmpx_lt c1 b1).1 hcl
              rw [b2, c2, Int.ofNat_lt] at hlt
              unfold lowX
              rw [decide_eq_true hcl, decide_eq_true (hc.2 hlt), cond_true, cond_true, p2]
              cases hz : hasJ j zX
              · rfl
              · rw [cond_true]
                rw [has_zero h, Bool.and_eq_true, decide_eq_true_eq, decide_eq_true_eq] at hz
                have : j.hi.v = 0 := by
                  rw [Bool.and_eq_false_iff, decide_eq_false_iff_not, decide_eq_false_iff_not] at hs
                  omega
                exact zabs a2 this
            · have hge : ¬ _ := fun g => hcl ((cmpx_lt c1 b1).2 g)
              rw [b2, c2, Int.ofNat_lt] at hge
              unfold lowX
              rw [decide_eq_false hcl, decide_eq_false (fun g => hge (hc.1 g)), cond_false, cond_false, p1]
              cases hz : hasJ j zX
              · rfl
              · rw [cond_true]
                rw [has_zero h, Bool.and_eq_true, decide_eq_true_eq, decide_eq_true_eq] at hz
                have : j.lo.v = 0 := by
                  rw [Bool.and_eq_false_iff, decide_eq_false_iff_not, decide_eq_false_iff_not] at hs
                  omega
                exact zabs a1 this
          · show pw zX.q n = _
            rw [str_v h, Bool.and_eq_true, decide_eq_true_eq, decide_eq_true_eq] at hs
            rw [has_zero h, decide_eq_true (show j.lo.v ≤ 0 by omega), decide_eq_true (show 0 ≤ j.hi.v by omega)]
            exact pw_zero rfl hnp
        ·
          show pw (magJ j).q n = _
          rw [hmag]
          unfold uppX
          by_cases hcg : cmpx (qx (absx j.hi)) (qx (absx j.lo)) > 0
          · have hgt := (cmpx_gt c1 b1).1 hcg
            rw [b2, c2, Int.ofNat_lt] at hgt
            rw [decide_eq_true hcg, decide_eq_false (show ¬ 0 < cmpq (pw j.lo.q n) (pw j.hi.q n) from fun g => by have := hc.1 g; omega), cond_true, cond_false, p2]
          · have hle2 : ¬ _ := fun g => hcg ((cmpx_gt c1 b1).2 g)
            rw [b2, c2, Int.ofNat_lt] at hle2
            rw [decide_eq_false hcg, cond_false, p1]
            by_cases hd : 0 < cmpq (pw j.lo.q n) (pw j.hi.q n)
            · rw [decide_eq_true hd]; rfl
            · rw [decide_eq_false hd]
              have : ¬ j.hi.v.natAbs < j.lo.v.natAbs := fun g => hd (hc.2 g)
              exact pw_inj a1 a2 (by rw [pow_even hm, pow_even hm]; congr 2; omega)
    · rw [hm]
      have hnle : ¬ 0 < cmpq (pw j.lo.q n) (pw j.hi.q n) := fun g => by
        have := hc.1 g
        have := pow_odd hm hle
        omega
      rw [decide_eq_false hnle]
      simp only [show ((1 : Nat) == 0) = false from rfl, cond_false, Bool.and_false, Bool.false_and]
      exact fin j.lo j.hi _ _ rfl rfl
  · have e1 : powJ j k z = (zJ, 1) := by
      unfold powJ
      by_cases g : (okJ j && prl z && decide (0 ≤ k) && decide (k ≤ 8)) = true
      · simp only [Bool.and_eq_true, decide_eq_true_eq] at g
        exact absurd ⟨g.1.1.1, g.1.1.2, g.1.2, g.2⟩ hgood
      · have g : (okJ j && prl z && decide (0 ≤ k) && decide (k ≤ 8)) = false := by simpa using g
        rw [g]; rfl
    have e2 : rpow j k z = (zJ, 1) := by
      unfold rpow
      by_cases g : (!(okJ j) || decide (k < 0) || decide (8 < k) || !(prb z)) = true
      · rw [g]; rfl
      · have g : (!(okJ j) || decide (k < 0) || decide (8 < k) || !(prb z)) = false := by simpa using g
        simp only [Bool.or_eq_false_iff, Bool.not_eq_false', decide_eq_false_iff_not] at g
        rw [prl_prb] at g
        exact absurd ⟨g.1.1.1, g.2, by omega, by omega⟩ hgood
    rw [e1, e2]
end Go.Proofs.YtfggnoejcgehdaaGreatDoor
