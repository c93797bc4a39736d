/- What package iv answers against what the document says: sums and differences. -/
import Derived.Test.YtobcbhppmgnioaaGreatDoorSAi7
namespace Go.Proofs.YtobcbhppmgnioaaGreatDoor
set_option linter.unusedSimpArgs false
set_option linter.unusedVariables false
open Go.RowKit Nx
section
theorem prl_prb (z : Int) : prb z = prl z := by unfold prb prl; rfl
theorem prl_precb {z : Int} (h : prl z = true) : precb z = true := by
 unfold prl at h
 simp only [Bool.and_eq_true, decide_eq_true_eq] at h
 simp only [precb, decide_eq_true_eq]; exact h
theorem okJ_parts {j : J} (h : okJ j = true) : j.lo.ok = true ∧ j.hi.ok = true ∧ cmpx j.lo j.hi ≤ 0 := by
 unfold okJ at h
 simp only [Bool.and_eq_true, decide_eq_true_eq] at h
 exact ⟨h.1.1, h.1.2, h.2⟩
theorem sd_ok {j : J} (h : okJ j = true) (b : Bool) : (sdX j b).ok = true := by
 cases b
 ·exact (okJ_parts h).1
 ·exact (okJ_parts h).2.1
theorem rtwo_ok {g : Q → Q → Q × Int} {z : Int} {x y : X} (hx : x.ok = true) (hy : y.ok = true) (hp : prl z = true) : rtwo g z x y = g x.q y.q := by
 unfold rtwo ansr
 unfold X.ok at hx hy
 rw [hx, hy, prl_precb hp]
 rfl
theorem res_two (q : Q) : (res q).2 = 0 ∨ (res q).2 = 2 := by
 by_cases h : Fits q
 ·rw [res_ok h]; exact .inl rfl
 ·rw [res_over h]; exact .inr rfl
theorem out_ends {c : Bool → X × Int} {a b : Q} (h0 : c false = prX (res a)) (h1 : c true = prX (res b)) : outJ c = endsQ a b := by
 unfold outJ endsQ
 rw [h0, h1]
 unfold prX
 rcases res_two a with ha | ha <;> rcases res_two b with hb | hb <;> simp only [ha, hb] <;> rfl
theorem add_eq (j j1 : J) (z : Int) : addJ j j1 z = opQ 0 j j1 z := by
 unfold addJ opQ
 rw [prl_prb]
 cases ha : okJ j <;> cases hb : okJ j1 <;> cases hz : prl z <;> try rfl
 exact out_ends (c := fun b => prX (rtwo (gadd z b) z (sdX j b) (sdX j1 b))) (a := rnd z.toNat false (plus j.lo.q j1.lo.q)) (b := rnd z.toNat true (plus j.hi.q j1.hi.q)) (congrArg prX (rtwo_ok (sd_ok ha _) (sd_ok hb _) hz)) (congrArg prX (rtwo_ok (sd_ok ha _) (sd_ok hb _) hz))
def X.v (x : X) : Int := x.q.at 65536
theorem ok_e {x : X} (h : x.ok = true) : -((65536 : Nat) : Int) ≤ x.q.e := by
 show -((65536 : Nat) : Int) ≤ x.e
 unfold X.ok okb at h
 split at h
 ·simp only [Bool.and_eq_true, beq_iff_eq] at h; omega
 ·simp only [Bool.and_eq_true, decide_eq_true_eq] at h; omega
theorem cmpx_v {x y : X} (hx : x.ok = true) (hy : y.ok = true) : cmpx x y = if x.v < y.v then -1 else if y.v < x.v then 1 else 0 := by
 rw [cmpx_q hx hy]; exact cmpq_at (ok_e hx) (ok_e hy)
theorem cmpx_le {x y : X} (hx : x.ok = true) (hy : y.ok = true) : cmpx x y ≤ 0 ↔ x.v ≤ y.v := by
 rw [cmpx_v hx hy]
 by_cases h1 : x.v < y.v <;> by_cases h2 : y.v < x.v <;> simp [h1, h2] <;> omega
theorem cmpx_lt {x y : X} (hx : x.ok = true) (hy : y.ok = true) : cmpx x y < 0 ↔ x.v < y.v := by
 rw [cmpx_v hx hy]
 by_cases h1 : x.v < y.v <;> by_cases h2 : y.v < x.v <;> simp [h1, h2]
theorem cmpx_gt {x y : X} (hx : x.ok = true) (hy : y.ok = true) : cmpx x y > 0 ↔ y.v < x.v := by
 rw [cmpx_v hx hy]
 by_cases h1 : x.v < y.v <;> by_cases h2 : y.v < x.v <;> simp [h1, h2]
 omega
end
section
theorem sgn_v {x : X} : (signq x.q < 0 ↔ x.v < 0) := by
 rw [signq_at (E := 65536)]
 show (if x.v < 0 then (-1 : Int) else if 0 < x.v then 1 else 0) < 0 ↔ _
 by_cases h : x.v < 0 <;> by_cases h2 : 0 < x.v <;> simp [h, h2]
theorem signx_ok {x : X} (h : x.ok = true) : signx x = signq x.q := by unfold signx; rw [if_pos h]
end
section
theorem sgn_ge {x : X} : (signq x.q ≥ 0 ↔ 0 ≤ x.v) := by
 rw [signq_at (E := 65536)]
 show (if x.v < 0 then (-1 : Int) else if 0 < x.v then 1 else 0) ≥ 0 ↔ _
 by_cases h : x.v < 0 <;> by_cases h2 : 0 < x.v <;> simp [h, h2] <;> omega
theorem sgn_le {x : X} : (signq x.q ≤ 0 ↔ x.v ≤ 0) := by
 rw [signq_at (E := 65536)]
 show (if x.v < 0 then (-1 : Int) else if 0 < x.v then 1 else 0) ≤ 0 ↔ _
 by_cases h : x.v < 0 <;> by_cases h2 : 0 < x.v <;> simp [h, h2] <;> omega
theorem sgn_gt {x : X} : (signq x.q > 0 ↔ 0 < x.v) := by
 rw [signq_at (E := 65536)]
 show (if x.v < 0 then (-1 : Int) else if 0 < x.v then 1 else 0) > 0 ↔ _
 by_cases h : x.v < 0 <;> by_cases h2 : 0 < x.v <;> simp [h, h2]
 omega
theorem tv {a b : X} (ha : a.ok = true) (hb : b.ok = true) : (times a.q b.q).at (65536 + 65536) = a.v * b.v := at_times (ok_e ha) (ok_e hb)
theorem t_low {a b : X} (ha : a.ok = true) (hb : b.ok = true) : -((65536 + 65536 : Nat) : Int) ≤ (times a.q b.q).e := by
 have h1 := ok_e ha; have h2 := ok_e hb
 exact ofz_low (by omega)
theorem t_inj {a b c d : X} (ha : a.ok = true) (hb : b.ok = true) (hc : c.ok = true) (hd : d.ok = true) (h : a.v * b.v = c.v * d.v) : times a.q b.q = times c.q d.q :=
 at_inj (ofz_canon _ _) (ofz_canon _ _) (t_low ha hb) (t_low hc hd) (by rw [tv ha hb, tv hc hd]; exact h)
theorem t_lt {a b c d : X} (ha : a.ok = true) (hb : b.ok = true) (hc : c.ok = true) (hd : d.ok = true) : cmpq (times a.q b.q) (times c.q d.q) < 0 ↔ a.v * b.v < c.v * d.v := by
 rw [cmpq_at (t_low ha hb) (t_low hc hd), tv ha hb, tv hc hd]
 by_cases h1 : a.v * b.v < c.v * d.v <;> by_cases h2 : c.v * d.v < a.v * b.v <;> simp [h1, h2]
theorem least_one {x y u v : X} (hx : x.ok = true) (hy : y.ok = true) (hu : u.ok = true) (hv : v.ok = true) (h2 : u.v ≤ v.v) (hn : ¬ (x.v < 0 ∧ 0 < y.v)) :
  leastQ x.q y.q u.q v.q = bif decide (x.v < 0) then (bif decide (v.v < 0) then times y.q v.q else times x.q v.q) else (bif decide (u.v < 0) then times y.q u.q else times x.q u.q) := by
 unfold leastQ
 rw [decide_eq_decide.2 (sgn_ge (x := x)), decide_eq_decide.2 (sgn_ge (x := u)), decide_eq_decide.2 (sgn_le (x := y)), decide_eq_decide.2 (sgn_le (x := v)), decide_eq_decide.2 (t_lt hy hu hx hv)]
 by_cases a1 : x.v < 0
 ·have a2 : ¬ (0 ≤ x.v) := by omega
  have a3 : y.v ≤ 0 := by omega
  rw [decide_eq_false a2, decide_eq_true a1, decide_eq_true a3]
  by_cases b1 : 0 ≤ u.v
  ·have b2 : ¬ v.v < 0 := by omega
   rw [decide_eq_true b1, decide_eq_false b2]; rfl
  ·rw [decide_eq_false b1]
   by_cases c1 : v.v ≤ 0
   ·rw [decide_eq_true c1]
    show times y.q v.q = _
    by_cases c2 : v.v < 0
    ·rw [decide_eq_true c2]; rfl
    ·rw [decide_eq_false c2]
     have c3 : v.v = 0 := by omega
     exact t_inj hy hv hx hv (by rw [c3, Int.mul_zero, Int.mul_zero])
   ·have c2 : ¬ v.v < 0 := by omega
    have c3 : ¬ (y.v * u.v < x.v * v.v) := by
     have e1 : 0 ≤ y.v * u.v := Int.mul_nonneg_of_nonpos_of_nonpos a3 (by omega)
     have e2 : x.v * v.v ≤ 0 := Int.mul_nonpos_of_nonpos_of_nonneg (by omega) (by omega)
     omega
    rw [decide_eq_false c1, decide_eq_false c2, decide_eq_false c3]; rfl
 ·have a2 : 0 ≤ x.v := by omega
  rw [decide_eq_true a2, decide_eq_false a1]
  by_cases b1 : 0 ≤ u.v
  ·have b2 : ¬ u.v < 0 := by omega
   rw [decide_eq_true b1, decide_eq_false b2]; rfl
  ·have b2 : u.v < 0 := by omega
   rw [decide_eq_false b1, decide_eq_true b2]; rfl
theorem t_comm {a b : X} (ha : a.ok = true) (hb : b.ok = true) : times a.q b.q = times b.q a.q := t_inj ha hb hb ha (Int.mul_comm _ _)
theorem least_comm {x y u v : X} (hx : x.ok = true) (hy : y.ok = true) (hu : u.ok = true) (hv : v.ok = true) : leastQ x.q y.q u.q v.q = leastQ u.q v.q x.q y.q := by
 unfold leastQ
 rw [decide_eq_decide.2 (t_lt hy hu hx hv), decide_eq_decide.2 (t_lt hv hx hu hy), t_comm hu hx, t_comm hv hx, t_comm hu hy, t_comm hv hy]
 cases decide (signq x.q ≥ 0) <;> cases decide (signq u.q ≥ 0) <;> try rfl
 cases decide (signq y.q ≤ 0) <;> cases decide (signq v.q ≤ 0) <;> try rfl
 all_goals
  show (bif decide (y.v * u.v < x.v * v.v) then times y.q u.q else times x.q v.q) = (bif decide (v.v * x.v < u.v * y.v) then times x.q v.q else times y.q u.q)
  rw [Int.mul_comm v.v x.v, Int.mul_comm u.v y.v]
  by_cases h1 : y.v * u.v < x.v * v.v
  ·rw [decide_eq_true h1, decide_eq_false (by omega)]; rfl
  ·rw [decide_eq_false h1]
   by_cases h2 : x.v * v.v < y.v * u.v
   ·rw [decide_eq_true h2]; rfl
   ·rw [decide_eq_false h2]
    exact t_inj hx hv hy hu (by omega)
end
section
theorem nX_ok {x : X} (h : x.ok = true) (hs : Small B64 x.xs) : (qx x.q.neg).ok = true ∧ (qx x.q.neg).q = x.q.neg ∧ (qx x.q.neg).v = -x.v := by
 have hv := ok_arg h hs
 obtain ⟨h1, _, h3⟩ := qx_ok (neg_valid hv)
 refine ⟨h1, h3, ?_⟩
 unfold X.v; rw [h3]; exact at_neg hv.1
theorem t_neg {a b : X} (ha : a.ok = true) (hs : Small B64 a.xs) (hb : b.ok = true) : (times a.q.neg b.q).neg = times a.q b.q := by
 obtain ⟨h1, h2, h3⟩ := nX_ok ha hs
 have hc : Canon (times a.q.neg b.q) := ofz_canon _ _
 have hl := t_low h1 hb
 rw [h2] at hl
 refine at_inj (neg_canon hc) (ofz_canon _ _) (by rw [e_neg hc]; exact hl) (t_low ha hb) ?_
 have e1 := tv h1 hb
 rw [h2, h3] at e1
 rw [at_neg hc, e1, tv ha hb, Int.neg_mul, Int.neg_neg]
theorem great_one {x y u v : X} (hx : x.ok = true) (hy : y.ok = true) (hu : u.ok = true) (hv : v.ok = true) (sx : Small B64 x.xs) (sy : Small B64 y.xs) (h2 : u.v ≤ v.v) (hn : ¬ (x.v < 0 ∧ 0 < y.v)) :
  greatQ x.q y.q u.q v.q = bif decide (0 < y.v) then (bif decide (v.v < 0) then times x.q v.q else times y.q v.q) else (bif decide (u.v < 0) then times x.q u.q else times y.q u.q) := by
 obtain ⟨a1, a2, a3⟩ := nX_ok hx sx
 obtain ⟨b1, b2, b3⟩ := nX_ok hy sy
 unfold greatQ
 have := least_one (x := qx y.q.neg) (y := qx x.q.neg) b1 a1 hu hv h2 (by rw [a3, b3]; omega)
 rw [a2, b2, b3] at this
 rw [this, decide_eq_decide.2 (show (-y.v < 0 ↔ 0 < y.v) by omega)]
 cases decide (0 < y.v) <;> cases decide (v.v < 0) <;> cases decide (u.v < 0) <;> first | exact t_neg hx sx hv | exact t_neg hy sy hv | exact t_neg hx sx hu | exact t_neg hy sy hu
theorem t_neg2 {a b : X} (ha : a.ok = true) (hs : Small B64 a.xs) (hb : b.ok = true) : (times b.q a.q.neg).neg = times b.q a.q := by
 obtain ⟨h1, h2, _⟩ := nX_ok ha hs
 have := t_comm hb h1
 rw [h2] at this
 rw [this, t_neg ha hs hb, t_comm ha hb]
theorem great_two {x y u v : X} (hx : x.ok = true) (hy : y.ok = true) (hu : u.ok = true) (hv : v.ok = true) (sx : Small B64 x.xs) (sy : Small B64 y.xs) (h1 : x.v ≤ y.v) (hn : ¬ (u.v < 0 ∧ 0 < v.v)) :
  greatQ x.q y.q u.q v.q = bif decide (u.v < 0) then (bif decide (0 < x.v) then times v.q x.q else times u.q x.q) else (bif decide (0 < y.v) then times v.q y.q else times u.q y.q) := by
 obtain ⟨a1, a2, a3⟩ := nX_ok hx sx
 obtain ⟨b1, b2, b3⟩ := nX_ok hy sy
 unfold greatQ
 have e := least_comm (x := qx y.q.neg) (y := qx x.q.neg) b1 a1 hu hv
 rw [least_one hu hv b1 a1 (by rw [a3, b3]; omega) hn] at e
 rw [a2, b2, a3, b3] at e
 rw [e, decide_eq_decide.2 (show (-y.v < 0 ↔ 0 < y.v) by omega), decide_eq_decide.2 (show (-x.v < 0 ↔ 0 < x.v) by omega)]
 cases decide (u.v < 0) <;> cases decide (0 < x.v) <;> cases decide (0 < y.v) <;> first | exact t_neg2 hx sx hv | exact t_neg2 hy sy hv | exact t_neg2 hx sx hu | exact t_neg2 hy sy hu
end
section
theorem end_f {j : J} {x : X} (hx : x.ok = true) : endX j x false = bif decide (x.v < 0) then j.hi else j.lo := by
 unfold endX sdX; rw [signx_ok hx, decide_eq_decide.2 sgn_v]; cases decide (x.v < 0) <;> rfl
theorem end_t {j : J} {x : X} (hx : x.ok = true) : endX j x true = bif decide (x.v < 0) then j.lo else j.hi := by
 unfold endX sdX; rw [signx_ok hx, decide_eq_decide.2 sgn_v]; cases decide (x.v < 0) <;> rfl
theorem str_v {j : J} (h : okJ j = true) : strJ j = (decide (j.lo.v < 0) && decide (0 < j.hi.v)) := by
 obtain ⟨h1, h2, _⟩ := okJ_parts h
 unfold strJ; rw [signx_ok h1, signx_ok h2, decide_eq_decide.2 sgn_v, decide_eq_decide.2 sgn_gt]
theorem end_ok {j : J} {x : X} {b : Bool} (h : okJ j = true) : (endX j x b).ok = true := sd_ok h _
theorem rmul_ok {z : Int} {b : Bool} {x y : X} (hx : x.ok = true) (hy : y.ok = true) (hp : prl z = true) : rtwo (gmul z b) z x y = res (rnd z.toNat b (times x.q y.q)) := by
 rw [rtwo_ok hx hy hp]; rfl
theorem mul_one_f {j j1 : J} {z : Int} (ha : okJ j = true) (hb : okJ j1 = true) (hz : prl z = true) (hs : strJ j = false) : mulE j j1 z false = res (rnd z.toNat false (leastQ j.lo.q j.hi.q j1.lo.q j1.hi.q)) := by
 obtain ⟨a1, a2, a3⟩ := okJ_parts ha
 obtain ⟨b1, b2, b3⟩ := okJ_parts hb
 have hn : ¬ (j.lo.v < 0 ∧ 0 < j.hi.v) := fun ⟨c1, c2⟩ => by rw [str_v ha, decide_eq_true c1, decide_eq_true c2] at hs; cases hs
 unfold mulE
 rw [hs]
 show rtwo (gmul z false) z (endX j (endX j1 j.lo false) false) (endX j1 j.lo false) = _
 rw [rmul_ok (end_ok ha) (end_ok hb) hz, least_one a1 a2 b1 b2 ((cmpx_le b1 b2).1 b3) hn, end_f (end_ok hb), end_f a1]
 cases h1 : decide (j.lo.v < 0)
 ·show res (rnd _ _ (times (bif decide (j1.lo.v < 0) then j.hi else j.lo).q j1.lo.q)) = _
  cases decide (j1.lo.v < 0) <;> rfl
 ·show res (rnd _ _ (times (bif decide (j1.hi.v < 0) then j.hi else j.lo).q j1.hi.q)) = _
  cases decide (j1.hi.v < 0) <;> rfl
theorem mul_one_t {j j1 : J} {z : Int} (hg : GJ j) (ha : okJ j = true) (hb : okJ j1 = true) (hz : prl z = true) (hs : strJ j = false) : mulE j j1 z true = res (rnd z.toNat true (greatQ j.lo.q j.hi.q j1.lo.q j1.hi.q)) := by
 obtain ⟨a1, a2, a3⟩ := okJ_parts ha
 obtain ⟨b1, b2, b3⟩ := okJ_parts hb
 have hle := (cmpx_le a1 a2).1 a3
 have hn : ¬ (j.lo.v < 0 ∧ 0 < j.hi.v) := fun ⟨c1, c2⟩ => by rw [str_v ha, decide_eq_true c1, decide_eq_true c2] at hs; cases hs
 unfold mulE
 rw [hs]
 show rtwo (gmul z true) z (endX j (endX j1 j.lo true) true) (endX j1 j.lo true) = _
 rw [rmul_ok (end_ok ha) (end_ok hb) hz, great_one a1 a2 b1 b2 hg.lo hg.hi ((cmpx_le b1 b2).1 b3) hn, end_t (end_ok hb), end_t a1]
 by_cases h1 : j.lo.v < 0
 ·rw [decide_eq_true h1, decide_eq_false (show ¬ (0 < j.hi.v) from fun h => hn ⟨h1, h⟩)]
  show res (rnd _ _ (times (bif decide (j1.lo.v < 0) then j.lo else j.hi).q j1.lo.q)) = _
  cases decide (j1.lo.v < 0) <;> rfl
 ·rw [decide_eq_false h1]
  show res (rnd _ _ (times (bif decide (j1.hi.v < 0) then j.lo else j.hi).q j1.hi.q)) = _
  by_cases h2 : 0 < j.hi.v
  ·rw [decide_eq_true h2]
   cases decide (j1.hi.v < 0) <;> rfl
  ·rw [decide_eq_false h2]
   have e0 : j.lo.v = 0 := by omega
   have e1 : j.hi.v = 0 := by omega
   congr 2
   cases decide (j1.hi.v < 0) <;> cases decide (j1.lo.v < 0) <;> simp only [cond_true, cond_false] <;> first
    | exact t_inj a1 b2 a1 b1 (by simp [e0])
    | exact t_inj a2 b2 a1 b1 (by simp [e0, e1])
    | exact t_inj a1 b2 a2 b1 (by simp [e0, e1])
    | exact t_inj a2 b2 a2 b1 (by simp [e1])
theorem mul_two_f {j j1 : J} {z : Int} (ha : okJ j = true) (hb : okJ j1 = true) (hz : prl z = true) (hs : strJ j = true) (ht : strJ j1 = false) : mulE j j1 z false = res (rnd z.toNat false (leastQ j.lo.q j.hi.q j1.lo.q j1.hi.q)) := by
 obtain ⟨a1, a2, a3⟩ := okJ_parts ha
 obtain ⟨b1, b2, b3⟩ := okJ_parts hb
 have hn : ¬ (j1.lo.v < 0 ∧ 0 < j1.hi.v) := fun ⟨c1, c2⟩ => by rw [str_v hb, decide_eq_true c1, decide_eq_true c2] at ht; cases ht
 have hj : j.lo.v < 0 ∧ 0 < j.hi.v := by
  have h := hs
  rw [str_v ha, Bool.and_eq_true, decide_eq_true_eq, decide_eq_true_eq] at h; exact h
 unfold mulE
 rw [hs, ht]
 show rtwo (gmul z false) z (endX j j1.lo false) (endX j1 (endX j j1.lo false) false) = _
 rw [rmul_ok (end_ok ha) (end_ok hb) hz, least_comm a1 a2 b1 b2, least_one b1 b2 a1 a2 ((cmpx_le a1 a2).1 a3) hn, end_f (end_ok ha), end_f b1]
 cases decide (j1.lo.v < 0)
 ·simp only [cond_true, cond_false, decide_eq_true hj.1, decide_eq_true hj.2, decide_eq_false (show ¬ (j.hi.v < 0) by omega), decide_eq_false (show ¬ (0 < j.lo.v) by omega)]
  first | rw [t_comm a1 b2] | rw [t_comm a2 b2] | rw [t_comm a1 b1] | rw [t_comm a2 b1]
 ·simp only [cond_true, cond_false, decide_eq_true hj.1, decide_eq_true hj.2, decide_eq_false (show ¬ (j.hi.v < 0) by omega), decide_eq_false (show ¬ (0 < j.lo.v) by omega)]
  first | rw [t_comm a1 b2] | rw [t_comm a2 b2] | rw [t_comm a1 b1] | rw [t_comm a2 b1]
theorem mul_two_t {j j1 : J} {z : Int} (hg : GJ j) (ha : okJ j = true) (hb : okJ j1 = true) (hz : prl z = true) (hs : strJ j = true) (ht : strJ j1 = false) : mulE j j1 z true = res (rnd z.toNat true (greatQ j.lo.q j.hi.q j1.lo.q j1.hi.q)) := by
 obtain ⟨a1, a2, a3⟩ := okJ_parts ha
 obtain ⟨b1, b2, b3⟩ := okJ_parts hb
 have hn : ¬ (j1.lo.v < 0 ∧ 0 < j1.hi.v) := fun ⟨c1, c2⟩ => by rw [str_v hb, decide_eq_true c1, decide_eq_true c2] at ht; cases ht
 have hj : j.lo.v < 0 ∧ 0 < j.hi.v := by
  have h := hs
  rw [str_v ha, Bool.and_eq_true, decide_eq_true_eq, decide_eq_true_eq] at h; exact h
 unfold mulE
 rw [hs, ht]
 show rtwo (gmul z true) z (endX j j1.lo true) (endX j1 (endX j j1.lo true) true) = _
 rw [rmul_ok (end_ok ha) (end_ok hb) hz, great_two a1 a2 b1 b2 hg.lo hg.hi ((cmpx_le a1 a2).1 a3) hn, end_t (end_ok ha), end_t b1]
 cases decide (j1.lo.v < 0)
 ·simp only [cond_true, cond_false, decide_eq_true hj.1, decide_eq_true hj.2, decide_eq_false (show ¬ (j.hi.v < 0) by omega), decide_eq_false (show ¬ (0 < j.lo.v) by omega)]
  first | rw [t_comm a1 b2] | rw [t_comm a2 b2] | rw [t_comm a1 b1] | rw [t_comm a2 b1]
 ·simp only [cond_true, cond_false, decide_eq_true hj.1, decide_eq_true hj.2, decide_eq_false (show ¬ (j.hi.v < 0) by omega), decide_eq_false (show ¬ (0 < j.lo.v) by omega)]
  first | rw [t_comm a1 b2] | rw [t_comm a2 b2] | rw [t_comm a1 b1] | rw [t_comm a2 b1]
end
section

end
end Go.Proofs.YtobcbhppmgnioaaGreatDoor
