/- What package iv answers against what the document says: sums and differences. -/
import Derived.Test.YthhaelnildaemaaGreatDoorSAi7
namespace Go.Proofs.YthhaelnildaemaaGreatDoor
open Go.RowKit Nx
set_option linter.unusedVariables false
set_option linter.unusedSimpArgs false
theorem prl_prb (z : Int) : prb z = prl z := by unfold prb prl; rfl
theorem prl_precb {z : Int} (h : prl z = true) : precb z = true := by
  unfold prl at h
  simp only [Bool.and_eq_true, decide_eq_true_eq] at h
  simp only [precb, decide_eq_true_eq]; exact h
theorem okJ_parts {j : J} (h : okJ j = true) : j.lo.ok = true ∧ j.hi.ok = true ∧ cmpx j.lo j.hi ≤ 0 := by
  unfold okJ at h
  simp only [Bool.and_eq_true, decide_eq_true_eq] at h
  exact ⟨h.1.1, h.1.2, h.2⟩
theorem sd_ok {j : J} (h : okJ j = true) (b : Bool) : (sdX j b).ok = true := by
  cases b
  · exact (okJ_parts h).1
  · exact (okJ_parts h).2.1
theorem rtwo_ok {g : Q → Q → Q × Int} {z : Int} {x y : X} (hx : x.ok = true) (hy : y.ok = true) (hp : prl z = true) : rtwo g z x y = g x.q y.q := by
  unfold rtwo ansr
  unfold X.ok at hx hy
  rw [hx, hy, prl_precb hp]
  rfl
theorem res_two (q : Q) : (res q).2 = 0 ∨ (res q).2 = 2 := by
  by_cases h : Fits q
  · rw [res_ok h]; exact .inl rfl
  · rw [res_over h]; exact .inr rfl
theorem out_ends {c : Bool → X × Int} {a b : Q} (h0 : c false = prX (res a)) (h1 : c true = prX (res b)) : outJ c = endsQ a b := by
  unfold outJ endsQ
  rw [h0, h1]
  unfold prX
  rcases res_two a with ha | ha <;> rcases res_two b with hb | hb <;> simp only [ha, hb] <;> rfl
theorem add_eq (j j1 : J) (z : Int) : addJ j j1 z = opQ 0 j j1 z := by
  unfold addJ opQ
  rw [prl_prb]
  cases ha : okJ j <;> cases hb : okJ j1 <;> cases hz : prl z <;> try rfl
  exact out_ends (c := fun b => prX (rtwo (gadd z b) z (sdX j b) (sdX j1 b))) (a := rnd z.toNat false (plus j.lo.q j1.lo.q)) (b := rnd z.toNat true (plus j.hi.q j1.hi.q)) (congrArg prX (rtwo_ok (sd_ok ha _) (sd_ok hb _) hz)) (congrArg prX (rtwo_ok (sd_ok ha _) (sd_ok hb _) hz))
def X.v (x : X) : Int := x.q.at 65536
theorem ok_e {x : X} (h : x.ok = true) : -((65536 : Nat) : Int) ≤ x.q.e := by
  show -((65536 : Nat) : Int) ≤ x.e
  unfold X.ok okb at h
  split at h
  · simp only [Bool.and_eq_true, beq_iff_eq] at h; omega
  · simp only [Bool.and_eq_true, decide_eq_true_eq] at h; omega
theorem cmpx_v {x y : X} (hx : x.ok = true) (hy : y.ok = true) : cmpx x y = if x.v < y.v then -1 else if y.v < x.v then 1 else 0 := by
  rw [cmpx_q hx hy]; exact cmpq_at (ok_e hx) (ok_e hy)
theorem more_upp {x y : X} (hx : x.ok = true) (hy : y.ok = true) : moreX x y = uppX x y := by
  unfold moreX uppX
  rw [cmpx_v hx hy, cmpx_v hy hx]
  congr 1
  by_cases h1 : x.v < y.v <;> by_cases h2 : y.v < x.v <;> simp [h1, h2]
  omega
theorem upp_ok {x y : X} (hx : x.ok = true) (hy : y.ok = true) : (uppX x y).ok = true := by unfold uppX; cases decide (cmpx y x > 0) <;> assumption
theorem cmpx_le {x y : X} (hx : x.ok = true) (hy : y.ok = true) : cmpx x y ≤ 0 ↔ x.v ≤ y.v := by
  rw [cmpx_v hx hy]
  by_cases h1 : x.v < y.v <;> by_cases h2 : y.v < x.v <;> simp [h1, h2] <;> omega
theorem cmpx_lt {x y : X} (hx : x.ok = true) (hy : y.ok = true) : cmpx x y < 0 ↔ x.v < y.v := by
  rw [cmpx_v hx hy]
  by_cases h1 : x.v < y.v <;> by_cases h2 : y.v < x.v <;> simp [h1, h2]
theorem cmpx_gt {x y : X} (hx : x.ok = true) (hy : y.ok = true) : cmpx x y > 0 ↔ y.v < x.v := by
  rw [cmpx_v hx hy]
  by_cases h1 : x.v < y.v <;> by_cases h2 : y.v < x.v <;> simp [h1, h2]
  omega
theorem upp_v {x y : X} (hx : x.ok = true) (hy : y.ok = true) : (uppX x y).v = max x.v y.v := by
  unfold uppX
  have := cmpx_gt hy hx
  by_cases h : cmpx y x > 0
  · rw [decide_eq_true h]; show y.v = _; have := this.1 h; omega
  · rw [decide_eq_false h]; show x.v = _; have := fun g => h (this.2 g); omega
theorem samex_refl (x : X) : samex x x = true := by unfold samex sameb; simp
theorem sameJ_refl (j : J) : sameJ j j = true := by unfold sameJ; rw [samex_refl, samex_refl]; rfl
theorem wide_eq (j : J) (z : Int) : wideX j z = prX (rwide j z) := by
  have h0 : (zX, (1 : Int)) = prX (q0, 1) := by unfold prX; rw [qx0]
  unfold wideX rwide
  rw [prl_prb]
  cases ha : okJ j <;> cases hz : prl z <;> first | exact h0 | skip
  rw [rtwo_ok (okJ_parts ha).2.1 (okJ_parts ha).1 hz]
  rfl
end Go.Proofs.YthhaelnildaemaaGreatDoor
namespace Go.Proofs.YthhaelnildaemaaGreatDoor
open Go.RowKit Nx
set_option linter.unusedVariables false
set_option linter.unusedSimpArgs false
theorem zX_v : zX.v = 0 := by unfold X.v; rw [zX_q]; exact at0 _
end Go.Proofs.YthhaelnildaemaaGreatDoor
namespace Go.Proofs.YthhaelnildaemaaGreatDoor
open Go.RowKit Nx
set_option linter.unusedVariables false
set_option linter.unusedSimpArgs false
end Go.Proofs.YthhaelnildaemaaGreatDoor
namespace Go.Proofs.YthhaelnildaemaaGreatDoor
open Go.RowKit Nx
set_option linter.unusedVariables false
set_option linter.unusedSimpArgs false
end Go.Proofs.YthhaelnildaemaaGreatDoor
namespace Go.Proofs.YthhaelnildaemaaGreatDoor
open Go.RowKit Nx
set_option linter.unusedVariables false
set_option linter.unusedSimpArgs false
end Go.Proofs.YthhaelnildaemaaGreatDoor
namespace Go.Proofs.YthhaelnildaemaaGreatDoor
open Go.RowKit Nx
set_option linter.unusedVariables false
set_option linter.unusedSimpArgs false
end Go.Proofs.YthhaelnildaemaaGreatDoor
