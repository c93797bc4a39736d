/- What package iv answers against what the document says: sums and differences. -/
import Derived.Test.YtpacpmmdjmnamaaDoorHAi7
namespace Go.Proofs.YtpacpmmdjmnamaaDoor
open Go.RowKit Nx
set_option linter.unusedVariables false
set_option linter.unusedSimpArgs false
theorem prl_precb {z : Int} (h : prl z = true) : precb z = true := by
  unfold prl at h
  simp only [Bool.and_eq_true, decide_eq_true_eq] at h
  simp only [precb, decide_eq_true_eq]; exact h
theorem rtwo_ok {g : Q → Q → Q × Int} {z : Int} {x y : X} (hx : x.ok = true) (hy : y.ok = true) (hp : prl z = true) : rtwo g z x y = g x.q y.q := by
  unfold rtwo ansr
  unfold X.ok at hx hy
  rw [hx, hy, prl_precb hp]
  rfl
def X.v (x : X) : Int := x.q.at 65536
theorem ok_e {x : X} (h : x.ok = true) : -((65536 : Nat) : Int) ≤ x.q.e := by
  show -((65536 : Nat) : Int) ≤ x.e
  unfold X.ok okb at h
  split at h
  · simp only [Bool.and_eq_true, beq_iff_eq] at h; omega
  · simp only [Bool.and_eq_true, decide_eq_true_eq] at h; omega
theorem cmpx_v {x y : X} (hx : x.ok = true) (hy : y.ok = true) : cmpx x y = if x.v < y.v then -1 else if y.v < x.v then 1 else 0 := by
  rw [cmpx_q hx hy]; exact cmpq_at (ok_e hx) (ok_e hy)
theorem cmpx_gt {x y : X} (hx : x.ok = true) (hy : y.ok = true) : cmpx x y > 0 ↔ y.v < x.v := by
  rw [cmpx_v hx hy]
  by_cases h1 : x.v < y.v <;> by_cases h2 : y.v < x.v <;> simp [h1, h2]
  omega
theorem samex_refl (x : X) : samex x x = true := by unfold samex sameb; simp
end Go.Proofs.YtpacpmmdjmnamaaDoor
namespace Go.Proofs.YtpacpmmdjmnamaaDoor
open Go.RowKit Nx
set_option linter.unusedVariables false
set_option linter.unusedSimpArgs false
theorem signx_ok {x : X} (h : x.ok = true) : signx x = signq x.q := by unfold signx; rw [if_pos h]
theorem zX_v : zX.v = 0 := by unfold X.v; rw [zX_q]; exact at0 _
theorem rdiv_ok {z : Int} {b : Bool} {x y : X} (hx : x.ok = true) (hy : y.ok = true) (hp : prl z = true) (h0 : y.q.m ≠ 0) : rtwo (gdiv z b) z x y = res (ratq z.toNat b x.q y.q) := by
  rw [rtwo_ok hx hy hp]; unfold gdiv; rw [if_neg h0]
end Go.Proofs.YtpacpmmdjmnamaaDoor
namespace Go.Proofs.YtpacpmmdjmnamaaDoor
open Go.RowKit Nx
set_option linter.unusedVariables false
set_option linter.unusedSimpArgs false
end Go.Proofs.YtpacpmmdjmnamaaDoor
namespace Go.Proofs.YtpacpmmdjmnamaaDoor
open Go.RowKit Nx
set_option linter.unusedVariables false
set_option linter.unusedSimpArgs false
end Go.Proofs.YtpacpmmdjmnamaaDoor
namespace Go.Proofs.YtpacpmmdjmnamaaDoor
open Go.RowKit Nx
set_option linter.unusedVariables false
set_option linter.unusedSimpArgs false
theorem rmul_ok {z : Int} {b : Bool} {x y : X} (hx : x.ok = true) (hy : y.ok = true) (hp : prl z = true) : rtwo (gmul z b) z x y = res (rnd z.toNat b (times x.q y.q)) := by
  rw [rtwo_ok hx hy hp]; rfl
end Go.Proofs.YtpacpmmdjmnamaaDoor
namespace Go.Proofs.YtpacpmmdjmnamaaDoor
open Go.RowKit Nx
set_option linter.unusedVariables false
set_option linter.unusedSimpArgs false
end Go.Proofs.YtpacpmmdjmnamaaDoor
