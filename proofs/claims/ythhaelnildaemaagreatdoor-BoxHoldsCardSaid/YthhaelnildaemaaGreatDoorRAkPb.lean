/- Middles, radii, widths: what they are. -/
import Derived.Test.YthhaelnildaemaaGreatDoorRAkM
import Derived.Test.YthhaelnildaemaaGreatDoorRAj2
namespace Go.Proofs.YthhaelnildaemaaGreatDoor
open Go.RowKit Nx
set_option linter.unusedVariables false
set_option linter.unusedSimpArgs false
theorem two_ok {f : Q → Q → Q} {x y : X} (hx : x.ok = true) (hy : y.ok = true) : two f x y = res (f x.q y.q) := by
  unfold two ans2
  unfold X.ok at hx hy
  rw [hx, hy]; rfl
theorem qx_v {q : Q} (h : Valid q) : (qx q).v = q.at 65536 := by unfold X.v; rw [(qx_ok h).2.2]
theorem wide_facts {j : J} {z : Int} (hg : Good j) (hz : prl z = true) : ((rwide j z).2 = 0 ∨ (rwide j z).2 = 2) ∧ ((rwide j z).2 = 0 → Valid (rwide j z).1 ∧ j.hi.v - j.lo.v ≤ (rwide j z).1.at 65536) := by
  obtain ⟨a1, a2, a3⟩ := okJ_parts hg.1
  have c2 := (ok_arg a1 hg.2.lo).1
  unfold rwide
  rw [hg.1, prl_prb, hz]
  simp only [Bool.not_true, Bool.or_self, cond_false]
  refine ⟨res_two _, fun hr => ?_⟩
  have hf : Fits (rnd z.toNat true (minus j.hi.q j.lo.q)) := by
    by_cases hf : Fits (rnd z.toNat true (minus j.hi.q j.lo.q))
    · exact hf
    · rw [res_over hf] at hr; cases hr
  rw [res_ok hf]
  have up := rnd_up (E := 65536) (p := z.toNat) (low_minus (E := 65536) (a := j.hi.q) c2 (ok_e a2) (ok_e a1))
  rw [at_minus (E := 65536) (a := j.hi.q) c2 (ok_e a2) (ok_e a1)] at up
  exact ⟨⟨rnd_canon _ _ _, hf⟩, up⟩
end Go.Proofs.YthhaelnildaemaaGreatDoor
