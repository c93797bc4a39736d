/- Package box against the document's boxes. -/
import Derived.Test.YthhaelnildaemaaGreatDoorRAl8
import Derived.Test.YthhaelnildaemaaGreatDoorRAlQ
import Derived.Test.YthhaelnildaemaaGreatDoorRAkPb
namespace Go.Proofs.YthhaelnildaemaaGreatDoor
open Go.RowKit Nx
set_option linter.unusedVariables false
set_option linter.unusedSimpArgs false
theorem neg_q {x : X} (h : GX x) : (qx (negx x)).q = x.q.neg ∧ GX (qx (negx x)) := by
  have hv := ok_arg h.1 h.2
  have e : negx x = x.q.neg := by
    unfold negx anssign
    have h1 := h.1
    unfold X.ok at h1
    rw [if_pos h1]; rfl
  refine ⟨?_, (neg_gx h).1⟩
  rw [e]; exact (qx_ok (neg_valid hv)).2.2
theorem blow_same {j : J} (hg : Good j) (z : Int) : blowJ j z = rblowJ j z := by
  cases hp : prb z with
  | false =>
    rw [rblow_1 hp]
    unfold blowJ
    rw [wide_eq, prX_1 hp]; rfl
  | true =>
    rw [prl_prb] at hp
    unfold blowJ rblowJ
    rw [wide_eq]
    have e1 : (prX (rwide j z)).2 = (rwide j z).2 := rfl
    have e2 : (prX (rwide j z)).1 = qx (rwide j z).1 := rfl
    rw [e1, e2]
    cases h1 : (rwide j z).2 != 0 with
    | true => rfl
    | false =>
      rw [cond_false, cond_false]
      have h1 : (rwide j z).2 = 0 := by simpa using h1
      obtain ⟨hv, hw⟩ := (wide_facts hg hp).2 h1
      obtain ⟨o1, o2, o3⟩ := qx_ok hv
      rw [scalex_ok o1 o2, o3]
      cases h2 : (res (scale (rwide j z).1 (-2))).2 != 0 with
      | true => rfl
      | false =>
        rw [cond_false, cond_false]
        have hf : Fits (scale (rwide j z).1 (-2)) := by
          by_cases hf : Fits (scale (rwide j z).1 (-2))
          · exact hf
          · rw [res_over hf] at h2; cases h2
        rw [res_ok hf]
        have hsv : Valid (scale (rwide j z).1 (-2)) := ⟨scale_canon hv.1 _, hf⟩
        have hle := (cmpx_le (okJ_parts hg.1).1 (okJ_parts hg.1).2.1).1 (okJ_parts hg.1).2.2
        have hs0 : 0 ≤ (scale (rwide j z).1 (-2)).at 65536 := by
          have h3 := scale_at (E := 65536) (rwide j z).1 2
          have h4 := at_more (F := 2) (show -((65536 : Nat) : Int) ≤ (scale (rwide j z).1 (-2)).e from hsv.2.2.1)
          have h3 : (scale (rwide j z).1 (-2)).at (65536 + 2) = (rwide j z).1.at 65536 := h3
          rw [h4] at h3
          omega
        generalize scale (rwide j z).1 (-2) = s at hsv hs0
        obtain ⟨s1, s2, s3⟩ := qx_ok hsv
        obtain ⟨n1, n2⟩ := neg_q (x := qx s) ⟨s1, s2⟩
        rw [s3] at n1
        have hnv : (qx (negx (qx s))).v = -(qx s).v := (neg_gx (x := qx s) ⟨s1, s2⟩).2
        have hok : okJ ⟨qx (negx (qx s)), qx s⟩ = true := okJ_of n2.1 s1 (by rw [hnv, qx_v hsv]; omega)
        obtain ⟨a1, a2, _⟩ := okJ_parts hg.1
        show addJ j ⟨qx (negx (qx s)), qx s⟩ z = _
        rw [add_eq, rtwo_ok a1 s1 hp, rtwo_ok a2 s1 hp, gk_0, gk_1, s3]
        unfold opQ
        rw [hg.1, hok, prl_prb, hp]
        show endsQ (rnd z.toNat false (plus j.lo.q (qx (negx (qx s))).q)) (rnd z.toNat true (plus j.hi.q (qx s).q)) = _
        rw [n1, s3]
        unfold endsQ gadd gsub minus
        cases (res (rnd z.toNat false (plus j.lo.q s.neg))).2 != 0 <;> cases (res (rnd z.toNat true (plus j.hi.q s))).2 != 0 <;> rfl
end Go.Proofs.YthhaelnildaemaaGreatDoor
