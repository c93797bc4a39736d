/- The statements' helper parts returns true. -/
import Derived.Test.YthhaelnildaemaaGreatDoorTAl4
import Derived.Test.YthhaelnildaemaaGreatDoorTAi4
import Derived.Test.YthhaelnildaemaaGreatDoorTAl3
import Derived.Test.YthhaelnildaemaaGreatDoorTAj2
namespace Go.Proofs.YthhaelnildaemaaGreatDoor
open Go.RowKit Nx
set_option linter.unusedVariables false
set_option linter.unusedSimpArgs false
attribute [local irreducible] chk
theorem sameB_refl (l : List J) : sameB l l = true := by
  unfold sameB
  induction l with
  | nil => rfl
  | cons a l ih => unfold all2; rw [sameJ_refl, ih]; rfl
theorem zipB_len {φ : J → J → J × Int} : ∀ (l m : List J), (zipB φ l m).1.length ≤ l.length := by
  intro l
  induction l with
  | nil => intro m; exact Nat.zero_le _
  | cons a l ih =>
    intro m
    cases m with
    | nil => exact Nat.zero_le _
    | cons b m =>
      unfold zipB
      cases (φ a b).2 != 0
      · rw [cond_false]
        cases (zipB φ l m).2 != 0
        · rw [cond_false]; simp only [List.length_cons]; exact Nat.succ_le_succ (ih m)
        · exact Nat.zero_le _
      · exact Nat.zero_le _
theorem bothB_len {φ : J → J → J × Int} (l m : List J) : (bothB φ l m).1.length ≤ 6 := by
  unfold bothB
  cases h : rightB l && rightB m && decide (l.length = m.length) with
  | false => exact Nat.zero_le _
  | true =>
    rw [Bool.and_eq_true, Bool.and_eq_true] at h
    have := rightB_len h.1.1
    have := zipB_len (φ := φ) l m
    rw [cond_true]; omega
section
variable {st : St} {l : List X}
end
end Go.Proofs.YthhaelnildaemaaGreatDoor
namespace Go.Proofs.YthhaelnildaemaaGreatDoor
open Go.RowKit Nx
set_option linter.unusedVariables false
set_option linter.unusedSimpArgs false
attribute [local irreducible] chk
theorem bothP_eq {φ : J → J → X × Int} {l m : List J} (h : (rightB l && rightB m && decide (l.length = m.length)) = true) : bothP φ l m = zipP φ l m := by unfold bothP; rw [h]; rfl
theorem bothB_eq {φ : J → J → J × Int} {l m : List J} (h : (rightB l && rightB m && decide (l.length = m.length)) = true) : bothB φ l m = zipB φ l m := by unfold bothB; rw [h]; rfl
theorem ends_lit6 {a b : Q} (fa : Fits a) (fb : Fits b) : endsQ a b = (⟨qx a, qx b⟩, 0) := by unfold endsQ; rw [res_ok fa, res_ok fb]; rfl
theorem fit6 {s : Bool} {m : Nat} {e : Int} (h1 : nbits m ≤ 256) (h2 : -65536 ≤ e) (h3 : e ≤ 65536) : Fits ⟨s, m, e⟩ := fits_few h1 h2 h3
theorem k6_w1 : wideX (⟨⟨false, 0, []⟩, ⟨false, 0, [1]⟩⟩ : J) 16 = (⟨false, 0, [1]⟩, 0) := by
  rw [wide_eq, show rwide (⟨⟨false, 0, []⟩, ⟨false, 0, [1]⟩⟩ : J) 16 = res ⟨false, 1, 0⟩ by kernel_rfl, res_ok (fit6 (by decide) (by decide) (by decide))]
  kernel_rfl
theorem k6_w2 : wideX (⟨⟨false, 0, []⟩, ⟨false, 2, [1]⟩⟩ : J) 16 = (⟨false, 2, [1]⟩, 0) := by
  rw [wide_eq, show rwide (⟨⟨false, 0, []⟩, ⟨false, 2, [1]⟩⟩ : J) 16 = res ⟨false, 1, 2⟩ by kernel_rfl, res_ok (fit6 (by decide) (by decide) (by decide))]
  kernel_rfl
theorem k6_m1 : midX (⟨⟨false, 0, []⟩, ⟨false, 0, [1]⟩⟩ : J) 16 = (⟨false, -1, [1]⟩, 0) := by
  rw [mid_eq ⟨Small.nil, small1 (by decide)⟩]
  unfold rmid
  rw [show rnd (Int.toNat 16) false (hlf (plus (⟨⟨false, 0, []⟩, ⟨false, 0, [1]⟩⟩ : J).lo.q (⟨⟨false, 0, []⟩, ⟨false, 0, [1]⟩⟩ : J).hi.q)) = ⟨false, 1, -1⟩ by kernel_rfl, res_ok (fit6 (by decide) (by decide) (by decide))]
  kernel_rfl
theorem k6_m2 : midX (⟨⟨false, 0, []⟩, ⟨false, 2, [1]⟩⟩ : J) 16 = (⟨false, 1, [1]⟩, 0) := by
  rw [mid_eq ⟨Small.nil, small1 (by decide)⟩]
  unfold rmid
  rw [show rnd (Int.toNat 16) false (hlf (plus (⟨⟨false, 0, []⟩, ⟨false, 2, [1]⟩⟩ : J).lo.q (⟨⟨false, 0, []⟩, ⟨false, 2, [1]⟩⟩ : J).hi.q)) = ⟨false, 1, 1⟩ by kernel_rfl, res_ok (fit6 (by decide) (by decide) (by decide))]
  kernel_rfl
theorem k6_a1 : addJ (⟨⟨false, 0, []⟩, ⟨false, 0, [1]⟩⟩ : J) (⟨⟨false, 0, []⟩, ⟨false, 0, [1]⟩⟩ : J) 16 = (⟨⟨false, 0, []⟩, ⟨false, 1, [1]⟩⟩, 0) := by
  rw [add_eq, show opQ 0 (⟨⟨false, 0, []⟩, ⟨false, 0, [1]⟩⟩ : J) (⟨⟨false, 0, []⟩, ⟨false, 0, [1]⟩⟩ : J) 16 = endsQ ⟨false, 0, 0⟩ ⟨false, 1, 1⟩ by kernel_rfl, ends_lit6 (fit6 (by decide) (by decide) (by decide)) (fit6 (by decide) (by decide) (by decide))]
  kernel_rfl
theorem k6_a2 : addJ (⟨⟨false, 0, []⟩, ⟨false, 1, [1]⟩⟩ : J) (⟨⟨false, 1, [1]⟩, ⟨false, 2, [1]⟩⟩ : J) 16 = (⟨⟨false, 1, [1]⟩, ⟨false, 1, [3]⟩⟩, 0) := by
  rw [add_eq, show opQ 0 (⟨⟨false, 0, []⟩, ⟨false, 1, [1]⟩⟩ : J) (⟨⟨false, 1, [1]⟩, ⟨false, 2, [1]⟩⟩ : J) 16 = endsQ ⟨false, 1, 1⟩ ⟨false, 3, 1⟩ by kernel_rfl, ends_lit6 (fit6 (by decide) (by decide) (by decide)) (fit6 (by decide) (by decide) (by decide))]
  kernel_rfl
theorem k6_s1 : scalex ⟨false, 0, [1]⟩ (-2) = (⟨false, 1, -2⟩, 0) := by
  rw [scalex_ok (by kernel_rfl) (small1 (by decide)), show scale (⟨false, 0, [1]⟩ : X).q (-2) = ⟨false, 1, -2⟩ by kernel_rfl, res_ok (fit6 (by decide) (by decide) (by decide))]
theorem k6_s2 : scalex ⟨false, 2, [1]⟩ (-2) = (⟨false, 1, 0⟩, 0) := by
  rw [scalex_ok (by kernel_rfl) (small1 (by decide)), show scale (⟨false, 2, [1]⟩ : X).q (-2) = ⟨false, 1, 0⟩ by kernel_rfl, res_ok (fit6 (by decide) (by decide) (by decide))]
theorem k6_b1 : addJ (⟨⟨false, 0, []⟩, ⟨false, 0, [1]⟩⟩ : J) (⟨⟨true, -2, [1]⟩, ⟨false, -2, [1]⟩⟩ : J) 16 = (⟨⟨true, -2, [1]⟩, ⟨false, -2, [5]⟩⟩, 0) := by
  rw [add_eq, show opQ 0 (⟨⟨false, 0, []⟩, ⟨false, 0, [1]⟩⟩ : J) (⟨⟨true, -2, [1]⟩, ⟨false, -2, [1]⟩⟩ : J) 16 = endsQ ⟨true, 1, -2⟩ ⟨false, 5, -2⟩ by kernel_rfl, ends_lit6 (fit6 (by decide) (by decide) (by decide)) (fit6 (by decide) (by decide) (by decide))]
  kernel_rfl
theorem k6_b2 : addJ (⟨⟨false, 0, []⟩, ⟨false, 2, [1]⟩⟩ : J) (⟨⟨true, 0, [1]⟩, ⟨false, 0, [1]⟩⟩ : J) 16 = (⟨⟨true, 0, [1]⟩, ⟨false, 0, [5]⟩⟩, 0) := by
  rw [add_eq, show opQ 0 (⟨⟨false, 0, []⟩, ⟨false, 2, [1]⟩⟩ : J) (⟨⟨true, 0, [1]⟩, ⟨false, 0, [1]⟩⟩ : J) 16 = endsQ ⟨true, 1, 0⟩ ⟨false, 5, 0⟩ by kernel_rfl, ends_lit6 (fit6 (by decide) (by decide) (by decide)) (fit6 (by decide) (by decide) (by decide))]
  kernel_rfl
theorem k6_l1 : blowJ (⟨⟨false, 0, []⟩, ⟨false, 0, [1]⟩⟩ : J) 16 = (⟨⟨true, -2, [1]⟩, ⟨false, -2, [5]⟩⟩, 0) := by
  have e1 : qx (⟨false, 1, -2⟩ : Q) = ⟨false, -2, [1]⟩ := by kernel_rfl
  have e2 : qx (negx ⟨false, -2, [1]⟩) = ⟨true, -2, [1]⟩ := by kernel_rfl
  unfold blowJ
  rw [k6_w1]
  simp only [k6_s1, e1, e2, bne_self_eq_false, cond_false]
  exact k6_b1
theorem k6_l2 : blowJ (⟨⟨false, 0, []⟩, ⟨false, 2, [1]⟩⟩ : J) 16 = (⟨⟨true, 0, [1]⟩, ⟨false, 0, [5]⟩⟩, 0) := by
  have e1 : qx (⟨false, 1, 0⟩ : Q) = ⟨false, 0, [1]⟩ := by kernel_rfl
  have e2 : qx (negx ⟨false, 0, [1]⟩) = ⟨true, 0, [1]⟩ := by kernel_rfl
  unfold blowJ
  rw [k6_w2]
  simp only [k6_s2, e1, e2, bne_self_eq_false, cond_false]
  exact k6_b2
theorem k6_wids : wids [⟨⟨false, 0, []⟩, ⟨false, 0, [1]⟩⟩, ⟨⟨false, 0, []⟩, ⟨false, 2, [1]⟩⟩] 16 = ([⟨false, 0, [1]⟩, ⟨false, 2, [1]⟩], 0) := by
  unfold wids
  rw [bothP_eq (by kernel_rfl)]
  simp only [zipP, k6_w1, k6_w2, bne_self_eq_false, cond_false]
theorem k6_wide : widS [⟨⟨false, 0, []⟩, ⟨false, 0, [1]⟩⟩, ⟨⟨false, 0, []⟩, ⟨false, 2, [1]⟩⟩] 16 = ((1, ⟨false, 2, [1]⟩), 0) := by
  unfold widS
  rw [k6_wids]
  kernel_rfl
theorem k6_half : halfB [⟨⟨false, 0, []⟩, ⟨false, 0, [1]⟩⟩, ⟨⟨false, 0, []⟩, ⟨false, 2, [1]⟩⟩] 16 = (([⟨⟨false, 0, []⟩, ⟨false, 0, [1]⟩⟩, ⟨⟨false, 0, []⟩, ⟨false, 1, [1]⟩⟩], [⟨⟨false, 0, []⟩, ⟨false, 0, [1]⟩⟩, ⟨⟨false, 1, [1]⟩, ⟨false, 2, [1]⟩⟩]), 0) := by
  unfold halfB
  rw [k6_wide]
  simp only [bne_self_eq_false, cond_false, show List.getD [⟨⟨false, 0, []⟩, ⟨false, 0, [1]⟩⟩, ⟨⟨false, 0, []⟩, ⟨false, 2, [1]⟩⟩] (Int.toNat 1) zJ = (⟨⟨false, 0, []⟩, ⟨false, 2, [1]⟩⟩ : J) from rfl, k6_m2]
  kernel_rfl
theorem k6_hull : bothB hullJ [⟨⟨false, 0, []⟩, ⟨false, 0, [1]⟩⟩, ⟨⟨false, 0, []⟩, ⟨false, 1, [1]⟩⟩] [⟨⟨false, 0, []⟩, ⟨false, 0, [1]⟩⟩, ⟨⟨false, 1, [1]⟩, ⟨false, 2, [1]⟩⟩] = ([⟨⟨false, 0, []⟩, ⟨false, 0, [1]⟩⟩, ⟨⟨false, 0, []⟩, ⟨false, 2, [1]⟩⟩], 0) := by kernel_rfl
theorem k6_add : bothB (fun a b => addJ a b 16) [⟨⟨false, 0, []⟩, ⟨false, 0, [1]⟩⟩, ⟨⟨false, 0, []⟩, ⟨false, 1, [1]⟩⟩] [⟨⟨false, 0, []⟩, ⟨false, 0, [1]⟩⟩, ⟨⟨false, 1, [1]⟩, ⟨false, 2, [1]⟩⟩] = ([⟨⟨false, 0, []⟩, ⟨false, 1, [1]⟩⟩, ⟨⟨false, 1, [1]⟩, ⟨false, 1, [3]⟩⟩], 0) := by
  rw [bothB_eq (by kernel_rfl)]
  simp only [zipB, k6_a1, k6_a2, bne_self_eq_false, cond_false]
theorem k6_mid : bothP (fun a _ => midX a 16) [⟨⟨false, 0, []⟩, ⟨false, 0, [1]⟩⟩, ⟨⟨false, 0, []⟩, ⟨false, 2, [1]⟩⟩] [⟨⟨false, 0, []⟩, ⟨false, 0, [1]⟩⟩, ⟨⟨false, 0, []⟩, ⟨false, 2, [1]⟩⟩] = ([⟨false, -1, [1]⟩, ⟨false, 1, [1]⟩], 0) := by
  rw [bothP_eq (by kernel_rfl)]
  simp only [zipP, k6_m1, k6_m2, bne_self_eq_false, cond_false]
theorem k6_blow : bothB (fun a _ => blowJ a 16) [⟨⟨false, 0, []⟩, ⟨false, 0, [1]⟩⟩, ⟨⟨false, 0, []⟩, ⟨false, 2, [1]⟩⟩] [⟨⟨false, 0, []⟩, ⟨false, 0, [1]⟩⟩, ⟨⟨false, 0, []⟩, ⟨false, 2, [1]⟩⟩] = ([⟨⟨true, -2, [1]⟩, ⟨false, -2, [5]⟩⟩, ⟨⟨true, 0, [1]⟩, ⟨false, 0, [5]⟩⟩], 0) := by
  rw [bothB_eq (by kernel_rfl)]
  simp only [zipB, k6_l1, k6_l2, bne_self_eq_false, cond_false]
theorem k6_same : sameB [⟨⟨false, 0, []⟩, ⟨false, 0, [1]⟩⟩, ⟨⟨false, 0, []⟩, ⟨false, 2, [1]⟩⟩] [⟨⟨false, 0, []⟩, ⟨false, 0, [1]⟩⟩, ⟨⟨false, 0, []⟩, ⟨false, 2, [1]⟩⟩] = true := by kernel_rfl
theorem k6_right : rightB [⟨⟨false, 0, []⟩, ⟨false, 1, [1]⟩⟩, ⟨⟨false, 1, [1]⟩, ⟨false, 1, [3]⟩⟩] = true := by kernel_rfl
theorem k6_samex : samex ⟨false, 2, [1]⟩ ⟨false, 2, [1]⟩ = true := by kernel_rfl
theorem k6_has : hasB [⟨⟨false, 0, []⟩, ⟨false, 0, [1]⟩⟩, ⟨⟨false, 0, []⟩, ⟨false, 2, [1]⟩⟩] [⟨false, -1, [1]⟩, ⟨false, 1, [1]⟩] = true := by kernel_rfl
theorem k6_in : inB [⟨⟨false, 0, []⟩, ⟨false, 0, [1]⟩⟩, ⟨⟨false, 0, []⟩, ⟨false, 2, [1]⟩⟩] [⟨⟨true, -2, [1]⟩, ⟨false, -2, [5]⟩⟩, ⟨⟨true, 0, [1]⟩, ⟨false, 0, [5]⟩⟩] = true := by kernel_rfl
theorem k6_rightB : rightB [⟨⟨false, 0, []⟩, ⟨false, 0, [1]⟩⟩, ⟨⟨false, 0, []⟩, ⟨false, 2, [1]⟩⟩] = true := by kernel_rfl
end Go.Proofs.YthhaelnildaemaaGreatDoor
