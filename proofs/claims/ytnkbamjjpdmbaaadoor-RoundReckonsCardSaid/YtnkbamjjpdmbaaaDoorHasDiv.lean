/- nat.Div, as the laws use it. -/
import Derived.Test.YtnkbamjjpdmbaaaDoorNatE
import Derived.Test.YtnkbamjjpdmbaaaDoorDiv
namespace Go.Proofs.YtnkbamjjpdmbaaaDoor
open Go.RowKit Nx

section
variable {W : World} {A B : Option Addr} {n c m d X Y k l : Nat}
theorem div_is (ha : Has W A n c X k) (hb : Has W B m d Y l) (hk : k ≤ 100000) (hl : l ≤ 100000) (hY : Y ≠ 0) : Calls Tryd.prog 78 #[.slice A n c, .slice B m d] W
    fun e w' => ∃ (Aq Ar : Option Addr) (nq cq nr cr : Nat), e = .returned (.tuple #[.slice Aq nq cq, .slice Ar nr cr, .bool true]) ∧ Is w' Aq nq cq (X / Y) ∧ Is w' Ar nr cr (X % Y) ∧ Below W.heap.size W w' := by
  obtain ⟨xs, a1, a2, rfl, a4⟩ := ha
  obtain ⟨ys, b1, b2, rfl, b4⟩ := hb
  refine (div_any W 0 _ A B n c m d xs ys a1 b1 a2 b2 (by omega) (by omega) (Nat.le_refl _)).mono ?_
  rintro e w' ⟨Aq, Ar, nq, cq, nr, cr, qs, rs, rfl, g1, g2, g3, g4, _⟩
  obtain ⟨rfl, rfl⟩ := g4 hY
  exact ⟨Aq, Ar, nq, cq, nr, cr, by simp [hY], g1.less (Nat.zero_le _), g2.less (Nat.zero_le _), g3⟩
end
end Go.Proofs.YtnkbamjjpdmbaaaDoor
