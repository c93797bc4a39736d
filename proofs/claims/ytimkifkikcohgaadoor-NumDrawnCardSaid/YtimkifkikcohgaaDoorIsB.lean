/- The digits of the document's answers: Cmp, Add, Sub. -/
import Derived.Test.YtimkifkikcohgaaDoorRefD
namespace Go.Proofs.YtimkifkikcohgaaDoor
open Go.RowKit Nx

section
variable {W : World} {A B : Option Addr} {n c m d X Y k l : Nat}
theorem rcmp_is (ha : Dg W A n c X) (hb : Dg W B m d Y) (hX : X < B64 ^ k) (hY : Y < B64 ^ l) (hk : k ≤ 100000) (hl : l ≤ 100000) : Calls Tryd.prog 88 #[.slice A n c, .slice B m d] W fun e w' => e = .returned (.int .i64 (cmpv X Y)) ∧ Below W.heap.size W w' := by
  refine (cmp32_any W 0 _ 0 _ A B n c m d X Y ha hb (by have := ha.len hX; omega) (by have := hb.len hY; omega)).mono ?_
  rintro e w' ⟨t, rfl, rfl⟩
  exact ⟨rfl, below_drewN (Below.refl _ _) t⟩
theorem radd_is (ha : Dg W A n c X) (hb : Dg W B m d Y) (hX : X < B64 ^ k) (hY : Y < B64 ^ l) (hk : k ≤ 100000) (hl : l ≤ 100000) : Calls Tryd.prog 87 #[.slice A n c, .slice B m d] W (NewDg W (X + Y)) :=
  (add32_any W 0 _ 0 _ A B n c m d _ _ ha hb (small_digs B32_two _) (small_digs B32_two _) (by have := ha.len hX; omega) (by have := hb.len hY; omega) (Nat.le_refl _) (Nat.le_refl _)).mono fun e w' h => NewDg.of h (by rw [nval_digs B32_two, nval_digs B32_two])
theorem rsub_is (ha : Dg W A n c X) (hb : Dg W B m d Y) (hX : X < B64 ^ k) (hk : k ≤ 100000) (hYX : Y ≤ X) : Calls Tryd.prog 89 #[.slice A n c, .slice B m d] W (NewDg W (X - Y)) := by
  have hmn : m ≤ n := by
    rcases Nat.lt_or_ge n m with h | h
    · have := nval_le_of_len B32_two (m := X) (n := Y) (by rw [ha.1, hb.1]; exact h)
      omega
    · exact h
  exact (sub32_any W 0 _ 0 _ A B n c m d _ _ ha hb (small_digs B32_two _) (small_digs B32_two _) (by have := ha.len hX; omega) (Nat.le_refl _) (Nat.le_refl _) hmn (by rw [nval_digs B32_two, nval_digs B32_two]; exact hYX)).mono fun e w' h => NewDg.of h (by rw [nval_digs B32_two, nval_digs B32_two])
end
end Go.Proofs.YtimkifkikcohgaaDoor
