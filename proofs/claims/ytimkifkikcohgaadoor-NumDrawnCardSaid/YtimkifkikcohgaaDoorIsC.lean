/- The digits of the document's answers: Mul. -/
import Derived.Test.YtimkifkikcohgaaDoorRefE
namespace Go.Proofs.YtimkifkikcohgaaDoor
open Go.RowKit Nx

section
variable {W : World} {A B : Option Addr} {n c m d X Y k l : Nat}
theorem rmul_is (ha : Dg W A n c X) (hb : Dg W B m d Y) (hX : X < B64 ^ k) (hY : Y < B64 ^ l) (hk : k ≤ 100000) (hl : l ≤ 100000) : Calls Tryd.prog 90 #[.slice A n c, .slice B m d] W (NewDg W (X * Y)) :=
  (mul32_any W 0 _ 0 _ A B n c m d _ _ ha hb (small_digs B32_two _) (small_digs B32_two _) (by have := ha.len hX; omega) (by have := hb.len hY; omega) (Nat.le_refl _) (Nat.le_refl _)).mono fun e w' h => NewDg.of h (by rw [nval_digs B32_two, nval_digs B32_two])
end
end Go.Proofs.YtimkifkikcohgaaDoor
