/- BoxHolds. -/
import Derived.Test.YthhaelnildaemaaGreatDoorSAm3
import Derived.Test.YthhaelnildaemaaGreatDoorSAm2
import Derived.Test.YthhaelnildaemaaGreatDoorSAl8
import Derived.Test.YthhaelnildaemaaGreatDoorSAkQ
namespace Go.Proofs.YthhaelnildaemaaGreatDoor
open Go.RowKit Nx
set_option linter.unusedVariables false
set_option linter.unusedSimpArgs false
attribute [local irreducible] chk
theorem bothB_go {φ : J → J → J × Int} {l m : List J} (h1 : rightB l = true) (h2 : rightB m = true) (h : l.length = m.length) : bothB φ l m = zipB φ l m := by
  unfold bothB
  rw [h1, h2, decide_eq_true h]; rfl
end Go.Proofs.YthhaelnildaemaaGreatDoor
