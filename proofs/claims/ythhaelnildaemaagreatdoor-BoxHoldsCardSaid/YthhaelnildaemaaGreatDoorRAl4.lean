/- The document's boxes: right, points, same, has, in, hull, meet. -/
import Derived.Test.YthhaelnildaemaaGreatDoorRAl2
import Derived.Test.YthhaelnildaemaaGreatDoorRAi2
namespace Go.Proofs.YthhaelnildaemaaGreatDoor
open Go.RowKit Nx
set_option linter.unusedVariables false
set_option linter.unusedSimpArgs false
attribute [local irreducible] chk
end Go.Proofs.YthhaelnildaemaaGreatDoor
namespace Go.Proofs.YthhaelnildaemaaGreatDoor
open Go.RowKit Nx
set_option linter.unusedVariables false
set_option linter.unusedSimpArgs false
attribute [local irreducible] chk
end Go.Proofs.YthhaelnildaemaaGreatDoor
