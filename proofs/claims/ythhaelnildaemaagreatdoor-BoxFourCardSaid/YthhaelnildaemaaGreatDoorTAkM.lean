/- Decks: a number, an interval in an interval. -/
import Derived.Test.YthhaelnildaemaaGreatDoorTAk7
namespace Go.Proofs.YthhaelnildaemaaGreatDoor
open Go.RowKit Nx
set_option linter.unusedVariables false
set_option linter.unusedSimpArgs false
end Go.Proofs.YthhaelnildaemaaGreatDoor
