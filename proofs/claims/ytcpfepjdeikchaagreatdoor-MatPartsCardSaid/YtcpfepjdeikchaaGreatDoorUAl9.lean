/- The statements' helper parts returns true. -/
import Derived.Test.YtcpfepjdeikchaaGreatDoorUAl4
import Derived.Test.YtcpfepjdeikchaaGreatDoorUAi4
import Derived.Test.YtcpfepjdeikchaaGreatDoorUAl3
import Derived.Test.YtcpfepjdeikchaaGreatDoorUAj2
namespace Go.Proofs.YtcpfepjdeikchaaGreatDoor
open Go.RowKit Nx
set_option linter.unusedVariables false
set_option linter.unusedSimpArgs false
attribute [local irreducible] chk
section
variable {st : St} {l : List X}
end
end Go.Proofs.YtcpfepjdeikchaaGreatDoor
namespace Go.Proofs.YtcpfepjdeikchaaGreatDoor
open Go.RowKit Nx
set_option linter.unusedVariables false
set_option linter.unusedSimpArgs false
attribute [local irreducible] chk
end Go.Proofs.YtcpfepjdeikchaaGreatDoor
