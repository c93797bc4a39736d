/- Calls that answer a list that grows: it is the caller's own. -/
import Derived.Test.YtcpfepjdeikchaaGreatDoorUAl2
namespace Go.Proofs.YtcpfepjdeikchaaGreatDoor
open Go.RowKit Nx
set_option linter.unusedVariables false
set_option linter.unusedSimpArgs false
attribute [local irreducible] chk
theorem orO_none {A B : Orac} {f : FuncId} {d : Nat} {st : St} {args : List AV} (h1 : A f d st args = none) (h2 : B f d st args = none) : orO A B f d st args = none := by unfold orO; rw [h1]; exact h2
end Go.Proofs.YtcpfepjdeikchaaGreatDoor
namespace Go.Proofs.YtcpfepjdeikchaaGreatDoor
open Go.RowKit Nx
set_option linter.unusedVariables false
set_option linter.unusedSimpArgs false
attribute [local irreducible] chk
end Go.Proofs.YtcpfepjdeikchaaGreatDoor
namespace Go.Proofs.YtcpfepjdeikchaaGreatDoor
open Go.RowKit Nx
set_option linter.unusedVariables false
set_option linter.unusedSimpArgs false
attribute [local irreducible] chk
end Go.Proofs.YtcpfepjdeikchaaGreatDoor
