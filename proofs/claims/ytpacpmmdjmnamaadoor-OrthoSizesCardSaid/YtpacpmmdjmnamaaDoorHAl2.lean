/- Package box: equal, pairs, each, for any function handed over. -/
import Derived.Test.YtpacpmmdjmnamaaDoorHAl1
namespace Go.Proofs.YtpacpmmdjmnamaaDoor
open Go.RowKit Nx
set_option linter.unusedVariables false
set_option linter.unusedSimpArgs false
attribute [local irreducible] chk
end Go.Proofs.YtpacpmmdjmnamaaDoor
namespace Go.Proofs.YtpacpmmdjmnamaaDoor
open Go.RowKit Nx
set_option linter.unusedVariables false
set_option linter.unusedSimpArgs false
attribute [local irreducible] chk
end Go.Proofs.YtpacpmmdjmnamaaDoor
namespace Go.Proofs.YtpacpmmdjmnamaaDoor
open Go.RowKit Nx
set_option linter.unusedVariables false
set_option linter.unusedSimpArgs false
attribute [local irreducible] chk
theorem tblO_none {T : Tbl} {g : FuncId} {d : Nat} {st : St} {args : List AV} (h : ∀ args, T g args = none) : tblO T g d st args = none := by unfold tblO; rw [h]
theorem one_none {f g : FuncId} {k : List AV → Option (Prop × AV)} {args : List AV} (h : f ≠ g) : one g k f args = none := if_neg h
end Go.Proofs.YtpacpmmdjmnamaaDoor
