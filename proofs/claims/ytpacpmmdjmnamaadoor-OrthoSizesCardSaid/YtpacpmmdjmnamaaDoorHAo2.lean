/- Package box by loops: what is right; pairs, each; sums, differences, multiples, middles. -/
import Derived.Test.YtpacpmmdjmnamaaDoorHAo1
import Derived.Test.YtpacpmmdjmnamaaDoorHAl2
namespace Go.Proofs.YtpacpmmdjmnamaaDoor
open Go.RowKit Nx
set_option linter.unusedVariables false
set_option linter.unusedSimpArgs false
attribute [local irreducible] chk
theorem at_get {α : Type} {l : List α} {j : Nat} (d : α) (h : j < l.length) : l[j]? = some (l.getD j d) := by
  rw [List.getD_eq_getElem?_getD, List.getElem?_eq_getElem h]; rfl
theorem orT_none {S T : Tbl} {f : FuncId} {args : List AV} (h1 : S f args = none) (h2 : T f args = none) : orT S T f args = none := by unfold orT; rw [h1]; exact h2
theorem pC_at' {l : List X} {j : Nat} {x : X} (h : l[j]? = some x) : List.take 3 (List.drop (j * 3) (pC l)) = [.lit (.bool x.s), .lit (.int .i64 x.e), .ws x.xs] := pC_at h
end Go.Proofs.YtpacpmmdjmnamaaDoor
