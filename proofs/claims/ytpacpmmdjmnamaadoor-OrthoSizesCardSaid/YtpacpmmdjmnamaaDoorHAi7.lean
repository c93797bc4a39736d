/- Package iv: the selections as closures, the ends outward. -/
import Derived.Test.YtpacpmmdjmnamaaDoorHAiQ
namespace Go.Proofs.YtpacpmmdjmnamaaDoor
open Go.RowKit Nx
set_option linter.unusedVariables false
set_option linter.unusedSimpArgs false
end Go.Proofs.YtpacpmmdjmnamaaDoor
namespace Go.Proofs.YtpacpmmdjmnamaaDoor
open Go.RowKit Nx
set_option linter.unusedVariables false
set_option linter.unusedSimpArgs false
theorem only_or {P : Program} {A B : Orac} {g : FuncId} {F : Nat → Prop} {w0 : World} (ho : Only A g) (hA : OrOK P A F w0) (hB : OrOK P B F w0) (hn : ∀ d st args, B g d st args = none) : OrOK P (orO A B) F w0 :=
  orO_ok hA hB fun f d st args e he st' => by
    by_cases hf : f = g
    · subst hf; rw [hn] at he; cases he
    · exact ho f d st' args hf
end Go.Proofs.YtpacpmmdjmnamaaDoor
