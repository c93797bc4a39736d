/- The document's side of package iv (fathomlineref1). -/
import Derived.Test.YtpacpmmdjmnamaaDoorHAiJ
namespace Go.Proofs.YtpacpmmdjmnamaaDoor
open Go.RowKit Nx
set_option linter.unusedVariables false
set_option linter.unusedSimpArgs false
def prb (p : Int) : Bool := decide (p ≥ 8) && decide (p ≤ 256)
theorem words_bits {m k : Nat} (h : m < B64 ^ k) : nbits m ≤ 64 * k := nbits_le (by rw [← pow64]; exact h)
end Go.Proofs.YtpacpmmdjmnamaaDoor
