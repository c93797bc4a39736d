/- math/bits.LeadingZeros64. -/
import Derived.Test.YtnkbamjjpdmbaaaDoorNatB
namespace Go.Proofs.YtnkbamjjpdmbaaaDoor
open Go.RowKit Nx

theorem lead64_any (x : Nat) (w : World) (h : x < B64) : Calls Tryd.prog 103 #[.int .u64 (x : Int)] w fun e w' => e = .returned (.int .i64 ((64 - nbits x : Nat) : Int)) ∧ w = w' := by
  have hb : nbits x ≤ 64 := nbits_le (show x < 2 ^ 64 by unfold B64 at h; omega)
  go_enter Tryd.func103, Tryd.ntmps103
  go_wp2_with (go_at_call 53; refine (len64_any _ _ h).mono ?_; rintro e w' ⟨rfl, rfl⟩)
  go_ret
  exact ⟨congrArg (fun z => Ending.returned (Value.int IntKind.i64 z)) (by omega), rfl⟩
end Go.Proofs.YtnkbamjjpdmbaaaDoor
