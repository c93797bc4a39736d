/- A field of a number that is a value. -/
import Derived.Test.YtdmnohmjobofhaaDoorNumAC
namespace Go.Proofs.YtdmnohmjobofhaaDoor
open Go.RowKit Nx

theorem run_field0 (b : Bool) (e : Int) (A : Option Addr) (n c : Nat) (w : World) : (Instr.field 28 (.agg #[.bool b, .int .i64 e, .slice A n c]) 0).run Tryd.prog w = .ok (.bool b) w := by kernel_rfl
theorem run_field2 (b : Bool) (e : Int) (A : Option Addr) (n c : Nat) (w : World) : (Instr.field 28 (.agg #[.bool b, .int .i64 e, .slice A n c]) 2).run Tryd.prog w = .ok (.slice A n c) w := by kernel_rfl
end Go.Proofs.YtdmnohmjobofhaaDoor
