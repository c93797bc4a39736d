/- Package iv: what has the precision, the selections, the ends outward. -/
import Derived.Test.YtpacpmmdjmnamaaDoorHAi3
namespace Go.Proofs.YtpacpmmdjmnamaaDoor
open Go.RowKit Nx
set_option linter.unusedVariables false
set_option linter.unusedSimpArgs false
theorem ci1 : ((1 : Nat) : Int) = 1 := rfl
theorem ci2 : ((2 : Nat) : Int) = 2 := rfl
theorem wrap1 : IntKind.i64.wrap 1 = 1 := by kernel_rfl
theorem wrap0 : IntKind.i64.wrap 0 = 0 := by kernel_rfl
theorem wrap2 : IntKind.i64.wrap 2 = 2 := by kernel_rfl
def prl (z : Int) : Bool := decide (8 ≤ z) && decide (z ≤ 256)
structure SX where
  x : X
  e : Int
def SX.L (c : SX) : List Lf := [.lit (.bool c.x.s), .lit (.int .i64 c.x.e), .ws c.x.xs, .lit (.int .i64 c.e)]
theorem SX.eta (c : SX) : SX.mk c.x c.e = c := rfl
def asSc : List Lf → Option SX
  | [.lit (.bool s), .lit (.int .i64 e), .ws xs, .lit (.int .i64 z)] => some ⟨⟨s, e, xs⟩, z⟩
  | _ => none
def X.e0 (x : X) : X := ⟨x.s, 0, x.xs⟩
def gJB (k : J → Bool → Prop × AV) : List AV → Option (Prop × AV)
  | [.v true mj, .v false [.lit (.bool b)]] => (match asIv mj with
    | some j => some (k j b)
    | _ => none)
  | _ => none
def gC (k : SX → Prop × AV) : List AV → Option (Prop × AV)
  | [.v true mc] => (match asSc mc with
    | some c => some (k c)
    | _ => none)
  | _ => none
def gCC (k : SX → SX → Prop × AV) : List AV → Option (Prop × AV)
  | [.v true mc, .v true mc1] => (match asSc mc, asSc mc1 with
    | some c, some c1 => some (k c c1)
    | _, _ => none)
  | _ => none
end Go.Proofs.YtpacpmmdjmnamaaDoor
