/- Boxes of which only the lengths are looked at. -/
import Derived.Test.YtcpfepjdeikchaaGreatDoorWAl2
import Derived.Test.YtcpfepjdeikchaaGreatDoorWAi4
import Derived.Test.YtcpfepjdeikchaaGreatDoorWAi2
import Derived.Test.YtcpfepjdeikchaaGreatDoorWAj2
import Derived.Test.YtcpfepjdeikchaaGreatDoorWAkM
namespace Go.Proofs.YtcpfepjdeikchaaGreatDoor
section
section
set_option linter.unusedSimpArgs false
set_option linter.unusedVariables false
open Go.RowKit Nx
attribute [local irreducible] chk
section
theorem orO_none {A B : Orac} {f : FuncId} {d : Nat} {st : St} {args : List AV} (h1 : A f d st args = none) (h2 : B f d st args = none) : orO A B f d st args = none := by unfold orO; rw [h1]; exact h2
def bL (l : List J) : List Lf := l.flatMap J.L
end
section

end
section

end
end
section
open Go.RowKit Nx
set_option linter.unusedVariables false
set_option linter.unusedSimpArgs false
attribute [local irreducible] chk
def gINNIB (k : Int → X → X → Int → Bool → Prop × AV) : List AV → Option (Prop × AV)
 | [.v false [.lit (.int .i64 kd)], .v true mx, .v true mx1, .v false [.lit (.int .i64 z)], .v false [.lit (.bool b)]] => (match asNum mx, asNum mx1 with
  | some x, some x1 => some (k kd x x1 z b)
  | _, _ => none)
 | _ => none
end
end
section
section
section
section
set_option linter.unusedSimpArgs false
set_option linter.unusedVariables false
open Go.RowKit Nx
attribute [local irreducible] chk
section

end
section

end
end
section
set_option linter.unusedSimpArgs false
set_option linter.unusedVariables false
open Go.RowKit Nx
attribute [local irreducible] chk
section
section
variable {st : St} {l : List X}
end
end
section

end
end
end
section
section
open Go.RowKit Nx
set_option linter.unusedVariables false
set_option linter.unusedSimpArgs false
end
section
open Go.RowKit Nx
set_option linter.unusedVariables false
set_option linter.unusedSimpArgs false
attribute [local irreducible] chk
end
end
end
section
set_option linter.unusedSimpArgs false
set_option linter.unusedVariables false
open Go.RowKit Nx
section
structure K where
 (u0 u1 : Value) (A : Option Addr) (n c : Nat) (u3 u4 : Value) (B : Option Addr) (m d : Nat)
def K.C (k : K) : List Lc := [.lit k.u0, .lit k.u1, .lit (.slice k.A k.n k.c), .lit k.u3, .lit k.u4, .lit (.slice k.B k.m k.d)]
abbrev K.p (k : K) : Nat × Nat := (k.n, k.m)
abbrev J.p (j : J) : Nat × Nat := (j.lo.xs.length, j.hi.xs.length)
structure Kp where
 (u0 u1 : Value) (A : Option Addr) (n c : Nat)
def Kp.C (k : Kp) : List Lc := [.lit k.u0, .lit k.u1, .lit (.slice k.A k.n k.c)]
section
variable {S : Nat → Prop} {w : World}
end
end
section
attribute [local irreducible] chk
end
section
attribute [local irreducible] chk
end
section
attribute [local irreducible] chk
end
section
attribute [local irreducible] chk
end
section

end
end
end
end Go.Proofs.YtcpfepjdeikchaaGreatDoor
