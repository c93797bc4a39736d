/- Package iv: what needs no rounding. -/
import Derived.Test.YtpacpmmdjmnamaaDoorHAi6
namespace Go.Proofs.YtpacpmmdjmnamaaDoor
open Go.RowKit Nx
set_option linter.unusedVariables false
set_option linter.unusedSimpArgs false
section
variable {R : List It → St → Prop} {N : Nat} {k : List It} {st : St}
theorem exef_some {p : Prop} {r : List Nat} {u : St} {ops : Array Oper} {o : Oper} {l : List Oper} {rs : List (List Nat × List Nat)} {d : Bool} : exef R N (some (p, r, u)) ops o l rs d k st = (okD N o = true ∧ p ∧ R (.ops ops l ((r, u.map (·.1)) :: rs) d :: k) (u ++ st)) := rfl
theorem exif_some {k' : List It} : exif R (some k') st = R k' st := rfl
theorem condf_b {b : Bool} {x y : Code} : condf R (some (.v false [.lit (.bool b)])) x y k st = (bif b then R (.code x :: k) st else R (.code y :: k) st) := rfl
theorem brkf_b {b : Bool} {g : Nat} : brkf R (some (.v false [.lit (.bool b)])) g k st = (bif b then R k ((g, .s (.lit (.bool true))) :: st) else R k ((g, .s (.lit (.bool false))) :: st)) := rfl
theorem brkf_t {g : Nat} {vs : Array Value} : brkf R (some (.v false [.lit (.tuple vs)])) g k st = R k st := rfl
theorem postf_some {Pst : AV → Prop} {ps : List (Bool × List Lf)} : postf Pst (some ps) = (clA (tupA ps) = true ∧ Pst (tupA ps)) := rfl
theorem condP {b : Bool} {A B : Prop} (h1 : b = true → A) (h2 : b = false → B) : bif b then A else B := by
  cases b
  · exact h2 rfl
  · exact h1 rfl
theorem not_cond {b : Bool} {A B : Prop} : (bif !b then A else B) = (bif b then B else A) := by cases b <;> rfl
theorem X.eta (x : X) : X.mk x.s x.e x.xs = x := rfl
theorem J.eta (x : J) : J.mk x.lo x.hi = x := rfl
theorem Q.eta (x : Q) : Q.mk x.s x.m x.e = x := rfl
end
def zX : X := ⟨false, 0, []⟩
def okJ (j : J) : Bool := j.lo.ok && j.hi.ok && decide (cmpx j.lo j.hi ≤ 0)
end Go.Proofs.YtpacpmmdjmnamaaDoor
