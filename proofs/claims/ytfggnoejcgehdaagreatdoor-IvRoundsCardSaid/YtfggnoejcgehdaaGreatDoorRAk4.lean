/- Laws with a deck: IvDrawn, IvFour, IvPowers. -/
import Derived.Test.YtfggnoejcgehdaaGreatDoorRAkM
import Derived.Test.YtfggnoejcgehdaaGreatDoorRAk3
namespace Go.Proofs.YtfggnoejcgehdaaGreatDoor
open Go.RowKit Nx
set_option linter.unusedVariables false
set_option linter.unusedSimpArgs false
def LCt (f : FuncId) (A : Option Addr) (n c : Nat) (xs : List Nat) (args : List AV) : Prop := ∀ w us, Tab w → Arg w A n c xs → RA (fun n => n) (fun _ => false) w args us →
  Calls Tryz.prog f us.toArray w fun e w' => e = .returned (.bool true) ∧ Below w.heap.size w w'
theorem lct_of {ty : TypeId → Option TI} {O : Orac} (hm : Tryz.prog.follows .mixedOrders = true) (hty : ∀ t i, ty t = some i → TiOK Tryz.prog t i) {f : FuncId} {fn : Func} {c0 : Code} {args : List AV} {A : Option Addr} {n c : Nat} {xs : List Nat}
    (hO : ∀ w, Arg w A n c xs → (∀ ad, 0 < n → A = some ad → ¬ (fun _ : Nat => False) ad.block) → OrOK Tryz.prog O (fun _ => False) w) (fg : List Nat)
    (fuel N : Nat) (rs : List ResultVar) (hf : Tryz.prog.funcs[f]? = some fn) (hb : fn.body = some c0) (hN : fn.ntmps = N) (hr : fn.results.toList = rs) (hl : args.length ≤ N) (hc : args.all clA = true)
    (h : smAs args → Small B64 xs → run ty O N (fun st => postf (· = bA true) (resA ty st rs)) fg fuel [.code c0] (init 0 args)) : LCt f A n c xs args := by
  intro w us ht hX hA
  replace h := h hA.sm hX.2
  refine (call_of (mem := []) (ρ := fun n => n) hm hty (hO w hX (fun _ _ _ h => h)) fg fuel N rs hf hb hN hr hl ht (fun k v h => by cases h) (fun b v h => by cases h) (fun b b' h => by cases h) (hA.closed hc) (by rw [List.append_nil]; exact h)).mono ?_
  rintro e w' ⟨u, r, rfl, rfl, hcl, hR, hb⟩
  rw [show u = .bool true from RL.one.1 (hR (fun n => n) (fun _ => false))]
  exact ⟨rfl, hb⟩
end Go.Proofs.YtfggnoejcgehdaaGreatDoor
namespace Go.Proofs.YtfggnoejcgehdaaGreatDoor
open Go.RowKit Nx
set_option linter.unusedVariables false
set_option linter.unusedSimpArgs false
theorem r_slc {ρ : Nat → Nat} {D : Nat → Bool} {W : World} {A : Option Addr} {n c : Nat} : AV.R ρ D W (.s (.lit (.slice A n c))) (.slice A n c) := RL.one.2 rfl
end Go.Proofs.YtfggnoejcgehdaaGreatDoor
