/- BoxDrawn. -/
import Derived.Test.YthhaelnildaemaaGreatDoorRAlQ
import Derived.Test.YthhaelnildaemaaGreatDoorRAl9
namespace Go.Proofs.YthhaelnildaemaaGreatDoor
open Go.RowKit Nx
set_option linter.unusedVariables false
set_option linter.unusedSimpArgs false
attribute [local irreducible] chk
def LC6 (f : FuncId) (A : Option Addr) (n c : Nat) (xs : List Nat) (args : List AV) : Prop := ∀ w us, Tab w → Arg w A n c xs → RA envA (fun _ => false) w args us →
  Calls Tryz.prog f us.toArray w fun e w' => e = .returned (.bool true) ∧ Below w.heap.size w w'
theorem lc6_of {ty : TypeId → Option TI} {O : Orac} (hm : Tryz.prog.follows .mixedOrders = true) (hty : ∀ t i, ty t = some i → TiOK Tryz.prog t i) {f : FuncId} {fn : Func} {c0 : Code} {args : List AV} {A : Option Addr} {n c : Nat} {xs : List Nat}
    (hO : ∀ w, Arg w A n c xs → (∀ ad, 0 < n → A = some ad → ¬ (fun _ : Nat => False) ad.block) → OrOK Tryz.prog O (fun _ => False) w) (fg : List Nat)
    (fuel N : Nat) (rs : List ResultVar) (hf : Tryz.prog.funcs[f]? = some fn) (hb : fn.body = some c0) (hN : fn.ntmps = N) (hr : fn.results.toList = rs) (hl : args.length ≤ N) (hc : args.all cbA = true)
    (h : smAs args → Small B64 xs → run ty O N (fun st => postf (· = bA true) (resA ty st rs)) fg fuel [.code c0] (init 0 args)) : LC6 f A n c xs args := by
  intro w us ht hX hA
  replace h := h hA.sm hX.2
  refine (call_of (mem := []) (ρ := ⟨fun n => n, w.heap.size, fun _ => undef, fun _ => 0, fun _ => false⟩) hm hty (hO w hX (fun _ _ _ h => h)) fg fuel N rs hf hb hN hr hl ht (fun k v h => by cases h) (fun b v h => by cases h) (fun b b' h => by cases h) (hA.closed hc fun _ _ => ⟨fun _ h => (by cases h), fun _ h => (by cases h)⟩) rfl rfl (by rw [List.append_nil]; exact h)).mono ?_
  rintro e w' ⟨u, r, rfl, rfl, hcl, hR, hb⟩
  rw [show u = .bool true from RL.one.1 (hR envA (fun _ => false) ⟨fun _ h => (by cases h), fun _ _ h => (by cases h), Nat.zero_le _⟩)]
  exact ⟨rfl, hb⟩
theorem len1 {α : Type} {l : List α} (h : l.length = 1) : ∃ a, l = [a] := by
  match l, h with
  | [a], _ => exact ⟨a, rfl⟩
theorem len2 {α : Type} {l : List α} (h : l.length = 2) : ∃ a b, l = [a, b] := by
  match l, h with
  | [a, b], _ => exact ⟨a, b, rfl⟩
theorem len3 {α : Type} {l : List α} (h : l.length = 3) : ∃ a b c, l = [a, b, c] := by
  match l, h with
  | [a, b, c], _ => exact ⟨a, b, c, rfl⟩
theorem len4 {α : Type} {l : List α} (h : l.length = 4) : ∃ a b c d, l = [a, b, c, d] := by
  match l, h with
  | [a, b, c, d], _ => exact ⟨a, b, c, d, rfl⟩
end Go.Proofs.YthhaelnildaemaaGreatDoor
