/- Decks: boxes, points in boxes, parts of boxes, as they are drawn. -/
import Derived.Test.YtobcbhppmgnioaaGreatDoorSAo1
import Derived.Test.YtobcbhppmgnioaaGreatDoorSSeat
import Derived.Test.YtobcbhppmgnioaaGreatDoorSAkM
import Derived.Test.YtobcbhppmgnioaaGreatDoorSAi4
namespace Go.Proofs.YtobcbhppmgnioaaGreatDoor
section
section
section
set_option linter.unusedSimpArgs false
set_option linter.unusedVariables false
open Go.RowKit Nx
attribute [local irreducible] chk
section
def hpin2 (L : List (List Lf)) (c0 : FuncId) (L2 : List (List Lf)) (c2 : FuncId) (A : List AV) (r : AV) : HK2 := fun ls c ls2 d xs => some ((ls = L ∧ c = c0) ∧ (ls2 = L2 ∧ d = c2) ∧ xs = A, r)
theorem at_get {α : Type} {l : List α} {j : Nat} (d : α) (h : j < l.length) : l[j]? = some (l.getD j d) := by
 rw [List.getD_eq_getElem?_getD, List.getElem?_eq_getElem h]; rfl
theorem orT_none {S T : Tbl} {f : FuncId} {args : List AV} (h1 : S f args = none) (h2 : T f args = none) : orT S T f args = none := by unfold orT; rw [h1]; exact h2
theorem bC_at' {l : List J} {j : Nat} {x : J} (h : l[j]? = some x) : List.take 6 (List.drop (j * 6) (bC l)) = [.lit (.bool x.lo.s), .lit (.int .i64 x.lo.e), .ws x.lo.xs, .lit (.bool x.hi.s), .lit (.int .i64 x.hi.e), .ws x.hi.xs] := bC_at h
theorem pC_at' {l : List X} {j : Nat} {x : X} (h : l[j]? = some x) : List.take 3 (List.drop (j * 3) (pC l)) = [.lit (.bool x.s), .lit (.int .i64 x.e), .ws x.xs] := pC_at h
end
section
def mC (m : List (List J)) : Lc := .sl 1 m.length (m.map rC)
end
section

end
end
section
section
set_option linter.unusedSimpArgs false
set_option linter.unusedVariables false
open Go.RowKit Nx
attribute [local irreducible] chk
section
def Sq (n : Nat) (m : List (List J)) : Prop := m.length = n ∧ ∀ r ∈ m, r.length = n
theorem Sq.row {n i : Nat} {m : List (List J)} (h : Sq n m) (hi : i < n) : (m.getD i []).length = n := by
 have := at_get [] (l := m) (j := i) (by rw [h.1]; exact hi)
 exact h.2 _ (List.mem_of_getElem? this)
end
section

end
section

end
end
section
section
open Go.RowKit Nx
set_option linter.unusedVariables false
set_option linter.unusedSimpArgs false
end
section
open Go.RowKit Nx
set_option linter.unusedVariables false
set_option linter.unusedSimpArgs false
attribute [local irreducible] chk
end
end
end
end
section
section
set_option linter.unusedSimpArgs false
set_option linter.unusedVariables false
open Go.RowKit Nx
attribute [local irreducible] chk
section
theorem fm_all {α : Type} {cf : α → List Lf} {p : Lf → Bool} (h : ∀ a, (cf a).all p = true) : ∀ (l : List α), (l.flatMap cf).all p = true := by
 intro l
 induction l with
 | nil => rfl
 | cons a l ih => rw [List.flatMap_cons, List.all_append, h, ih]; rfl
theorem fm_snoc {α : Type} {cf : α → List Lf} (l : List α) (a : α) : l.flatMap cf ++ cf a = (l ++ [a]).flatMap cf := by rw [List.flatMap_append, List.flatMap_cons, List.flatMap_nil, List.append_nil]
end
section

end
end
section
section
section
open Go.RowKit Nx
set_option linter.unusedVariables false
set_option linter.unusedSimpArgs false
attribute [local irreducible] chk
end
section
set_option linter.unusedSimpArgs false
set_option linter.unusedVariables false
open Go.RowKit Nx
attribute [local irreducible] chk
section
def bL (l : List J) : List Lf := l.flatMap J.L
end
section

end
section

end
end
end
section
set_option linter.unusedSimpArgs false
set_option linter.unusedVariables false
open Go.RowKit Nx
attribute [local irreducible] chk
section
section
variable {st : St} {l : List X}
end
end
section

end
end
end
end
end
section
set_option linter.unusedSimpArgs false
set_option linter.unusedVariables false
open Go.RowKit Nx
attribute [local irreducible] chk
section
def rKB (K : Nat → List J → Prop × AV × Nat) : DK := fun k rest => match rest with
 | [x] => (match asB x with
  | some l => some (K k l)
  | none => none)
 | _ => none
section
variable {l : List J} {m : List X}
theorem cb_box : cbL (boxC l) = true := by cases l <;> rfl
theorem cb_pts : cbL (ptsC m) = true := by cases m <;> rfl
end
end
section
def LC6 (f : FuncId) (A : Option Addr) (n c : Nat) (xs : List Nat) (args : List AV) : Prop := ∀ w us, Tab w → Arg w A n c xs → RA envA (fun _ => false) w args us →
 Calls Tryz.prog f us.toArray w fun e w' => e = .returned (.bool true) ∧ Below w.heap.size w w'
theorem lc6_of {ty : TypeId → Option TI} {O : Orac} (hm : Tryz.prog.follows .mixedOrders = true) (hty : ∀ t i, ty t = some i → TiOK Tryz.prog t i) {f : FuncId} {fn : Func} {c0 : Code} {args : List AV} {A : Option Addr} {n c : Nat} {xs : List Nat}
  (hO : ∀ w, Arg w A n c xs → (∀ ad, 0 < n → A = some ad → ¬ Fx.no ad.block) → OrOK Tryz.prog O Fx.no w) (fg : List Nat)
  (fuel N : Nat) (rs : List ResultVar) (hf : Tryz.prog.funcs[f]? = some fn) (hb : fn.body = some c0) (hN : fn.ntmps = N) (hr : fn.results.toList = rs) (hl : args.length ≤ N) (hc : args.all cbA = true)
  (h : smAs args → Small B64 xs → run ty O N (fun st => postf (· = bA true) (resA ty st rs)) fg fuel [.code c0] (init 0 args)) : LC6 f A n c xs args := by
 intro w us ht hX hA
 replace h := h hA.sm hX.2
 refine (call_of (mem := []) (ρ := ⟨fun n => n, w.heap.size, fun _ => undef, fun _ => 0, fun _ => false⟩) hm hty (hO w hX (fun _ _ _ h => h)) fg fuel N rs hf hb hN hr hl ht (fun k v h => by cases h) (fun b v h => by cases h) (fun b b' h => by cases h) (hA.closed hc fun _ _ => ⟨fun _ h => (by cases h), fun _ h => (by cases h)⟩) rfl rfl (by rw [List.append_nil]; exact h)).mono ?_
 rintro e w' ⟨u, r, rfl, rfl, hcl, hR, hb⟩
 rw [show u = .bool true from RL.one.1 (hR envA (fun _ => false) ⟨fun _ h => (by cases h), fun _ _ h => (by cases h), Nat.zero_le _⟩)]
 exact ⟨rfl, hb⟩
end
end
end Go.Proofs.YtobcbhppmgnioaaGreatDoor
