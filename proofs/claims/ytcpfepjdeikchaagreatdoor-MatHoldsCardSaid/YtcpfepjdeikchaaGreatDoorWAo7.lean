/- The document's matrices by loops: sums, multiples, middles, products with boxes; columns. -/
import Derived.Test.YtcpfepjdeikchaaGreatDoorWAo3
import Derived.Test.YtcpfepjdeikchaaGreatDoorWAl5
import Derived.Test.YtcpfepjdeikchaaGreatDoorWAl7
namespace Go.Proofs.YtcpfepjdeikchaaGreatDoor
section
set_option linter.unusedSimpArgs false
set_option linter.unusedVariables false
section
open Go.RowKit Nx
attribute [local irreducible] chk
end
section
open Go.RowKit Nx
attribute [local irreducible] chk
end
section
open Go.ChangeShapes Go.WideShapes Go.ChangeAt Go.RowKit Go.Joins Nx
abbrev P2 := Nat × Nat
def ML (W : World) : List (List J) → List Value → Prop
 | [], us => us = []
 | l :: m, us => ∃ (u : Value) (r : List Value), us = u :: r ∧ BoxV W u l ∧ ML W m r
def MatV (W : World) (v : Value) (m : List (List J)) : Prop := SlV W v m.length 1 (ML W m)
section
variable {W : World} {v : Value}
theorem ML.ws : ∀ {m : List (List J)} {us : List Value}, ML W m us → (∀ l ∈ m, ∀ j ∈ l, j.lo.xs.length ≤ 100000 ∧ j.hi.xs.length ≤ 100000) → LcL (SepF false envA noD) W (m.map rC) us := by
 intro m
 induction m with
 | nil => intro us h _; exact h
 | cons l m ih =>
  rintro us ⟨u, r, rfl, h1, h2⟩ hs
  exact ⟨u, r, rfl, h1.R noSep (bC_len l) fun _ h => h.ws (hs l (List.mem_cons_self ..)), ih h2 fun l hl => hs l (List.mem_cons_of_mem _ hl)⟩
theorem MatV.ws {m : List (List J)} (h : MatV W v m) (hs : ∀ l ∈ m, ∀ j ∈ l, j.lo.xs.length ≤ 100000 ∧ j.hi.xs.length ≤ 100000) : (mA_ m).R envA noD W v := RL.one.2 (h.R noSep (by simp) fun _ h => h.ws hs)
end
section
variable {H : Type} {enc : TypeId × Value → H} {W : World}
end
end
end
section
section
set_option linter.unusedSimpArgs false
set_option linter.unusedVariables false
open Go.RowKit Nx
attribute [local irreducible] chk
section
theorem fm_all {α : Type} {cf : α → List Lf} {p : Lf → Bool} (h : ∀ a, (cf a).all p = true) : ∀ (l : List α), (l.flatMap cf).all p = true := by
 intro l
 induction l with
 | nil => rfl
 | cons a l ih => rw [List.flatMap_cons, List.all_append, h, ih]; rfl
theorem fm_snoc {α : Type} {cf : α → List Lf} (l : List α) (a : α) : l.flatMap cf ++ cf a = (l ++ [a]).flatMap cf := by rw [List.flatMap_append, List.flatMap_cons, List.flatMap_nil, List.append_nil]
end
section

end
end
section
open Go.RowKit Nx
set_option linter.unusedVariables false
set_option linter.unusedSimpArgs false
attribute [local irreducible] chk
end
end
end Go.Proofs.YtcpfepjdeikchaaGreatDoor
