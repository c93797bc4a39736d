/- A box, points, that came in: their cells. -/
import Derived.Test.YtcpfepjdeikchaaGreatDoorYAl2
import Derived.Test.YtcpfepjdeikchaaGreatDoorYAi4
import Derived.Test.YtcpfepjdeikchaaGreatDoorYAi2
import Derived.Test.YtcpfepjdeikchaaGreatDoorYAj2
import Derived.Test.YtcpfepjdeikchaaGreatDoorYAkM
import Derived.Test.YtcpfepjdeikchaaGreatDoorYLift
namespace Go.Proofs.YtcpfepjdeikchaaGreatDoor
section
section
section
open Go.RowKit Nx
set_option linter.unusedVariables false
set_option linter.unusedSimpArgs false
attribute [local irreducible] chk
def gINNIB (k : Int → X → X → Int → Bool → Prop × AV) : List AV → Option (Prop × AV)
 | [.v false [.lit (.int .i64 kd)], .v true mx, .v true mx1, .v false [.lit (.int .i64 z)], .v false [.lit (.bool b)]] => (match asNum mx, asNum mx1 with
  | some x, some x1 => some (k kd x x1 z b)
  | _, _ => none)
 | _ => none
end
section
set_option linter.unusedSimpArgs false
set_option linter.unusedVariables false
open Go.RowKit Nx
attribute [local irreducible] chk
section
theorem orO_none {A B : Orac} {f : FuncId} {d : Nat} {st : St} {args : List AV} (h1 : A f d st args = none) (h2 : B f d st args = none) : orO A B f d st args = none := by unfold orO; rw [h1]; exact h2
def bL (l : List J) : List Lf := l.flatMap J.L
end
section
theorem cmpx_self (x : X) : cmpx x x = 0 := by
 unfold cmpx anscmp
 split
 ·rw [cmpq_at (E := x.e.natAbs) (show -((x.e.natAbs : Nat) : Int) ≤ x.e by omega) (show -((x.e.natAbs : Nat) : Int) ≤ x.e by omega)]; simp
 ·rfl
end
section

end
end
end
section
section
section
section
set_option linter.unusedSimpArgs false
set_option linter.unusedVariables false
open Go.RowKit Nx
attribute [local irreducible] chk
section

end
section

end
end
section
set_option linter.unusedSimpArgs false
set_option linter.unusedVariables false
open Go.RowKit Nx
attribute [local irreducible] chk
section
section
variable {st : St} {l : List X}
end
end
section

end
end
end
section
section
open Go.RowKit Nx
set_option linter.unusedVariables false
set_option linter.unusedSimpArgs false
end
section
open Go.RowKit Nx
set_option linter.unusedVariables false
set_option linter.unusedSimpArgs false
attribute [local irreducible] chk
end
end
end
section
set_option linter.unusedSimpArgs false
set_option linter.unusedVariables false
open Go.RowKit Nx
section
structure K where
 (u0 u1 : Value) (A : Option Addr) (n c : Nat) (u3 u4 : Value) (B : Option Addr) (m d : Nat)
def K.C (k : K) : List Lc := [.lit k.u0, .lit k.u1, .lit (.slice k.A k.n k.c), .lit k.u3, .lit k.u4, .lit (.slice k.B k.m k.d)]
abbrev K.p (k : K) : Nat × Nat := (k.n, k.m)
abbrev J.p (j : J) : Nat × Nat := (j.lo.xs.length, j.hi.xs.length)
structure Kp where
 (u0 u1 : Value) (A : Option Addr) (n c : Nat)
def Kp.C (k : Kp) : List Lc := [.lit k.u0, .lit k.u1, .lit (.slice k.A k.n k.c)]
section
variable {S : Nat → Prop} {w : World}
end
end
section
attribute [local irreducible] chk
end
section
attribute [local irreducible] chk
end
section
attribute [local irreducible] chk
end
section
attribute [local irreducible] chk
end
section

end
end
end
end
section
section
open Go.ChangeShapes Go.WideShapes Go.ChangeAt Go.RowKit Go.Joins Nx
def JL (W : World) : List J → List Value → Prop
 | [], us => us = []
 | j :: l, us => ∃ (A : Option Addr) (n c : Nat) (B : Option Addr) (m d : Nat) (r : List Value), us = .bool j.lo.s :: .int .i64 j.lo.e :: .slice A n c :: .bool j.hi.s :: .int .i64 j.hi.e :: .slice B m d :: r ∧ Arg W A n c j.lo.xs ∧ Arg W B m d j.hi.xs ∧ JL W l r
def XL (W : World) : List X → List Value → Prop
 | [], us => us = []
 | x :: l, us => ∃ (A : Option Addr) (n c : Nat) (r : List Value), us = .bool x.s :: .int .i64 x.e :: .slice A n c :: r ∧ Arg W A n c x.xs ∧ XL W l r
theorem JL.len {W : World} : ∀ {l : List J} {us : List Value}, JL W l us → us.length = l.length * 6 := by
 intro l
 induction l with
 | nil => intro us h; rw [show us = [] from h]; rfl
 | cons j l ih => rintro us ⟨A, n, c, B, m, d, r, rfl, _, _, h⟩; simp only [List.length_cons, ih h]; omega
theorem XL.len {W : World} : ∀ {l : List X} {us : List Value}, XL W l us → us.length = l.length * 3 := by
 intro l
 induction l with
 | nil => intro us h; rw [show us = [] from h]; rfl
 | cons j l ih => rintro us ⟨A, n, c, r, rfl, _, h⟩; simp only [List.length_cons, ih h]; omega
def SlV (W : World) (v : Value) (n sz : Nat) (R : List Value → Prop) : Prop := ∃ (A : Option Addr) (c : Nat), v = .slice A n c ∧ n ≤ c ∧ (n = 0 ∨ ∃ (ad : Addr) (T : TypeId) (cs : Array Value), A = some ad ∧ ad.spot = none ∧ Wb W ad.block T cs ∧ ad.off + n * sz ≤ cs.size ∧ R ((cs.toList.drop ad.off).take (n * sz)))
def BoxV (W : World) (v : Value) (l : List J) : Prop := SlV W v l.length 6 (JL W l)
def PtsV (W : World) (v : Value) (l : List X) : Prop := SlV W v l.length 3 (XL W l)
section
variable {S : Nat → Prop} {W : World} {v : Value}
theorem JL.ws : ∀ {l : List J} {us : List Value}, JL W l us → (∀ j ∈ l, j.lo.xs.length ≤ 100000 ∧ j.hi.xs.length ≤ 100000) → LcL S W (bC l) us := by
 intro l
 induction l with
 | nil => intro us h _; exact h
 | cons j l ih =>
  rintro us ⟨A, n, c, B, m, d, r, rfl, hA, hB, h⟩ hs
  have h1 := hs j (List.mem_cons_self ..)
  exact ⟨_, _, rfl, rfl, _, _, rfl, rfl, _, _, rfl, ⟨A, n, c, rfl, hA, by rw [← hA.1.1]; exact h1.1⟩, _, _, rfl, rfl, _, _, rfl, rfl, _, _, rfl, ⟨B, m, d, rfl, hB, by rw [← hB.1.1]; exact h1.2⟩, ih h fun j hj => hs j (List.mem_cons_of_mem _ hj)⟩
theorem XL.ws : ∀ {l : List X} {us : List Value}, XL W l us → (∀ j ∈ l, j.xs.length ≤ 100000) → LcL S W (pC l) us := by
 intro l
 induction l with
 | nil => intro us h _; exact h
 | cons j l ih =>
  rintro us ⟨A, n, c, r, rfl, hA, h⟩ hs
  have h1 := hs j (List.mem_cons_self ..)
  exact ⟨_, _, rfl, rfl, _, _, rfl, rfl, _, _, rfl, ⟨A, n, c, rfl, hA, by rw [← hA.1.1]; exact h1⟩, ih h fun j hj => hs j (List.mem_cons_of_mem _ hj)⟩
theorem SlV.R {n sz : Nat} {R : List Value → Prop} {ls : List Lc} (h : SlV W v n sz R) (hS : ∀ g, S g) (hl : ls.length = n * sz) (hR : ∀ us, R us → LcL S W ls us) : (Lc.sl sz n ls).R S W v := by
 obtain ⟨A, c, e, hc, h⟩ := h
 refine ⟨hl, A, c, e, hc, ?_⟩
 rcases h with rfl | ⟨ad, T, cs, e1, e2, hB, h3, h4⟩
 ·exact .inl (List.eq_nil_of_length_eq_zero (by rw [hl]; exact Nat.zero_mul _))
 ·exact .inr ⟨ad, T, cs, e1, e2, hS _, hB, by rw [hl]; exact h3, by rw [hl]; exact hR _ h4⟩
end
abbrev noD : Nat → Bool := fun _ => false
theorem noSep (g : Nat) : SepF false envA noD g := ⟨⟨fun b h => (by cases h), fun b h => (by cases h)⟩, fun h => (by cases h)⟩
section
variable {W : World} {v : Value}
theorem BoxV.ws {l : List J} (h : BoxV W v l) (hs : ∀ j ∈ l, j.lo.xs.length ≤ 100000 ∧ j.hi.xs.length ≤ 100000) : (bA_ l).R envA noD W v := RL.one.2 (h.R noSep (bC_len l) fun _ h => h.ws hs)
theorem PtsV.ws {l : List X} (h : PtsV W v l) (hs : ∀ j ∈ l, j.xs.length ≤ 100000) : (pA_ l).R envA noD W v := RL.one.2 (h.R noSep (pC_len l) fun _ h => h.ws hs)
end
section
variable {H : Type} {enc : TypeId × Value → H} {W : World}
end
end
section
open Go.RowKit Nx
set_option linter.unusedVariables false
set_option linter.unusedSimpArgs false
attribute [local irreducible] chk
end
end
end Go.Proofs.YtcpfepjdeikchaaGreatDoor
