/- Boxes of which only the lengths are looked at. -/
import Derived.Test.YtcpfepjdeikchaaGreatDoorUAl2
namespace Go.Proofs.YtcpfepjdeikchaaGreatDoor
open Go.RowKit Nx
set_option linter.unusedVariables false
set_option linter.unusedSimpArgs false
structure K where
  (u0 u1 : Value) (A : Option Addr) (n c : Nat) (u3 u4 : Value) (B : Option Addr) (m d : Nat)
def K.C (k : K) : List Lc := [.lit k.u0, .lit k.u1, .lit (.slice k.A k.n k.c), .lit k.u3, .lit k.u4, .lit (.slice k.B k.m k.d)]
def kC (l : List K) : List Lc := l.flatMap K.C
theorem kC_cons {k : K} {l : List K} : kC (k :: l) = .lit k.u0 :: .lit k.u1 :: .lit (.slice k.A k.n k.c) :: .lit k.u3 :: .lit k.u4 :: .lit (.slice k.B k.m k.d) :: kC l := rfl
theorem kC_len : ∀ (l : List K), (kC l).length = l.length * 6 := by
  intro l
  induction l with
  | nil => rfl
  | cons k l ih => rw [kC_cons]; simp only [List.length_cons, ih]; omega
abbrev K.p (k : K) : Nat × Nat := (k.n, k.m)
abbrev J.p (j : J) : Nat × Nat := (j.lo.xs.length, j.hi.xs.length)
structure Kp where
  (u0 u1 : Value) (A : Option Addr) (n c : Nat)
def Kp.C (k : Kp) : List Lc := [.lit k.u0, .lit k.u1, .lit (.slice k.A k.n k.c)]
def rKp (l : List Kp) : List Lc := l.flatMap Kp.C
theorem rKp_cons {k : Kp} {l : List Kp} : rKp (k :: l) = .lit k.u0 :: .lit k.u1 :: .lit (.slice k.A k.n k.c) :: rKp l := rfl
theorem rKp_len : ∀ (l : List Kp), (rKp l).length = l.length * 3 := by
  intro l
  induction l with
  | nil => rfl
  | cons k l ih => rw [rKp_cons]; simp only [List.length_cons, ih]; omega
def lnOf : Lc → Option Nat
  | .ws xs => some xs.length
  | .lit (.slice _ n _) => some n
  | _ => none
def asKs : List Lc → Option (List (Nat × Nat))
  | [] => some []
  | _ :: _ :: a :: _ :: _ :: b :: r => (match lnOf a, lnOf b, asKs r with
    | some x, some y, some l => some ((x, y) :: l)
    | _, _, _ => none)
  | _ => none
section
variable {S : Nat → Prop} {w : World}
theorem lnOf_R {c : Lc} {x : Nat} {u : Value} (h : lnOf c = some x) (hR : c.R S w u) : ∃ A d, u = .slice A x d := by
  unfold lnOf at h
  split at h
  · injection h with h; subst h
    obtain ⟨A, n, d, rfl, hA, _⟩ := hR
    exact ⟨A, d, by rw [hA.1.1]⟩
  · injection h with h; subst h
    exact ⟨_, _, hR⟩
  · cases h
theorem asKs_R : ∀ (n : Nat) {ls : List Lc} {l : List (Nat × Nat)}, ls.length ≤ n → asKs ls = some l → ls.length = l.length * 6 ∧ ∀ us, LcL S w ls us → ∃ ks : List K, LcL S w (kC ks) us ∧ ks.map K.p = l := by
  intro n
  induction n with
  | zero =>
    intro ls l h0 h
    have : ls = [] := List.eq_nil_of_length_eq_zero (by omega)
    subst this
    injection h with h; subst h; exact ⟨rfl, fun us h => ⟨[], h, rfl⟩⟩
  | succ n ih =>
    intro ls l h0 h
    unfold asKs at h
    split at h
    · injection h with h; subst h; exact ⟨rfl, fun us h => ⟨[], h, rfl⟩⟩
    · split at h
      · rename_i x y l' h1 h2 hl
        injection h with h; subst h
        have ih := ih (by simp at h0; omega) hl
        refine ⟨by simp only [List.length_cons]; rw [ih.1]; omega, ?_⟩
        rintro us ⟨u0, _, rfl, r0, u1, _, rfl, r1, u2, _, rfl, r2, u3, _, rfl, r3, u4, _, rfl, r4, u5, vs, rfl, r5, hr⟩
        obtain ⟨A, c, rfl⟩ := lnOf_R h1 r2
        obtain ⟨B, d, rfl⟩ := lnOf_R h2 r5
        obtain ⟨ks, h3, h4⟩ := ih.2 _ hr
        exact ⟨⟨u0, u1, A, x, c, u3, u4, B, y, d⟩ :: ks, ⟨_, _, rfl, rfl, _, _, rfl, rfl, _, _, rfl, rfl, _, _, rfl, rfl, _, _, rfl, rfl, _, _, rfl, rfl, h3⟩, by simp only [List.map_cons, h4]⟩
      · cases h
    · cases h
theorem slK {n : Nat} {ls : List Lc} {l : List (Nat × Nat)} {v : Value} (h : asKs ls = some l) (hR : (Lc.sl 6 n ls).R S w v) : ∃ ks : List K, (Lc.sl 6 ks.length (kC ks)).R S w v ∧ ks.map K.p = l := by
  obtain ⟨h1, A, c, e, hc, h2⟩ := hR
  obtain ⟨h3, h4⟩ := asKs_R (S := S) (w := w) _ (Nat.le_refl _) h
  rcases h2 with rfl | ⟨ad, T, cs, e1, e2, hS, hB, h5, h6⟩
  · injection h with h; subst h
    have : n = 0 := by simp only [List.length_nil] at h1; omega
    subst this
    exact ⟨[], ⟨rfl, A, c, e, hc, .inl rfl⟩, rfl⟩
  · obtain ⟨ks, h7, h8⟩ := h4 _ h6
    have hk : ks.length = l.length := by rw [← h8, List.length_map]
    have hn : ks.length = n := by omega
    have hl : (kC ks).length = ls.length := by rw [kC_len, hk, h3]
    exact ⟨ks, ⟨kC_len ks, A, c, by rw [hn]; exact e, by rw [hn]; exact hc, .inr ⟨ad, T, cs, e1, e2, hS, hB, by rw [hl]; exact h5, by rw [hl]; exact h7⟩⟩, h8⟩
end
end Go.Proofs.YtcpfepjdeikchaaGreatDoor
namespace Go.Proofs.YtcpfepjdeikchaaGreatDoor
open Go.RowKit Nx
set_option linter.unusedVariables false
set_option linter.unusedSimpArgs false
attribute [local irreducible] chk
end Go.Proofs.YtcpfepjdeikchaaGreatDoor
namespace Go.Proofs.YtcpfepjdeikchaaGreatDoor
open Go.RowKit Nx
set_option linter.unusedVariables false
set_option linter.unusedSimpArgs false
attribute [local irreducible] chk
end Go.Proofs.YtcpfepjdeikchaaGreatDoor
namespace Go.Proofs.YtcpfepjdeikchaaGreatDoor
open Go.RowKit Nx
set_option linter.unusedVariables false
set_option linter.unusedSimpArgs false
attribute [local irreducible] chk
end Go.Proofs.YtcpfepjdeikchaaGreatDoor
namespace Go.Proofs.YtcpfepjdeikchaaGreatDoor
open Go.RowKit Nx
set_option linter.unusedVariables false
set_option linter.unusedSimpArgs false
attribute [local irreducible] chk
end Go.Proofs.YtcpfepjdeikchaaGreatDoor
namespace Go.Proofs.YtcpfepjdeikchaaGreatDoor
open Go.RowKit Nx
set_option linter.unusedVariables false
set_option linter.unusedSimpArgs false
end Go.Proofs.YtcpfepjdeikchaaGreatDoor
