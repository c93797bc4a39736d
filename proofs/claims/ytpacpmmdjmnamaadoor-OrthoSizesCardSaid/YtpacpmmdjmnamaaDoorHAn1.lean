/- Loops of any length in the engine: a state for each turn. -/
import Derived.Test.YtpacpmmdjmnamaaDoorHAi7
import Derived.Test.YtpacpmmdjmnamaaDoorHAl1
namespace Go.Proofs.YtpacpmmdjmnamaaDoor
open Go.RowKit Nx
set_option linter.unusedVariables false
set_option linter.unusedSimpArgs false
theorem loop_ind {ty : TypeId → Option TI} {O : Orac} {N : Nat} {Post : St → Prop} {fg : List Nat} {c : Code} {k : List It} (B : Nat) (ST : Nat → St) (n : Nat) (I : Nat → Prop) (L : Nat)
    (hm : ∀ j, j ≤ n → ((ST j).all fun p => mentA (ST j) p.2) = true)
    (step : ∀ j m, L ≤ m → j ≤ n → I j → (j < n → I (j + 1) → ∀ r st, hdS fg st = ST (j + 1) → lpf (run ty O N Post fg (m + r)) (.code c :: .lp c :: k) (hdS fg st)) → run ty O N Post fg (m + B) (.code c :: .lp c :: k) (ST j))
    {M : Nat} {st : St} (hM : (n + 1) * B + L ≤ M) (hI : I 0) (h0 : hdS fg st = ST 0) : lpf (run ty O N Post fg M) (.code c :: .lp c :: k) (hdS fg st) := by
  have key : ∀ d j, j + d = n → I j → ∀ m, (d + 1) * B + L ≤ m → run ty O N Post fg m (.code c :: .lp c :: k) (ST j) := by
    intro d
    induction d with
    | zero =>
      intro j hj hi m hm'
      have hm' : B + L ≤ m := by simpa using hm'
      obtain ⟨m0, rfl⟩ : ∃ m0, m = m0 + B := ⟨m - B, by omega⟩
      exact step j m0 (by omega) (by omega) hi (fun h => by omega)
    | succ d ih =>
      intro j hj hi m hm'
      have hm' : (d + 1) * B + B + L ≤ m := by rw [← Nat.succ_mul]; exact hm'
      obtain ⟨m0, rfl⟩ : ∃ m0, m = m0 + B := ⟨m - B, by omega⟩
      refine step j m0 (by omega) (by omega) hi fun _ hi' r st' h' => ?_
      rw [h']
      exact ⟨hm (j + 1) (by omega), ih (j + 1) (by omega) hi' (m0 + r) (by omega)⟩
  rw [h0]
  exact ⟨hm 0 (Nat.zero_le _), key n 0 (by omega) hI M hM⟩
theorem wrap_nat {j : Nat} (h : j < 4611686018427387904) : IntKind.i64.wrap ((j : Int) + 1) = ((j + 1 : Nat) : Int) := by rw [IntKind.wrap_i64]; omega
end Go.Proofs.YtpacpmmdjmnamaaDoor
namespace Go.Proofs.YtpacpmmdjmnamaaDoor
open Go.RowKit Nx
set_option linter.unusedVariables false
set_option linter.unusedSimpArgs false
attribute [local irreducible] chk
theorem pC_at : ∀ {l : List X} {j : Nat} {x : X}, l[j]? = some x → ((pC l).drop (j * 3)).take 3 = [.lit (.bool x.s), .lit (.int .i64 x.e), .ws x.xs] := by
  intro l
  induction l with
  | nil => intro j x h; simp at h
  | cons a l ih =>
    intro j x h
    cases j with
    | zero => simp at h; subst h; rfl
    | succ j =>
      rw [pC_cons, show (j + 1) * 3 = j * 3 + 3 by omega]
      exact ih (by simpa using h)
end Go.Proofs.YtpacpmmdjmnamaaDoor
namespace Go.Proofs.YtpacpmmdjmnamaaDoor
open Go.RowKit Nx
set_option linter.unusedVariables false
set_option linter.unusedSimpArgs false
attribute [local irreducible] chk
end Go.Proofs.YtpacpmmdjmnamaaDoor
