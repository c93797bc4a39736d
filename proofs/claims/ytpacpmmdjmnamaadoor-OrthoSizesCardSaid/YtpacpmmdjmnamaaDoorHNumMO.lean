/- fathomlineref1: Scale, Turned, Sign, By. fathomlineref1: By, Plus. fathomlineref1.Plus. -/
import Derived.Test.YtpacpmmdjmnamaaDoorHNumJL
namespace Go.Proofs.YtpacpmmdjmnamaaDoor
open Go.RowKit Nx
theorem times_zero {a b : Q} (ha : Canon a) (hb : Canon b) (h : a.m = 0 ∨ b.m = 0) : times a b = q0 := by
  unfold times
  rcases h with h | h
  · rw [ha.1 h, show q0.z = 0 from rfl, Int.zero_mul]; exact ofz_zero _
  · rw [hb.1 h, show q0.z = 0 from rfl, Int.mul_zero]; exact ofz_zero _
theorem times_odd {s s' : Bool} {M M' : Nat} {e e' : Int} (ha : Canon ⟨s, M, e⟩) (hb : Canon ⟨s', M', e'⟩) (h1 : M ≠ 0) (h2 : M' ≠ 0) : times ⟨s, M, e⟩ ⟨s', M', e'⟩ = ⟨s != s', M * M', e + e'⟩ := by
  rw [← nm_times]
  have ho : M * M' % 2 = 1 := by
    have a1 : M % 2 = 1 := ha.2 h1
    have a2 : M' % 2 = 1 := hb.2 h2
    rw [Nat.mul_mod, a1, a2]
  have h3 : M * M' ≠ 0 := fun h => by rw [h] at ho; omega
  unfold nm
  rw [if_neg h3, ntz_odd ho]
  apply Q.ext' <;> simp
theorem ValV.place {H L : Nat} {w : World} {v : Value} {q : Q} (h : ValV H L w v q) {A : Option Addr} {n c : Nat} (hv : v = .agg #[.bool q.s, .slice A n c, .int .i64 q.e]) : ∀ ad, 0 < n → A = some ad → ad.block < H ∨ L ≤ ad.block := by
  obtain ⟨A', n', c', e, _, h2⟩ := h
  rw [hv] at e
  injection e with e
  have e : [Value.bool q.s, .slice A n c, .int .i64 q.e] = [.bool q.s, .slice A' n' c', .int .i64 q.e] := congrArg Array.toList e
  injection e with _ e
  injection e with e _
  injection e with e1 e2 e3
  subst e1; subst e2; exact h2
end Go.Proofs.YtpacpmmdjmnamaaDoor
