/- fathomlineref1: Round. fathomlineref1: Ratio. -/
import Derived.Test.YthhaelnildaemaaGreatDoorPRndAB
import Derived.Test.YthhaelnildaemaaGreatDoorPRefZ
import Derived.Test.YthhaelnildaemaaGreatDoorPRndCD
namespace Go.Proofs.YthhaelnildaemaaGreatDoor
open Go.RowKit Nx
def RndPost (w : World) (A : Option Addr) (n : Nat) (q : Q) (e : Ending) (w' : World) : Prop :=
  ∃ (A' : Option Addr) (n' c' : Nat), e = .returned (.agg #[.bool q.s, .slice A' n' c', .int .i64 q.e]) ∧ Dg w' A' n' c' q.m ∧ (∀ ad, 0 < n' → A' = some ad → (A' = A ∧ n' = n) ∨ w.heap.size ≤ ad.block) ∧ Below w.heap.size w w'
theorem RndPost.of {w w' : World} {A A' : Option Addr} {n n' c' : Nat} {q : Q} (h : ValV 0 w.heap.size w' (.agg #[.bool q.s, .slice A' n' c', .int .i64 q.e]) q) (hb : Below w.heap.size w w') : RndPost w A n q (.returned (.agg #[.bool q.s, .slice A' n' c', .int .i64 q.e])) w' := by
  obtain ⟨A2, n2, c2, he, h1, h2⟩ := h
  simp at he
  obtain ⟨rfl, rfl, rfl⟩ := he
  exact ⟨_, _, _, rfl, h1, fun ad h0 hA => .inr (by have := h2 ad h0 hA; omega), hb⟩
end Go.Proofs.YthhaelnildaemaaGreatDoor
namespace Go.Proofs.YthhaelnildaemaaGreatDoor
open Go.RowKit Nx
theorem nm_e_bd {s : Bool} {N k : Nat} {E : Int} {b : Int} (hN : N < B64 ^ k) (h1 : -b ≤ E) (h2 : E ≤ b) (hb : 0 ≤ b) : -b ≤ (nm s N E).e ∧ (nm s N E).e ≤ b + 64 * k := by
  unfold nm
  split
  · show -b ≤ (0 : Int) ∧ (0 : Int) ≤ _; omega
  · rename_i h0
    have := ntz_lt h0 (show N < 2 ^ (64 * k) by rw [← pow64]; exact hN)
    show -b ≤ E + ntz N ∧ E + ntz N ≤ _; omega
end Go.Proofs.YthhaelnildaemaaGreatDoor
