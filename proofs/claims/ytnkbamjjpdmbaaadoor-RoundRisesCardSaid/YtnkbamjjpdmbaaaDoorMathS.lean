/- What the laws of round ask of small numbers: quotients, middles. No program. -/
import Derived.Test.YtnkbamjjpdmbaaaDoorMathX
import Derived.Test.YtnkbamjjpdmbaaaDoorSeatX
namespace Go.Proofs.YtnkbamjjpdmbaaaDoor
open Nx

theorem Few.bd8 {q : Q} (h : Few q) : Bd 8 q := ⟨Nat.lt_trans h.2.1 (by decide), by have := h.2.2.1; omega, by have := h.2.2.2; omega⟩
theorem cmpq_range (a b : Q) : cmpq a b = -1 ∨ cmpq a b = 0 ∨ cmpq a b = 1 := by unfold cmpq; split <;> (try split) <;> simp
theorem sgn_range (a : Q) : signq a = -1 ∨ signq a = 0 ∨ signq a = 1 := by unfold signq; split <;> (try split) <;> simp
theorem small_prod {s t : Int} (hs : s = -1 ∨ s = 0 ∨ s = 1) (ht : t = -1 ∨ t = 0 ∨ t = 1) : IntKind.i64.wrap (s * t) = s * t := by
  have h : -1 ≤ s * t ∧ s * t ≤ 1 := by rcases hs with rfl | rfl | rfl <;> rcases ht with rfl | rfl | rfl <;> decide
  generalize s * t = u at *
  rw [IntKind.wrap_i64]; omega
/-- Quotients of small numbers, rounded down and up. -/
theorem divides {a b : Q} {P : Nat} (fa : Few a) (fb : Few b) (hb : b.m ≠ 0) (h1 : 8 ≤ P) (h2 : P ≤ 256) :
    Valid (ratq P false a b) ∧ Valid (ratq P true a b) ∧ Valid (times (ratq P false a b) b) ∧ Valid (times (ratq P true a b) b) ∧
      signq b * cmpq (times (ratq P false a b) b) a ≤ 0 ∧ 0 ≤ signq b * cmpq (times (ratq P true a b) b) a ∧ nbits (ratq P false a b).m ≤ P ∧ nbits (ratq P true a b).m ≤ P := by
  have B : ∀ up, Bd (5 * 8 + 2 * P + (P + 1)) (ratq P up a b) := fun up => bd_rat (by omega) fa.bd8 fb.bd8 hb
  have M : ∀ up, Bd (2 * (5 * 8 + 2 * P + (P + 1)) + 2 * (5 * 8 + 2 * P + (P + 1))) (times (ratq P up a b) b) := fun up => bd_times (B up) (fb.bd8.mono (by omega))
  obtain ⟨c1, c2⟩ := rat_cmp (p := P) (by omega) fa.1 fb.1 hb
  exact ⟨⟨ratq_canon _ _ _ _, (B _).fits (by omega)⟩, ⟨ratq_canon _ _ _ _, (B _).fits (by omega)⟩, ⟨ofz_canon _ _, (M _).fits (by omega)⟩, ⟨ofz_canon _ _, (M _).fits (by omega)⟩, c1, c2, ratq_bits _ _ _ (by omega), ratq_bits _ _ _ (by omega)⟩
/-- A value of few bits, rounded down and up, and the middle of these. -/
theorem betweens {v : Q} {P k : Nat} (hc : Canon v) (hv : Bd k v) (hk : k ≤ 33) (h1 : 8 ≤ P) (h2 : P ≤ 256) :
    Valid v ∧ Valid (rnd P false v) ∧ Valid (rnd P true v) ∧ Valid (plus (rnd P false v) (rnd P true v)) ∧ Valid (halfq (plus (rnd P false v) (rnd P true v))) ∧
      cmpq (rnd P false v) v ≤ 0 ∧ cmpq v (rnd P true v) ≤ 0 ∧ nbits (rnd P false v).m ≤ P ∧ nbits (rnd P true v).m ≤ P ∧ rnd P false (halfq (plus (rnd P false v) (rnd P true v))) = rnd P false v := by
  have B : ∀ up, Bd (2 * k + (P + 1)) (rnd P up v) := fun up => bd_rnd hv
  have S := bd_plus (B false) (B true)
  have H := bd_half (ofz_canon _ _) S
  exact ⟨⟨hc, hv.fits (by omega)⟩, ⟨rnd_canon _ _ _, (B _).fits (by omega)⟩, ⟨rnd_canon _ _ _, (B _).fits (by omega)⟩, ⟨ofz_canon _ _, S.fits (by omega)⟩, ⟨nm_canon _ _ _, H.fits (by omega)⟩, rnd_cmp_down _ _, cmp_up_le _ _, nbits_rnd _ _ (by omega), nbits_rnd _ _ (by omega), rnd_mid P (by omega) v⟩
end Go.Proofs.YtnkbamjjpdmbaaaDoor
